/-
 Texts of this proof, part 28.
-/
import Derived.Test.YtmehkneofinmiaaGreatDoorP24
set_option maxRecDepth 100000
set_option maxHeartbeats 4000000
namespace Go.Proofs.YtmehkneofinmiaaGreatDoor
open Go.RowKit
theorem changeKey_no (g o p s:Nat)(k t n told:Nat)(key body:List UInt8)(w:World)
 (h:∀ y,Below w.heap.size w y->Calls Tryz.prog 143 #[.pointer (some ⟨g,o,none⟩),.pointer (some ⟨p,0,none⟩),recA k t key n body,bookC s] y fun e w'=>e=.returned (.tuple #[.int .i64 told,.bool false])/\Below y.heap.size y w') :
 Calls Tryz.prog 92 #[.pointer (some ⟨g,o,none⟩),.pointer (some ⟨p,0,none⟩),recA k t key n body,bookC s] w fun e w'=>e=.returned (.agg #[.int .i64 told,.slice none 0 0,.string ⟨#[]⟩])/\Below w.heap.size w w':=by
 have HC:Hid _:=h
 clear h
 go_enter Tryz.func92,Tryz.ntmps92
 go_wp2_with fail
 obtain⟨X,hX⟩:∃ X,X=((w.alloc (.cells #[.int .u8 k,.int .i64 t,.string ⟨key.toArray⟩,.int .i64 n,.string ⟨body.toArray⟩] 181)).alloc (.cells #[.int .i64 0,.slice none 0 0,.string ⟨#[]⟩] 100)):=⟨_,rfl⟩
 rw[<- hX]
 have hal:Below w.heap.size w X:=by rw[hX];exact ((Below.refl _ _).alloc (Nat.le_refl _) _).alloc (by simp) _
 have hZ:X.heap[w.heap.size+1]?=some (.cells #[.int .i64 0,.slice none 0 0,.string ⟨#[]⟩] 100 (0,0)):=by
  rw[hX]
  have:=heap_alloc_new (w.alloc (.cells #[.int .u8 k,.int .i64 t,.string ⟨key.toArray⟩,.int .i64 n,.string ⟨body.toArray⟩] 181)) (.cells #[.int .i64 0,.slice none 0 0,.string ⟨#[]⟩] 100)
  simpa using this
 have hXl:w.heap.size+1<X.heap.size:=(Array.getElem?_eq_some_iff.1 hZ).1
 clear hX
 refine (HC.out X hal).mono ?_
 rintro e w1 ⟨rfl,hb1⟩
 have HB1:Hid (Below w.heap.size w w1):=hal.trans (hb1.mono hal.size)
 have HZ1:Hid _:=(hb1.block _ hXl).trans hZ
 have hl1:w.heap.size+1<w1.heap.size:=Nat.lt_of_lt_of_le hXl hb1.size
 clear hb1 hZ hal
 go_wp2_with fail
 refine (refuse_any told _).mono ?_
 rintro e w2 ⟨rfl,hb2⟩
 have hZ2:=(hb2.block _ hl1).trans HZ1.out
 have z0:w2.cell? ⟨w.heap.size+1,0,none⟩=some (.int .i64 0):=by simp[World.cell?,hZ2]
 have z1:w2.cell? ⟨w.heap.size+1,1,none⟩=some (.slice none 0 0):=by simp[World.cell?,hZ2]
 have z2:w2.cell? ⟨w.heap.size+1,2,none⟩=some (.string ⟨#[]⟩):=by simp[World.cell?,hZ2]
 have zf0:w2.frozen? ⟨w.heap.size+1,0,none⟩=false:=by simp[World.frozen?,hZ2]
 have zf1:w2.frozen? ⟨w.heap.size+1,1,none⟩=false:=by simp[World.frozen?,hZ2]
 have zf2:w2.frozen? ⟨w.heap.size+1,2,none⟩=false:=by simp[World.frozen?,hZ2]
 have HZ2:Hid _:=hZ2
 have HB2:Hid (Below w.heap.size w w2):=HB1.out.trans (hb2.mono HB1.out.size)
 clear hb2 hZ2
 go_wp2
 have hs:=heap_set (i:=2) (v:=.string ⟨#[]⟩) (heap_set (i:=1) (v:=.slice none 0 0) (heap_set (i:=0) (v:=.int .i64 told) HZ2.out))
 exact bodyPost_ret (v:=.agg #[.int .i64 told,.slice none 0 0,.string ⟨#[]⟩]) (results_row1 Tryz.results92 _ _ (w.heap.size+1) 100 _ (0,0) _ rfl hs Tryz.underlying100 rfl hiAns) rfl ⟨rfl,((HB2.out.setCell (p:=⟨w.heap.size+1,0,none⟩) (Nat.le_succ _) _).setCell (p:=⟨w.heap.size+1,1,none⟩) (Nat.le_succ _) _).setCell (p:=⟨w.heap.size+1,2,none⟩) (Nat.le_succ _) _⟩
def Loc (n:Nat)(a:World)(k:Nat):Prop:=n<=k/\∃ c f,a.heap[k]?=some (.cells c 100 f)
theorem changeKey_put (g o p s:Nat)(t n told:Nat)(key body:List UInt8)(w:World)(R:World->Prop)(hR:∀ a b,R a->Off (Loc w.heap.size a) a b->R b)(hRT:∀ a,R a->Tz a/\Tab a)(hbl:body.length<1000000)(hnl:n<1000000000000000)
 (h:∀ y,Below w.heap.size w y->Calls Tryz.prog 143 #[.pointer (some ⟨g,o,none⟩),.pointer (some ⟨p,0,none⟩),recA 1 t key n body,bookC s] y fun e w'=>e=.returned (.tuple #[.int .i64 told,.bool true])/\R w'/\(∀ k,w.heap.size<=k->k<y.heap.size->w'.heap[k]?=y.heap[k]?)/\y.heap.size<=w'.heap.size) :
 Calls Tryz.prog 92 #[.pointer (some ⟨g,o,none⟩),.pointer (some ⟨p,0,none⟩),recA 1 t key n body,bookC s] w fun e w'=>∃ gs,e=.returned (.agg #[.int .i64 told,.slice (some ⟨gs,0,none⟩) 2 2,.string ⟨#[]⟩])/\R w'/\w'.ownsRow 0 151 2 (.slice (some ⟨gs,0,none⟩) 2 2) 2 (fldRow [⟨[69,84,97,103],qTag body⟩,⟨[86,101,114,115,105,111,110],Lib.decDigits n⟩]):=by
 obtain⟨tg,htg⟩:∃ x,qTag body=x:=⟨_,rfl⟩
 obtain⟨nn,hnn⟩:∃ x,Lib.decDigits n=x:=⟨_,rfl⟩
 have HC1:Hid (∀ y,Tz y->Calls Tryz.prog 145 #[.string ⟨body.toArray⟩] y fun e w'=>e=.returned (.agg #[.string ⟨#[69,84,97,103]⟩,.string ⟨tg.toArray⟩])/\Below y.heap.size y w'):=by
  rw[<- htg];exact fun y hy=>tagField_any body y hbl hy
 have HC3:Hid (∀ y,Tab y->Calls Tryz.prog 146 #[.int .i64 n] y fun e w'=>e=.returned (.agg #[.string ⟨#[86,101,114,115,105,111,110]⟩,.string ⟨nn.toArray⟩])/\Below y.heap.size y w'):=by
  rw[<- hnn];exact fun y hy=>numberField_any n y hnl hy
 have HF:Hid (fldRow [⟨[69,84,97,103],qTag body⟩,⟨[86,101,114,115,105,111,110],Lib.decDigits n⟩]=[.string ⟨#[69,84,97,103]⟩,.string ⟨tg.toArray⟩,.string ⟨#[86,101,114,115,105,111,110]⟩,.string ⟨nn.toArray⟩]):=by
  show _=_
  rw[<- htg,<- hnn]
  rfl
 clear htg hnn
 have HC:Hid _:=h
 clear h
 go_enter Tryz.func92,Tryz.ntmps92
 go_wp2_with fail
 obtain⟨X,hX⟩:∃ X,X=((w.alloc (.cells #[.int .u8 1,.int .i64 t,.string ⟨key.toArray⟩,.int .i64 n,.string ⟨body.toArray⟩] 181)).alloc (.cells #[.int .i64 0,.slice none 0 0,.string ⟨#[]⟩] 100)):=⟨_,rfl⟩
 rw[<- hX]
 have hal:Below w.heap.size w X:=by rw[hX];exact ((Below.refl _ _).alloc (Nat.le_refl _) _).alloc (by simp) _
 have hQ:X.heap[w.heap.size]?=some (.cells #[.int .u8 1,.int .i64 t,.string ⟨key.toArray⟩,.int .i64 n,.string ⟨body.toArray⟩] 181 (0,0)):=by
  rw[hX]
  exact (heap_alloc_old _ _ (by simp)).trans (heap_alloc_new _ _)
 have hZ:X.heap[w.heap.size+1]?=some (.cells #[.int .i64 0,.slice none 0 0,.string ⟨#[]⟩] 100 (0,0)):=by
  rw[hX]
  have:=heap_alloc_new (w.alloc (.cells #[.int .u8 1,.int .i64 t,.string ⟨key.toArray⟩,.int .i64 n,.string ⟨body.toArray⟩] 181)) (.cells #[.int .i64 0,.slice none 0 0,.string ⟨#[]⟩] 100)
  simpa using this
 have hXl:w.heap.size+1<X.heap.size:=(Array.getElem?_eq_some_iff.1 hZ).1
 clear hX
 refine (HC.out X hal).mono ?_
 rintro e w1 ⟨rfl,hR1,hk1,hs1⟩
 have hQ1:w1.heap[w.heap.size]?=_:=(hk1 _ (Nat.le_refl _) (by omega)).trans hQ
 have hZ1:w1.heap[w.heap.size+1]?=_:=(hk1 _ (Nat.le_succ _) hXl).trans hZ
 have r0:w1.cell? ⟨w.heap.size,0,none⟩=some (.int .u8 1):=by simp[World.cell?,hQ1]
 have r3:w1.cell? ⟨w.heap.size,3,none⟩=some (.int .i64 n):=by simp[World.cell?,hQ1]
 have r4:w1.cell? ⟨w.heap.size,4,none⟩=some (.string ⟨body.toArray⟩):=by simp[World.cell?,hQ1]
 have HQ1:Hid _:=hQ1
 have HZ1:Hid _:=hZ1
 have HR1:Hid _:=hR1
 clear hQ1 hZ1 hR1 hk1 hQ hZ hal
 go_wp2_with fail
 have hl0:w.heap.size<w1.heap.size:=by omega
 have hl1:w.heap.size+1<w1.heap.size:=by omega
 have HS:Hid (∀ y,Below w1.heap.size w1 y->(y.cell? ⟨w.heap.size,3,none⟩=some (.int .i64 n)/\y.cell? ⟨w.heap.size,4,none⟩=some (.string ⟨body.toArray⟩))/\Tz y/\Tab y):=by
  intro y hy
  exact⟨⟨(hy.cell (p:=⟨w.heap.size,3,none⟩) hl0).trans r3,(hy.cell (p:=⟨w.heap.size,4,none⟩) hl0).trans r4⟩,(hRT _ HR1.out).1.below hy,(hRT _ HR1.out).2.below hy⟩
 have g0:Below w1.heap.size w1 w1.drew:=(Below.refl _ _).drew
 refine wp_region_held_drew (S:=(fun y=>y.cell? ⟨w.heap.size,3,none⟩=some (.int .i64 n)/\y.cell? ⟨w.heap.size,4,none⟩=some (.string ⟨body.toArray⟩))) (by kernel_rfl) ⟨r3,r4⟩ (fun hHeld=>?_)
 refine tkH 0 rfl (by kernel_rfl) (fun _ _ _ h=>h) (Or.inl ⟨by rfl,fun y hSw=>by go_simp;try with_reducible rfl⟩) hHeld ?_
 try simp only[Act.put]
 refine tkH 1 rfl (by kernel_rfl) (fun _ _ _ h=>h) (Or.inl ⟨by rfl,fun y hSw=>by go_simp;try with_reducible rfl⟩) hHeld ?_
 try simp only[Act.put]
 refine tkH 2 rfl (by kernel_rfl) (fun _ _ _ h=>h) (Or.inl ⟨by rfl,fun y hSw=>by go_simp;try with_reducible rfl⟩) hHeld ?_
 try simp only[Act.put]
 refine tkH 4 rfl (by kernel_rfl) (fun _ _ _ h=>h) (Or.inl ⟨by rfl,fun y hSw=>by go_simp;try with_reducible rfl⟩) hHeld ?_
 try simp only[Act.put]
 refine tkH 5 rfl (by kernel_rfl) (fun _ _ _ h=>h) (Or.inl ⟨by rfl,fun y hSw=>by go_simp;try with_reducible rfl⟩) hHeld ?_
 try simp only[Act.put]
 refine wpAnyH_ready (rs:=[3]) (by kernel_rfl) (by simp) ?_
 refine AllReadyH.cons rfl (fun K hK=>?_) AllReadyH.nil
 go_simp
 refine (HC1.out w1.drew (HS.out _ g0).2.1).mono ?_
 rintro e y1 ⟨rfl,h1⟩
 have g1:Below w1.heap.size w1 y1:=g0.trans (h1.mono g0.size)
 clear h1
 try go_wp2_with fail
 refine hK.out _ _ (HS.out _ g1).1 (fun hHeld=>?_)
 clear hK K
 try simp only[Act.put]
 refine wpAnyH_ready (rs:=[6]) (by kernel_rfl) (by simp) ?_
 refine AllReadyH.cons rfl (fun K hK=>?_) AllReadyH.nil
 go_simp
 refine (HC3.out y1 (HS.out _ g1).2.2).mono ?_
 rintro e y2 ⟨rfl,h2⟩
 have g2:Below w1.heap.size w1 y2:=g1.trans (h2.mono g1.size)
 clear h2
 try go_wp2_with fail
 refine hK.out _ _ (HS.out _ g2).1 (fun hHeld=>?_)
 clear hK K
 try simp only[Act.put]
 refine wpAnyH_ready (rs:=[7]) (by kernel_rfl) (by simp) ?_
 refine AllReadyH.cons rfl (fun K hK=>?_) AllReadyH.nil
 go_simp
 obtain⟨s3,hs3⟩:∃ x,x=y2.alloc (.cells #[.string ⟨#[69,84,97,103]⟩,.string ⟨tg.toArray⟩,.string ⟨#[86,101,114,115,105,111,110]⟩,.string ⟨nn.toArray⟩] 151):=⟨_,rfl⟩
 rw[<- hs3]
 obtain⟨q3,hq3⟩:∃ x,x=y2.heap.size:=⟨_,rfl⟩
 rw[<- hq3]
 have g3:Below w1.heap.size w1 s3:=by rw[hs3];exact g2.alloc g2.size _
 have k3:s3.heap[q3]?=some (.cells #[.string ⟨#[69,84,97,103]⟩,.string ⟨tg.toArray⟩,.string ⟨#[86,101,114,115,105,111,110]⟩,.string ⟨nn.toArray⟩] 151 (0,0)):=by rw[hs3,hq3];exact heap_alloc_new _ _
 clear hs3 hq3
 refine hK.out _ _ (HS.out _ g3).1 (fun hHeld=>?_)
 clear hK K
 try simp only[Act.put]
 refine wpAnyH_ready (rs:=[8]) (by kernel_rfl) (by simp) ?_
 refine AllReadyH.cons rfl (fun K hK=>?_) AllReadyH.nil
 go_simp
 refine (answer_any told (some ⟨q3,0,none⟩) 2 2 s3).mono ?_
 rintro e y4 ⟨rfl,h4⟩
 have g4:Below w1.heap.size w1 y4:=g3.trans (h4.mono g3.size)
 have k4:y4.heap[q3]?=some (.cells #[.string ⟨#[69,84,97,103]⟩,.string ⟨tg.toArray⟩,.string ⟨#[86,101,114,115,105,111,110]⟩,.string ⟨nn.toArray⟩] 151 (0,0)):=(h4.block _ (Array.getElem?_eq_some_iff.1 k3).1).trans k3
 clear h4
 try go_wp2_with fail
 refine hK.out _ _ (HS.out _ g4).1 (fun hHeld=>?_)
 clear hK K
 try simp only[Act.put]
 refine wpAnyH_ready (rs:=[9]) (by kernel_rfl) (by simp) ?_
 refine AllReadyH.cons rfl (fun K hK=>?_) AllReadyH.nil
 have hZ4:=(g4.block _ hl1).trans HZ1.out
 have c0:y4.cell? ⟨w.heap.size+1,0,none⟩=some (.int .i64 0):=by simp[World.cell?,hZ4]
 have c1:y4.cell? ⟨w.heap.size+1,1,none⟩=some (.slice none 0 0):=by simp[World.cell?,hZ4]
 have c2:y4.cell? ⟨w.heap.size+1,2,none⟩=some (.string ⟨#[]⟩):=by simp[World.cell?,hZ4]
 have f0:y4.frozen? ⟨w.heap.size+1,0,none⟩=false:=by simp[World.frozen?,hZ4]
 have f1:y4.frozen? ⟨w.heap.size+1,1,none⟩=false:=by simp[World.frozen?,hZ4]
 have f2:y4.frozen? ⟨w.heap.size+1,2,none⟩=false:=by simp[World.frozen?,hZ4]
 have hne:w.heap.size≠w.heap.size+1:=by omega
 have HZ4:Hid _:=hZ4
 clear hZ4
 go_simp
 refine hK.out _ _ ⟨?_,?_⟩ (fun hHeld=>?_)
 ·rw[cell_set_far hne,cell_set_far hne,cell_set_far hne];exact (HS.out _ g4).1.1
 ·rw[cell_set_far hne,cell_set_far hne,cell_set_far hne];exact (HS.out _ g4).1.2
 clear hK K
 try simp only[Act.put]
 refine wpAnyH_done (by kernel_rfl) ?_ _
 go_wp2
 have hnq:q3≠w.heap.size+1:=ne_of_types k4 HZ4.out (by decide)
 have hs:=heap_set (i:=2) (v:=.string ⟨#[]⟩) (heap_set (i:=1) (v:=.slice (some ⟨q3,0,none⟩) 2 2) (heap_set (i:=0) (v:=.int .i64 told) HZ4.out))
 refine bodyPost_ret (v:=.agg #[.int .i64 told,.slice (some ⟨q3,0,none⟩) 2 2,.string ⟨#[]⟩]) (results_row1 Tryz.results92 _ _ (w.heap.size+1) 100 _ (0,0) _ rfl hs Tryz.underlying100 rfl hiAns) rfl ⟨q3,rfl,?_,?_⟩
 ·have hR4:R y4:=hR _ _ HR1.out (Off.of_below g4)
  exact hR _ _ hR4 ((((Off.refl _ _).set _ 0 _ (Or.inl ⟨Nat.le_succ _,_,_,HZ4.out⟩)).set _ 1 _ (Or.inl ⟨Nat.le_succ _,_,_,HZ4.out⟩)).set _ 2 _ (Or.inl ⟨Nat.le_succ _,_,_,HZ4.out⟩))
 ·refine flds_own (l:=[⟨[69,84,97,103],qTag body⟩,⟨[86,101,114,115,105,111,110],Lib.decDigits n⟩]) (cs:=#[.string ⟨#[69,84,97,103]⟩,.string ⟨tg.toArray⟩,.string ⟨#[86,101,114,115,105,111,110]⟩,.string ⟨nn.toArray⟩]) ?_ (by rw[HF.out]) rfl (by simp[maxLen])
  exact (heap_set_far hnq).trans ((heap_set_far hnq).trans ((heap_set_far hnq).trans k4))
theorem changeKey_other (g o p s:Nat)(k t n told:Nat)(key body:List UInt8)(w:World)(R:World->Prop)(hR:∀ a b,R a->Off (Loc w.heap.size a) a b->R b)(hRT:∀ a,R a->Tz a/\Tab a)(hk:((k:Int)==1)=false)(hnl:n<1000000000000000)
 (h:∀ y,Below w.heap.size w y->Calls Tryz.prog 143 #[.pointer (some ⟨g,o,none⟩),.pointer (some ⟨p,0,none⟩),recA k t key n body,bookC s] y fun e w'=>e=.returned (.tuple #[.int .i64 told,.bool true])/\R w'/\(∀ k,w.heap.size<=k->k<y.heap.size->w'.heap[k]?=y.heap[k]?)/\y.heap.size<=w'.heap.size) :
 Calls Tryz.prog 92 #[.pointer (some ⟨g,o,none⟩),.pointer (some ⟨p,0,none⟩),recA k t key n body,bookC s] w fun e w'=>∃ gs,e=.returned (.agg #[.int .i64 told,.slice (some ⟨gs,0,none⟩) 1 1,.string ⟨#[]⟩])/\R w'/\w'.ownsRow 0 151 2 (.slice (some ⟨gs,0,none⟩) 1 1) 1 (fldRow [⟨[86,101,114,115,105,111,110],Lib.decDigits n⟩]):=by
 obtain⟨nn,hnn⟩:∃ x,Lib.decDigits n=x:=⟨_,rfl⟩
 have HC3:Hid (∀ y,Tab y->Calls Tryz.prog 146 #[.int .i64 n] y fun e w'=>e=.returned (.agg #[.string ⟨#[86,101,114,115,105,111,110]⟩,.string ⟨nn.toArray⟩])/\Below y.heap.size y w'):=by
  rw[<- hnn];exact fun y hy=>numberField_any n y hnl hy
 have HF:Hid (fldRow [⟨[86,101,114,115,105,111,110],Lib.decDigits n⟩]=[.string ⟨#[86,101,114,115,105,111,110]⟩,.string ⟨nn.toArray⟩]):=by
  show _=_
  rw[<- hnn]
  rfl
 clear hnn
 have HC:Hid _:=h
 clear h
 go_enter Tryz.func92,Tryz.ntmps92
 go_wp2_with fail
 obtain⟨X,hX⟩:∃ X,X=((w.alloc (.cells #[.int .u8 k,.int .i64 t,.string ⟨key.toArray⟩,.int .i64 n,.string ⟨body.toArray⟩] 181)).alloc (.cells #[.int .i64 0,.slice none 0 0,.string ⟨#[]⟩] 100)):=⟨_,rfl⟩
 rw[<- hX]
 have hal:Below w.heap.size w X:=by rw[hX];exact ((Below.refl _ _).alloc (Nat.le_refl _) _).alloc (by simp) _
 have hQ:X.heap[w.heap.size]?=some (.cells #[.int .u8 k,.int .i64 t,.string ⟨key.toArray⟩,.int .i64 n,.string ⟨body.toArray⟩] 181 (0,0)):=by
  rw[hX]
  exact (heap_alloc_old _ _ (by simp)).trans (heap_alloc_new _ _)
 have hZ:X.heap[w.heap.size+1]?=some (.cells #[.int .i64 0,.slice none 0 0,.string ⟨#[]⟩] 100 (0,0)):=by
  rw[hX]
  have:=heap_alloc_new (w.alloc (.cells #[.int .u8 k,.int .i64 t,.string ⟨key.toArray⟩,.int .i64 n,.string ⟨body.toArray⟩] 181)) (.cells #[.int .i64 0,.slice none 0 0,.string ⟨#[]⟩] 100)
  simpa using this
 have hXl:w.heap.size+1<X.heap.size:=(Array.getElem?_eq_some_iff.1 hZ).1
 clear hX
 refine (HC.out X hal).mono ?_
 rintro e w1 ⟨rfl,hR1,hk1,hs1⟩
 have hQ1:w1.heap[w.heap.size]?=_:=(hk1 _ (Nat.le_refl _) (by omega)).trans hQ
 have hZ1:w1.heap[w.heap.size+1]?=_:=(hk1 _ (Nat.le_succ _) hXl).trans hZ
 have r0:w1.cell? ⟨w.heap.size,0,none⟩=some (.int .u8 k):=by simp[World.cell?,hQ1]
 have r3:w1.cell? ⟨w.heap.size,3,none⟩=some (.int .i64 n):=by simp[World.cell?,hQ1]
 have r4:w1.cell? ⟨w.heap.size,4,none⟩=some (.string ⟨body.toArray⟩):=by simp[World.cell?,hQ1]
 have HQ1:Hid _:=hQ1
 have HZ1:Hid _:=hZ1
 have HR1:Hid _:=hR1
 clear hQ1 hZ1 hR1 hk1 hQ hZ hal
 go_wp2_with fail
 have hl0:w.heap.size<w1.heap.size:=by omega
 have hl1:w.heap.size+1<w1.heap.size:=by omega
 refine (HC3.out w1 (hRT _ HR1.out).2).mono ?_
 rintro e y2 ⟨rfl,g2⟩
 have HG2:Hid _:=g2
 have hsz:=g2.size
 clear g2
 go_wp2_with fail
 have g3:Below w1.heap.size w1 (y2.alloc (.cells #[.string ⟨#[86,101,114,115,105,111,110]⟩,.string ⟨nn.toArray⟩] 151)):=HG2.out.alloc hsz _
 refine (answer_any told (some ⟨y2.heap.size,0,none⟩) 1 1 _).mono ?_
 rintro e y4 ⟨rfl,h4⟩
 have g4:Below w1.heap.size w1 y4:=g3.trans (h4.mono g3.size)
 have k4:y4.heap[y2.heap.size]?=some (.cells #[.string ⟨#[86,101,114,115,105,111,110]⟩,.string ⟨nn.toArray⟩] 151 (0,0)):=(h4.block _ (by simp)).trans (heap_alloc_new _ _)
 have hZ4:=(g4.block _ hl1).trans HZ1.out
 have c0:y4.cell? ⟨w.heap.size+1,0,none⟩=some (.int .i64 0):=by simp[World.cell?,hZ4]
 have c1:y4.cell? ⟨w.heap.size+1,1,none⟩=some (.slice none 0 0):=by simp[World.cell?,hZ4]
 have c2:y4.cell? ⟨w.heap.size+1,2,none⟩=some (.string ⟨#[]⟩):=by simp[World.cell?,hZ4]
 have f0:y4.frozen? ⟨w.heap.size+1,0,none⟩=false:=by simp[World.frozen?,hZ4]
 have f1:y4.frozen? ⟨w.heap.size+1,1,none⟩=false:=by simp[World.frozen?,hZ4]
 have f2:y4.frozen? ⟨w.heap.size+1,2,none⟩=false:=by simp[World.frozen?,hZ4]
 have HZ4:Hid _:=hZ4
 have HK4:Hid _:=k4
 have HG4:Hid _:=g4
 clear hZ4 h4 g3 k4 g4
 go_wp2
 have hnq:y2.heap.size≠w.heap.size+1:=ne_of_types HK4.out HZ4.out (by decide)
 have hs:=heap_set (i:=2) (v:=.string ⟨#[]⟩) (heap_set (i:=1) (v:=.slice (some ⟨y2.heap.size,0,none⟩) 1 1) (heap_set (i:=0) (v:=.int .i64 told) HZ4.out))
 refine bodyPost_ret (v:=.agg #[.int .i64 told,.slice (some ⟨y2.heap.size,0,none⟩) 1 1,.string ⟨#[]⟩]) (results_row1 Tryz.results92 _ _ (w.heap.size+1) 100 _ (0,0) _ rfl hs Tryz.underlying100 rfl hiAns) rfl ⟨y2.heap.size,rfl,?_,?_⟩
 ·have hR4:R y4:=hR _ _ HR1.out (Off.of_below HG4.out)
  exact hR _ _ hR4 ((((Off.refl _ _).set _ 0 _ (Or.inl ⟨Nat.le_succ _,_,_,HZ4.out⟩)).set _ 1 _ (Or.inl ⟨Nat.le_succ _,_,_,HZ4.out⟩)).set _ 2 _ (Or.inl ⟨Nat.le_succ _,_,_,HZ4.out⟩))
 ·refine flds_own (l:=[⟨[86,101,114,115,105,111,110],Lib.decDigits n⟩]) (cs:=#[.string ⟨#[86,101,114,115,105,111,110]⟩,.string ⟨nn.toArray⟩]) ?_ (by rw[HF.out]) rfl (by simp[maxLen])
  exact (heap_set_far hnq).trans ((heap_set_far hnq).trans ((heap_set_far hnq).trans HK4.out))
end Go.Proofs.YtmehkneofinmiaaGreatDoor

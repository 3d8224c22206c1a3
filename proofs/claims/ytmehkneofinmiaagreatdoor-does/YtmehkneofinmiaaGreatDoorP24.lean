/-
 Texts of this proof, part 24.
-/
import Derived.Test.YtmehkneofinmiaaGreatDoorP23
import Derived.Test.YtmehkneofinmiaaGreatDoorP22
set_option maxRecDepth 100000
set_option maxHeartbeats 8000000
namespace Go.Proofs.YtmehkneofinmiaaGreatDoor
open Go.RowKit
noncomputable def stampL (n:Nat):List UInt8:=(Classical.epsilon (Cal.IsStamp (n:Int))).take 40
theorem heap_set_far {w:World}{b i c:Nat}{v:Value}(h:c≠b):(w.setCell ⟨b,i,none⟩ v).heap[c]?=w.heap[c]?:=by
 simp[World.setCell,Array.getElem?_modify,Ne.symm h]
theorem flds_own {w:World}{gs:Nat}{cs:Array Value}{l:List Fld}(h:w.heap[gs]?=some (.cells cs 151 (0,0)))(hc:cs.toList=fldRow l)(hl:cs.size=l.length*2)(hm:l.length<=maxLen):w.ownsRow 0 151 2 (.slice (some ⟨gs,0,none⟩) l.length l.length) l.length (fldRow l):=by
 refine⟨by rw[<- hc];simpa using hl,Or.inr ⟨gs,l.length,cs,rfl,by omega,h,Nat.le_refl _,hm,hl,?_⟩⟩
 rw[<- hl,List.take_of_length_le (by simp)]
 exact hc
def verFlds (v:Ver)(st:List UInt8):List Fld:=[⟨[69,84,97,103],qTag v.body⟩,⟨[76,97,115,116,45,77,111,100,105,102,105,101,100],st⟩,⟨[86,101,114,115,105,111,110],Lib.decDigits v.num⟩]
theorem tellVersion_any (v:Ver)(m:Nat)(st:List UInt8)(w:World)(hb:v.body.length<1000000)(hn:v.num<1000000000000000)(hT:Tz w)(hTb:Tab w)
 (hst:∀ y,Tab y->Calls Tryz.prog 18 #[.int .i64 v.time] y fun e w'=>e=.returned (.string ⟨st.toArray⟩)/\Below y.heap.size y w') :
 Calls Tryz.prog 94 #[verAgg v,.int .i64 m] w fun e w'=>∃ gs,e=.returned (.agg #[.int .i64 200,.slice (some ⟨gs,0,none⟩) 3 3,.string ⟨(if m=0 then v.body else []).toArray⟩]) /\
  w'.ownsRow 0 151 2 (.slice (some ⟨gs,0,none⟩) 3 3) 3 (fldRow (verFlds v st))/\Below w.heap.size w w':=by
 obtain⟨tg,htg⟩:∃ x,qTag v.body=x:=⟨_,rfl⟩
 obtain⟨nn,hnn⟩:∃ x,Lib.decDigits v.num=x:=⟨_,rfl⟩
 have HC1:Hid (∀ y,Tz y->Calls Tryz.prog 145 #[.string ⟨v.body.toArray⟩] y fun e w'=>e=.returned (.agg #[.string ⟨#[69,84,97,103]⟩,.string ⟨tg.toArray⟩])/\Below y.heap.size y w'):=by
  rw[<- htg];exact fun y hy=>tagField_any v.body y hb hy
 have HC2:Hid _:=hst
 have HC3:Hid (∀ y,Tab y->Calls Tryz.prog 146 #[.int .i64 v.num] y fun e w'=>e=.returned (.agg #[.string ⟨#[86,101,114,115,105,111,110]⟩,.string ⟨nn.toArray⟩])/\Below y.heap.size y w'):=by
  rw[<- hnn];exact fun y hy=>numberField_any v.num y hn hy
 have HR:Hid (fldRow (verFlds v st)=[.string ⟨#[69,84,97,103]⟩,.string ⟨tg.toArray⟩,.string ⟨#[76,97,115,116,45,77,111,100,105,102,105,101,100]⟩,.string ⟨st.toArray⟩,.string ⟨#[86,101,114,115,105,111,110]⟩,.string ⟨nn.toArray⟩]):=by
  show _=_
  rw[<- htg,<- hnn]
  rfl
 clear htg hnn hst
 unfold verAgg
 go_enter Tryz.func94,Tryz.ntmps94
 go_wp2_with fail
 obtain⟨X,hX⟩:∃ X,X=((w.alloc (.cells #[.int .i64 v.num,.int .i64 v.time,.bool v.mark,.string ⟨v.body.toArray⟩] 174)).alloc (.cells #[.int .i64 0,.slice none 0 0,.string ⟨#[]⟩] 100)):=⟨_,rfl⟩
 rw[<- hX]
 have hal:Below w.heap.size w X:=by rw[hX];exact ((Below.refl _ _).alloc (Nat.le_refl _) _).alloc (by simp) _
 have hV:X.heap[w.heap.size]?=some (.cells #[.int .i64 v.num,.int .i64 v.time,.bool v.mark,.string ⟨v.body.toArray⟩] 174 (0,0)):=by
  rw[hX]
  exact (heap_alloc_old _ _ (by simp)).trans (heap_alloc_new _ _)
 have hZ:X.heap[w.heap.size+1]?=some (.cells #[.int .i64 0,.slice none 0 0,.string ⟨#[]⟩] 100 (0,0)):=by
  rw[hX]
  have:=heap_alloc_new (w.alloc (.cells #[.int .i64 v.num,.int .i64 v.time,.bool v.mark,.string ⟨v.body.toArray⟩] 174)) (.cells #[.int .i64 0,.slice none 0 0,.string ⟨#[]⟩] 100)
  simpa using this
 have hXl:w.heap.size+1<X.heap.size:=(Array.getElem?_eq_some_iff.1 hZ).1
 clear hX
 have x0:X.cell? ⟨w.heap.size,0,none⟩=some (.int .i64 v.num):=by simp[World.cell?,hV]
 have x1:X.cell? ⟨w.heap.size,1,none⟩=some (.int .i64 v.time):=by simp[World.cell?,hV]
 have x3:X.cell? ⟨w.heap.size,3,none⟩=some (.string ⟨v.body.toArray⟩):=by simp[World.cell?,hV]
 have HS:Hid (∀ y,Below X.heap.size X y->(y.cell? ⟨w.heap.size,0,none⟩=some (.int .i64 v.num)/\y.cell? ⟨w.heap.size,1,none⟩=some (.int .i64 v.time)/\y.cell? ⟨w.heap.size,3,none⟩=some (.string ⟨v.body.toArray⟩))/\Tz y/\Tab y):=by
  intro y hy
  exact⟨⟨(hy.cell (p:=⟨w.heap.size,0,none⟩) (Nat.lt_trans (Nat.lt_succ_self _) hXl)).trans x0,(hy.cell (p:=⟨w.heap.size,1,none⟩) (Nat.lt_trans (Nat.lt_succ_self _) hXl)).trans x1,(hy.cell (p:=⟨w.heap.size,3,none⟩) (Nat.lt_trans (Nat.lt_succ_self _) hXl)).trans x3⟩,(hT.below hal).below hy,(hTb.below hal).below hy⟩
 have gX:Below X.heap.size X X.drew:=(Below.refl _ _).drew
 have HZ:Hid _:=hZ
 have HL:Hid _:=hal
 have HXL:Hid _:=hXl
 clear hV hal hT hTb hZ
 generalize hQQ:Exit.then _ _=QQ
 have TAIL:Hid (∀ (ga gs:Nat) (y:World),Below X.heap.size X y->y.heap[ga]?=some (.cells #[.int .i64 0,.slice none 0 0,.string ⟨#[]⟩] 100 (0,0))->y.heap[gs]?=some (.cells #[.string ⟨#[69,84,97,103]⟩,.string ⟨tg.toArray⟩,.string ⟨#[76,97,115,116,45,77,111,100,105,102,105,101,100]⟩,.string ⟨st.toArray⟩,.string ⟨#[86,101,114,115,105,111,110]⟩,.string ⟨nn.toArray⟩] 151 (0,0))->X.heap.size<=ga->QQ .normal ⟨#[.agg #[.int .i64 v.num,.int .i64 v.time,.bool v.mark,.string ⟨v.body.toArray⟩],.int .i64 m,.pointer (some ⟨w.heap.size,0,none⟩),undef,.pointer (some ⟨w.heap.size+1,0,none⟩),.pointer (some ⟨ga,0,none⟩),.pointer (some ⟨w.heap.size,3,none⟩),.string ⟨v.body.toArray⟩,.agg #[.string ⟨#[69,84,97,103]⟩,.string ⟨tg.toArray⟩],.pointer (some ⟨w.heap.size,1,none⟩),.int .i64 v.time,.string ⟨st.toArray⟩,.agg #[.string ⟨#[76,97,115,116,45,77,111,100,105,102,105,101,100]⟩,.string ⟨st.toArray⟩],.pointer (some ⟨w.heap.size,0,none⟩),.int .i64 v.num,.agg #[.string ⟨#[86,101,114,115,105,111,110]⟩,.string ⟨nn.toArray⟩],.slice (some ⟨gs,0,none⟩) 3 3,.agg #[.int .i64 200,.slice (some ⟨gs,0,none⟩) 3 3,.string ⟨#[]⟩],undef,undef,undef,undef,undef,undef],[]⟩ (((y.setCell ⟨ga,0,none⟩ (.int .i64 200)).setCell ⟨ga,1,none⟩ (.slice (some ⟨gs,0,none⟩) 3 3)).setCell ⟨ga,2,none⟩ (.string ⟨#[]⟩))):=by
  intro ga gs y hy hga hgs hle
  have hna:w.heap.size≠ga:=by have:=HXL.out;omega
  have hnz:w.heap.size+1≠ga:=by have:=HXL.out;omega
  have hgl:w.heap.size<=ga:=by have:=HXL.out;omega
  have hnf:gs≠ga:=ne_of_types hgs hga (by decide)
  have hnfz:gs≠w.heap.size+1:=ne_of_types hgs ((hy.block _ HXL.out).trans HZ.out) (by decide)
  obtain⟨Y,hY⟩:∃ Y,Y=(((y.setCell ⟨ga,0,none⟩ (.int .i64 200)).setCell ⟨ga,1,none⟩ (.slice (some ⟨gs,0,none⟩) 3 3)).setCell ⟨ga,2,none⟩ (.string ⟨#[]⟩)):=⟨_,rfl⟩
  rw[<- hY]
  have hYa:Y.heap[ga]?=some (.cells #[.int .i64 200,.slice (some ⟨gs,0,none⟩) 3 3,.string ⟨#[]⟩] 100 (0,0)):=by
   rw[hY,heap_set (heap_set (heap_set hga))]
   rfl
  have hYo:Off (fun k=>k=ga) y Y:=by rw[hY];exact (((Off.refl (fun k=>k=ga) _).set ga 0 _ (Or.inl rfl)).set ga 1 _ (Or.inl rfl)).set ga 2 _ (Or.inl rfl)
  have hYz:Y.heap[w.heap.size+1]?=some (.cells #[.int .i64 0,.slice none 0 0,.string ⟨#[]⟩] 100 (0,0)):=(hYo.block _ (Nat.lt_of_lt_of_le HXL.out hy.size) hnz).trans ((hy.block _ HXL.out).trans HZ.out)
  have hYf:Y.heap[gs]?=some (.cells #[.string ⟨#[69,84,97,103]⟩,.string ⟨tg.toArray⟩,.string ⟨#[76,97,115,116,45,77,111,100,105,102,105,101,100]⟩,.string ⟨st.toArray⟩,.string ⟨#[86,101,114,115,105,111,110]⟩,.string ⟨nn.toArray⟩] 151 (0,0)):=(hYo.block _ (Array.getElem?_eq_some_iff.1 hgs).1 hnf).trans hgs
  have hYb:Below w.heap.size w Y:=by
   refine (HL.out.trans (hy.mono HL.out.size)).trans ?_
   exact⟨hYo.os,hYo.tape,hYo.output,hYo.size,fun k hk=>hYo.block k (by have:=hy.size;have:=HXL.out;omega) (by have:=HXL.out;omega)⟩
  have y3:Y.cell? ⟨w.heap.size,3,none⟩=some (.string ⟨v.body.toArray⟩):=by
   rw[hY,cell_set_far hna,cell_set_far hna,cell_set_far hna]
   exact (HS.out y hy).1.2.2
  have a0:Y.cell? ⟨ga,0,none⟩=some (.int .i64 200):=by simp[World.cell?,hYa]
  have a1:Y.cell? ⟨ga,1,none⟩=some (.slice (some ⟨gs,0,none⟩) 3 3):=by simp[World.cell?,hYa]
  have a2:Y.cell? ⟨ga,2,none⟩=some (.string ⟨#[]⟩):=by simp[World.cell?,hYa]
  have af:Y.frozen? ⟨ga,2,none⟩=false:=by simp[World.frozen?,hYa]
  have z0:Y.cell? ⟨w.heap.size+1,0,none⟩=some (.int .i64 0):=by simp[World.cell?,hYz]
  have z1:Y.cell? ⟨w.heap.size+1,1,none⟩=some (.slice none 0 0):=by simp[World.cell?,hYz]
  have z2:Y.cell? ⟨w.heap.size+1,2,none⟩=some (.string ⟨#[]⟩):=by simp[World.cell?,hYz]
  have zf0:Y.frozen? ⟨w.heap.size+1,0,none⟩=false:=by simp[World.frozen?,hYz]
  have zf1:Y.frozen? ⟨w.heap.size+1,1,none⟩=false:=by simp[World.frozen?,hYz]
  have zf2:Y.frozen? ⟨w.heap.size+1,2,none⟩=false:=by simp[World.frozen?,hYz]
  have HYZ:Hid _:=hYz
  have HYF:Hid _:=hYf
  have HYB:Hid _:=hYb
  clear hY hYa hYo hYz hYf hYb hy hga hgs
  rw[<- hQQ]
  by_cases hm:m=0
  ·subst hm
   go_wp2
   have h0:(Y.setCell ⟨ga,2,none⟩ (.string ⟨v.body.toArray⟩)).heap[w.heap.size+1]?=some (.cells #[.int .i64 0,.slice none 0 0,.string ⟨#[]⟩] 100 (0,0)):=(heap_set_far hnz).trans HYZ.out
   have hs:=heap_set (i:=2) (v:=.string ⟨v.body.toArray⟩) (heap_set (i:=1) (v:=.slice (some ⟨gs,0,none⟩) 3 3) (heap_set (i:=0) (v:=.int .i64 200) h0))
   refine bodyPost_ret (v:=.agg #[.int .i64 200,.slice (some ⟨gs,0,none⟩) 3 3,.string ⟨v.body.toArray⟩]) (results_row1 Tryz.results94 _ _ (w.heap.size+1) 100 _ (0,0) _ rfl hs Tryz.underlying100 rfl hiAns) rfl ⟨gs,rfl,?_,?_⟩
   ·refine flds_own (l:=verFlds v st) (cs:=#[.string ⟨#[69,84,97,103]⟩,.string ⟨tg.toArray⟩,.string ⟨#[76,97,115,116,45,77,111,100,105,102,105,101,100]⟩,.string ⟨st.toArray⟩,.string ⟨#[86,101,114,115,105,111,110]⟩,.string ⟨nn.toArray⟩]) ?_ (by rw[HR.out]) rfl (by simp[verFlds,maxLen])
    exact (heap_set_far hnfz).trans ((heap_set_far hnfz).trans ((heap_set_far hnfz).trans ((heap_set_far hnf).trans HYF.out)))
   ·exact (((HYB.out.setCell (p:=⟨ga,2,none⟩) hgl _).setCell (p:=⟨w.heap.size+1,0,none⟩) (Nat.le_succ _) _).setCell (p:=⟨w.heap.size+1,1,none⟩) (Nat.le_succ _) _).setCell (p:=⟨w.heap.size+1,2,none⟩) (Nat.le_succ _) _
  ·have hmi:((m:Int)==0)=false:=beq_eq_false_iff_ne.2 (by omega)
   go_wp2
   have h0:(Y).heap[w.heap.size+1]?=some (.cells #[.int .i64 0,.slice none 0 0,.string ⟨#[]⟩] 100 (0,0)):=HYZ.out
   have hs:=heap_set (i:=2) (v:=.string ⟨#[]⟩) (heap_set (i:=1) (v:=.slice (some ⟨gs,0,none⟩) 3 3) (heap_set (i:=0) (v:=.int .i64 200) h0))
   refine bodyPost_ret (v:=.agg #[.int .i64 200,.slice (some ⟨gs,0,none⟩) 3 3,.string ⟨#[]⟩]) (results_row1 Tryz.results94 _ _ (w.heap.size+1) 100 _ (0,0) _ rfl hs Tryz.underlying100 rfl hiAns) rfl ⟨gs,rfl,?_,?_⟩
   ·refine flds_own (l:=verFlds v st) (cs:=#[.string ⟨#[69,84,97,103]⟩,.string ⟨tg.toArray⟩,.string ⟨#[76,97,115,116,45,77,111,100,105,102,105,101,100]⟩,.string ⟨st.toArray⟩,.string ⟨#[86,101,114,115,105,111,110]⟩,.string ⟨nn.toArray⟩]) ?_ (by rw[HR.out]) rfl (by simp[verFlds,maxLen])
    exact (heap_set_far hnfz).trans ((heap_set_far hnfz).trans ((heap_set_far hnfz).trans HYF.out))
   ·exact ((HYB.out.setCell (p:=⟨w.heap.size+1,0,none⟩) (Nat.le_succ _) _).setCell (p:=⟨w.heap.size+1,1,none⟩) (Nat.le_succ _) _).setCell (p:=⟨w.heap.size+1,2,none⟩) (Nat.le_succ _) _
 refine wp_region_noPanic ?_
 refine wp_region_held_drew (S:=(fun y=>y.cell? ⟨w.heap.size,0,none⟩=some (.int .i64 v.num)/\y.cell? ⟨w.heap.size,1,none⟩=some (.int .i64 v.time)/\y.cell? ⟨w.heap.size,3,none⟩=some (.string ⟨v.body.toArray⟩))) (by kernel_rfl) ⟨x0,x1,x3⟩ (fun hHeld=>?_)
 refine tkH 0 rfl (by kernel_rfl) (fun _ _ _ h=>h) (Or.inl ⟨by rfl,fun y hSw=>by go_simp;try with_reducible rfl⟩) hHeld ?_
 try simp only[Act.put]
 refine tkH 1 rfl (by kernel_rfl) (fun _ _ _ h=>h) (Or.inl ⟨by rfl,fun y hSw=>by go_simp;try with_reducible rfl⟩) hHeld ?_
 try simp only[Act.put]
 refine tkH 3 rfl (by kernel_rfl) (fun _ _ _ h=>h) (Or.inl ⟨by rfl,fun y hSw=>by go_simp;try with_reducible rfl⟩) hHeld ?_
 try simp only[Act.put]
 refine tkH 4 rfl (by kernel_rfl) (fun _ _ _ h=>h) (Or.inl ⟨by rfl,fun y hSw=>by go_simp;try with_reducible rfl⟩) hHeld ?_
 try simp only[Act.put]
 refine tkH 7 rfl (by kernel_rfl) (fun _ _ _ h=>h) (Or.inl ⟨by rfl,fun y hSw=>by go_simp;try with_reducible rfl⟩) hHeld ?_
 try simp only[Act.put]
 refine tkH 8 rfl (by kernel_rfl) (fun _ _ _ h=>h) (Or.inl ⟨by rfl,fun y hSw=>by go_simp;try with_reducible rfl⟩) hHeld ?_
 try simp only[Act.put]
 refine wpAnyH_ready (rs:=[2,12]) (by kernel_rfl) (by simp) ?_
 refine AllReadyH.cons rfl (fun K hK=>?_) (AllReadyH.cons rfl (fun K hK=>?_) AllReadyH.nil)
 ·go_simp
  refine (HC1.out X.drew (HS.out _ gX).2.1).mono ?_
  rintro e y1 ⟨rfl,h1⟩
  have g1:Below X.heap.size X y1:=gX.trans (h1.mono gX.size)
  clear h1
  try go_wp2_with fail
  refine hK.out _ _ (HS.out _ g1).1 (fun hHeld=>?_)
  clear hK K
  try simp only[Act.put]
  refine wpAnyH_ready (rs:=[5,12]) (by kernel_rfl) (by simp) ?_
  refine AllReadyH.cons rfl (fun K hK=>?_) (AllReadyH.cons rfl (fun K hK=>?_) AllReadyH.nil)
  ·go_simp
   refine (HC2.out y1 (HS.out _ g1).2.2).mono ?_
   rintro e y2 ⟨rfl,h2⟩
   have g2:Below X.heap.size X y2:=g1.trans (h2.mono g1.size)
   clear h2
   try go_wp2_with fail
   refine hK.out _ _ (HS.out _ g2).1 (fun hHeld=>?_)
   clear hK K
   try simp only[Act.put]
   refine tkH 6 rfl (by kernel_rfl) (fun _ _ _ h=>h) (Or.inl ⟨by rfl,fun y hSw=>by go_simp;try with_reducible rfl⟩) hHeld ?_
   try simp only[Act.put]
   refine wpAnyH_ready (rs:=[9,12]) (by kernel_rfl) (by simp) ?_
   refine AllReadyH.cons rfl (fun K hK=>?_) (AllReadyH.cons rfl (fun K hK=>?_) AllReadyH.nil)
   ·go_simp
    refine (HC3.out y2 (HS.out _ g2).2.2).mono ?_
    rintro e y3 ⟨rfl,h3⟩
    have g3:Below X.heap.size X y3:=g2.trans (h3.mono g2.size)
    clear h3
    try go_wp2_with fail
    refine hK.out _ _ (HS.out _ g3).1 (fun hHeld=>?_)
    clear hK K
    try simp only[Act.put]
    refine wpAnyH_ready (rs:=[10,12]) (by kernel_rfl) (by simp) ?_
    refine AllReadyH.cons rfl (fun K hK=>?_) (AllReadyH.cons rfl (fun K hK=>?_) AllReadyH.nil)
    ·go_simp
     obtain⟨s4,hs4⟩:∃ x,x=(y3).alloc (.cells #[.string ⟨#[69,84,97,103]⟩,.string ⟨tg.toArray⟩,.string ⟨#[76,97,115,116,45,77,111,100,105,102,105,101,100]⟩,.string ⟨st.toArray⟩,.string ⟨#[86,101,114,115,105,111,110]⟩,.string ⟨nn.toArray⟩] 151):=⟨_,rfl⟩
     rw[<- hs4]
     obtain⟨q4,hq4⟩:∃ x,x=(y3).heap.size:=⟨_,rfl⟩
     rw[<- hq4]
     have g4:Below X.heap.size X s4:=by rw[hs4];exact g3.alloc g3.size _
     have k4:s4.heap[q4]?=some (.cells #[.string ⟨#[69,84,97,103]⟩,.string ⟨tg.toArray⟩,.string ⟨#[76,97,115,116,45,77,111,100,105,102,105,101,100]⟩,.string ⟨st.toArray⟩,.string ⟨#[86,101,114,115,105,111,110]⟩,.string ⟨nn.toArray⟩] 151 (0,0)):=by rw[hs4,hq4];exact heap_alloc_new _ _
     clear hs4 hq4
     refine hK.out _ _ (HS.out _ g4).1 (fun hHeld=>?_)
     clear hK K
     try simp only[Act.put]
     refine wpAnyH_ready (rs:=[11,12]) (by kernel_rfl) (by simp) ?_
     refine AllReadyH.cons rfl (fun K hK=>?_) (AllReadyH.cons rfl (fun K hK=>?_) AllReadyH.nil)
     ·go_simp
      refine (answer_any 200 (some ⟨q4,0,none⟩) 3 3 s4).mono ?_
      rintro e y5 ⟨rfl,h5⟩
      have g5:Below X.heap.size X y5:=g4.trans (h5.mono g4.size)
      have k5:y5.heap[q4]?=some (.cells #[.string ⟨#[69,84,97,103]⟩,.string ⟨tg.toArray⟩,.string ⟨#[76,97,115,116,45,77,111,100,105,102,105,101,100]⟩,.string ⟨st.toArray⟩,.string ⟨#[86,101,114,115,105,111,110]⟩,.string ⟨nn.toArray⟩] 151 (0,0)):=(h5.block _ (Array.getElem?_eq_some_iff.1 k4).1).trans k4
      clear h5
      try go_wp2_with fail
      refine hK.out _ _ (HS.out _ g5).1 (fun hHeld=>?_)
      clear hK K
      try simp only[Act.put]
      refine wpAnyH_ready (rs:=[12]) (by kernel_rfl) (by simp) ?_
      refine AllReadyH.cons rfl (fun K hK=>?_) AllReadyH.nil
      go_simp
      obtain⟨a6,ha6⟩:∃ x,x=(y5).alloc (.cells #[.int .i64 0,.slice none 0 0,.string ⟨#[]⟩] 100):=⟨_,rfl⟩
      rw[<- ha6]
      obtain⟨p6,hp6⟩:∃ x,x=(y5).heap.size:=⟨_,rfl⟩
      rw[<- hp6]
      have g6:Below X.heap.size X a6:=by rw[ha6];exact g5.alloc g5.size _
      have b6:a6.heap[p6]?=some (.cells #[.int .i64 0,.slice none 0 0,.string ⟨#[]⟩] 100 (0,0)):=by rw[ha6,hp6];exact heap_alloc_new _ _
      have l6:X.heap.size<=p6:=by rw[hp6];exact g5.size
      have k6:a6.heap[q4]?=some (.cells #[.string ⟨#[69,84,97,103]⟩,.string ⟨tg.toArray⟩,.string ⟨#[76,97,115,116,45,77,111,100,105,102,105,101,100]⟩,.string ⟨st.toArray⟩,.string ⟨#[86,101,114,115,105,111,110]⟩,.string ⟨nn.toArray⟩] 151 (0,0)):=by rw[ha6];exact (heap_alloc_old _ _ (Array.getElem?_eq_some_iff.1 k5).1).trans k5
      clear ha6 hp6
      refine hK.out _ _ (HS.out _ g6).1 (fun hHeld=>?_)
      clear hK K
      try simp only[Act.put]
      refine wpAnyH_ready (rs:=[13]) (by kernel_rfl) (by simp) ?_
      refine AllReadyH.cons rfl (fun K hK=>?_) AllReadyH.nil
      have c0:(a6).cell? ⟨p6,0,none⟩=some (.int .i64 0):=by simp[World.cell?,b6]
      have c1:(a6).cell? ⟨p6,1,none⟩=some (.slice none 0 0):=by simp[World.cell?,b6]
      have c2:(a6).cell? ⟨p6,2,none⟩=some (.string ⟨#[]⟩):=by simp[World.cell?,b6]
      have f0:(a6).frozen? ⟨p6,0,none⟩=false:=by simp[World.frozen?,b6]
      have f1:(a6).frozen? ⟨p6,1,none⟩=false:=by simp[World.frozen?,b6]
      have f2:(a6).frozen? ⟨p6,2,none⟩=false:=by simp[World.frozen?,b6]
      have hne:w.heap.size≠p6:=by have:=l6;omega
      go_simp
      refine hK.out _ _ ⟨?_,?_,?_⟩ (fun hHeld=>?_)
      ·rw[cell_set_far hne,cell_set_far hne,cell_set_far hne];exact (HS.out _ g6).1.1
      ·rw[cell_set_far hne,cell_set_far hne,cell_set_far hne];exact (HS.out _ g6).1.2.1
      ·rw[cell_set_far hne,cell_set_far hne,cell_set_far hne];exact (HS.out _ g6).1.2.2
      clear hK K
      try simp only[Act.put]
      refine wpAnyH_done (by kernel_rfl) ?_ _
      refine NoPanic.normal ?_
      exact TAIL.out p6 q4 _ (g6) (b6) (k6) (l6)
     ·go_simp
      obtain⟨a8,ha8⟩:∃ x,x=(s4).alloc (.cells #[.int .i64 0,.slice none 0 0,.string ⟨#[]⟩] 100):=⟨_,rfl⟩
      rw[<- ha8]
      obtain⟨p8,hp8⟩:∃ x,x=(s4).heap.size:=⟨_,rfl⟩
      rw[<- hp8]
      have g8:Below X.heap.size X a8:=by rw[ha8];exact g4.alloc g4.size _
      have b8:a8.heap[p8]?=some (.cells #[.int .i64 0,.slice none 0 0,.string ⟨#[]⟩] 100 (0,0)):=by rw[ha8,hp8];exact heap_alloc_new _ _
      have l8:X.heap.size<=p8:=by rw[hp8];exact g4.size
      have k8:a8.heap[q4]?=some (.cells #[.string ⟨#[69,84,97,103]⟩,.string ⟨tg.toArray⟩,.string ⟨#[76,97,115,116,45,77,111,100,105,102,105,101,100]⟩,.string ⟨st.toArray⟩,.string ⟨#[86,101,114,115,105,111,110]⟩,.string ⟨nn.toArray⟩] 151 (0,0)):=by rw[ha8];exact (heap_alloc_old _ _ (Array.getElem?_eq_some_iff.1 k4).1).trans k4
      clear ha8 hp8
      refine hK.out _ _ (HS.out _ g8).1 (fun hHeld=>?_)
      clear hK K
      try simp only[Act.put]
      refine wpAnyH_ready (rs:=[11]) (by kernel_rfl) (by simp) ?_
      refine AllReadyH.cons rfl (fun K hK=>?_) AllReadyH.nil
      go_simp
      refine (answer_any 200 (some ⟨q4,0,none⟩) 3 3 a8).mono ?_
      rintro e y9 ⟨rfl,h9⟩
      have g9:Below X.heap.size X y9:=g8.trans (h9.mono g8.size)
      have b9:y9.heap[p8]?=some (.cells #[.int .i64 0,.slice none 0 0,.string ⟨#[]⟩] 100 (0,0)):=(h9.block _ (Array.getElem?_eq_some_iff.1 b8).1).trans b8
      have k9:y9.heap[q4]?=some (.cells #[.string ⟨#[69,84,97,103]⟩,.string ⟨tg.toArray⟩,.string ⟨#[76,97,115,116,45,77,111,100,105,102,105,101,100]⟩,.string ⟨st.toArray⟩,.string ⟨#[86,101,114,115,105,111,110]⟩,.string ⟨nn.toArray⟩] 151 (0,0)):=(h9.block _ (Array.getElem?_eq_some_iff.1 k8).1).trans k8
      clear h9
      try go_wp2_with fail
      refine hK.out _ _ (HS.out _ g9).1 (fun hHeld=>?_)
      clear hK K
      try simp only[Act.put]
      refine wpAnyH_ready (rs:=[13]) (by kernel_rfl) (by simp) ?_
      refine AllReadyH.cons rfl (fun K hK=>?_) AllReadyH.nil
      have c0:(y9).cell? ⟨p8,0,none⟩=some (.int .i64 0):=by simp[World.cell?,b9]
      have c1:(y9).cell? ⟨p8,1,none⟩=some (.slice none 0 0):=by simp[World.cell?,b9]
      have c2:(y9).cell? ⟨p8,2,none⟩=some (.string ⟨#[]⟩):=by simp[World.cell?,b9]
      have f0:(y9).frozen? ⟨p8,0,none⟩=false:=by simp[World.frozen?,b9]
      have f1:(y9).frozen? ⟨p8,1,none⟩=false:=by simp[World.frozen?,b9]
      have f2:(y9).frozen? ⟨p8,2,none⟩=false:=by simp[World.frozen?,b9]
      have hne:w.heap.size≠p8:=by have:=l8;omega
      go_simp
      refine hK.out _ _ ⟨?_,?_,?_⟩ (fun hHeld=>?_)
      ·rw[cell_set_far hne,cell_set_far hne,cell_set_far hne];exact (HS.out _ g9).1.1
      ·rw[cell_set_far hne,cell_set_far hne,cell_set_far hne];exact (HS.out _ g9).1.2.1
      ·rw[cell_set_far hne,cell_set_far hne,cell_set_far hne];exact (HS.out _ g9).1.2.2
      clear hK K
      try simp only[Act.put]
      refine wpAnyH_done (by kernel_rfl) ?_ _
      refine NoPanic.normal ?_
      exact TAIL.out p8 q4 _ (g9) (b9) (k9) (l8)
    ·go_simp
     obtain⟨a11,ha11⟩:∃ x,x=(y3).alloc (.cells #[.int .i64 0,.slice none 0 0,.string ⟨#[]⟩] 100):=⟨_,rfl⟩
     rw[<- ha11]
     obtain⟨p11,hp11⟩:∃ x,x=(y3).heap.size:=⟨_,rfl⟩
     rw[<- hp11]
     have g11:Below X.heap.size X a11:=by rw[ha11];exact g3.alloc g3.size _
     have b11:a11.heap[p11]?=some (.cells #[.int .i64 0,.slice none 0 0,.string ⟨#[]⟩] 100 (0,0)):=by rw[ha11,hp11];exact heap_alloc_new _ _
     have l11:X.heap.size<=p11:=by rw[hp11];exact g3.size
     clear ha11 hp11
     refine hK.out _ _ (HS.out _ g11).1 (fun hHeld=>?_)
     clear hK K
     try simp only[Act.put]
     refine wpAnyH_ready (rs:=[10]) (by kernel_rfl) (by simp) ?_
     refine AllReadyH.cons rfl (fun K hK=>?_) AllReadyH.nil
     go_simp
     obtain⟨s12,hs12⟩:∃ x,x=(a11).alloc (.cells #[.string ⟨#[69,84,97,103]⟩,.string ⟨tg.toArray⟩,.string ⟨#[76,97,115,116,45,77,111,100,105,102,105,101,100]⟩,.string ⟨st.toArray⟩,.string ⟨#[86,101,114,115,105,111,110]⟩,.string ⟨nn.toArray⟩] 151):=⟨_,rfl⟩
     rw[<- hs12]
     obtain⟨q12,hq12⟩:∃ x,x=(a11).heap.size:=⟨_,rfl⟩
     rw[<- hq12]
     have g12:Below X.heap.size X s12:=by rw[hs12];exact g11.alloc g11.size _
     have k12:s12.heap[q12]?=some (.cells #[.string ⟨#[69,84,97,103]⟩,.string ⟨tg.toArray⟩,.string ⟨#[76,97,115,116,45,77,111,100,105,102,105,101,100]⟩,.string ⟨st.toArray⟩,.string ⟨#[86,101,114,115,105,111,110]⟩,.string ⟨nn.toArray⟩] 151 (0,0)):=by rw[hs12,hq12];exact heap_alloc_new _ _
     have b12:s12.heap[p11]?=some (.cells #[.int .i64 0,.slice none 0 0,.string ⟨#[]⟩] 100 (0,0)):=by rw[hs12];exact (heap_alloc_old _ _ (Array.getElem?_eq_some_iff.1 b11).1).trans b11
     clear hs12 hq12
     refine hK.out _ _ (HS.out _ g12).1 (fun hHeld=>?_)
     clear hK K
     try simp only[Act.put]
     refine wpAnyH_ready (rs:=[11]) (by kernel_rfl) (by simp) ?_
     refine AllReadyH.cons rfl (fun K hK=>?_) AllReadyH.nil
     go_simp
     refine (answer_any 200 (some ⟨q12,0,none⟩) 3 3 s12).mono ?_
     rintro e y13 ⟨rfl,h13⟩
     have g13:Below X.heap.size X y13:=g12.trans (h13.mono g12.size)
     have b13:y13.heap[p11]?=some (.cells #[.int .i64 0,.slice none 0 0,.string ⟨#[]⟩] 100 (0,0)):=(h13.block _ (Array.getElem?_eq_some_iff.1 b12).1).trans b12
     have k13:y13.heap[q12]?=some (.cells #[.string ⟨#[69,84,97,103]⟩,.string ⟨tg.toArray⟩,.string ⟨#[76,97,115,116,45,77,111,100,105,102,105,101,100]⟩,.string ⟨st.toArray⟩,.string ⟨#[86,101,114,115,105,111,110]⟩,.string ⟨nn.toArray⟩] 151 (0,0)):=(h13.block _ (Array.getElem?_eq_some_iff.1 k12).1).trans k12
     clear h13
     try go_wp2_with fail
     refine hK.out _ _ (HS.out _ g13).1 (fun hHeld=>?_)
     clear hK K
     try simp only[Act.put]
     refine wpAnyH_ready (rs:=[13]) (by kernel_rfl) (by simp) ?_
     refine AllReadyH.cons rfl (fun K hK=>?_) AllReadyH.nil
     have c0:(y13).cell? ⟨p11,0,none⟩=some (.int .i64 0):=by simp[World.cell?,b13]
     have c1:(y13).cell? ⟨p11,1,none⟩=some (.slice none 0 0):=by simp[World.cell?,b13]
     have c2:(y13).cell? ⟨p11,2,none⟩=some (.string ⟨#[]⟩):=by simp[World.cell?,b13]
     have f0:(y13).frozen? ⟨p11,0,none⟩=false:=by simp[World.frozen?,b13]
     have f1:(y13).frozen? ⟨p11,1,none⟩=false:=by simp[World.frozen?,b13]
     have f2:(y13).frozen? ⟨p11,2,none⟩=false:=by simp[World.frozen?,b13]
     have hne:w.heap.size≠p11:=by have:=l11;omega
     go_simp
     refine hK.out _ _ ⟨?_,?_,?_⟩ (fun hHeld=>?_)
     ·rw[cell_set_far hne,cell_set_far hne,cell_set_far hne];exact (HS.out _ g13).1.1
     ·rw[cell_set_far hne,cell_set_far hne,cell_set_far hne];exact (HS.out _ g13).1.2.1
     ·rw[cell_set_far hne,cell_set_far hne,cell_set_far hne];exact (HS.out _ g13).1.2.2
     clear hK K
     try simp only[Act.put]
     refine wpAnyH_done (by kernel_rfl) ?_ _
     refine NoPanic.normal ?_
     exact TAIL.out p11 q12 _ (g13) (b13) (k13) (l11)
   ·go_simp
    obtain⟨a15,ha15⟩:∃ x,x=(y2).alloc (.cells #[.int .i64 0,.slice none 0 0,.string ⟨#[]⟩] 100):=⟨_,rfl⟩
    rw[<- ha15]
    obtain⟨p15,hp15⟩:∃ x,x=(y2).heap.size:=⟨_,rfl⟩
    rw[<- hp15]
    have g15:Below X.heap.size X a15:=by rw[ha15];exact g2.alloc g2.size _
    have b15:a15.heap[p15]?=some (.cells #[.int .i64 0,.slice none 0 0,.string ⟨#[]⟩] 100 (0,0)):=by rw[ha15,hp15];exact heap_alloc_new _ _
    have l15:X.heap.size<=p15:=by rw[hp15];exact g2.size
    clear ha15 hp15
    refine hK.out _ _ (HS.out _ g15).1 (fun hHeld=>?_)
    clear hK K
    try simp only[Act.put]
    refine wpAnyH_ready (rs:=[9]) (by kernel_rfl) (by simp) ?_
    refine AllReadyH.cons rfl (fun K hK=>?_) AllReadyH.nil
    go_simp
    refine (HC3.out a15 (HS.out _ g15).2.2).mono ?_
    rintro e y16 ⟨rfl,h16⟩
    have g16:Below X.heap.size X y16:=g15.trans (h16.mono g15.size)
    have b16:y16.heap[p15]?=some (.cells #[.int .i64 0,.slice none 0 0,.string ⟨#[]⟩] 100 (0,0)):=(h16.block _ (Array.getElem?_eq_some_iff.1 b15).1).trans b15
    clear h16
    try go_wp2_with fail
    refine hK.out _ _ (HS.out _ g16).1 (fun hHeld=>?_)
    clear hK K
    try simp only[Act.put]
    refine wpAnyH_ready (rs:=[10]) (by kernel_rfl) (by simp) ?_
    refine AllReadyH.cons rfl (fun K hK=>?_) AllReadyH.nil
    go_simp
    obtain⟨s17,hs17⟩:∃ x,x=(y16).alloc (.cells #[.string ⟨#[69,84,97,103]⟩,.string ⟨tg.toArray⟩,.string ⟨#[76,97,115,116,45,77,111,100,105,102,105,101,100]⟩,.string ⟨st.toArray⟩,.string ⟨#[86,101,114,115,105,111,110]⟩,.string ⟨nn.toArray⟩] 151):=⟨_,rfl⟩
    rw[<- hs17]
    obtain⟨q17,hq17⟩:∃ x,x=(y16).heap.size:=⟨_,rfl⟩
    rw[<- hq17]
    have g17:Below X.heap.size X s17:=by rw[hs17];exact g16.alloc g16.size _
    have k17:s17.heap[q17]?=some (.cells #[.string ⟨#[69,84,97,103]⟩,.string ⟨tg.toArray⟩,.string ⟨#[76,97,115,116,45,77,111,100,105,102,105,101,100]⟩,.string ⟨st.toArray⟩,.string ⟨#[86,101,114,115,105,111,110]⟩,.string ⟨nn.toArray⟩] 151 (0,0)):=by rw[hs17,hq17];exact heap_alloc_new _ _
    have b17:s17.heap[p15]?=some (.cells #[.int .i64 0,.slice none 0 0,.string ⟨#[]⟩] 100 (0,0)):=by rw[hs17];exact (heap_alloc_old _ _ (Array.getElem?_eq_some_iff.1 b16).1).trans b16
    clear hs17 hq17
    refine hK.out _ _ (HS.out _ g17).1 (fun hHeld=>?_)
    clear hK K
    try simp only[Act.put]
    refine wpAnyH_ready (rs:=[11]) (by kernel_rfl) (by simp) ?_
    refine AllReadyH.cons rfl (fun K hK=>?_) AllReadyH.nil
    go_simp
    refine (answer_any 200 (some ⟨q17,0,none⟩) 3 3 s17).mono ?_
    rintro e y18 ⟨rfl,h18⟩
    have g18:Below X.heap.size X y18:=g17.trans (h18.mono g17.size)
    have b18:y18.heap[p15]?=some (.cells #[.int .i64 0,.slice none 0 0,.string ⟨#[]⟩] 100 (0,0)):=(h18.block _ (Array.getElem?_eq_some_iff.1 b17).1).trans b17
    have k18:y18.heap[q17]?=some (.cells #[.string ⟨#[69,84,97,103]⟩,.string ⟨tg.toArray⟩,.string ⟨#[76,97,115,116,45,77,111,100,105,102,105,101,100]⟩,.string ⟨st.toArray⟩,.string ⟨#[86,101,114,115,105,111,110]⟩,.string ⟨nn.toArray⟩] 151 (0,0)):=(h18.block _ (Array.getElem?_eq_some_iff.1 k17).1).trans k17
    clear h18
    try go_wp2_with fail
    refine hK.out _ _ (HS.out _ g18).1 (fun hHeld=>?_)
    clear hK K
    try simp only[Act.put]
    refine wpAnyH_ready (rs:=[13]) (by kernel_rfl) (by simp) ?_
    refine AllReadyH.cons rfl (fun K hK=>?_) AllReadyH.nil
    have c0:(y18).cell? ⟨p15,0,none⟩=some (.int .i64 0):=by simp[World.cell?,b18]
    have c1:(y18).cell? ⟨p15,1,none⟩=some (.slice none 0 0):=by simp[World.cell?,b18]
    have c2:(y18).cell? ⟨p15,2,none⟩=some (.string ⟨#[]⟩):=by simp[World.cell?,b18]
    have f0:(y18).frozen? ⟨p15,0,none⟩=false:=by simp[World.frozen?,b18]
    have f1:(y18).frozen? ⟨p15,1,none⟩=false:=by simp[World.frozen?,b18]
    have f2:(y18).frozen? ⟨p15,2,none⟩=false:=by simp[World.frozen?,b18]
    have hne:w.heap.size≠p15:=by have:=l15;omega
    go_simp
    refine hK.out _ _ ⟨?_,?_,?_⟩ (fun hHeld=>?_)
    ·rw[cell_set_far hne,cell_set_far hne,cell_set_far hne];exact (HS.out _ g18).1.1
    ·rw[cell_set_far hne,cell_set_far hne,cell_set_far hne];exact (HS.out _ g18).1.2.1
    ·rw[cell_set_far hne,cell_set_far hne,cell_set_far hne];exact (HS.out _ g18).1.2.2
    clear hK K
    try simp only[Act.put]
    refine wpAnyH_done (by kernel_rfl) ?_ _
    refine NoPanic.normal ?_
    exact TAIL.out p15 q17 _ (g18) (b18) (k18) (l15)
  ·go_simp
   obtain⟨a20,ha20⟩:∃ x,x=(y1).alloc (.cells #[.int .i64 0,.slice none 0 0,.string ⟨#[]⟩] 100):=⟨_,rfl⟩
   rw[<- ha20]
   obtain⟨p20,hp20⟩:∃ x,x=(y1).heap.size:=⟨_,rfl⟩
   rw[<- hp20]
   have g20:Below X.heap.size X a20:=by rw[ha20];exact g1.alloc g1.size _
   have b20:a20.heap[p20]?=some (.cells #[.int .i64 0,.slice none 0 0,.string ⟨#[]⟩] 100 (0,0)):=by rw[ha20,hp20];exact heap_alloc_new _ _
   have l20:X.heap.size<=p20:=by rw[hp20];exact g1.size
   clear ha20 hp20
   refine hK.out _ _ (HS.out _ g20).1 (fun hHeld=>?_)
   clear hK K
   try simp only[Act.put]
   refine wpAnyH_ready (rs:=[5]) (by kernel_rfl) (by simp) ?_
   refine AllReadyH.cons rfl (fun K hK=>?_) AllReadyH.nil
   go_simp
   refine (HC2.out a20 (HS.out _ g20).2.2).mono ?_
   rintro e y21 ⟨rfl,h21⟩
   have g21:Below X.heap.size X y21:=g20.trans (h21.mono g20.size)
   have b21:y21.heap[p20]?=some (.cells #[.int .i64 0,.slice none 0 0,.string ⟨#[]⟩] 100 (0,0)):=(h21.block _ (Array.getElem?_eq_some_iff.1 b20).1).trans b20
   clear h21
   try go_wp2_with fail
   refine hK.out _ _ (HS.out _ g21).1 (fun hHeld=>?_)
   clear hK K
   try simp only[Act.put]
   refine tkH 6 rfl (by kernel_rfl) (fun _ _ _ h=>h) (Or.inl ⟨by rfl,fun y hSw=>by go_simp;try with_reducible rfl⟩) hHeld ?_
   try simp only[Act.put]
   refine wpAnyH_ready (rs:=[9]) (by kernel_rfl) (by simp) ?_
   refine AllReadyH.cons rfl (fun K hK=>?_) AllReadyH.nil
   go_simp
   refine (HC3.out y21 (HS.out _ g21).2.2).mono ?_
   rintro e y22 ⟨rfl,h22⟩
   have g22:Below X.heap.size X y22:=g21.trans (h22.mono g21.size)
   have b22:y22.heap[p20]?=some (.cells #[.int .i64 0,.slice none 0 0,.string ⟨#[]⟩] 100 (0,0)):=(h22.block _ (Array.getElem?_eq_some_iff.1 b21).1).trans b21
   clear h22
   try go_wp2_with fail
   refine hK.out _ _ (HS.out _ g22).1 (fun hHeld=>?_)
   clear hK K
   try simp only[Act.put]
   refine wpAnyH_ready (rs:=[10]) (by kernel_rfl) (by simp) ?_
   refine AllReadyH.cons rfl (fun K hK=>?_) AllReadyH.nil
   go_simp
   obtain⟨s23,hs23⟩:∃ x,x=(y22).alloc (.cells #[.string ⟨#[69,84,97,103]⟩,.string ⟨tg.toArray⟩,.string ⟨#[76,97,115,116,45,77,111,100,105,102,105,101,100]⟩,.string ⟨st.toArray⟩,.string ⟨#[86,101,114,115,105,111,110]⟩,.string ⟨nn.toArray⟩] 151):=⟨_,rfl⟩
   rw[<- hs23]
   obtain⟨q23,hq23⟩:∃ x,x=(y22).heap.size:=⟨_,rfl⟩
   rw[<- hq23]
   have g23:Below X.heap.size X s23:=by rw[hs23];exact g22.alloc g22.size _
   have k23:s23.heap[q23]?=some (.cells #[.string ⟨#[69,84,97,103]⟩,.string ⟨tg.toArray⟩,.string ⟨#[76,97,115,116,45,77,111,100,105,102,105,101,100]⟩,.string ⟨st.toArray⟩,.string ⟨#[86,101,114,115,105,111,110]⟩,.string ⟨nn.toArray⟩] 151 (0,0)):=by rw[hs23,hq23];exact heap_alloc_new _ _
   have b23:s23.heap[p20]?=some (.cells #[.int .i64 0,.slice none 0 0,.string ⟨#[]⟩] 100 (0,0)):=by rw[hs23];exact (heap_alloc_old _ _ (Array.getElem?_eq_some_iff.1 b22).1).trans b22
   clear hs23 hq23
   refine hK.out _ _ (HS.out _ g23).1 (fun hHeld=>?_)
   clear hK K
   try simp only[Act.put]
   refine wpAnyH_ready (rs:=[11]) (by kernel_rfl) (by simp) ?_
   refine AllReadyH.cons rfl (fun K hK=>?_) AllReadyH.nil
   go_simp
   refine (answer_any 200 (some ⟨q23,0,none⟩) 3 3 s23).mono ?_
   rintro e y24 ⟨rfl,h24⟩
   have g24:Below X.heap.size X y24:=g23.trans (h24.mono g23.size)
   have b24:y24.heap[p20]?=some (.cells #[.int .i64 0,.slice none 0 0,.string ⟨#[]⟩] 100 (0,0)):=(h24.block _ (Array.getElem?_eq_some_iff.1 b23).1).trans b23
   have k24:y24.heap[q23]?=some (.cells #[.string ⟨#[69,84,97,103]⟩,.string ⟨tg.toArray⟩,.string ⟨#[76,97,115,116,45,77,111,100,105,102,105,101,100]⟩,.string ⟨st.toArray⟩,.string ⟨#[86,101,114,115,105,111,110]⟩,.string ⟨nn.toArray⟩] 151 (0,0)):=(h24.block _ (Array.getElem?_eq_some_iff.1 k23).1).trans k23
   clear h24
   try go_wp2_with fail
   refine hK.out _ _ (HS.out _ g24).1 (fun hHeld=>?_)
   clear hK K
   try simp only[Act.put]
   refine wpAnyH_ready (rs:=[13]) (by kernel_rfl) (by simp) ?_
   refine AllReadyH.cons rfl (fun K hK=>?_) AllReadyH.nil
   have c0:(y24).cell? ⟨p20,0,none⟩=some (.int .i64 0):=by simp[World.cell?,b24]
   have c1:(y24).cell? ⟨p20,1,none⟩=some (.slice none 0 0):=by simp[World.cell?,b24]
   have c2:(y24).cell? ⟨p20,2,none⟩=some (.string ⟨#[]⟩):=by simp[World.cell?,b24]
   have f0:(y24).frozen? ⟨p20,0,none⟩=false:=by simp[World.frozen?,b24]
   have f1:(y24).frozen? ⟨p20,1,none⟩=false:=by simp[World.frozen?,b24]
   have f2:(y24).frozen? ⟨p20,2,none⟩=false:=by simp[World.frozen?,b24]
   have hne:w.heap.size≠p20:=by have:=l20;omega
   go_simp
   refine hK.out _ _ ⟨?_,?_,?_⟩ (fun hHeld=>?_)
   ·rw[cell_set_far hne,cell_set_far hne,cell_set_far hne];exact (HS.out _ g24).1.1
   ·rw[cell_set_far hne,cell_set_far hne,cell_set_far hne];exact (HS.out _ g24).1.2.1
   ·rw[cell_set_far hne,cell_set_far hne,cell_set_far hne];exact (HS.out _ g24).1.2.2
   clear hK K
   try simp only[Act.put]
   refine wpAnyH_done (by kernel_rfl) ?_ _
   refine NoPanic.normal ?_
   exact TAIL.out p20 q23 _ (g24) (b24) (k24) (l20)
 ·go_simp
  obtain⟨a26,ha26⟩:∃ x,x=(X.alloc (.cells #[.int .i64 0,.slice none 0 0,.string ⟨#[]⟩] 100)).drew:=⟨_,rfl⟩
  rw[<- ha26]
  obtain⟨p26,hp26⟩:∃ x,x=X.heap.size:=⟨_,rfl⟩
  rw[<- hp26]
  have g26:Below X.heap.size X a26:=by rw[ha26];exact ((Below.refl _ _).alloc (Nat.le_refl _) _).drew
  have b26:a26.heap[p26]?=some (.cells #[.int .i64 0,.slice none 0 0,.string ⟨#[]⟩] 100 (0,0)):=by rw[ha26,hp26];exact heap_alloc_new _ _
  have l26:X.heap.size<=p26:=by rw[hp26];exact Nat.le_refl _
  clear ha26 hp26
  refine hK.out _ _ (HS.out _ g26).1 (fun hHeld=>?_)
  clear hK K
  try simp only[Act.put]
  refine wpAnyH_ready (rs:=[2]) (by kernel_rfl) (by simp) ?_
  refine AllReadyH.cons rfl (fun K hK=>?_) AllReadyH.nil
  go_simp
  refine (HC1.out a26 (HS.out _ g26).2.1).mono ?_
  rintro e y27 ⟨rfl,h27⟩
  have g27:Below X.heap.size X y27:=g26.trans (h27.mono g26.size)
  have b27:y27.heap[p26]?=some (.cells #[.int .i64 0,.slice none 0 0,.string ⟨#[]⟩] 100 (0,0)):=(h27.block _ (Array.getElem?_eq_some_iff.1 b26).1).trans b26
  clear h27
  try go_wp2_with fail
  refine hK.out _ _ (HS.out _ g27).1 (fun hHeld=>?_)
  clear hK K
  try simp only[Act.put]
  refine wpAnyH_ready (rs:=[5]) (by kernel_rfl) (by simp) ?_
  refine AllReadyH.cons rfl (fun K hK=>?_) AllReadyH.nil
  go_simp
  refine (HC2.out y27 (HS.out _ g27).2.2).mono ?_
  rintro e y28 ⟨rfl,h28⟩
  have g28:Below X.heap.size X y28:=g27.trans (h28.mono g27.size)
  have b28:y28.heap[p26]?=some (.cells #[.int .i64 0,.slice none 0 0,.string ⟨#[]⟩] 100 (0,0)):=(h28.block _ (Array.getElem?_eq_some_iff.1 b27).1).trans b27
  clear h28
  try go_wp2_with fail
  refine hK.out _ _ (HS.out _ g28).1 (fun hHeld=>?_)
  clear hK K
  try simp only[Act.put]
  refine tkH 6 rfl (by kernel_rfl) (fun _ _ _ h=>h) (Or.inl ⟨by rfl,fun y hSw=>by go_simp;try with_reducible rfl⟩) hHeld ?_
  try simp only[Act.put]
  refine wpAnyH_ready (rs:=[9]) (by kernel_rfl) (by simp) ?_
  refine AllReadyH.cons rfl (fun K hK=>?_) AllReadyH.nil
  go_simp
  refine (HC3.out y28 (HS.out _ g28).2.2).mono ?_
  rintro e y29 ⟨rfl,h29⟩
  have g29:Below X.heap.size X y29:=g28.trans (h29.mono g28.size)
  have b29:y29.heap[p26]?=some (.cells #[.int .i64 0,.slice none 0 0,.string ⟨#[]⟩] 100 (0,0)):=(h29.block _ (Array.getElem?_eq_some_iff.1 b28).1).trans b28
  clear h29
  try go_wp2_with fail
  refine hK.out _ _ (HS.out _ g29).1 (fun hHeld=>?_)
  clear hK K
  try simp only[Act.put]
  refine wpAnyH_ready (rs:=[10]) (by kernel_rfl) (by simp) ?_
  refine AllReadyH.cons rfl (fun K hK=>?_) AllReadyH.nil
  go_simp
  obtain⟨s30,hs30⟩:∃ x,x=(y29).alloc (.cells #[.string ⟨#[69,84,97,103]⟩,.string ⟨tg.toArray⟩,.string ⟨#[76,97,115,116,45,77,111,100,105,102,105,101,100]⟩,.string ⟨st.toArray⟩,.string ⟨#[86,101,114,115,105,111,110]⟩,.string ⟨nn.toArray⟩] 151):=⟨_,rfl⟩
  rw[<- hs30]
  obtain⟨q30,hq30⟩:∃ x,x=(y29).heap.size:=⟨_,rfl⟩
  rw[<- hq30]
  have g30:Below X.heap.size X s30:=by rw[hs30];exact g29.alloc g29.size _
  have k30:s30.heap[q30]?=some (.cells #[.string ⟨#[69,84,97,103]⟩,.string ⟨tg.toArray⟩,.string ⟨#[76,97,115,116,45,77,111,100,105,102,105,101,100]⟩,.string ⟨st.toArray⟩,.string ⟨#[86,101,114,115,105,111,110]⟩,.string ⟨nn.toArray⟩] 151 (0,0)):=by rw[hs30,hq30];exact heap_alloc_new _ _
  have b30:s30.heap[p26]?=some (.cells #[.int .i64 0,.slice none 0 0,.string ⟨#[]⟩] 100 (0,0)):=by rw[hs30];exact (heap_alloc_old _ _ (Array.getElem?_eq_some_iff.1 b29).1).trans b29
  clear hs30 hq30
  refine hK.out _ _ (HS.out _ g30).1 (fun hHeld=>?_)
  clear hK K
  try simp only[Act.put]
  refine wpAnyH_ready (rs:=[11]) (by kernel_rfl) (by simp) ?_
  refine AllReadyH.cons rfl (fun K hK=>?_) AllReadyH.nil
  go_simp
  refine (answer_any 200 (some ⟨q30,0,none⟩) 3 3 s30).mono ?_
  rintro e y31 ⟨rfl,h31⟩
  have g31:Below X.heap.size X y31:=g30.trans (h31.mono g30.size)
  have b31:y31.heap[p26]?=some (.cells #[.int .i64 0,.slice none 0 0,.string ⟨#[]⟩] 100 (0,0)):=(h31.block _ (Array.getElem?_eq_some_iff.1 b30).1).trans b30
  have k31:y31.heap[q30]?=some (.cells #[.string ⟨#[69,84,97,103]⟩,.string ⟨tg.toArray⟩,.string ⟨#[76,97,115,116,45,77,111,100,105,102,105,101,100]⟩,.string ⟨st.toArray⟩,.string ⟨#[86,101,114,115,105,111,110]⟩,.string ⟨nn.toArray⟩] 151 (0,0)):=(h31.block _ (Array.getElem?_eq_some_iff.1 k30).1).trans k30
  clear h31
  try go_wp2_with fail
  refine hK.out _ _ (HS.out _ g31).1 (fun hHeld=>?_)
  clear hK K
  try simp only[Act.put]
  refine wpAnyH_ready (rs:=[13]) (by kernel_rfl) (by simp) ?_
  refine AllReadyH.cons rfl (fun K hK=>?_) AllReadyH.nil
  have c0:(y31).cell? ⟨p26,0,none⟩=some (.int .i64 0):=by simp[World.cell?,b31]
  have c1:(y31).cell? ⟨p26,1,none⟩=some (.slice none 0 0):=by simp[World.cell?,b31]
  have c2:(y31).cell? ⟨p26,2,none⟩=some (.string ⟨#[]⟩):=by simp[World.cell?,b31]
  have f0:(y31).frozen? ⟨p26,0,none⟩=false:=by simp[World.frozen?,b31]
  have f1:(y31).frozen? ⟨p26,1,none⟩=false:=by simp[World.frozen?,b31]
  have f2:(y31).frozen? ⟨p26,2,none⟩=false:=by simp[World.frozen?,b31]
  have hne:w.heap.size≠p26:=by have:=l26;omega
  go_simp
  refine hK.out _ _ ⟨?_,?_,?_⟩ (fun hHeld=>?_)
  ·rw[cell_set_far hne,cell_set_far hne,cell_set_far hne];exact (HS.out _ g31).1.1
  ·rw[cell_set_far hne,cell_set_far hne,cell_set_far hne];exact (HS.out _ g31).1.2.1
  ·rw[cell_set_far hne,cell_set_far hne,cell_set_far hne];exact (HS.out _ g31).1.2.2
  clear hK K
  try simp only[Act.put]
  refine wpAnyH_done (by kernel_rfl) ?_ _
  refine NoPanic.normal ?_
  exact TAIL.out p26 q30 _ (g31) (b31) (k31) (l26)
end Go.Proofs.YtmehkneofinmiaaGreatDoor

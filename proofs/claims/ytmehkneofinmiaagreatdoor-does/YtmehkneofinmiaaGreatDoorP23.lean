/-
 Texts of this proof, part 23.
-/
import Derived.Test.YtmehkneofinmiaaGreatDoorP20
set_option maxRecDepth 100000
set_option maxHeartbeats 4000000
namespace Go.Proofs.YtmehkneofinmiaaGreatDoor
open Go.RowKit
theorem hiFld:(Tryz.prog.info? 151).map (·.size)=some 2:=by kernel_rfl
theorem refuse_any (t:Int)(w:World):Calls Tryz.prog 41 #[.int .i64 t] w fun e w'=>e=.returned (.agg #[.int .i64 t,.slice none 0 0,.string ⟨#[]⟩])/\Below w.heap.size w w':=by
 go_enter Tryz.func41,Tryz.ntmps41
 go_wp2
 exact bodyPost_ret (v:=.agg #[.int .i64 t,.slice none 0 0,.string ⟨#[]⟩]) (results_row1 Tryz.results41 _ _ w.heap.size 100 _ (0,0) _ rfl (heap_alloc_new _ _) Tryz.underlying100 rfl hiAns) rfl ⟨rfl,(Below.refl _ _).alloc (Nat.le_refl _) _⟩
theorem answer_any (t:Int)(a:Option Addr)(n c:Nat)(w:World):Calls Tryz.prog 144 #[.int .i64 t,.slice a n c] w fun e w'=>e=.returned (.agg #[.int .i64 t,.slice a n c,.string ⟨#[]⟩])/\Below w.heap.size w w':=by
 go_enter Tryz.func144,Tryz.ntmps144
 go_wp2
 exact bodyPost_ret (v:=.agg #[.int .i64 t,.slice a n c,.string ⟨#[]⟩]) (results_row1 Tryz.results144 _ _ w.heap.size 100 _ (0,0) _ rfl (heap_alloc_new _ _) Tryz.underlying100 rfl hiAns) rfl ⟨rfl,(Below.refl _ _).alloc (Nat.le_refl _) _⟩
theorem tagField_any (body:List UInt8)(w:World)(hb:body.length<1000000)(h:Tz w):Calls Tryz.prog 145 #[.string ⟨body.toArray⟩] w fun e w'=>e=.returned (.agg #[.string ⟨#[69,84,97,103]⟩,.string ⟨(qTag body).toArray⟩])/\Below w.heap.size w w':=by
 have hal:Below w.heap.size w (w.alloc (.cells #[.string ⟨#[]⟩,.string ⟨#[]⟩] 151)):=(Below.refl _ _).alloc (Nat.le_refl _) _
 go_enter Tryz.func145,Tryz.ntmps145
 go_wp2_with fail
 refine (quotedTag_any body _ hb (h.below hal)).mono ?_
 rintro e w1 ⟨rfl,hb1⟩
 have hblk:w1.heap[w.heap.size]?=some (.cells #[.string ⟨#[]⟩,.string ⟨#[]⟩] 151 (0,0)):=(hb1.block _ (by simp)).trans (heap_alloc_new _ _)
 have c0:w1.cell? ⟨w.heap.size,0,none⟩=some (.string ⟨#[]⟩):=by simp[World.cell?,hblk]
 have c1:w1.cell? ⟨w.heap.size,1,none⟩=some (.string ⟨#[]⟩):=by simp[World.cell?,hblk]
 have f0:w1.frozen? ⟨w.heap.size,0,none⟩=false:=by simp[World.frozen?,hblk]
 have f1:w1.frozen? ⟨w.heap.size,1,none⟩=false:=by simp[World.frozen?,hblk]
 have HB:Hid (Below w.heap.size w w1):=hal.trans (hb1.mono (by simp))
 have HK:Hid _:=hblk
 clear hblk hb1 hal
 go_wp2
 have hs:=heap_set (i:=1) (v:=.string ⟨(qTag body).toArray⟩) (heap_set (i:=0) (v:=.string ⟨#[69,84,97,103]⟩) HK.out)
 exact bodyPost_ret (v:=.agg #[.string ⟨#[69,84,97,103]⟩,.string ⟨(qTag body).toArray⟩]) (results_row1 Tryz.results145 _ _ w.heap.size 151 _ (0,0) _ rfl hs Tryz.underlying151 rfl hiFld) rfl ⟨rfl,(HB.out.setCell (p:=⟨w.heap.size,0,none⟩) (Nat.le_refl _) _).setCell (p:=⟨w.heap.size,1,none⟩) (Nat.le_refl _) _⟩
theorem numberField_any (n:Nat)(w:World)(hn:n<1000000000000000)(h:Tab w):Calls Tryz.prog 146 #[.int .i64 n] w fun e w'=>e=.returned (.agg #[.string ⟨#[86,101,114,115,105,111,110]⟩,.string ⟨(Lib.decDigits n).toArray⟩])/\Below w.heap.size w w':=by
 have hal:Below w.heap.size w (w.alloc (.cells #[.string ⟨#[]⟩,.string ⟨#[]⟩] 151)):=(Below.refl _ _).alloc (Nat.le_refl _) _
 go_enter Tryz.func146,Tryz.ntmps146
 go_wp2_with fail
 refine (itoaN n _ hn (h.below hal)).mono ?_
 rintro e w1 ⟨rfl,hb1⟩
 have hblk:w1.heap[w.heap.size]?=some (.cells #[.string ⟨#[]⟩,.string ⟨#[]⟩] 151 (0,0)):=(hb1.block _ (by simp)).trans (heap_alloc_new _ _)
 have c0:w1.cell? ⟨w.heap.size,0,none⟩=some (.string ⟨#[]⟩):=by simp[World.cell?,hblk]
 have c1:w1.cell? ⟨w.heap.size,1,none⟩=some (.string ⟨#[]⟩):=by simp[World.cell?,hblk]
 have f0:w1.frozen? ⟨w.heap.size,0,none⟩=false:=by simp[World.frozen?,hblk]
 have f1:w1.frozen? ⟨w.heap.size,1,none⟩=false:=by simp[World.frozen?,hblk]
 have HB:Hid (Below w.heap.size w w1):=hal.trans (hb1.mono (by simp))
 have HK:Hid _:=hblk
 obtain⟨D,hD⟩:∃ D,Lib.decDigits n=D:=⟨_,rfl⟩
 rw[hD]
 have HD:Hid _:=hD
 clear hblk hb1 hal hD
 go_wp2
 rw[HD.out]
 have hs:=heap_set (i:=1) (v:=.string ⟨D.toArray⟩) (heap_set (i:=0) (v:=.string ⟨#[86,101,114,115,105,111,110]⟩) HK.out)
 exact bodyPost_ret (v:=.agg #[.string ⟨#[86,101,114,115,105,111,110]⟩,.string ⟨D.toArray⟩]) (results_row1 Tryz.results146 _ _ w.heap.size 151 _ (0,0) _ rfl hs Tryz.underlying151 rfl hiFld) rfl ⟨rfl,(HB.out.setCell (p:=⟨w.heap.size,0,none⟩) (Nat.le_refl _) _).setCell (p:=⟨w.heap.size,1,none⟩) (Nat.le_refl _) _⟩
theorem tellVersions_none (p:Nat)(E:Ent)(vs:Value)(w:World)(hE:EntAt w p E vs)(h0:E.vers=[]) :
 Calls Tryz.prog 89 #[.pointer (some ⟨p,0,none⟩)] w fun e w'=>e=.returned (.agg #[.int .i64 404,.slice none 0 0,.string ⟨#[]⟩])/\Below w.heap.size w w':=by
 have hvs:∃ a c,vs=.slice a 0 c:=by
  rcases hE.row.2 with ⟨rfl,_⟩|⟨g,cap,cur,hv,_⟩
  ·exact⟨_,_,rfl⟩
  ·rw[h0] at hv;exact⟨_,_,hv⟩
 obtain⟨a,c,rfl⟩:=hvs
 have c2:=hE.c2
 have hlt:=hE.lt
 have hal:Below w.heap.size w (w.alloc (.cells #[.int .i64 0,.slice none 0 0,.string ⟨#[]⟩] 100)):=(Below.refl _ _).alloc (Nat.le_refl _) _
 clear hE
 go_enter Tryz.func89,Tryz.ntmps89
 go_wp2_with fail
 refine (refuse_any 404 _).mono ?_
 rintro e w1 ⟨rfl,hb1⟩
 have hblk:w1.heap[w.heap.size]?=some (.cells #[.int .i64 0,.slice none 0 0,.string ⟨#[]⟩] 100 (0,0)):=(hb1.block _ (by simp)).trans (heap_alloc_new _ _)
 have d0:w1.cell? ⟨w.heap.size,0,none⟩=some (.int .i64 0):=by simp[World.cell?,hblk]
 have d1:w1.cell? ⟨w.heap.size,1,none⟩=some (.slice none 0 0):=by simp[World.cell?,hblk]
 have d2:w1.cell? ⟨w.heap.size,2,none⟩=some (.string ⟨#[]⟩):=by simp[World.cell?,hblk]
 have f0:w1.frozen? ⟨w.heap.size,0,none⟩=false:=by simp[World.frozen?,hblk]
 have f1:w1.frozen? ⟨w.heap.size,1,none⟩=false:=by simp[World.frozen?,hblk]
 have f2:w1.frozen? ⟨w.heap.size,2,none⟩=false:=by simp[World.frozen?,hblk]
 have HB:Hid (Below w.heap.size w w1):=hal.trans (hb1.mono (by simp))
 have HK:Hid _:=hblk
 clear hblk hb1 hal
 go_wp2
 have hs:=heap_set (i:=2) (v:=.string ⟨#[]⟩) (heap_set (i:=1) (v:=.slice none 0 0) (heap_set (i:=0) (v:=.int .i64 404) HK.out))
 exact bodyPost_ret (v:=.agg #[.int .i64 404,.slice none 0 0,.string ⟨#[]⟩]) (results_row1 Tryz.results89 _ _ w.heap.size 100 _ (0,0) _ rfl hs Tryz.underlying100 rfl hiAns) rfl ⟨rfl,((HB.out.setCell (p:=⟨w.heap.size,0,none⟩) (Nat.le_refl _) _).setCell (p:=⟨w.heap.size,1,none⟩) (Nat.le_refl _) _).setCell (p:=⟨w.heap.size,2,none⟩) (Nat.le_refl _) _⟩
theorem cell_drew (x:World)(a:Addr):x.drew.cell? a=x.cell? a:=rfl
theorem cell_set_far {w:World}{b i c j:Nat}{v:Value}(h:c≠b):(w.setCell ⟨b,i,none⟩ v).cell? ⟨c,j,none⟩=w.cell? ⟨c,j,none⟩ :=
 World.cell?_setCell_other _ _ _ _ (by intro e;injection e with e1;exact h e1.symm)
theorem hiRec:(Tryz.prog.info? 181).map (·.size)=some 5:=by kernel_rfl
def wantF (E:Ent)(m:Nat)(t:Tgt)(body:List UInt8):Nat×Nat×List UInt8 :=
 if m=2 then (1,E.last+1,body) else if t.kind=2 then (3,t.num,[]) else (2,E.last+1,[])
theorem wanted_put (p:Nat)(E:Ent)(vs:Value)(t:Tgt)(wr:Bool)(c:Cst)(body:List UInt8)(w:World)(h:EntAt w p E vs)(hl:E.last<4611686018427387904)(e1:∃ a n m,c.lm=.slice a n m)(e2:∃ a n m,c.ln=.slice a n m) :
 Calls Tryz.prog 93 #[reqV 2 t wr c body,.pointer (some ⟨p,0,none⟩)] w fun e w'=>e=.returned (recA 1 0 E.key (E.last+1) body)/\Below w.heap.size w w':=by
 obtain⟨a1,m1,p1,e1⟩:=e1
 obtain⟨a2,m2,p2,e2⟩:=e2
 unfold reqV
 rw[e1,e2]
 have HE:Hid _:=h
 clear h
 go_enter Tryz.func93,Tryz.ntmps93
 go_wp2_with fail
 obtain⟨X,hX⟩:∃ X,X=((w.alloc (.cells #[.int .i64 2,.int .i64 (t.kind:Int),.string ⟨t.key.toArray⟩,.int .i64 (t.num:Int),.bool wr,.bool c.hm,.bool c.am,.slice a1 m1 p1,.bool c.hn,.bool c.an,.slice a2 m2 p2,.bool c.hs,.int .i64 c.si,.bool c.hu,.int .i64 c.ul,.bool false,.string ⟨#[]⟩,.int .i64 0,.string ⟨body.toArray⟩] 95)).alloc (.cells #[.int .u8 0,.int .i64 0,.string ⟨#[]⟩,.int .i64 0,.string ⟨#[]⟩] 181)):=⟨_,rfl⟩
 rw[<- hX]
 have hal:Below w.heap.size w X:=by rw[hX];exact ((Below.refl _ _).alloc (Nat.le_refl _) _).alloc (by simp) _
 have hQ:X.heap[w.heap.size]?=some (.cells #[.int .i64 2,.int .i64 (t.kind:Int),.string ⟨t.key.toArray⟩,.int .i64 (t.num:Int),.bool wr,.bool c.hm,.bool c.am,.slice a1 m1 p1,.bool c.hn,.bool c.an,.slice a2 m2 p2,.bool c.hs,.int .i64 c.si,.bool c.hu,.int .i64 c.ul,.bool false,.string ⟨#[]⟩,.int .i64 0,.string ⟨body.toArray⟩] 95 (0,0)):=by
  rw[hX]
  exact (heap_alloc_old _ _ (by simp)).trans (heap_alloc_new _ _)
 have hZ:X.heap[w.heap.size+1]?=some (.cells #[.int .u8 0,.int .i64 0,.string ⟨#[]⟩,.int .i64 0,.string ⟨#[]⟩] 181 (0,0)):=by
  rw[hX]
  have:=heap_alloc_new (w.alloc (.cells #[.int .i64 2,.int .i64 (t.kind:Int),.string ⟨t.key.toArray⟩,.int .i64 (t.num:Int),.bool wr,.bool c.hm,.bool c.am,.slice a1 m1 p1,.bool c.hn,.bool c.an,.slice a2 m2 p2,.bool c.hs,.int .i64 c.si,.bool c.hu,.int .i64 c.ul,.bool false,.string ⟨#[]⟩,.int .i64 0,.string ⟨body.toArray⟩] 95)) (.cells #[.int .u8 0,.int .i64 0,.string ⟨#[]⟩,.int .i64 0,.string ⟨#[]⟩] 181)
  simpa using this
 clear hX
 generalize (Value.agg #[.int .i64 ((2:Nat):Int),.int .i64 (t.kind:Int),.string ⟨t.key.toArray⟩,.int .i64 (t.num:Int),.bool wr,.bool c.hm,.bool c.am,.slice a1 m1 p1,.bool c.hn,.bool c.an,.slice a2 m2 p2,.bool c.hs,.int .i64 c.si,.bool c.hu,.int .i64 c.ul,.bool false,.string ⟨#[]⟩,.int .i64 0,.string ⟨body.toArray⟩])=Qv
 have hE:=HE.out.below hal
 have k0:X.cell? ⟨p,0,none⟩=some (.string ⟨E.key.toArray⟩):=hE.c0
 have q18:X.cell? ⟨w.heap.size,18,none⟩=some (.string ⟨body.toArray⟩):=by simp[World.cell?,hQ]
 have q3:X.cell? ⟨w.heap.size,3,none⟩=some (.int .i64 (t.num:Int)):=by simp[World.cell?,hQ]
 have z0:X.cell? ⟨w.heap.size+1,0,none⟩=some (.int .u8 0):=by simp[World.cell?,hZ]
 have z1:X.cell? ⟨w.heap.size+1,1,none⟩=some (.int .i64 0):=by simp[World.cell?,hZ]
 have z2:X.cell? ⟨w.heap.size+1,2,none⟩=some (.string ⟨#[]⟩):=by simp[World.cell?,hZ]
 have z3:X.cell? ⟨w.heap.size+1,3,none⟩=some (.int .i64 0):=by simp[World.cell?,hZ]
 have z4:X.cell? ⟨w.heap.size+1,4,none⟩=some (.string ⟨#[]⟩):=by simp[World.cell?,hZ]
 have zf0:X.frozen? ⟨w.heap.size+1,0,none⟩=false:=by simp[World.frozen?,hZ]
 have zf1:X.frozen? ⟨w.heap.size+1,1,none⟩=false:=by simp[World.frozen?,hZ]
 have zf2:X.frozen? ⟨w.heap.size+1,2,none⟩=false:=by simp[World.frozen?,hZ]
 have zf3:X.frozen? ⟨w.heap.size+1,3,none⟩=false:=by simp[World.frozen?,hZ]
 have zf4:X.frozen? ⟨w.heap.size+1,4,none⟩=false:=by simp[World.frozen?,hZ]
 have hne:p≠w.heap.size+1:=by have:=HE.out.lt;omega
 have hwne:w.heap.size≠w.heap.size+1:=by omega
 have HEX:Hid (EntAt X.drew p E vs):=⟨hE.blk,hE.row⟩
 have HZ:Hid _:=hZ
 have HL:Hid _:=hal
 clear hE hQ hZ hal
 refine wp_region_held_drew (S:=(fun y=>y.cell? ⟨p,0,none⟩=some (.string ⟨E.key.toArray⟩)/\y.cell? ⟨w.heap.size,18,none⟩=some (.string ⟨body.toArray⟩))) (by kernel_rfl) ⟨k0,q18⟩ (fun hHeld=>?_)
 refine tkH 0 rfl (by kernel_rfl) (fun _ _ _ h=>h) (Or.inl ⟨by rfl,fun y hSw=>by go_simp;try with_reducible rfl⟩) hHeld ?_
 try simp only[Act.put]
 refine tkH 1 rfl (by kernel_rfl) (fun _ _ _ h=>h) (Or.inl ⟨by rfl,fun y hSw=>by go_simp;try with_reducible rfl⟩) hHeld ?_
 try simp only[Act.put]
 refine tkH 2 rfl (by kernel_rfl) (fun _ _ _ h=>h) (Or.inl ⟨by rfl,fun y hSw=>by go_simp;try with_reducible rfl⟩) hHeld ?_
 try simp only[Act.put]
 refine tkH 3 rfl (by kernel_rfl) (fun _ _ _ h=>h) (Or.inl ⟨by rfl,fun y hSw=>by go_simp;try with_reducible rfl⟩) hHeld ?_
 try simp only[Act.put]
 refine tkH 4 rfl (by kernel_rfl) (fun _ _ _ h=>h) (Or.inl ⟨by rfl,fun y hSw=>by go_simp;try with_reducible rfl⟩) hHeld ?_
 try simp only[Act.put]
 refine tkH 6 rfl (by kernel_rfl) (fun _ _ _ h=>h) (Or.inl ⟨by rfl,fun y hSw=>by go_simp;try with_reducible rfl⟩) hHeld ?_
 try simp only[Act.put]
 refine tkH 7 rfl (by kernel_rfl) (fun _ _ _ h=>h) (Or.inl ⟨by rfl,fun y hSw=>by go_simp;try with_reducible rfl⟩) hHeld ?_
 try simp only[Act.put]
 refine wpAnyH_ready (rs:=[5]) (by kernel_rfl) (by simp) ?_
 refine AllReadyH.cons rfl (fun K hK=>?_) AllReadyH.nil
 go_simp
 refine (next_any p E vs X.drew HEX.out hl).mono ?_
 rintro e w1 ⟨rfl,rfl⟩
 try go_wp2_with fail
 refine hK.out _ _ hHeld (fun hHeld1=>?_)
 clear hK K
 try simp only[Act.put]
 refine tkH 8 rfl (by kernel_rfl) (fun _ _ _ h=>h) (Or.inl ⟨by rfl,fun y hSw=>by go_simp;try with_reducible rfl⟩) hHeld1 ?_
 try simp only[Act.put]
 refine wpAnyH_ready (rs:=[9]) (by kernel_rfl) (by simp) ?_
 refine AllReadyH.cons rfl (fun K hK=>?_) AllReadyH.nil
 go_simp
 refine hK.out _ _ ?_ (fun hHeld4=>?_)
 ·constructor
  ·rw[cell_drew,cell_set_far hne,cell_set_far hne,cell_set_far hne,cell_set_far hne,cell_set_far hne];exact k0
  ·rw[cell_drew,cell_set_far hwne,cell_set_far hwne,cell_set_far hwne,cell_set_far hwne,cell_set_far hwne];exact q18
 clear hK K
 try simp only[Act.put]
 refine wpAnyH_done (by kernel_rfl) ?_ _
 go_wp2
 have hs:=heap_set (i:=4) (v:=.string ⟨body.toArray⟩) (heap_set (i:=3) (v:=.int .i64 ((E.last+1:Nat):Int)) (heap_set (i:=2) (v:=.string ⟨E.key.toArray⟩) (heap_set (i:=1) (v:=.int .i64 0) (heap_set (i:=0) (v:=.int .u8 1) (HZ.out)))))
 exact bodyPost_ret (v:=recA 1 0 E.key (E.last+1) body) (results_row1 Tryz.results93 _ _ (w.heap.size+1) 181 _ (0,0) _ rfl hs Tryz.underlying181 rfl hiRec) rfl ⟨rfl,(((((HL.out.setCell (p:=⟨w.heap.size+1,0,none⟩) (Nat.le_succ _) _).setCell (p:=⟨w.heap.size+1,1,none⟩) (Nat.le_succ _) _).setCell (p:=⟨w.heap.size+1,2,none⟩) (Nat.le_succ _) _).setCell (p:=⟨w.heap.size+1,3,none⟩) (Nat.le_succ _) _).setCell (p:=⟨w.heap.size+1,4,none⟩) (Nat.le_succ _) _).drew⟩
theorem wanted_rm (p:Nat)(E:Ent)(vs:Value)(m:Nat)(t:Tgt)(wr:Bool)(c:Cst)(body:List UInt8)(w:World)(h:EntAt w p E vs)(hm:((m:Int)==2)=false)(hk:((t.kind:Int)==2)=true)(e1:∃ a n m,c.lm=.slice a n m)(e2:∃ a n m,c.ln=.slice a n m) :
 Calls Tryz.prog 93 #[reqV m t wr c body,.pointer (some ⟨p,0,none⟩)] w fun e w'=>e=.returned (recA 3 0 E.key t.num [])/\Below w.heap.size w w':=by
 obtain⟨a1,m1,p1,e1⟩:=e1
 obtain⟨a2,m2,p2,e2⟩:=e2
 unfold reqV
 rw[e1,e2]
 have HE:Hid _:=h
 clear h
 go_enter Tryz.func93,Tryz.ntmps93
 go_wp2_with fail
 obtain⟨X,hX⟩:∃ X,X=((w.alloc (.cells #[.int .i64 (m:Int),.int .i64 (t.kind:Int),.string ⟨t.key.toArray⟩,.int .i64 (t.num:Int),.bool wr,.bool c.hm,.bool c.am,.slice a1 m1 p1,.bool c.hn,.bool c.an,.slice a2 m2 p2,.bool c.hs,.int .i64 c.si,.bool c.hu,.int .i64 c.ul,.bool false,.string ⟨#[]⟩,.int .i64 0,.string ⟨body.toArray⟩] 95)).alloc (.cells #[.int .u8 0,.int .i64 0,.string ⟨#[]⟩,.int .i64 0,.string ⟨#[]⟩] 181)):=⟨_,rfl⟩
 rw[<- hX]
 have hal:Below w.heap.size w X:=by rw[hX];exact ((Below.refl _ _).alloc (Nat.le_refl _) _).alloc (by simp) _
 have hQ:X.heap[w.heap.size]?=some (.cells #[.int .i64 (m:Int),.int .i64 (t.kind:Int),.string ⟨t.key.toArray⟩,.int .i64 (t.num:Int),.bool wr,.bool c.hm,.bool c.am,.slice a1 m1 p1,.bool c.hn,.bool c.an,.slice a2 m2 p2,.bool c.hs,.int .i64 c.si,.bool c.hu,.int .i64 c.ul,.bool false,.string ⟨#[]⟩,.int .i64 0,.string ⟨body.toArray⟩] 95 (0,0)):=by
  rw[hX]
  exact (heap_alloc_old _ _ (by simp)).trans (heap_alloc_new _ _)
 have hZ:X.heap[w.heap.size+1]?=some (.cells #[.int .u8 0,.int .i64 0,.string ⟨#[]⟩,.int .i64 0,.string ⟨#[]⟩] 181 (0,0)):=by
  rw[hX]
  have:=heap_alloc_new (w.alloc (.cells #[.int .i64 (m:Int),.int .i64 (t.kind:Int),.string ⟨t.key.toArray⟩,.int .i64 (t.num:Int),.bool wr,.bool c.hm,.bool c.am,.slice a1 m1 p1,.bool c.hn,.bool c.an,.slice a2 m2 p2,.bool c.hs,.int .i64 c.si,.bool c.hu,.int .i64 c.ul,.bool false,.string ⟨#[]⟩,.int .i64 0,.string ⟨body.toArray⟩] 95)) (.cells #[.int .u8 0,.int .i64 0,.string ⟨#[]⟩,.int .i64 0,.string ⟨#[]⟩] 181)
  simpa using this
 clear hX
 generalize (Value.agg #[.int .i64 (m:Int),.int .i64 (t.kind:Int),.string ⟨t.key.toArray⟩,.int .i64 (t.num:Int),.bool wr,.bool c.hm,.bool c.am,.slice a1 m1 p1,.bool c.hn,.bool c.an,.slice a2 m2 p2,.bool c.hs,.int .i64 c.si,.bool c.hu,.int .i64 c.ul,.bool false,.string ⟨#[]⟩,.int .i64 0,.string ⟨body.toArray⟩])=Qv
 have hE:=HE.out.below hal
 have k0:X.cell? ⟨p,0,none⟩=some (.string ⟨E.key.toArray⟩):=hE.c0
 have q18:X.cell? ⟨w.heap.size,18,none⟩=some (.string ⟨body.toArray⟩):=by simp[World.cell?,hQ]
 have q3:X.cell? ⟨w.heap.size,3,none⟩=some (.int .i64 (t.num:Int)):=by simp[World.cell?,hQ]
 have z0:X.cell? ⟨w.heap.size+1,0,none⟩=some (.int .u8 0):=by simp[World.cell?,hZ]
 have z1:X.cell? ⟨w.heap.size+1,1,none⟩=some (.int .i64 0):=by simp[World.cell?,hZ]
 have z2:X.cell? ⟨w.heap.size+1,2,none⟩=some (.string ⟨#[]⟩):=by simp[World.cell?,hZ]
 have z3:X.cell? ⟨w.heap.size+1,3,none⟩=some (.int .i64 0):=by simp[World.cell?,hZ]
 have z4:X.cell? ⟨w.heap.size+1,4,none⟩=some (.string ⟨#[]⟩):=by simp[World.cell?,hZ]
 have zf0:X.frozen? ⟨w.heap.size+1,0,none⟩=false:=by simp[World.frozen?,hZ]
 have zf1:X.frozen? ⟨w.heap.size+1,1,none⟩=false:=by simp[World.frozen?,hZ]
 have zf2:X.frozen? ⟨w.heap.size+1,2,none⟩=false:=by simp[World.frozen?,hZ]
 have zf3:X.frozen? ⟨w.heap.size+1,3,none⟩=false:=by simp[World.frozen?,hZ]
 have zf4:X.frozen? ⟨w.heap.size+1,4,none⟩=false:=by simp[World.frozen?,hZ]
 have hne:p≠w.heap.size+1:=by have:=HE.out.lt;omega
 have hwne:w.heap.size≠w.heap.size+1:=by omega
 have HEX:Hid (EntAt X.drew p E vs):=⟨hE.blk,hE.row⟩
 have HZ:Hid _:=hZ
 have HL:Hid _:=hal
 clear hE hQ hZ hal
 refine wp_region_held_drew (S:=(fun y=>y.cell? ⟨p,0,none⟩=some (.string ⟨E.key.toArray⟩)/\y.cell? ⟨w.heap.size,3,none⟩=some (.int .i64 (t.num:Int)))) (by kernel_rfl) ⟨k0,q3⟩ (fun hHeld=>?_)
 refine tkH 0 rfl (by kernel_rfl) (fun _ _ _ h=>h) (Or.inl ⟨by rfl,fun y hSw=>by go_simp;try with_reducible rfl⟩) hHeld ?_
 try simp only[Act.put]
 refine tkH 1 rfl (by kernel_rfl) (fun _ _ _ h=>h) (Or.inl ⟨by rfl,fun y hSw=>by go_simp;try with_reducible rfl⟩) hHeld ?_
 try simp only[Act.put]
 refine tkH 2 rfl (by kernel_rfl) (fun _ _ _ h=>h) (Or.inl ⟨by rfl,fun y hSw=>by go_simp;try with_reducible rfl⟩) hHeld ?_
 try simp only[Act.put]
 refine tkH 3 rfl (by kernel_rfl) (fun _ _ _ h=>h) (Or.inl ⟨by rfl,fun y hSw=>by go_simp;try with_reducible rfl⟩) hHeld ?_
 try simp only[Act.put]
 refine tkH 4 rfl (by kernel_rfl) (fun _ _ _ h=>h) (Or.inl ⟨by rfl,fun y hSw=>by go_simp;try with_reducible rfl⟩) hHeld ?_
 try simp only[Act.put]
 refine tkH 5 rfl (by kernel_rfl) (fun _ _ _ h=>h) (Or.inl ⟨by rfl,fun y hSw=>by go_simp;try with_reducible rfl⟩) hHeld ?_
 try simp only[Act.put]
 refine tkH 6 rfl (by kernel_rfl) (fun _ _ _ h=>h) (Or.inl ⟨by rfl,fun y hSw=>by go_simp;try with_reducible rfl⟩) hHeld ?_
 try simp only[Act.put]
 refine tkH 7 rfl (by kernel_rfl) (fun _ _ _ h=>h) (Or.inl ⟨by rfl,fun y hSw=>by go_simp;try with_reducible rfl⟩) hHeld ?_
 try simp only[Act.put]
 refine wpAnyH_ready (rs:=[8]) (by kernel_rfl) (by simp) ?_
 refine AllReadyH.cons rfl (fun K hK=>?_) AllReadyH.nil
 go_simp
 refine hK.out _ _ ?_ (fun hHeld4=>?_)
 ·constructor
  ·rw[cell_drew,cell_set_far hne,cell_set_far hne,cell_set_far hne,cell_set_far hne,cell_set_far hne];exact k0
  ·rw[cell_drew,cell_set_far hwne,cell_set_far hwne,cell_set_far hwne,cell_set_far hwne,cell_set_far hwne];exact q3
 clear hK K
 try simp only[Act.put]
 refine wpAnyH_done (by kernel_rfl) ?_ _
 go_wp2
 have hs:=heap_set (i:=4) (v:=.string ⟨#[]⟩) (heap_set (i:=3) (v:=.int .i64 (t.num:Int)) (heap_set (i:=2) (v:=.string ⟨E.key.toArray⟩) (heap_set (i:=1) (v:=.int .i64 0) (heap_set (i:=0) (v:=.int .u8 3) (HZ.out)))))
 exact bodyPost_ret (v:=recA 3 0 E.key t.num []) (results_row1 Tryz.results93 _ _ (w.heap.size+1) 181 _ (0,0) _ rfl hs Tryz.underlying181 rfl hiRec) rfl ⟨rfl,(((((HL.out.setCell (p:=⟨w.heap.size+1,0,none⟩) (Nat.le_succ _) _).setCell (p:=⟨w.heap.size+1,1,none⟩) (Nat.le_succ _) _).setCell (p:=⟨w.heap.size+1,2,none⟩) (Nat.le_succ _) _).setCell (p:=⟨w.heap.size+1,3,none⟩) (Nat.le_succ _) _).setCell (p:=⟨w.heap.size+1,4,none⟩) (Nat.le_succ _) _).drew⟩
theorem wanted_mark (p:Nat)(E:Ent)(vs:Value)(m:Nat)(t:Tgt)(wr:Bool)(c:Cst)(body:List UInt8)(w:World)(h:EntAt w p E vs)(hm:((m:Int)==2)=false)(hk:((t.kind:Int)==2)=false)(hl:E.last<4611686018427387904)(e1:∃ a n m,c.lm=.slice a n m)(e2:∃ a n m,c.ln=.slice a n m) :
 Calls Tryz.prog 93 #[reqV m t wr c body,.pointer (some ⟨p,0,none⟩)] w fun e w'=>e=.returned (recA 2 0 E.key (E.last+1) [])/\Below w.heap.size w w':=by
 obtain⟨a1,m1,p1,e1⟩:=e1
 obtain⟨a2,m2,p2,e2⟩:=e2
 unfold reqV
 rw[e1,e2]
 have HE:Hid _:=h
 clear h
 go_enter Tryz.func93,Tryz.ntmps93
 go_wp2_with fail
 obtain⟨X,hX⟩:∃ X,X=((w.alloc (.cells #[.int .i64 (m:Int),.int .i64 (t.kind:Int),.string ⟨t.key.toArray⟩,.int .i64 (t.num:Int),.bool wr,.bool c.hm,.bool c.am,.slice a1 m1 p1,.bool c.hn,.bool c.an,.slice a2 m2 p2,.bool c.hs,.int .i64 c.si,.bool c.hu,.int .i64 c.ul,.bool false,.string ⟨#[]⟩,.int .i64 0,.string ⟨body.toArray⟩] 95)).alloc (.cells #[.int .u8 0,.int .i64 0,.string ⟨#[]⟩,.int .i64 0,.string ⟨#[]⟩] 181)):=⟨_,rfl⟩
 rw[<- hX]
 have hal:Below w.heap.size w X:=by rw[hX];exact ((Below.refl _ _).alloc (Nat.le_refl _) _).alloc (by simp) _
 have hQ:X.heap[w.heap.size]?=some (.cells #[.int .i64 (m:Int),.int .i64 (t.kind:Int),.string ⟨t.key.toArray⟩,.int .i64 (t.num:Int),.bool wr,.bool c.hm,.bool c.am,.slice a1 m1 p1,.bool c.hn,.bool c.an,.slice a2 m2 p2,.bool c.hs,.int .i64 c.si,.bool c.hu,.int .i64 c.ul,.bool false,.string ⟨#[]⟩,.int .i64 0,.string ⟨body.toArray⟩] 95 (0,0)):=by
  rw[hX]
  exact (heap_alloc_old _ _ (by simp)).trans (heap_alloc_new _ _)
 have hZ:X.heap[w.heap.size+1]?=some (.cells #[.int .u8 0,.int .i64 0,.string ⟨#[]⟩,.int .i64 0,.string ⟨#[]⟩] 181 (0,0)):=by
  rw[hX]
  have:=heap_alloc_new (w.alloc (.cells #[.int .i64 (m:Int),.int .i64 (t.kind:Int),.string ⟨t.key.toArray⟩,.int .i64 (t.num:Int),.bool wr,.bool c.hm,.bool c.am,.slice a1 m1 p1,.bool c.hn,.bool c.an,.slice a2 m2 p2,.bool c.hs,.int .i64 c.si,.bool c.hu,.int .i64 c.ul,.bool false,.string ⟨#[]⟩,.int .i64 0,.string ⟨body.toArray⟩] 95)) (.cells #[.int .u8 0,.int .i64 0,.string ⟨#[]⟩,.int .i64 0,.string ⟨#[]⟩] 181)
  simpa using this
 clear hX
 generalize (Value.agg #[.int .i64 (m:Int),.int .i64 (t.kind:Int),.string ⟨t.key.toArray⟩,.int .i64 (t.num:Int),.bool wr,.bool c.hm,.bool c.am,.slice a1 m1 p1,.bool c.hn,.bool c.an,.slice a2 m2 p2,.bool c.hs,.int .i64 c.si,.bool c.hu,.int .i64 c.ul,.bool false,.string ⟨#[]⟩,.int .i64 0,.string ⟨body.toArray⟩])=Qv
 have hE:=HE.out.below hal
 have k0:X.cell? ⟨p,0,none⟩=some (.string ⟨E.key.toArray⟩):=hE.c0
 have q18:X.cell? ⟨w.heap.size,18,none⟩=some (.string ⟨body.toArray⟩):=by simp[World.cell?,hQ]
 have q3:X.cell? ⟨w.heap.size,3,none⟩=some (.int .i64 (t.num:Int)):=by simp[World.cell?,hQ]
 have z0:X.cell? ⟨w.heap.size+1,0,none⟩=some (.int .u8 0):=by simp[World.cell?,hZ]
 have z1:X.cell? ⟨w.heap.size+1,1,none⟩=some (.int .i64 0):=by simp[World.cell?,hZ]
 have z2:X.cell? ⟨w.heap.size+1,2,none⟩=some (.string ⟨#[]⟩):=by simp[World.cell?,hZ]
 have z3:X.cell? ⟨w.heap.size+1,3,none⟩=some (.int .i64 0):=by simp[World.cell?,hZ]
 have z4:X.cell? ⟨w.heap.size+1,4,none⟩=some (.string ⟨#[]⟩):=by simp[World.cell?,hZ]
 have zf0:X.frozen? ⟨w.heap.size+1,0,none⟩=false:=by simp[World.frozen?,hZ]
 have zf1:X.frozen? ⟨w.heap.size+1,1,none⟩=false:=by simp[World.frozen?,hZ]
 have zf2:X.frozen? ⟨w.heap.size+1,2,none⟩=false:=by simp[World.frozen?,hZ]
 have zf3:X.frozen? ⟨w.heap.size+1,3,none⟩=false:=by simp[World.frozen?,hZ]
 have zf4:X.frozen? ⟨w.heap.size+1,4,none⟩=false:=by simp[World.frozen?,hZ]
 have hne:p≠w.heap.size+1:=by have:=HE.out.lt;omega
 have hwne:w.heap.size≠w.heap.size+1:=by omega
 have HEX:Hid (EntAt X.drew p E vs):=⟨hE.blk,hE.row⟩
 have HZ:Hid _:=hZ
 have HL:Hid _:=hal
 clear hE hQ hZ hal
 refine wp_region_held_drew (S:=(fun y=>y.cell? ⟨p,0,none⟩=some (.string ⟨E.key.toArray⟩)/\y.cell? ⟨w.heap.size,18,none⟩=some (.string ⟨body.toArray⟩))) (by kernel_rfl) ⟨k0,q18⟩ (fun hHeld=>?_)
 refine tkH 0 rfl (by kernel_rfl) (fun _ _ _ h=>h) (Or.inl ⟨by rfl,fun y hSw=>by go_simp;try with_reducible rfl⟩) hHeld ?_
 try simp only[Act.put]
 refine tkH 1 rfl (by kernel_rfl) (fun _ _ _ h=>h) (Or.inl ⟨by rfl,fun y hSw=>by go_simp;try with_reducible rfl⟩) hHeld ?_
 try simp only[Act.put]
 refine tkH 2 rfl (by kernel_rfl) (fun _ _ _ h=>h) (Or.inl ⟨by rfl,fun y hSw=>by go_simp;try with_reducible rfl⟩) hHeld ?_
 try simp only[Act.put]
 refine tkH 3 rfl (by kernel_rfl) (fun _ _ _ h=>h) (Or.inl ⟨by rfl,fun y hSw=>by go_simp;try with_reducible rfl⟩) hHeld ?_
 try simp only[Act.put]
 refine tkH 4 rfl (by kernel_rfl) (fun _ _ _ h=>h) (Or.inl ⟨by rfl,fun y hSw=>by go_simp;try with_reducible rfl⟩) hHeld ?_
 try simp only[Act.put]
 refine wpAnyH_ready (rs:=[5]) (by kernel_rfl) (by simp) ?_
 refine AllReadyH.cons rfl (fun K hK=>?_) AllReadyH.nil
 go_simp
 refine (next_any p E vs X.drew HEX.out hl).mono ?_
 rintro e w1 ⟨rfl,rfl⟩
 try go_wp2_with fail
 refine hK.out _ _ hHeld (fun hHeld1=>?_)
 clear hK K
 try simp only[Act.put]
 refine tkH 6 rfl (by kernel_rfl) (fun _ _ _ h=>h) (Or.inl ⟨by rfl,fun y hSw=>by go_simp;try with_reducible rfl⟩) hHeld1 ?_
 try simp only[Act.put]
 refine wpAnyH_ready (rs:=[7]) (by kernel_rfl) (by simp) ?_
 refine AllReadyH.cons rfl (fun K hK=>?_) AllReadyH.nil
 go_simp
 refine hK.out _ _ ?_ (fun hHeld4=>?_)
 ·constructor
  ·rw[cell_drew,cell_set_far hne,cell_set_far hne,cell_set_far hne,cell_set_far hne,cell_set_far hne];exact k0
  ·rw[cell_drew,cell_set_far hwne,cell_set_far hwne,cell_set_far hwne,cell_set_far hwne,cell_set_far hwne];exact q18
 clear hK K
 try simp only[Act.put]
 refine wpAnyH_done (by kernel_rfl) ?_ _
 go_wp2
 have hs:=heap_set (i:=4) (v:=.string ⟨#[]⟩) (heap_set (i:=3) (v:=.int .i64 ((E.last+1:Nat):Int)) (heap_set (i:=2) (v:=.string ⟨E.key.toArray⟩) (heap_set (i:=1) (v:=.int .i64 0) (heap_set (i:=0) (v:=.int .u8 2) (HZ.out)))))
 exact bodyPost_ret (v:=recA 2 0 E.key (E.last+1) []) (results_row1 Tryz.results93 _ _ (w.heap.size+1) 181 _ (0,0) _ rfl hs Tryz.underlying181 rfl hiRec) rfl ⟨rfl,(((((HL.out.setCell (p:=⟨w.heap.size+1,0,none⟩) (Nat.le_succ _) _).setCell (p:=⟨w.heap.size+1,1,none⟩) (Nat.le_succ _) _).setCell (p:=⟨w.heap.size+1,2,none⟩) (Nat.le_succ _) _).setCell (p:=⟨w.heap.size+1,3,none⟩) (Nat.le_succ _) _).setCell (p:=⟨w.heap.size+1,4,none⟩) (Nat.le_succ _) _).drew⟩
end Go.Proofs.YtmehkneofinmiaaGreatDoor

/-part 20-/
import Derived.Test.YtmehkneofinmiaaGreatDoorP17
set_option maxRecDepth 100000
set_option maxHeartbeats 4000000
namespace Go.Proofs.YtmehkneofinmiaaGreatDoor
open Go.RowKit
theorem Ai:(Tryz.prog.info? 151).map (·.size)=some 2:=by kernel_rfl
theorem fq (t:Int)(w:World):Calls Tryz.prog 41 #[.int .i64 t] w λ e w'=>e=.returned (.agg #[.int .i64 t,.slice none 0 0,.string ⟨#[]⟩])/\Below w.heap.size w w':=by
 go_enter Tryz.func41,Tryz.ntmps41;go_wp2;exact bodyPost_ret (v:=.agg #[.int .i64 t,.slice none 0 0,.string ⟨#[]⟩]) (aq Tryz.results41 _ _ w.heap.size 100 _ (0,0) _ rfl (heap_alloc_new _ _) Tryz.underlying100 rfl dW) rfl ⟨rfl,(Below.refl _ _).alloc (Nat.le_refl _) _⟩
theorem dd (t:Int)(a:Option Addr)(n c:Nat)(w:World):Calls Tryz.prog 144 #[.int .i64 t,.slice a n c] w λ e w'=>e=.returned (.agg #[.int .i64 t,.slice a n c,.string ⟨#[]⟩])/\Below w.heap.size w w':=by
 go_enter Tryz.func144,Tryz.ntmps144;go_wp2;exact bodyPost_ret (v:=.agg #[.int .i64 t,.slice a n c,.string ⟨#[]⟩]) (aq Tryz.results144 _ _ w.heap.size 100 _ (0,0) _ rfl (heap_alloc_new _ _) Tryz.underlying100 rfl dW) rfl ⟨rfl,(Below.refl _ _).alloc (Nat.le_refl _) _⟩
theorem jX (body:List UInt8)(w:World)(hb:body.length<1000000)(h:Tz w):Calls Tryz.prog 145 #[.string ⟨body.toArray⟩] w λ e w'=>e=.returned (.agg #[.string ⟨#[69,84,97,103]⟩,.string ⟨(cD body).toArray⟩])/\Below w.heap.size w w':=by
 have A1:Below w.heap.size w (w.alloc (.cells #[.string ⟨#[]⟩,.string ⟨#[]⟩] 151)):=(Below.refl _ _).alloc (Nat.le_refl _) _;go_enter Tryz.func145,Tryz.ntmps145;go_wp2_with fail;refine (fH body _ hb (h.below A1)).mono ?_;rintro e w1 ⟨rfl,A2⟩;have A0:w1.heap[w.heap.size]?=some (.cells #[.string ⟨#[]⟩,.string ⟨#[]⟩] 151 (0,0)):=(A2.block _ (by simp)).trans (heap_alloc_new _ _);have c0:w1.cell? ⟨w.heap.size,0,none⟩=some (.string ⟨#[]⟩):=by simp[World.cell?,A0]
 have c1:w1.cell? ⟨w.heap.size,1,none⟩=some (.string ⟨#[]⟩):=by simp[World.cell?,A0]
 have f0:w1.frozen? ⟨w.heap.size,0,none⟩=false:=by simp[World.frozen?,A0]
 have f1:w1.frozen? ⟨w.heap.size,1,none⟩=false:=by simp[World.frozen?,A0]
 have HB:Hid (Below w.heap.size w w1):=A1.trans (A2.mono (by simp));have HK:Hid _:=A0;clear A0 A2 A1;go_wp2;have hs:=ah (i:=1) (v:=.string ⟨(cD body).toArray⟩) (ah (i:=0) (v:=.string ⟨#[69,84,97,103]⟩) HK.out);exact bodyPost_ret (v:=.agg #[.string ⟨#[69,84,97,103]⟩,.string ⟨(cD body).toArray⟩]) (aq Tryz.results145 _ _ w.heap.size 151 _ (0,0) _ rfl hs Tryz.underlying151 rfl Ai) rfl ⟨rfl,(HB.out.setCell (p:=⟨w.heap.size,0,none⟩) (Nat.le_refl _) _).setCell (p:=⟨w.heap.size,1,none⟩) (Nat.le_refl _) _⟩
theorem eN (n:Nat)(w:World)(hn:n<1000000000000000)(h:Tab w):Calls Tryz.prog 146 #[.int .i64 n] w λ e w'=>e=.returned (.agg #[.string ⟨#[86,101,114,115,105,111,110]⟩,.string ⟨(Lib.decDigits n).toArray⟩])/\Below w.heap.size w w':=by
 have A1:Below w.heap.size w (w.alloc (.cells #[.string ⟨#[]⟩,.string ⟨#[]⟩] 151)):=(Below.refl _ _).alloc (Nat.le_refl _) _;go_enter Tryz.func146,Tryz.ntmps146;go_wp2_with fail;refine (fX n _ hn (h.below A1)).mono ?_;rintro e w1 ⟨rfl,A2⟩;have A0:w1.heap[w.heap.size]?=some (.cells #[.string ⟨#[]⟩,.string ⟨#[]⟩] 151 (0,0)):=(A2.block _ (by simp)).trans (heap_alloc_new _ _);have c0:w1.cell? ⟨w.heap.size,0,none⟩=some (.string ⟨#[]⟩):=by simp[World.cell?,A0]
 have c1:w1.cell? ⟨w.heap.size,1,none⟩=some (.string ⟨#[]⟩):=by simp[World.cell?,A0]
 have f0:w1.frozen? ⟨w.heap.size,0,none⟩=false:=by simp[World.frozen?,A0]
 have f1:w1.frozen? ⟨w.heap.size,1,none⟩=false:=by simp[World.frozen?,A0]
 have HB:Hid (Below w.heap.size w w1):=A1.trans (A2.mono (by simp));have HK:Hid _:=A0;obtain⟨D,hD⟩:∃ D,Lib.decDigits n=D:=⟨_,rfl⟩;rw[hD];have HD:Hid _:=hD;clear A0 A2 A1 hD;go_wp2;rw[HD.out];have hs:=ah (i:=1) (v:=.string ⟨D.toArray⟩) (ah (i:=0) (v:=.string ⟨#[86,101,114,115,105,111,110]⟩) HK.out);exact bodyPost_ret (v:=.agg #[.string ⟨#[86,101,114,115,105,111,110]⟩,.string ⟨D.toArray⟩]) (aq Tryz.results146 _ _ w.heap.size 151 _ (0,0) _ rfl hs Tryz.underlying151 rfl Ai) rfl ⟨rfl,(HB.out.setCell (p:=⟨w.heap.size,0,none⟩) (Nat.le_refl _) _).setCell (p:=⟨w.heap.size,1,none⟩) (Nat.le_refl _) _⟩
theorem jD (p:Nat)(E:Ent)(vs:Value)(w:World)(hE:al w p E vs)(h0:E.vers=[]) :
 Calls Tryz.prog 89 #[.pointer (some ⟨p,0,none⟩)] w λ e w'=>e=.returned (.agg #[.int .i64 404,.slice none 0 0,.string ⟨#[]⟩])/\Below w.heap.size w w':=by
 have A3:∃ a c,vs=.slice a 0 c:=by
  rcases hE.row.2 with ⟨rfl,_⟩|⟨g,A6,A4,hv,_⟩
  ·exact⟨_,_,rfl⟩
  ·rw[h0] at hv;exact⟨_,_,hv⟩
 obtain⟨a,c,rfl⟩:=A3;have c2:=hE.c2;have A5:=hE.lt;have A2:Below w.heap.size w (w.alloc (.cells #[.int .i64 0,.slice none 0 0,.string ⟨#[]⟩] 100)):=(Below.refl _ _).alloc (Nat.le_refl _) _;clear hE;go_enter Tryz.func89,Tryz.ntmps89;go_wp2_with fail;refine (fq 404 _).mono ?_;rintro e w1 ⟨rfl,A1⟩;have A0:w1.heap[w.heap.size]?=some (.cells #[.int .i64 0,.slice none 0 0,.string ⟨#[]⟩] 100 (0,0)):=(A1.block _ (by simp)).trans (heap_alloc_new _ _);have d0:w1.cell? ⟨w.heap.size,0,none⟩=some (.int .i64 0):=by simp[World.cell?,A0]
 have d1:w1.cell? ⟨w.heap.size,1,none⟩=some (.slice none 0 0):=by simp[World.cell?,A0]
 have d2:w1.cell? ⟨w.heap.size,2,none⟩=some (.string ⟨#[]⟩):=by simp[World.cell?,A0]
 have f0:w1.frozen? ⟨w.heap.size,0,none⟩=false:=by simp[World.frozen?,A0]
 have f1:w1.frozen? ⟨w.heap.size,1,none⟩=false:=by simp[World.frozen?,A0]
 have f2:w1.frozen? ⟨w.heap.size,2,none⟩=false:=by simp[World.frozen?,A0]
 have HB:Hid (Below w.heap.size w w1):=A2.trans (A1.mono (by simp));have HK:Hid _:=A0;clear A0 A1 A2;go_wp2;have hs:=ah (i:=2) (v:=.string ⟨#[]⟩) (ah (i:=1) (v:=.slice none 0 0) (ah (i:=0) (v:=.int .i64 404) HK.out));exact bodyPost_ret (v:=.agg #[.int .i64 404,.slice none 0 0,.string ⟨#[]⟩]) (aq Tryz.results89 _ _ w.heap.size 100 _ (0,0) _ rfl hs Tryz.underlying100 rfl dW) rfl ⟨rfl,((HB.out.setCell (p:=⟨w.heap.size,0,none⟩) (Nat.le_refl _) _).setCell (p:=⟨w.heap.size,1,none⟩) (Nat.le_refl _) _).setCell (p:=⟨w.heap.size,2,none⟩) (Nat.le_refl _) _⟩
theorem e8 (x:World)(a:Addr):x.drew.cell? a=x.cell? a:=rfl
theorem ae {w:World}{b i c j:Nat}{v:Value}(h:c≠b):(w.setCell ⟨b,i,none⟩ v).cell? ⟨c,j,none⟩=w.cell? ⟨c,j,none⟩ :=
 World.cell?_setCell_other _ _ _ _ (by intro e;injection e with e1;exact h e1.symm)
theorem dm:(Tryz.prog.info? 181).map (·.size)=some 5:=by kernel_rfl
def bu (E:Ent)(m:Nat)(t:Tgt)(body:List UInt8):Nat×Nat×List UInt8 :=
 if m=2 then (1,E.last+1,body) else if t.kind=2 then (3,t.num,[]) else (2,E.last+1,[])
theorem tJ (p:Nat)(E:Ent)(vs:Value)(t:Tgt)(wr:Bool)(c:Cst)(body:List UInt8)(w:World)(h:al w p E vs)(hl:E.last<4611686018427387904)(e1:∃ a n m,c.lm=.slice a n m)(e2:∃ a n m,c.ln=.slice a n m) :
 Calls Tryz.prog 93 #[gb 2 t wr c body,.pointer (some ⟨p,0,none⟩)] w λ e w'=>e=.returned (bt 1 0 E.key (E.last+1) body)/\Below w.heap.size w w':=by
 obtain⟨a1,m1,p1,e1⟩:=e1;obtain⟨a2,m2,p2,e2⟩:=e2;unfold gb;rw[e1,e2];have HE:Hid _:=h;clear h;go_enter Tryz.func93,Tryz.ntmps93;go_wp2_with fail;obtain⟨X,hX⟩:∃ X,X=((w.alloc (.cells #[.int .i64 2,.int .i64 (t.kind:Int),.string ⟨t.key.toArray⟩,.int .i64 (t.num:Int),.bool wr,.bool c.hm,.bool c.am,.slice a1 m1 p1,.bool c.hn,.bool c.an,.slice a2 m2 p2,.bool c.hs,.int .i64 c.si,.bool c.hu,.int .i64 c.ul,.bool false,.string ⟨#[]⟩,.int .i64 0,.string ⟨body.toArray⟩] 95)).alloc (.cells #[.int .u8 0,.int .i64 0,.string ⟨#[]⟩,.int .i64 0,.string ⟨#[]⟩] 181)):=⟨_,rfl⟩;rw[<- hX];have A2:Below w.heap.size w X:=by rw[hX];exact ((Below.refl _ _).alloc (Nat.le_refl _) _).alloc (by simp) _
 have hQ:X.heap[w.heap.size]?=some (.cells #[.int .i64 2,.int .i64 (t.kind:Int),.string ⟨t.key.toArray⟩,.int .i64 (t.num:Int),.bool wr,.bool c.hm,.bool c.am,.slice a1 m1 p1,.bool c.hn,.bool c.an,.slice a2 m2 p2,.bool c.hs,.int .i64 c.si,.bool c.hu,.int .i64 c.ul,.bool false,.string ⟨#[]⟩,.int .i64 0,.string ⟨body.toArray⟩] 95 (0,0)):=by rw[hX];exact (heap_alloc_old _ _ (by simp)).trans (heap_alloc_new _ _)
 have hZ:X.heap[w.heap.size+1]?=some (.cells #[.int .u8 0,.int .i64 0,.string ⟨#[]⟩,.int .i64 0,.string ⟨#[]⟩] 181 (0,0)):=by rw[hX];have:=heap_alloc_new (w.alloc (.cells #[.int .i64 2,.int .i64 (t.kind:Int),.string ⟨t.key.toArray⟩,.int .i64 (t.num:Int),.bool wr,.bool c.hm,.bool c.am,.slice a1 m1 p1,.bool c.hn,.bool c.an,.slice a2 m2 p2,.bool c.hs,.int .i64 c.si,.bool c.hu,.int .i64 c.ul,.bool false,.string ⟨#[]⟩,.int .i64 0,.string ⟨body.toArray⟩] 95)) (.cells #[.int .u8 0,.int .i64 0,.string ⟨#[]⟩,.int .i64 0,.string ⟨#[]⟩] 181);simpa using this
 clear hX;generalize (Value.agg #[.int .i64 ((2:Nat):Int),.int .i64 (t.kind:Int),.string ⟨t.key.toArray⟩,.int .i64 (t.num:Int),.bool wr,.bool c.hm,.bool c.am,.slice a1 m1 p1,.bool c.hn,.bool c.an,.slice a2 m2 p2,.bool c.hs,.int .i64 c.si,.bool c.hu,.int .i64 c.ul,.bool false,.string ⟨#[]⟩,.int .i64 0,.string ⟨body.toArray⟩])=Qv;have hE:=HE.out.below A2;have k0:X.cell? ⟨p,0,none⟩=some (.string ⟨E.key.toArray⟩):=hE.c0;have A3:X.cell? ⟨w.heap.size,18,none⟩=some (.string ⟨body.toArray⟩):=by simp[World.cell?,hQ]
 have q3:X.cell? ⟨w.heap.size,3,none⟩=some (.int .i64 (t.num:Int)):=by simp[World.cell?,hQ]
 have z0:X.cell? ⟨w.heap.size+1,0,none⟩=some (.int .u8 0):=by simp[World.cell?,hZ]
 have z1:X.cell? ⟨w.heap.size+1,1,none⟩=some (.int .i64 0):=by simp[World.cell?,hZ]
 have z2:X.cell? ⟨w.heap.size+1,2,none⟩=some (.string ⟨#[]⟩):=by simp[World.cell?,hZ]
 have z3:X.cell? ⟨w.heap.size+1,3,none⟩=some (.int .i64 0):=by simp[World.cell?,hZ]
 have z4:X.cell? ⟨w.heap.size+1,4,none⟩=some (.string ⟨#[]⟩):=by simp[World.cell?,hZ]
 have A7:X.frozen? ⟨w.heap.size+1,0,none⟩=false:=by simp[World.frozen?,hZ]
 have A5:X.frozen? ⟨w.heap.size+1,1,none⟩=false:=by simp[World.frozen?,hZ]
 have A8:X.frozen? ⟨w.heap.size+1,2,none⟩=false:=by simp[World.frozen?,hZ]
 have A9:X.frozen? ⟨w.heap.size+1,3,none⟩=false:=by simp[World.frozen?,hZ]
 have A6:X.frozen? ⟨w.heap.size+1,4,none⟩=false:=by simp[World.frozen?,hZ]
 have A1:p≠w.heap.size+1:=by have:=HE.out.lt;omega
 have A0:w.heap.size≠w.heap.size+1:=by omega
 have A4:Hid (al X.drew p E vs):=⟨hE.blk,hE.row⟩;have HZ:Hid _:=hZ;have HL:Hid _:=A2;clear hE hQ hZ A2;refine wp_region_held_drew (S:=(λ y=>y.cell? ⟨p,0,none⟩=some (.string ⟨E.key.toArray⟩)/\y.cell? ⟨w.heap.size,18,none⟩=some (.string ⟨body.toArray⟩))) (by kernel_rfl) ⟨k0,A3⟩ (λ hHeld=>?_);refine tkI 0 hHeld ?_;try simp only[Act.put]
 refine tkI 1 hHeld ?_;try simp only[Act.put]
 refine tkI 2 hHeld ?_;try simp only[Act.put]
 refine tkI 3 hHeld ?_;try simp only[Act.put]
 refine tkI 4 hHeld ?_;try simp only[Act.put]
 refine tkI 6 hHeld ?_;try simp only[Act.put]
 refine tkI 7 hHeld ?_;try simp only[Act.put]
 refine rdI 5 (λ K hK=>?_);go_simp;refine (mv p E vs X.drew A4.out hl).mono ?_;rintro e w1 ⟨rfl,rfl⟩;try go_wp2_with fail
 refine hK.out _ _ hHeld (λ hHeld1=>?_);clear hK K;try simp only[Act.put]
 refine tkI 8 hHeld1 ?_;try simp only[Act.put]
 refine rdI 9 (λ K hK=>?_);go_simp;refine hK.out _ _ ?_ (λ hHeld4=>?_)
 ·constructor
  ·rw[e8,ae A1,ae A1,ae A1,ae A1,ae A1];exact k0
  ·rw[e8,ae A0,ae A0,ae A0,ae A0,ae A0];exact A3
 clear hK K;try simp only[Act.put]
 refine wpAnyH_done (by kernel_rfl) ?_ _;go_wp2;have hs:=ah (i:=4) (v:=.string ⟨body.toArray⟩) (ah (i:=3) (v:=.int .i64 ((E.last+1:Nat):Int)) (ah (i:=2) (v:=.string ⟨E.key.toArray⟩) (ah (i:=1) (v:=.int .i64 0) (ah (i:=0) (v:=.int .u8 1) (HZ.out)))));exact bodyPost_ret (v:=bt 1 0 E.key (E.last+1) body) (aq Tryz.results93 _ _ (w.heap.size+1) 181 _ (0,0) _ rfl hs Tryz.underlying181 rfl dm) rfl ⟨rfl,(((((HL.out.setCell (p:=⟨w.heap.size+1,0,none⟩) (Nat.le_succ _) _).setCell (p:=⟨w.heap.size+1,1,none⟩) (Nat.le_succ _) _).setCell (p:=⟨w.heap.size+1,2,none⟩) (Nat.le_succ _) _).setCell (p:=⟨w.heap.size+1,3,none⟩) (Nat.le_succ _) _).setCell (p:=⟨w.heap.size+1,4,none⟩) (Nat.le_succ _) _).drew⟩
theorem wu (p:Nat)(E:Ent)(vs:Value)(m:Nat)(t:Tgt)(wr:Bool)(c:Cst)(body:List UInt8)(w:World)(h:al w p E vs)(hm:((m:Int)==2)=false)(hk:((t.kind:Int)==2)=true)(e1:∃ a n m,c.lm=.slice a n m)(e2:∃ a n m,c.ln=.slice a n m) :
 Calls Tryz.prog 93 #[gb m t wr c body,.pointer (some ⟨p,0,none⟩)] w λ e w'=>e=.returned (bt 3 0 E.key t.num [])/\Below w.heap.size w w':=by
 obtain⟨a1,m1,p1,e1⟩:=e1;obtain⟨a2,m2,p2,e2⟩:=e2;unfold gb;rw[e1,e2];have HE:Hid _:=h;clear h;go_enter Tryz.func93,Tryz.ntmps93;go_wp2_with fail;obtain⟨X,hX⟩:∃ X,X=((w.alloc (.cells #[.int .i64 (m:Int),.int .i64 (t.kind:Int),.string ⟨t.key.toArray⟩,.int .i64 (t.num:Int),.bool wr,.bool c.hm,.bool c.am,.slice a1 m1 p1,.bool c.hn,.bool c.an,.slice a2 m2 p2,.bool c.hs,.int .i64 c.si,.bool c.hu,.int .i64 c.ul,.bool false,.string ⟨#[]⟩,.int .i64 0,.string ⟨body.toArray⟩] 95)).alloc (.cells #[.int .u8 0,.int .i64 0,.string ⟨#[]⟩,.int .i64 0,.string ⟨#[]⟩] 181)):=⟨_,rfl⟩;rw[<- hX];have A2:Below w.heap.size w X:=by rw[hX];exact ((Below.refl _ _).alloc (Nat.le_refl _) _).alloc (by simp) _
 have hQ:X.heap[w.heap.size]?=some (.cells #[.int .i64 (m:Int),.int .i64 (t.kind:Int),.string ⟨t.key.toArray⟩,.int .i64 (t.num:Int),.bool wr,.bool c.hm,.bool c.am,.slice a1 m1 p1,.bool c.hn,.bool c.an,.slice a2 m2 p2,.bool c.hs,.int .i64 c.si,.bool c.hu,.int .i64 c.ul,.bool false,.string ⟨#[]⟩,.int .i64 0,.string ⟨body.toArray⟩] 95 (0,0)):=by rw[hX];exact (heap_alloc_old _ _ (by simp)).trans (heap_alloc_new _ _)
 have hZ:X.heap[w.heap.size+1]?=some (.cells #[.int .u8 0,.int .i64 0,.string ⟨#[]⟩,.int .i64 0,.string ⟨#[]⟩] 181 (0,0)):=by rw[hX];have:=heap_alloc_new (w.alloc (.cells #[.int .i64 (m:Int),.int .i64 (t.kind:Int),.string ⟨t.key.toArray⟩,.int .i64 (t.num:Int),.bool wr,.bool c.hm,.bool c.am,.slice a1 m1 p1,.bool c.hn,.bool c.an,.slice a2 m2 p2,.bool c.hs,.int .i64 c.si,.bool c.hu,.int .i64 c.ul,.bool false,.string ⟨#[]⟩,.int .i64 0,.string ⟨body.toArray⟩] 95)) (.cells #[.int .u8 0,.int .i64 0,.string ⟨#[]⟩,.int .i64 0,.string ⟨#[]⟩] 181);simpa using this
 clear hX;generalize (Value.agg #[.int .i64 (m:Int),.int .i64 (t.kind:Int),.string ⟨t.key.toArray⟩,.int .i64 (t.num:Int),.bool wr,.bool c.hm,.bool c.am,.slice a1 m1 p1,.bool c.hn,.bool c.an,.slice a2 m2 p2,.bool c.hs,.int .i64 c.si,.bool c.hu,.int .i64 c.ul,.bool false,.string ⟨#[]⟩,.int .i64 0,.string ⟨body.toArray⟩])=Qv;have hE:=HE.out.below A2;have k0:X.cell? ⟨p,0,none⟩=some (.string ⟨E.key.toArray⟩):=hE.c0;have A3:X.cell? ⟨w.heap.size,18,none⟩=some (.string ⟨body.toArray⟩):=by simp[World.cell?,hQ]
 have q3:X.cell? ⟨w.heap.size,3,none⟩=some (.int .i64 (t.num:Int)):=by simp[World.cell?,hQ]
 have z0:X.cell? ⟨w.heap.size+1,0,none⟩=some (.int .u8 0):=by simp[World.cell?,hZ]
 have z1:X.cell? ⟨w.heap.size+1,1,none⟩=some (.int .i64 0):=by simp[World.cell?,hZ]
 have z2:X.cell? ⟨w.heap.size+1,2,none⟩=some (.string ⟨#[]⟩):=by simp[World.cell?,hZ]
 have z3:X.cell? ⟨w.heap.size+1,3,none⟩=some (.int .i64 0):=by simp[World.cell?,hZ]
 have z4:X.cell? ⟨w.heap.size+1,4,none⟩=some (.string ⟨#[]⟩):=by simp[World.cell?,hZ]
 have A7:X.frozen? ⟨w.heap.size+1,0,none⟩=false:=by simp[World.frozen?,hZ]
 have A4:X.frozen? ⟨w.heap.size+1,1,none⟩=false:=by simp[World.frozen?,hZ]
 have A8:X.frozen? ⟨w.heap.size+1,2,none⟩=false:=by simp[World.frozen?,hZ]
 have A9:X.frozen? ⟨w.heap.size+1,3,none⟩=false:=by simp[World.frozen?,hZ]
 have A5:X.frozen? ⟨w.heap.size+1,4,none⟩=false:=by simp[World.frozen?,hZ]
 have A1:p≠w.heap.size+1:=by have:=HE.out.lt;omega
 have A0:w.heap.size≠w.heap.size+1:=by omega
 have A6:Hid (al X.drew p E vs):=⟨hE.blk,hE.row⟩;have HZ:Hid _:=hZ;have HL:Hid _:=A2;clear hE hQ hZ A2;refine wp_region_held_drew (S:=(λ y=>y.cell? ⟨p,0,none⟩=some (.string ⟨E.key.toArray⟩)/\y.cell? ⟨w.heap.size,3,none⟩=some (.int .i64 (t.num:Int)))) (by kernel_rfl) ⟨k0,q3⟩ (λ hHeld=>?_);refine tkI 0 hHeld ?_;try simp only[Act.put]
 refine tkI 1 hHeld ?_;try simp only[Act.put]
 refine tkI 2 hHeld ?_;try simp only[Act.put]
 refine tkI 3 hHeld ?_;try simp only[Act.put]
 refine tkI 4 hHeld ?_;try simp only[Act.put]
 refine tkI 5 hHeld ?_;try simp only[Act.put]
 refine tkI 6 hHeld ?_;try simp only[Act.put]
 refine tkI 7 hHeld ?_;try simp only[Act.put]
 refine rdI 8 (λ K hK=>?_);go_simp;refine hK.out _ _ ?_ (λ hHeld4=>?_)
 ·constructor
  ·rw[e8,ae A1,ae A1,ae A1,ae A1,ae A1];exact k0
  ·rw[e8,ae A0,ae A0,ae A0,ae A0,ae A0];exact q3
 clear hK K;try simp only[Act.put]
 refine wpAnyH_done (by kernel_rfl) ?_ _;go_wp2;have hs:=ah (i:=4) (v:=.string ⟨#[]⟩) (ah (i:=3) (v:=.int .i64 (t.num:Int)) (ah (i:=2) (v:=.string ⟨E.key.toArray⟩) (ah (i:=1) (v:=.int .i64 0) (ah (i:=0) (v:=.int .u8 3) (HZ.out)))));exact bodyPost_ret (v:=bt 3 0 E.key t.num []) (aq Tryz.results93 _ _ (w.heap.size+1) 181 _ (0,0) _ rfl hs Tryz.underlying181 rfl dm) rfl ⟨rfl,(((((HL.out.setCell (p:=⟨w.heap.size+1,0,none⟩) (Nat.le_succ _) _).setCell (p:=⟨w.heap.size+1,1,none⟩) (Nat.le_succ _) _).setCell (p:=⟨w.heap.size+1,2,none⟩) (Nat.le_succ _) _).setCell (p:=⟨w.heap.size+1,3,none⟩) (Nat.le_succ _) _).setCell (p:=⟨w.heap.size+1,4,none⟩) (Nat.le_succ _) _).drew⟩
theorem qT (p:Nat)(E:Ent)(vs:Value)(m:Nat)(t:Tgt)(wr:Bool)(c:Cst)(body:List UInt8)(w:World)(h:al w p E vs)(hm:((m:Int)==2)=false)(hk:((t.kind:Int)==2)=false)(hl:E.last<4611686018427387904)(e1:∃ a n m,c.lm=.slice a n m)(e2:∃ a n m,c.ln=.slice a n m) :
 Calls Tryz.prog 93 #[gb m t wr c body,.pointer (some ⟨p,0,none⟩)] w λ e w'=>e=.returned (bt 2 0 E.key (E.last+1) [])/\Below w.heap.size w w':=by
 obtain⟨a1,m1,p1,e1⟩:=e1;obtain⟨a2,m2,p2,e2⟩:=e2;unfold gb;rw[e1,e2];have HE:Hid _:=h;clear h;go_enter Tryz.func93,Tryz.ntmps93;go_wp2_with fail;obtain⟨X,hX⟩:∃ X,X=((w.alloc (.cells #[.int .i64 (m:Int),.int .i64 (t.kind:Int),.string ⟨t.key.toArray⟩,.int .i64 (t.num:Int),.bool wr,.bool c.hm,.bool c.am,.slice a1 m1 p1,.bool c.hn,.bool c.an,.slice a2 m2 p2,.bool c.hs,.int .i64 c.si,.bool c.hu,.int .i64 c.ul,.bool false,.string ⟨#[]⟩,.int .i64 0,.string ⟨body.toArray⟩] 95)).alloc (.cells #[.int .u8 0,.int .i64 0,.string ⟨#[]⟩,.int .i64 0,.string ⟨#[]⟩] 181)):=⟨_,rfl⟩;rw[<- hX];have A2:Below w.heap.size w X:=by rw[hX];exact ((Below.refl _ _).alloc (Nat.le_refl _) _).alloc (by simp) _
 have hQ:X.heap[w.heap.size]?=some (.cells #[.int .i64 (m:Int),.int .i64 (t.kind:Int),.string ⟨t.key.toArray⟩,.int .i64 (t.num:Int),.bool wr,.bool c.hm,.bool c.am,.slice a1 m1 p1,.bool c.hn,.bool c.an,.slice a2 m2 p2,.bool c.hs,.int .i64 c.si,.bool c.hu,.int .i64 c.ul,.bool false,.string ⟨#[]⟩,.int .i64 0,.string ⟨body.toArray⟩] 95 (0,0)):=by rw[hX];exact (heap_alloc_old _ _ (by simp)).trans (heap_alloc_new _ _)
 have hZ:X.heap[w.heap.size+1]?=some (.cells #[.int .u8 0,.int .i64 0,.string ⟨#[]⟩,.int .i64 0,.string ⟨#[]⟩] 181 (0,0)):=by rw[hX];have:=heap_alloc_new (w.alloc (.cells #[.int .i64 (m:Int),.int .i64 (t.kind:Int),.string ⟨t.key.toArray⟩,.int .i64 (t.num:Int),.bool wr,.bool c.hm,.bool c.am,.slice a1 m1 p1,.bool c.hn,.bool c.an,.slice a2 m2 p2,.bool c.hs,.int .i64 c.si,.bool c.hu,.int .i64 c.ul,.bool false,.string ⟨#[]⟩,.int .i64 0,.string ⟨body.toArray⟩] 95)) (.cells #[.int .u8 0,.int .i64 0,.string ⟨#[]⟩,.int .i64 0,.string ⟨#[]⟩] 181);simpa using this
 clear hX;generalize (Value.agg #[.int .i64 (m:Int),.int .i64 (t.kind:Int),.string ⟨t.key.toArray⟩,.int .i64 (t.num:Int),.bool wr,.bool c.hm,.bool c.am,.slice a1 m1 p1,.bool c.hn,.bool c.an,.slice a2 m2 p2,.bool c.hs,.int .i64 c.si,.bool c.hu,.int .i64 c.ul,.bool false,.string ⟨#[]⟩,.int .i64 0,.string ⟨body.toArray⟩])=Qv;have hE:=HE.out.below A2;have k0:X.cell? ⟨p,0,none⟩=some (.string ⟨E.key.toArray⟩):=hE.c0;have A3:X.cell? ⟨w.heap.size,18,none⟩=some (.string ⟨body.toArray⟩):=by simp[World.cell?,hQ]
 have q3:X.cell? ⟨w.heap.size,3,none⟩=some (.int .i64 (t.num:Int)):=by simp[World.cell?,hQ]
 have z0:X.cell? ⟨w.heap.size+1,0,none⟩=some (.int .u8 0):=by simp[World.cell?,hZ]
 have z1:X.cell? ⟨w.heap.size+1,1,none⟩=some (.int .i64 0):=by simp[World.cell?,hZ]
 have z2:X.cell? ⟨w.heap.size+1,2,none⟩=some (.string ⟨#[]⟩):=by simp[World.cell?,hZ]
 have z3:X.cell? ⟨w.heap.size+1,3,none⟩=some (.int .i64 0):=by simp[World.cell?,hZ]
 have z4:X.cell? ⟨w.heap.size+1,4,none⟩=some (.string ⟨#[]⟩):=by simp[World.cell?,hZ]
 have A7:X.frozen? ⟨w.heap.size+1,0,none⟩=false:=by simp[World.frozen?,hZ]
 have A5:X.frozen? ⟨w.heap.size+1,1,none⟩=false:=by simp[World.frozen?,hZ]
 have A8:X.frozen? ⟨w.heap.size+1,2,none⟩=false:=by simp[World.frozen?,hZ]
 have A9:X.frozen? ⟨w.heap.size+1,3,none⟩=false:=by simp[World.frozen?,hZ]
 have A6:X.frozen? ⟨w.heap.size+1,4,none⟩=false:=by simp[World.frozen?,hZ]
 have A1:p≠w.heap.size+1:=by have:=HE.out.lt;omega
 have A0:w.heap.size≠w.heap.size+1:=by omega
 have A4:Hid (al X.drew p E vs):=⟨hE.blk,hE.row⟩;have HZ:Hid _:=hZ;have HL:Hid _:=A2;clear hE hQ hZ A2;refine wp_region_held_drew (S:=(λ y=>y.cell? ⟨p,0,none⟩=some (.string ⟨E.key.toArray⟩)/\y.cell? ⟨w.heap.size,18,none⟩=some (.string ⟨body.toArray⟩))) (by kernel_rfl) ⟨k0,A3⟩ (λ hHeld=>?_);refine tkI 0 hHeld ?_;try simp only[Act.put]
 refine tkI 1 hHeld ?_;try simp only[Act.put]
 refine tkI 2 hHeld ?_;try simp only[Act.put]
 refine tkI 3 hHeld ?_;try simp only[Act.put]
 refine tkI 4 hHeld ?_;try simp only[Act.put]
 refine rdI 5 (λ K hK=>?_);go_simp;refine (mv p E vs X.drew A4.out hl).mono ?_;rintro e w1 ⟨rfl,rfl⟩;try go_wp2_with fail
 refine hK.out _ _ hHeld (λ hHeld1=>?_);clear hK K;try simp only[Act.put]
 refine tkI 6 hHeld1 ?_;try simp only[Act.put]
 refine rdI 7 (λ K hK=>?_);go_simp;refine hK.out _ _ ?_ (λ hHeld4=>?_)
 ·constructor
  ·rw[e8,ae A1,ae A1,ae A1,ae A1,ae A1];exact k0
  ·rw[e8,ae A0,ae A0,ae A0,ae A0,ae A0];exact A3
 clear hK K;try simp only[Act.put]
 refine wpAnyH_done (by kernel_rfl) ?_ _;go_wp2;have hs:=ah (i:=4) (v:=.string ⟨#[]⟩) (ah (i:=3) (v:=.int .i64 ((E.last+1:Nat):Int)) (ah (i:=2) (v:=.string ⟨E.key.toArray⟩) (ah (i:=1) (v:=.int .i64 0) (ah (i:=0) (v:=.int .u8 2) (HZ.out)))));exact bodyPost_ret (v:=bt 2 0 E.key (E.last+1) []) (aq Tryz.results93 _ _ (w.heap.size+1) 181 _ (0,0) _ rfl hs Tryz.underlying181 rfl dm) rfl ⟨rfl,(((((HL.out.setCell (p:=⟨w.heap.size+1,0,none⟩) (Nat.le_succ _) _).setCell (p:=⟨w.heap.size+1,1,none⟩) (Nat.le_succ _) _).setCell (p:=⟨w.heap.size+1,2,none⟩) (Nat.le_succ _) _).setCell (p:=⟨w.heap.size+1,3,none⟩) (Nat.le_succ _) _).setCell (p:=⟨w.heap.size+1,4,none⟩) (Nat.le_succ _) _).drew⟩
end Go.Proofs.YtmehkneofinmiaaGreatDoor

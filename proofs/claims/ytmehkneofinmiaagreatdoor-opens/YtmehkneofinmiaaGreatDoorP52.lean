/-part 52-/
import Derived.Test.YtmehkneofinmiaaGreatDoorP51
import Derived.Deep.Slices
set_option maxRecDepth 100000
set_option maxHeartbeats 40000000
namespace Go.Proofs.YtmehkneofinmiaaGreatDoor
open Go.RowKit
structure Uno (B:Nat->Prop)(w:World)(g:Nat)(a:bZ):Prop where
 env:Env B w
 fa:a.At 4294967296 B w
 blk:w.heap[g]?=some (.cells #[.pointer (some ⟨a.s,0,none⟩),.pointer (some ⟨a.p,0,none⟩),.pointer none,.pointer none,.slice none 0 0,.slice none 0 0] 34 (0,0))
 ga:¬ a.own g
theorem Uno.lt {B:Nat->Prop}{w:World}{g:Nat}{a:bZ}(h:Uno B w g a):g<w.heap.size:=(gL h.blk)
theorem Uno.below {B:Nat->Prop}{w x:World}{g:Nat}{a:bZ}(h:Uno B w g a)(hb:Below w.heap.size w x):Uno B x g a :=
 ⟨h.env.below hb,h.fa.below hb,(hb.block g h.lt).trans h.blk,h.ga⟩
theorem Uno.done {B:Nat->Prop}{w w2:World}{g:Nat}{a:bZ}(h:Uno B w g a)(hf:Fin a 4294967296 B w w2):∃ a',Uno B w2 g a'/\Off B w w2:=by
 obtain⟨a',e1,e2,hA,ho,hn⟩:=hf;have A0:Off B w w2:=ho.mono (λ k hk=>h.fa.high k hk);refine⟨a',⟨h.env.off A0,hA,?_,λ hk=>?_⟩,A0⟩
 ·rw[e1,e2];exact (ho.block g h.lt h.ga).trans h.blk
 ·rcases hn g hk with hh|hh
  ·exact h.ga hh
  ·have:=h.lt;omega
def pf (B:Nat->Prop)(g:Nat)(w:World)(e:Ending)(w':World):Prop:=e=.returned (.bool true)/\∃ a',Uno B w' g a'/\Off B w w'
theorem ur {B:Nat->Prop}{w x w2:World}{g:Nat}(hb:Below w.heap.size w x)(h:∃ a',Uno B w2 g a'/\Off B x w2):∃ a',Uno B w2 g a'/\Off B w w2:=by
 obtain⟨a',h1,h2⟩:=h;exact⟨a',h1,(Off.of_below hb).trans h2⟩
theorem xU {a:bZ}{N:Nat}{B:Nat->Prop}{w:World}(h:a.At N B w) :
 Calls Tryz.prog 37 #[.pointer (some ⟨a.s,0,none⟩)] w λ e w1=>e=.returned (.string ⟨a.σ.log.toArray⟩)/\Mid a a.σ w w1 :=
 (wb w h.st).mono (λ _ _ hh=>⟨hh.1,a.M,hh.2.1,hh.2.2.mono (λ _ hk=>Or.inl hk),λ _ hk=>Or.inl hk⟩)
theorem Ay (B:Nat->Prop)(g:Nat)(a:bZ)(S:List UInt8)(w:World)(h:Uno B w g a)(hl:S.length<=9223372036854775807) :
 Calls Tryz.prog 13 #[.pointer (some ⟨g,0,none⟩),.agg #[.int .i64 1,.bool false,.int .i64 0,.int .i64 0,.string ⟨S.toArray⟩,.slice none 0 0]] w (pf B g w):=by
 have c0:w.cell? ⟨g,0,none⟩=some (.pointer (some ⟨a.s,0,none⟩)):=by simp[World.cell?,h.blk]
 have c1:w.cell? ⟨g,1,none⟩=some (.pointer (some ⟨a.p,0,none⟩)):=by simp[World.cell?,h.blk]
 have hg:=h.lt;have HH:Hid _:=h;have HL:Hid _:=hl;clear h hl;go_enter Tryz.func13,Tryz.ntmps13;go_wp2_with fail;obtain⟨x,hx⟩:∃ x,(w.alloc (.cells #[.int .i64 1,.bool false,.int .i64 0,.int .i64 0,.string ⟨S.toArray⟩,.slice none 0 0] 40)).alloc (.cells #[.pointer (some ⟨a.s,0,none⟩),.pointer (some ⟨a.p,0,none⟩)] 30)=x:=⟨_,rfl⟩;have A1:Hid (Below w.heap.size w x):=by rw[<- hx];exact ((Below.refl _ _).alloc (Nat.le_refl _) _).alloc (by rw[World.size_alloc];omega) _
 have x4:x.cell? ⟨w.heap.size,4,none⟩=some (.string ⟨S.toArray⟩):=by rw[<- hx];simp
 have y1:x.cell? ⟨w.heap.size+1,1,none⟩=some (.pointer (some ⟨a.p,0,none⟩)):=by rw[<- hx];simp
 rw[hx];clear hx;have HX:Hid _:=HH.out.below A1.out;have A3:Hid _:=HH.out.fa;have A0:Hid _:=yX (Nat.le_refl _) HX.out.fa HX.out.env S HL.out;have A2:Hid _:=λ w1 hm=>AZ (w1:=w1) (Nat.le_refl _) (by omega) HX.out.fa HX.out.env S HL.out hm;obtain⟨R,hR⟩:∃ r,doF a.σ S=r:=⟨_,rfl⟩;rw[hR] at A0 A2;clear hR;refine Calls.mono A0.out ?_;rintro e w1 ⟨rfl,hm⟩;have z4:=mO A3.out hm (Nat.le_refl _) x4;have z1:=mO A3.out hm (Nat.le_succ _) y1;have HM:Hid _:=hm;clear hm x4 y1;go_wp2_with fail;refine Calls.mono (A2.out w1 HM.out) ?_;rintro e w2 ⟨rfl,hf⟩;have HF:Hid _:=hf;clear hf;go_wp2;go_ret;exact⟨aw (by simp),ur A1.out (HX.out.done HF.out)⟩
theorem vM (B:Nat->Prop)(g:Nat)(a:bZ)(w:World)(h:Uno B w g a) :
 Calls Tryz.prog 13 #[.pointer (some ⟨g,0,none⟩),.agg #[.int .i64 3,.bool false,.int .i64 0,.int .i64 0,.string ⟨#[]⟩,.slice none 0 0]] w (pf B g w):=by
 have c0:w.cell? ⟨g,0,none⟩=some (.pointer (some ⟨a.s,0,none⟩)):=by simp[World.cell?,h.blk]
 have c1:w.cell? ⟨g,1,none⟩=some (.pointer (some ⟨a.p,0,none⟩)):=by simp[World.cell?,h.blk]
 have hg:=h.lt;have HH:Hid _:=h;clear h;go_enter Tryz.func13,Tryz.ntmps13;go_wp2_with fail;obtain⟨x,hx⟩:∃ x,(w.alloc (.cells #[.int .i64 3,.bool false,.int .i64 0,.int .i64 0,.string ⟨#[]⟩,.slice none 0 0] 40)).alloc (.cells #[.pointer (some ⟨a.s,0,none⟩),.pointer (some ⟨a.p,0,none⟩)] 30)=x:=⟨_,rfl⟩;have A2:Hid (Below w.heap.size w x):=by rw[<- hx];exact ((Below.refl _ _).alloc (Nat.le_refl _) _).alloc (by rw[World.size_alloc];omega) _
 have y1:x.cell? ⟨w.heap.size+1,1,none⟩=some (.pointer (some ⟨a.p,0,none⟩)):=by rw[<- hx];simp
 rw[hx];clear hx;have HX:Hid _:=HH.out.below A2.out;have A0:Hid _:=tR HX.out.fa;have p0:=HX.out.fa.ref.c0;obtain⟨tm,hE⟩:∃ r,a.σ.time=r:=⟨_,rfl⟩;rw[hE] at A0 p0;clear hE;refine Calls.mono A0.out ?_;rintro e w1 ⟨rfl,A1⟩;rw[A1];clear A1;go_wp2;go_ret;exact⟨aw (by simp),a,HX.out,Off.of_below A2.out⟩
theorem uh (B:Nat->Prop)(g:Nat)(a:bZ)(w:World)(h:Uno B w g a) :
 Calls Tryz.prog 13 #[.pointer (some ⟨g,0,none⟩),.agg #[.int .i64 5,.bool false,.int .i64 0,.int .i64 0,.string ⟨#[]⟩,.slice none 0 0]] w (pf B g w):=by
 have c0:w.cell? ⟨g,0,none⟩=some (.pointer (some ⟨a.s,0,none⟩)):=by simp[World.cell?,h.blk]
 have c1:w.cell? ⟨g,1,none⟩=some (.pointer (some ⟨a.p,0,none⟩)):=by simp[World.cell?,h.blk]
 have hg:=h.lt;have HH:Hid _:=h;clear h;go_enter Tryz.func13,Tryz.ntmps13;go_wp2_with fail;obtain⟨x,hx⟩:∃ x,(w.alloc (.cells #[.int .i64 5,.bool false,.int .i64 0,.int .i64 0,.string ⟨#[]⟩,.slice none 0 0] 40)).alloc (.cells #[.pointer (some ⟨a.s,0,none⟩),.pointer (some ⟨a.p,0,none⟩)] 30)=x:=⟨_,rfl⟩;have A1:Hid (Below w.heap.size w x):=by rw[<- hx];exact ((Below.refl _ _).alloc (Nat.le_refl _) _).alloc (by rw[World.size_alloc];omega) _
 have y1:x.cell? ⟨w.heap.size+1,1,none⟩=some (.pointer (some ⟨a.p,0,none⟩)):=by rw[<- hx];simp
 rw[hx];clear hx;have HX:Hid _:=HH.out.below A1.out;have A3:Hid _:=HH.out.fa;have A0:Hid _:=xU HX.out.fa;have HJ:Hid (a.J=a.σ.log):=HX.out.fa.twin.same.log;refine Calls.mono A0.out ?_;rintro e w1 ⟨rfl,hm⟩;have z1:=mO A3.out hm (Nat.le_succ _) y1;have p2:=(hm.ref HX.out.fa).c2;rw[HJ.out] at p2;have HM:Hid _:=hm;clear hm y1 A0;obtain⟨lg,A2⟩:∃ l,a.σ.log=l:=⟨_,rfl⟩;rw[A2] at p2 ⊢;clear A2;go_wp2;go_ret;exact⟨aw (by simp),ur A1.out (HX.out.done (yr HX.out.fa HX.out.env.sz HM.out (Mid.ref HX.out.fa HM.out) (λ g hg=>Or.inl hg) (Off.refl _ _) HX.out.fa.twin))⟩
theorem zu (log:List UInt8)(x:Int)(w:World)(hx:x<1\/8<x) :
 Calls Tryz.prog 30 #[.string ⟨log.toArray⟩,.int .i64 x] w λ e w'=>e=.returned (.tuple #[.pointer none,.int .i64 0,.int .i64 1])/\w'=w:=by
 have HN:Hid _:=AO x w hx;clear hx;go_enter Tryz.func30,Tryz.ntmps30;go_wp2_with (go_at_call 28;refine Calls.mono HN.out ?_;rintro e w1 ⟨rfl,A0⟩;rw[A0];clear A0);exact bodyPost_ret (results_tmp3 Tryz.results30 _ _ _) rfl ⟨rfl,rfl⟩
theorem sv (log:List UInt8)(x:Int)(w:World)(hx:x<1\/8<x) :
 Calls Tryz.prog 31 #[.string ⟨log.toArray⟩,.int .i64 x] w λ e w'=>e=.returned (.tuple #[.pointer none,.int .i64 0,.int .i64 1])/\w'=w:=by
 have HN:Hid _:=vQ x w hx;clear hx;go_enter Tryz.func31,Tryz.ntmps31;go_wp2_with (go_at_call 29;refine Calls.mono HN.out ?_;rintro e w1 ⟨rfl,A0⟩;rw[A0];clear A0);exact bodyPost_ret (results_tmp3 Tryz.results31 _ _ _) rfl ⟨rfl,rfl⟩
abbrev rV:Array Value:=#[.pointer none,.pointer none,.pointer none,.pointer none,.slice none 0 0,.slice none 0 0]
theorem yd (g:Nat)(log:List UInt8)(x:Int)(w:World)(hx:x<1\/8<x) :
 Calls Tryz.prog 12 #[.pointer (some ⟨g,0,none⟩),.int .i64 0,.string ⟨log.toArray⟩,.int .i64 x] w λ e w'=>e=.returned (.bool true)/\w'=w:=by
 have H1:Hid _:=zu log x w hx;have H2:Hid _:=sv log x w hx;clear hx;go_enter Tryz.func12,Tryz.ntmps12;go_wp2_with (first
  | (go_at_call 30;refine Calls.mono H1.out ?_;rintro e w1 ⟨rfl,A1⟩;rw[A1];clear A1)
  | (go_at_call 31;refine Calls.mono H2.out ?_;rintro e w2 ⟨rfl,A0⟩;rw[A0];clear A0))
 go_ret;exact⟨rfl,rfl⟩
theorem wh (B:Nat->Prop)(g:Nat)(log:List UInt8)(n:Nat)(w:World)(h1:1<=n)(h8:n<=8)(hl:log.length<=9223372036854775807)(hE:Env B w)(hg:w.heap[g]?=some (.cells rV 34 (0,0)))(hgB:B g) :
 Calls Tryz.prog 12 #[.pointer (some ⟨g,0,none⟩),.int .i64 0,.string ⟨log.toArray⟩,.int .i64 n] w (pf B g w):=by
 have H1:Hid _:=yp log n w h1 h8 hl;have H2:Hid _:=λ y=>qh log n y h1 h8 hl;have HG:Hid _:=hg;have HE:Hid _:=hE;have Al:Hid _:=hgB;have Ah:g<w.heap.size:=(gL hg);obtain⟨σ,hσ⟩:∃ s,(cx log).1=s:=⟨_,rfl⟩;rw[hσ] at H1 H2;have Aj:σ.log.length<140000000000000:=by rw[<- hσ];exact (pN log).short
 have Ao:(σ.log.length:Int)<=9223372036854775807:=by omega
 clear h1 h8 hl hE hg hgB hσ Aj;go_enter Tryz.func12,Tryz.ntmps12;go_wp2_with fail;refine Calls.mono H1.out ?_;rintro e w1 ⟨s,M,rfl,A9,Aa,Ab⟩;have Af:Hid _:=A9;have A6:Hid _:=Aa;have Aq:Hid _:=Ab;clear A9 Aa Ab H1;go_wp2_with fail;refine Calls.mono (H2.out w1) ?_;rintro e w2 ⟨p,l,J,vs,rfl,Ac,Ag,Ae,Ad,A7⟩;have A2:Hid (Below w.heap.size w w2):=A6.out.trans (A7.mono A6.out.size);have A3:Hid (w2.heap[g]?=some (.cells rV 34 (0,0))):=(A2.out.block g Ah).trans HG.out;have g0:w2.cell? ⟨g,0,none⟩=some (.pointer none):=by simp[World.cell?,A3.out,rV]
 have g1:w2.cell? ⟨g,1,none⟩=some (.pointer none):=by simp[World.cell?,A3.out,rV]
 have f0:w2.frozen? ⟨g,0,none⟩=false:=by simp[World.frozen?,A3.out]
 have f1:w2.frozen? ⟨g,1,none⟩=false:=by simp[World.frozen?,A3.out]
 have Ar:g<w2.heap.size:=Nat.lt_of_lt_of_le Ah A2.out.size;have Ai:Hid _:=Ac;have Ap:Hid _:=Ag;have A5:Hid _:=Ae;have A4:Hid _:=Ad;have Am:Hid _:=A7;clear Ac Ag Ae Ad A7 H2;go_wp2_with fail;go_ret;have A1:Off (λ k=>k=g) w2 ((w2.setCell ⟨g,0,none⟩ (.pointer (some ⟨s,0,none⟩))).setCell ⟨g,1,none⟩ (.pointer (some ⟨p,0,none⟩))):=((Off.refl (λ k=>k=g) w2).set g 0 _ (Or.inl rfl)).set g 1 _ (Or.inl rfl);have A8:Off B w ((w2.setCell ⟨g,0,none⟩ (.pointer (some ⟨s,0,none⟩))).setCell ⟨g,1,none⟩ (.pointer (some ⟨p,0,none⟩))):=(Off.of_below A2.out).trans (A1.mono (λ k hk=>by rw[hk];exact Al.out));have As:=A6.out.size;have A0:∀ k,M.own s n k->w.heap.size<=k/\k<w1.heap.size:=λ k hk=>⟨Aq.out k hk,gT Af.out hk⟩;refine⟨rfl,⟨s,n,σ,M,p,l,J,vs⟩,⟨HE.out.off A8,⟨(Af.out.below Am.out).off A1 (λ k hk hh=>by have:=A0 k hk;omega),lF Ai.out A1 (λ hh=>by have h5:=A5.out;have An:p=g:=hh;omega) (λ k hk hh=>by have:=A4.out k hk;omega),Ap.out,λ k hk hh=>?_,λ k hk=>?_⟩,?_,λ hk=>?_⟩,A8⟩
 ·have:=A0 k hk;have h2:=A5.out;rcases hh with hh|hh
  ·have An:k=p:=hh;omega
  ·have:=A4.out k hh;omega
 ·refine HE.out.sz k ?_;rcases hk with hk|hk|hk
  ·exact (A0 k hk).1
  ·have Ak:k=p:=hk;have h2:=A5.out;omega
  ·have:=A4.out k hk;omega
 ·exact ah (i:=1) (v:=.pointer (some ⟨p,0,none⟩)) (ah (i:=0) (v:=.pointer (some ⟨s,0,none⟩)) A3.out)
 ·rcases hk with hk|hk|hk
  ·have:=(A0 g hk).1;omega
  ·have Ak:g=p:=hk;have h2:=A5.out;omega
  ·have:=A4.out g hk;omega
structure yc (w:World)(v:Value)(l:List (List UInt8)):Prop where
 lie:∃ o cap,v=.slice o l.length cap/\(0<l.length->∃ g off,o=some ⟨g,off,none⟩/\g<w.heap.size/\∀ (j:Nat) (x:List UInt8),l[j]?=some x->w.cell? ⟨g,off+j,none⟩=some (.string ⟨x.toArray⟩))
 str:∀ x∈l,x.length<=9223372036854775807
 len:l.length<=9223372036854775807
theorem uZ (log:List UInt8)(x:Int)(v:Value)(l:List (List UInt8))(w:World)(hM:bP w)(hT:Tbl w)(hlog:log.length<=9223372036854775807)(hv:yc w v l) :
 Calls Tryz.prog 5 #[.string ⟨log.toArray⟩,.int .i64 x,v] w λ e w'=>e=.returned (.bool true)/\Off (λ k=>w.heap.size<=k) w w':=by
 obtain⟨o,Bb,rfl,A0⟩:=hv.lie;have HV:Hid _:=hv;have A7:=hv.len;have HE:Hid _:=Env.made hM hT;have Az:Hid _:=hlog;clear hv hM hT hlog;have Aq:Hid _:=λ y (hy:w.heap.size<=y.heap.size)=>v8 4294967296 (λ k=>w.heap.size<=k) 1 y (Nat.le_refl _) (by omega) (λ k hk=>by omega);go_enter Tryz.func5,Tryz.ntmps5;go_wp2_with fail;refine Calls.mono (Aq.out _ (by rw[World.size_alloc];omega)) ?_;rintro e w1 ⟨a0,rfl,hA,A4,Ax⟩;have Ad:Hid (Below w.heap.size w w1):=((Below.refl w.heap.size w).alloc (Nat.le_refl _) _).trans (A4.mono (by rw[World.size_alloc];omega));have Ba:w.heap.size<w1.heap.size:=by have:=A4.size;rw[World.size_alloc] at this;omega
 have Af:Hid (w1.heap[w.heap.size]?=some (.cells rV 34 (0,0))):=(A4.block _ (by rw[World.size_alloc];exact Nat.lt_succ_self _)).trans (heap_alloc_new _ _);clear hA A4 Ax Aq;go_wp2_with fail;obtain⟨Y,hY⟩:∃ Y,w1.alloc (.cells #[.pointer (some ⟨a0.s,0,none⟩),.pointer (some ⟨a0.p,0,none⟩)] 30)=Y:=⟨_,rfl⟩;rw[hY];have A6:Hid (Below w.heap.size w Y):=by rw[<- hY];exact Ad.out.alloc (by omega) _
 have A3:Hid (Y.heap[w.heap.size]?=some (.cells rV 34 (0,0))):=by rw[<- hY];exact (heap_alloc_old _ _ Ba).trans Af.out
 have B6:w.heap.size<Y.heap.size:=by rw[<- hY,World.size_alloc];omega
 have At:Hid (Env (λ k=>w.heap.size<=k) Y):=HE.out.below A6.out;clear hY Ad Af HE;obtain⟨g,hg⟩:∃ g,w.heap.size=g:=⟨_,rfl⟩;have B3:Hid _:=hg;rw[hg] at A3 B6 ⊢;by_cases hx:x<1\/8<x
 ·have B7:Hid _:=yd g log x Y hx;(have c1:Y.cell? ⟨g,1,none⟩=some (.pointer none):=by simp[World.cell?,A3.out,rV]);clear hg hx;go_wp2_with (go_at_call 12;refine Calls.mono B7.out ?_;rintro e w3 ⟨rfl,As⟩;rw[As];clear As);go_ret;exact⟨rfl,by have:=B3.out;subst this;exact Off.of_below A6.out⟩
 ·obtain⟨n,rfl⟩:∃ n:Nat,x=(n:Int):=⟨x.toNat,by omega⟩;have Aj:Hid _:=wh (λ k=>w.heap.size<=k) g log n Y (by omega) (by omega) Az.out At.out A3.out (Nat.le_of_eq hg);clear hg hx;go_wp2_with fail;refine Calls.mono Aj.out ?_;rintro e w3 ⟨rfl,a3,A1,Ak⟩;(have c1:w3.cell? ⟨g,1,none⟩=some (.pointer (some ⟨a3.p,0,none⟩)):=by simp[World.cell?,A1.blk]);have Bc:=A1.lt;have B1:Hid _:=A1;have Ah:Hid (Off (λ k=>w.heap.size<=k) w w3):=(Off.of_below A6.out).trans Ak;have Av:Hid _:=uh _ g a3 w3 A1;clear A1 Ak Aj At A3;go_wp2_with fail;refine Calls.mono Av.out ?_;rintro e w4 ⟨rfl,a4,Ai,Ao⟩;have Al:Hid _:=vM _ g a4 w4 Ai;have Ag:Hid _:=Ah.out.trans Ao;clear Ai Ao Av B1 Ah c1;go_wp2_with fail;refine Calls.mono Al.out ?_;rintro e w5 ⟨rfl,a5,Au,Ar⟩;have A9:Hid _:=Au;have An:Hid _:=Ag.out.trans Ar;clear Au Ar Al Ag;go_wp2_with fail;obtain⟨ln,A5⟩:∃ x,l.length=x:=⟨_,rfl⟩;rw[A5] at A7 A0 ⊢;have Aw:Hid _:=A5;clear A5;go_loopw [9,11] (λ bv iv wr=>∃ (i:Nat) (a:bZ),i<=ln/\bv=.bool true/\iv=.int .i64 i/\Hid (Uno (λ k=>w.heap.size<=k) wr g a)/\Hid (Off (λ k=>w.heap.size<=k) w wr)) (λ _ iv _=>ln-(intOf iv).toNat);(case atStart=>exact⟨0,a5,Nat.zero_le _,rfl,rfl,A9,An⟩);case round =>
   obtain⟨i,a',hi,rfl,rfl,hU,hO⟩:=hrel;clear A9 An;by_cases hil:i<ln
   ·obtain⟨z,hz⟩:∃ z,l[i]?=some z:=⟨_,List.getElem?_eq_getElem (by have:=Aw.out;omega)⟩;obtain⟨q,B2,rfl,hq,Am⟩:=A0 (by omega);have Aa:=HV.out.str z (List.mem_of_getElem? hz);have A2:=hO.out.block q hq (by omega);(have s0:wr.cell? ⟨q,B2+i,none⟩=some (.string ⟨z.toArray⟩):=by rw[<- Am i z hz];simp only[World.cell?];rw[A2]);(have B9:(i:Int)<(ln:Int):=by omega);have A8:Hid _:=Ay _ g a' z wr hU.out Aa;clear Am hz A2 A0 Aa;go_wp2_with fail;refine Calls.mono A8.out ?_;rintro e w6 ⟨rfl,a6,Ae,Ab⟩;have B4:Hid _:=Ae;have B5:Hid _:=hO.out.trans Ab;clear Ae Ab A8;go_wp2_with fail;exact⟨⟨i+1,a6,by omega,rfl,by go_num,B4,B5⟩,by simp[intOf];omega⟩
   ·(have B9:¬ (i:Int)<(ln:Int):=by omega);have Ac:Hid _:=uh _ g a' wr hU.out;clear A0;go_wp2_with fail;refine Calls.mono Ac.out ?_;rintro e w7 ⟨rfl,a7,B8,Ap⟩;have B0:Hid _:=hO.out.trans Ap;clear B8 Ap Ac;go_wp2;go_ret;exact⟨rfl,B0.out⟩
open Go.ChangeShapes Go.WideShapes Go.ChangeAt Go.RowKit
theorem y7:Tryz.prog.cellsOf 9=1:=by kernel_rfl
theorem vw {H:Type}{enc:TypeId×Value->H}{W:World}{r:Reach}{b0:Nat}{v:Value}{d:DataW H}{p:List MemPlace}(hv:Value.okWide Tryz.prog W r b0 25 v)(h:DataW.Trod enc Tryz.prog W 0 (λ _=>true) true 25 v d p):∃ l:List (List UInt8),yc W v l:=by
 obtain⟨o,N,cap,rfl⟩:∃ o N cap,v=.slice o N cap:=okWide_slice Tryz.underlying25 hv;obtain⟨A5,hf⟩:=h;rcases Deep.open_slice Tryz.underlying25 hf with ⟨e,hx⟩|⟨a,Ab,cp,m,n,D,Pl,e,_,hl,A7,hm,hx,hc⟩
 ·simp[Value.cells] at e;obtain⟨rfl,rfl,rfl⟩:=e;exact⟨[],⟨none,0,rfl,λ h=>absurd h (by simp)⟩,by simp,by simp⟩
 ·simp[Value.cells] at e hm;obtain⟨rfl,rfl,rfl⟩:=e;subst hm;(have A3:∀ i,i<m->∃ q:List UInt8,W.cell? (a.add i)=some (.string ⟨q.toArray⟩)/\q.length<=9223372036854775807:=by intro i hi;obtain⟨Aa,h1,h2⟩:=hc i hi;rw[y7] at h1;obtain⟨_,A6,A0⟩:=World.cells?_some h1;have e0:=A0 0 (by omega);rw[Deep.add_add] at e0;obtain⟨s4,q4,_,w4⟩:=DataW.trod_string Tryz.underlying9 h2;subst q4;refine⟨s4.data.toList,by simpa using e0,?_⟩;unfold maxLen at w4;rw[Array.length_toList];exact w4);obtain⟨q,hq⟩:=Deep.choose_lt A3;refine⟨(List.range N).map q,⟨some a,m,by simp,λ h0=>?_⟩,λ x hx=>?_,?_⟩
  ·(have Ac:0<N:=by simpa using h0);obtain⟨b,A4,A2⟩:=a;(have A1:A2=none:=by simpa [Addr.add] using World.cell?_spot (hq 0 (by omega)).1);subst A1;(have A8:b<W.heap.size:=by have:=(hq 0 (by omega)).1;rw[add_plain] at this;exact eV this);refine⟨b,A4,rfl,A8,λ j x hx=>?_⟩;(have A9:j<N:=by have:=(List.getElem?_eq_some_iff.1 hx).1;simpa using this);rw[List.getElem?_map,List.getElem?_range A9] at hx;cases hx;have:=(hq j (by omega)).1;simp only[add_plain] at this;exact this
  ·obtain⟨i,hi,rfl⟩:=List.mem_map.1 hx;exact (hq i (by have:=List.mem_range.1 hi;omega)).2
  ·simp;unfold maxLen at A7;omega
open Go.ChangeShapes Go.WideShapes Go.ChangeAt Go.RowKit Go.Conc Go.ConcM
theorem bj {a b:Bool}(ha:a=true)(hb:b=true):(a&&b)=true:=by rw[ha,hb];rfl
theorem yQ:joinedFacts Tryz.prog 5 Tryz.f5 Rows.opensSpec Rows.opensRow=true:=by
 unfold joinedFacts;refine (bj (bj (bj (bj (bj (bj (bj (bj (bj (bj (bj (bj (bj (bj (bj (bj (bj (bj (bj (bj (bj (bj (bj (bj (bj (bj (bj (bj (bj (bj (bj ?_ ?_) ?_) ?_) ?_) ?_) ?_) ?_) ?_) ?_) ?_) ?_) ?_) ?_) ?_) ?_) ?_) ?_) ?_) ?_) ?_) ?_) ?_) ?_) ?_) ?_) ?_) ?_) ?_) ?_) ?_) ?_);all_goals as_aux_lemma=>kernel_rfl
end Go.Proofs.YtmehkneofinmiaaGreatDoor

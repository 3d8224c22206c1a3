/-part 51-/
import Derived.Test.YtmehkneofinmiaaGreatDoorP49
import Derived.Test.YtmehkneofinmiaaGreatDoorP50
import Derived.Test.YtmehkneofinmiaaGreatDoorP42
set_option maxRecDepth 100000
set_option maxHeartbeats 4000000
namespace Go.Proofs.YtmehkneofinmiaaGreatDoor
open Go.RowKit Go.MuLone
def sy (w w':World)(e:Ending)(s n:Nat)(M:Mem)(b:Bool)(σ':St):Prop :=
 e=.returned (.bool b)/\∃ M',ak w' s n 0 (λ _=>0) σ' M'/\Off (M.own s n) w w'/\∀ k,M'.own s n k->M.own s n k\/w.heap.size<=k
def jv (σ:St)(r:Rec):Bool:=(cL σ r).isSome
def iq (σ:St)(r:Rec):St:=(cL σ r).getD σ
theorem mp {w y:World}{s n i:Nat}{M M':Mem}{σ':St}{b:Bool}(hi:i<n)(hS:ak y s n 0 (λ j=>if j=i then 1 else 0) σ' M')(hg:M'.g=M.g)(hof:Off (M.own s n) w y)(hown:∀ k,M'.own s n k->M.own s n k\/w.heap.size<=k) :
 y.cell? ⟨M.g,i*3,none⟩=some (.int .i32 1)/\y.frozen? ⟨M.g,i*3,none⟩=false/\sy w (y.setCell ⟨M.g,i*3,none⟩ (.int .i32 0)) (.returned (.bool b)) s n M b σ':=by
 obtain⟨cs,hc,hr⟩:=hS.row;rw[hg] at hc;refine⟨?_,by simp[World.frozen?,hc],rfl,M',?_,hof.set M.g _ _ (Or.inl (Or.inr (Or.inl rfl))),hown⟩
 ·simp only[World.cell?,hc];simp[(hr i hi).1]
 ·have:=hS.lock i hi 0;rw[hg] at this;(have e:(λ j=>if j=i then (0:Int) else if j=i then 1 else 0)=λ _=>0:=by funext j;by_cases h:j=i<;>simp[h]);rw[e] at this;exact this
theorem mQ {w:World}{s n:Nat}{rd:Int}{lk:Nat->Int}{σ:St}{M:Mem}(h:ak w s n rd lk σ M){k:Nat}(hk:M.own s n k){c:Array Value}{f:Nat×Nat}:w.heap[k]?≠some (.cells c 181 f):=by
 intro e;rcases hk with rfl|rfl|⟨i,hi,hb⟩|⟨i,hi,hb⟩|⟨i,p,hi,hp,hb⟩|hb
 ·exact ad h.blk e (by decide) rfl
 ·obtain⟨cs,hc,_⟩:=h.row;exact ad hc e (by decide) rfl
 ·exact ai (h.kt i hi).k.row e (by decide) hb
 ·exact ad (h.ent i hi k hb).blk e (by decide) rfl
 ·exact ai (h.ent i hi p hp).row e (by decide) hb
 ·exact ai h.jrn e (by decide) hb
theorem yv {s n:Nat}{σ:St}{M:Mem}(r:Rec)(w:World)(h:ak w s n 0 (λ _=>0) σ M)(hr:gh r)(hlog:σ.log.length<140000000000000) :
 Calls Tryz.prog 100 #[.pointer (some ⟨s,0,none⟩),bt r.kind r.time r.key r.num r.body] w λ e w'=>sy w w' e s n M (jv σ r) (iq σ r):=by
 obtain⟨kd,tm,ky,nm,bd⟩:=r;obtain⟨Bj,Bm,B9,Br,Bk,Bh⟩:=hr;dsimp only at Bj Bm B9 Br Bk Bh ⊢;clear Bh;have Bv:=eE B9;obtain⟨rb,B5⟩:∃ x,jv σ ⟨kd,tm,ky,nm,bd⟩=x:=⟨_,rfl⟩;obtain⟨rs,Aw⟩:∃ x,iq σ ⟨kd,tm,ky,nm,bd⟩=x:=⟨_,rfl⟩;rw[B5,Aw];have Ay:Hid _:=B5;have An:Hid _:=Aw;clear B5 Aw;obtain⟨i,Ac⟩:∃ i,ao ky%n=i:=⟨_,rfl⟩;have hi:i<n:=by rw[<- Ac];exact Nat.mod_lt _ h.n1
 have HH:Hid _:=h;clear h;go_enter_defers Tryz.func100,Tryz.ntmps100;go_wp2_with fail;obtain⟨X,hX⟩:∃ X,X=w.alloc (.cells #[.int .u8 kd,.int .i64 tm,.string ⟨ky.toArray⟩,.int .i64 nm,.string ⟨bd.toArray⟩] 181):=⟨_,rfl⟩;rw[<- hX];have Aq:Below w.heap.size w X:=by rw[hX];exact (Below.refl _ _).alloc (Nat.le_refl _) _
 have hQ:X.heap[w.heap.size]?=some (.cells #[.int .u8 kd,.int .i64 tm,.string ⟨ky.toArray⟩,.int .i64 nm,.string ⟨bd.toArray⟩] 181 (0,0)):=by rw[hX];exact heap_alloc_new _ _
 have Bn:w.heap.size<X.heap.size:=(gL hQ);clear hX;have Az:=HH.out.below Aq;have Ba:X.cell? ⟨s,6,none⟩=some (.slice (some ⟨M.g,0,none⟩) n M.cap):=by simp[World.cell?,Az.blk,az]
 have HQ:Hid _:=hQ;have Ai:Hid _:=Az;have HL:Hid _:=Aq;clear hQ Az Aq;refine (j6 s M.g n M.cap ky X Ba Ai.out.n1 Ai.out.n8 (by omega)).mono ?_;rintro e w1 ⟨rfl,Ah⟩;rw[Ac];have Ap:=Ai.out.below Ah;obtain⟨cs,hc,hr⟩:=Ap.row;have l0:w1.cell? ⟨M.g,i*3,none⟩=some (.int .i32 0):=by simp only[World.cell?,hc];simp[(hr i hi).1]
 have lf:w1.frozen? ⟨M.g,i*3,none⟩=false:=by simp[World.frozen?,hc]
 have Bo:Hid _:=Ap;have Ax:Hid _:=Ah;have Bp:M.g≠w.heap.size:=ad hc ((Ah.block _ Bn).trans HQ.out) (by decide);clear Ah Ap hc hr Ba cs
 go_wp2_with (go_at_call 83
              refine (lock_free Tryz.muLib ⟨M.g,i*3,none⟩ _ l0 lf).mono ?_;rintro e w2 ⟨rfl,Ao⟩;have As:w2.heap[w.heap.size]?=some (.cells #[.int .u8 kd,.int .i64 tm,.string ⟨ky.toArray⟩,.int .i64 nm,.string ⟨bd.toArray⟩] 181 (0,0)):=(by rw[Ao,ax Bp.symm];exact (Ax.out.block _ Bn).trans HQ.out);have q2:w2.cell? ⟨w.heap.size,2,none⟩=some (.string ⟨ky.toArray⟩):=(by simp[World.cell?,As]);have Av:Hid _:=Ao;have B1:Hid _:=As
              clear Ao As l0 lf)
 have At:ak w2 s n 0 (λ j=>if j=i then 1 else 0) σ M:=by rw[Av.out];exact Bo.out.lock i hi 1
 have Ar:Off (M.own s n) w w2:=by rw[Av.out];exact (Off.of_below (HL.out.trans (Ax.out.mono HL.out.size))).set M.g _ _ (Or.inl (Or.inr (Or.inl rfl)))
 have B6:=mR ky w2 At;rw[Ac] at B6;refine B6.mono ?_;rintro e w3 ⟨p,vs,rfl,hF,Al,Bf⟩;have B7:w.heap.size<w2.heap.size:=(gL B1.out);have B4:w3.heap[w.heap.size]?=some (.cells #[.int .u8 kd,.int .i64 tm,.string ⟨ky.toArray⟩,.int .i64 nm,.string ⟨bd.toArray⟩] 181 (0,0)):=(Al.block _ B7).trans B1.out;have Ab:=At.below Al;have Am:Hid _:=Ab;have Af:Hid _:=hF;have Aj:Hid (Off (M.own s n) w w3):=Ar.trans (Off.of_below Al);have Aa:Hid (Cmn w3 s 7 σ.time σ.ents.length):=Ab.cmn;have Be:Hid _:=B4;have Ag:Hid (M.own s n p\/w.heap.size<=p):=Bf.imp_right (λ h=>Nat.le_trans Ar.size h);have Bb:Hid (w.heap.size<=w3.heap.size):=Aj.out.size;obtain⟨r0,r1,r2,r3,r4⟩:=dM B4;have Bu:=(Ab.found hF).2.2.2.2.2;have Bc:=Ab.time;clear B4 Ab hF Al Bf At Ar q2 B1 Av Bo Ax HQ Ai HL HH B6;have Bs:Hid (al w3 p (aa σ.ents ky) vs):=Af.out.ent;have A8:Hid (∀ q,Calls Tryz.prog 60 #[.pointer (some ⟨s,7,none⟩)] (w3.drewN q) λ e w'=>e=.returned (.int .i64 σ.time)/\w'=w3.drewN q):=λ q=>oI s 7 σ.time σ.ents.length _ ⟨Aa.out.l,Aa.out.t,Aa.out.k,Aa.out.f⟩;have A9:Hid (∀ q,Calls Tryz.prog 147 #[.pointer (some ⟨p,0,none⟩)] (w3.drewN q) λ e w'=>e=.returned (.int .i64 (((aa σ.ents ky).last+1:Nat):Int))/\w'=w3.drewN q):=λ q=>mv p (aa σ.ents ky) vs _ (Bs.out.below (below_drewN (Below.refl _ _) q)) (by omega);have A7:Hid (∀ y,Below w3.heap.size w3 y->(kd≠3->nm=(aa σ.ents ky).last+1)->σ.time<=tm->_):=λ y hy (h3:kd≠3->nm=(aa σ.ents ky).last+1) (ht0:σ.time<=tm)=>nK ky p vs kd tm nm bd y (Am.out.below hy) (Af.out.below hy) Bj h3 (by omega) B9 Bk hlog ht0 Bm;have Ak:Hid (∀ y,Below w3.heap.size w3 y->_):=λ y hy=>mp (w:=w) (y:=y) (M:=M) (M':=M) (σ':=σ) (b:=false) hi (Am.out.below hy) rfl (Aj.out.trans (Off.of_below hy)) (λ _ h=>Or.inl h);have Bi:cL σ ⟨kd,tm,ky,nm,bd⟩=if tm<σ.time\/(kd≠3/\nm≠(aa σ.ents ky).last+1) then none else (ca ⟨tm,σ.ents,σ.log⟩ ky kd nm bd).2:=rfl;have A3:Hid _:=Bi;obtain⟨L,hL⟩:∃ x,(aa σ.ents ky).last=x:=⟨_,rfl⟩;rw[hL] at A9 Bu A7 A3;have Bt:kd<256:=by omega
 have HN:Hid (cL σ ⟨kd,tm,ky,nm,bd⟩=none->rb=false/\rs=σ):=λ h=>by have h1:=Ay.out;have h2:=An.out;unfold jv at h1;unfold iq at h2;rw[h] at h1 h2;exact⟨h1.symm,h2.symm⟩
 clear hL Bi Aa;by_cases hA:tm<σ.time
 ·(have B2:(tm:Int)<(σ.time:Int):=by omega);obtain⟨rfl,rfl⟩:=HN.out (by rw[A3.out,if_pos (Or.inl hA)]);clear HN A7 A3;go_wp2_with fail;go_quiet (first
   | (go_at_call 60;exact Calls.quiet_of_same (A8.out _)))
  obtain⟨W,hW⟩:∃ W,W=w3.drewN nq:=⟨_,rfl⟩;rw[<- hW];have HE:Hid _:=Ak.out W (by rw[hW];exact below_drewN (Below.refl _ _) nq);clear hW;go_wp2;refine leaves_cons (f:=84) (args:=#[.pointer (some ⟨M.g,i*3,none⟩)]) (by simp) (by simp[go_sem]) ?_;refine (unlock_deferred Tryz.muLib ⟨M.g,i*3,none⟩ .returning _ HE.out.1 HE.out.2.1).mono ?_;rintro e u' Ae ⟨rfl,rfl,rfl⟩;exact⟨_,results_tmp rfl _ _ _,And.intro rfl HE.out.2.2.2⟩
 ·(have B2:¬ (tm:Int)<(σ.time:Int):=by omega);by_cases hB:kd=3
  ·(have Au:(kd:Int)=3:=by omega);have Bd:Hid (kd=3):=hB;clear hB;go_wp2_with fail;go_quiet (first
    | (go_at_call 60;exact Calls.quiet_of_same (A8.out _))
    | (go_at_call 147;exact Calls.quiet_of_same (A9.out _)))
   obtain⟨W,hW⟩:∃ W,W=w3.drewN nq:=⟨_,rfl⟩;rw[<- hW];(have A4:Below w3.heap.size w3 W.drew:=by rw[hW];exact (below_drewN (Below.refl _ _) nq).drew);have A2:Hid _:=A7.out W.drew A4 (λ h=>absurd Bd.out h) (by omega);(have A6:W.heap[w.heap.size]?=some (.cells #[.int .u8 kd,.int .i64 tm,.string ⟨ky.toArray⟩,.int .i64 nm,.string ⟨bd.toArray⟩] 181 (0,0)):=by rw[hW];exact Be.out);have sW:=dM A6;have A0:Hid _:=A6;have A1:Hid _:=A4;(have A5:Hid (cL σ ⟨kd,tm,ky,nm,bd⟩=(ca ⟨tm,σ.ents,σ.log⟩ ky kd nm bd).2):=by show _=_;rw[A3.out,if_neg (by have:=Bd.out;omega)]);clear hW A4 A6 r0 r1 r2 r3 r4 A7 A8 A9 A3 Au B2;rw[Ac] at A2;obtain⟨cf,Ad⟩:∃ x,ca ⟨tm,σ.ents,σ.log⟩ ky kd nm bd=x:=⟨_,rfl⟩;rw[Ad] at A2 A5;clear Ad;obtain⟨B8,o⟩:=cf;cases o with
   | none =>
     obtain⟨rfl,rfl⟩:=HN.out A5.out;dsimp only at A2;go_wp2_with fail
     go_region_held3 (λ y=>y.cell? ⟨w.heap.size,0,none⟩=some (.int .u8 kd)/\y.cell? ⟨w.heap.size,1,none⟩=some (.int .i64 tm)/\y.cell? ⟨w.heap.size,2,none⟩=some (.string ⟨ky.toArray⟩)/\y.cell? ⟨w.heap.size,3,none⟩=some (.int .i64 nm)/\y.cell? ⟨w.heap.size,4,none⟩=some (.string ⟨bd.toArray⟩)) (first|assumption|go_keep) (
      (go_at_call 143
       refine Calls.mono A2.out ?_;rintro e w4 ⟨rfl,b4⟩
       have s4:=dM ((b4.block _ (gL A0.out)).trans A0.out)))
     have HE:Hid _:=Ak.out w4 (A1.out.trans (b4.mono A1.out.size));clear b4 s4 sW;go_wp2;refine leaves_cons (f:=84) (args:=#[.pointer (some ⟨M.g,i*3,none⟩)]) (by simp) (by simp[go_sem]) ?_;refine (unlock_deferred Tryz.muLib ⟨M.g,i*3,none⟩ .returning _ HE.out.1 HE.out.2.1).mono ?_;rintro e u' Ae ⟨rfl,rfl,rfl⟩;exact⟨_,results_tmp rfl _ _ _,And.intro rfl HE.out.2.2.2⟩
   | some σ' =>
     (have hY:rb=true/\rs=σ':=by have h1:=Ay.out;have h2:=An.out;unfold jv at h1;unfold iq at h2;rw[A5.out] at h1 h2;exact⟨h1.symm,h2.symm⟩);obtain⟨rfl,rfl⟩:=hY;dsimp only at A2;have B0:Hid (ak W.drew s n 0 (λ j=>if j=i then 1 else 0) σ M):=Am.out.below A1.out;have B3:Hid _:=(Af.out.ent.below A1.out).blk;go_wp2_with fail
     go_region_held3 (λ y=>y.cell? ⟨w.heap.size,0,none⟩=some (.int .u8 kd)/\y.cell? ⟨w.heap.size,1,none⟩=some (.int .i64 tm)/\y.cell? ⟨w.heap.size,2,none⟩=some (.string ⟨ky.toArray⟩)/\y.cell? ⟨w.heap.size,3,none⟩=some (.int .i64 nm)/\y.cell? ⟨w.heap.size,4,none⟩=some (.string ⟨bd.toArray⟩)) (first|assumption|go_keep) (
      (go_at_call 143
       refine Calls.mono A2.out ?_;rintro e w4 ⟨rfl,M',c4⟩
       have s4:=dM ((c4.off.block _ (gL A0.out) (by rintro (h|h);exact mQ B0.out h A0.out;exact ad A0.out B3.out (by decide) h)).trans A0.out)))
     have HE:Hid _:=mp (w:=w) (y:=w4) (M:=M) (M':=M') (σ':=rs) (b:=true) hi c4.st c4.g ((Aj.out.trans (Off.of_below A1.out)).trans' c4.off (λ k hk h=>by
      rcases h with h|h
      ·exact h
      ·rcases Ag.out with h2|h2
       ·exact h ▸ h2
       ·omega)) (λ k hk=>by
      rcases c4.own k hk with h|h|h
      ·exact Or.inl h
      ·exact Or.inr (Nat.le_trans (Nat.le_trans Bb.out A1.out.size) h)
      ·rw[h];exact Ag.out)
     clear c4 s4 sW;go_wp2;refine leaves_cons (f:=84) (args:=#[.pointer (some ⟨M.g,i*3,none⟩)]) (by simp) (by simp[go_sem]) ?_;refine (unlock_deferred Tryz.muLib ⟨M.g,i*3,none⟩ .returning _ HE.out.1 HE.out.2.1).mono ?_;rintro e u' Ae ⟨rfl,rfl,rfl⟩;exact⟨_,results_tmp rfl _ _ _,And.intro rfl HE.out.2.2.2⟩
  ·(have Au:¬ (kd:Int)=3:=by omega);(have Bq:((kd:Int) != 3)=true:=by simp;omega);by_cases hC:nm=L+1
   ·(have Bg:(nm:Int)=((L+1:Nat):Int):=by omega);have Bl:Hid (nm=L+1):=hC;clear hC;go_wp2_with fail;go_quiet (first
     | (go_at_call 60;exact Calls.quiet_of_same (A8.out _))
     | (go_at_call 147;exact Calls.quiet_of_same (A9.out _)))
    obtain⟨W,hW⟩:∃ W,W=w3.drewN nq:=⟨_,rfl⟩;rw[<- hW];(have A4:Below w3.heap.size w3 W.drew:=by rw[hW];exact (below_drewN (Below.refl _ _) nq).drew);have A2:Hid _:=A7.out W.drew A4 (λ _=>Bl.out) (by omega);(have A6:W.heap[w.heap.size]?=some (.cells #[.int .u8 kd,.int .i64 tm,.string ⟨ky.toArray⟩,.int .i64 nm,.string ⟨bd.toArray⟩] 181 (0,0)):=by rw[hW];exact Be.out);have sW:=dM A6;have A0:Hid _:=A6;have A1:Hid _:=A4;(have A5:Hid (cL σ ⟨kd,tm,ky,nm,bd⟩=(ca ⟨tm,σ.ents,σ.log⟩ ky kd nm bd).2):=by show _=_;rw[A3.out,if_neg (by have:=Bl.out;omega)]);clear hW A4 A6 r0 r1 r2 r3 r4 A7 A8 A9 A3 Au Bq Bg B2;rw[Ac] at A2;obtain⟨cf,Ad⟩:∃ x,ca ⟨tm,σ.ents,σ.log⟩ ky kd nm bd=x:=⟨_,rfl⟩;rw[Ad] at A2 A5;clear Ad;obtain⟨B8,o⟩:=cf;cases o with
    | none =>
      obtain⟨rfl,rfl⟩:=HN.out A5.out;dsimp only at A2;go_wp2_with fail
      go_region_held3 (λ y=>y.cell? ⟨w.heap.size,0,none⟩=some (.int .u8 kd)/\y.cell? ⟨w.heap.size,1,none⟩=some (.int .i64 tm)/\y.cell? ⟨w.heap.size,2,none⟩=some (.string ⟨ky.toArray⟩)/\y.cell? ⟨w.heap.size,3,none⟩=some (.int .i64 nm)/\y.cell? ⟨w.heap.size,4,none⟩=some (.string ⟨bd.toArray⟩)) (first|assumption|go_keep) (
       (go_at_call 143
        refine Calls.mono A2.out ?_;rintro e w4 ⟨rfl,b4⟩
        have s4:=dM ((b4.block _ (gL A0.out)).trans A0.out)))
      have HE:Hid _:=Ak.out w4 (A1.out.trans (b4.mono A1.out.size));clear b4 s4 sW;go_wp2;refine leaves_cons (f:=84) (args:=#[.pointer (some ⟨M.g,i*3,none⟩)]) (by simp) (by simp[go_sem]) ?_;refine (unlock_deferred Tryz.muLib ⟨M.g,i*3,none⟩ .returning _ HE.out.1 HE.out.2.1).mono ?_;rintro e u' Ae ⟨rfl,rfl,rfl⟩;exact⟨_,results_tmp rfl _ _ _,And.intro rfl HE.out.2.2.2⟩
    | some σ' =>
      (have hY:rb=true/\rs=σ':=by have h1:=Ay.out;have h2:=An.out;unfold jv at h1;unfold iq at h2;rw[A5.out] at h1 h2;exact⟨h1.symm,h2.symm⟩);obtain⟨rfl,rfl⟩:=hY;dsimp only at A2;have B0:Hid (ak W.drew s n 0 (λ j=>if j=i then 1 else 0) σ M):=Am.out.below A1.out;have B3:Hid _:=(Af.out.ent.below A1.out).blk;go_wp2_with fail
      go_region_held3 (λ y=>y.cell? ⟨w.heap.size,0,none⟩=some (.int .u8 kd)/\y.cell? ⟨w.heap.size,1,none⟩=some (.int .i64 tm)/\y.cell? ⟨w.heap.size,2,none⟩=some (.string ⟨ky.toArray⟩)/\y.cell? ⟨w.heap.size,3,none⟩=some (.int .i64 nm)/\y.cell? ⟨w.heap.size,4,none⟩=some (.string ⟨bd.toArray⟩)) (first|assumption|go_keep) (
       (go_at_call 143
        refine Calls.mono A2.out ?_;rintro e w4 ⟨rfl,M',c4⟩
        have s4:=dM ((c4.off.block _ (gL A0.out) (by rintro (h|h);exact mQ B0.out h A0.out;exact ad A0.out B3.out (by decide) h)).trans A0.out)))
      have HE:Hid _:=mp (w:=w) (y:=w4) (M:=M) (M':=M') (σ':=rs) (b:=true) hi c4.st c4.g ((Aj.out.trans (Off.of_below A1.out)).trans' c4.off (λ k hk h=>by
       rcases h with h|h
       ·exact h
       ·rcases Ag.out with h2|h2
        ·exact h ▸ h2
        ·omega)) (λ k hk=>by
       rcases c4.own k hk with h|h|h
       ·exact Or.inl h
       ·exact Or.inr (Nat.le_trans (Nat.le_trans Bb.out A1.out.size) h)
       ·rw[h];exact Ag.out)
      clear c4 s4 sW;go_wp2;refine leaves_cons (f:=84) (args:=#[.pointer (some ⟨M.g,i*3,none⟩)]) (by simp) (by simp[go_sem]) ?_;refine (unlock_deferred Tryz.muLib ⟨M.g,i*3,none⟩ .returning _ HE.out.1 HE.out.2.1).mono ?_;rintro e u' Ae ⟨rfl,rfl,rfl⟩;exact⟨_,results_tmp rfl _ _ _,And.intro rfl HE.out.2.2.2⟩
   ·(have Bg:¬ (nm:Int)=((L+1:Nat):Int):=by omega);(have Bw:((nm:Int) != (L:Int)+1)=true:=by simp;omega);obtain⟨rfl,rfl⟩:=HN.out (by rw[A3.out,if_pos (Or.inr ⟨hB,hC⟩)]);clear HN A7 A3;go_wp2_with fail;go_quiet (first
     | (go_at_call 60;exact Calls.quiet_of_same (A8.out _))
     | (go_at_call 147;exact Calls.quiet_of_same (A9.out _)))
    obtain⟨W,hW⟩:∃ W,W=w3.drewN nq:=⟨_,rfl⟩;rw[<- hW];have HE:Hid _:=Ak.out W (by rw[hW];exact below_drewN (Below.refl _ _) nq);clear hW;go_wp2;refine leaves_cons (f:=84) (args:=#[.pointer (some ⟨M.g,i*3,none⟩)]) (by simp) (by simp[go_sem]) ?_;refine (unlock_deferred Tryz.muLib ⟨M.g,i*3,none⟩ .returning _ HE.out.1 HE.out.2.1).mono ?_;rintro e u' Ae ⟨rfl,rfl,rfl⟩;exact⟨_,results_tmp rfl _ _ _,And.intro rfl HE.out.2.2.2⟩
open Go.RowKit
theorem yu {σ:St}{r:Rec}:(jv σ r=true/\cL σ r=some (iq σ r))\/(jv σ r=false/\cL σ r=none/\iq σ r=σ):=by
 unfold jv iq;cases cL σ r with
 | none=>right;exact⟨rfl,rfl,rfl⟩
 | some σ'=>left;exact⟨rfl,rfl⟩
theorem ws {t rest:List UInt8}{r:Rec}(h:eM t=some (r,rest)):rest.length<t.length/\rest.length+20<=t.length:=by
 have ⟨_,e⟩:=kx h;have:=congrArg List.length e;rw[List.length_append,de] at this;omega
theorem rD {k:Nat}{σ σ':St}{t rs:List UInt8}{r:Rec}(hc:eM t=some (r,rs))(hs:cL σ r=some σ'):aG (k+1) σ t=aG k σ' rs:=by
 conv=>lhs;unfold aG
 rw[hc];simp only[hs]
theorem pS {k:Nat}{σ:St}{t rs:List UInt8}{r:Rec}(hc:eM t=some (r,rs))(hs:cL σ r=none):aG k σ t=(σ,t):=by
 cases k with
 | zero=>rfl
 | succ k =>(conv=>lhs;unfold aG);rw[hc];simp only[hs]
structure Rpl (w:World)(s n:Nat)(M:Mem)(log:List UInt8)(rv:Value)(wr:World):Prop where
 ex:∃ (σ:St) (rest:List UInt8) (M1:Mem) (d:Nat),rv=.string ⟨rest.toArray⟩/\ak wr s n 0 (λ _=>0) σ M1/\Off (M.own s n) w wr/\(∀ k,M1.own s n k->M.own s n k\/w.heap.size<=k)/\(∀ k,aG (d+k) st0 log=aG k σ rest)/\d+rest.length<=log.length
def Aj:Value->Nat
 | .string b=>b.size
 | _=>0
theorem tG {s n:Nat}{M:Mem}(log:List UInt8)(w:World)(h:ak w s n 0 (λ _=>0) st0 M)(hl:log.length<=9223372036854775807)
 (hb:∀ σ rest,(∃ m,aG m st0 log=(σ,rest))->σ.log.length<140000000000000) :
 Calls Tryz.prog 52 #[.pointer (some ⟨s,0,none⟩),.string ⟨log.toArray⟩] w λ e w'=>∃ σ rest M',(∀ k,log.length<=k->aG k st0 log=(σ,rest))/\e=.returned (.int .i64 ((log.length:Int)-(rest.length:Int)))/\ak w' s n 0 (λ _=>0) σ M'/\Off (M.own s n) w w'/\∀ k,M'.own s n k->M.own s n k\/w.heap.size<=k:=by
 have HH:Hid _:=h;have HB:Hid _:=hb;clear h hb;go_enter Tryz.func52,Tryz.ntmps52;go_wp2_with fail;go_loopw [5] (λ rv wr=>Rpl w s n M log rv wr) (λ rv _=>Aj rv);case atStart=>exact⟨st0,log,M,0,rfl,HH.out,Off.refl _ _,λ _ h=>Or.inl h,λ k=>by rw[Nat.zero_add],by omega⟩
 case round =>
  obtain⟨σ,rest,M1,d,rfl,hS,hO,hW,hR,hd⟩:=hrel.ex;clear hrel;have Ab:σ.log.length<140000000000000:=HB.out σ rest ⟨d,hR 0⟩;have HS:Hid _:=hS;have HO:Hid _:=hO;have HW:Hid _:=hW;have HR:Hid _:=hR;have Af:s<wr.heap.size:=(gL hS.blk);clear hS hO hW hR HH HB;cases hc:eM rest with
  | none =>
    (have HC:Hid (Calls Tryz.prog 99 #[.string ⟨rest.toArray⟩] wr λ e w'=>e=.returned (.tuple #[bt 0 0 [] 0 [],.string ⟨#[]⟩,.bool false])/\Below wr.heap.size wr w'):=by have:=qV rest wr;rw[iD hc] at this;exact this);have A5:Hid (∀ k,log.length<=k->aG k st0 log=(σ,rest)):=λ k hk=>by
     obtain⟨q,rfl⟩:∃ q,k=d+q:=⟨k-d,by omega⟩;rw[HR.out q];cases q with
     | zero=>rfl
     | succ q=>unfold aG;rw[hc]
    clear hc;go_wp2_with (go_at_call 99;refine Calls.mono HC.out ?_;rintro e w1 ⟨rfl,b1⟩;have A3:Hid _:=b1;have A0:=b1.size;clear b1);go_ret;have A1:Below wr.heap.size wr (w1.alloc (.cells #[.int .u8 0,.int .i64 0,.string ⟨#[]⟩,.int .i64 0,.string ⟨#[]⟩] 181)):=A3.out.alloc A0 _;exact⟨σ,rest,M1,A5.out,rfl,HS.out.below A1,HO.out.trans (Off.of_below A1),HW.out⟩
  | some x =>
    obtain⟨r,rs⟩:=x;have A2:=(kx hc).1;have Ag:=ws hc;(have HC:Hid (Calls Tryz.prog 99 #[.string ⟨rest.toArray⟩] wr λ e w'=>e=.returned (.tuple #[bt r.kind r.time r.key r.num r.body,.string ⟨rs.toArray⟩,.bool true])/\Below wr.heap.size wr w'):=by have:=qV rest wr;rw[mf hc] at this;exact this);have A4:Hid (∀ y,Below wr.heap.size wr y->Calls Tryz.prog 100 #[.pointer (some ⟨s,0,none⟩),bt r.kind r.time r.key r.num r.body] y λ e w'=>sy y w' e s n M1 (jv σ r) (iq σ r)):=λ y hy=>yv r y (HS.out.below hy) A2 Ab;rcases yu (σ:=σ) (r:=r) with ⟨hb,hs⟩|⟨hb,hs,Ae⟩
    ·(have Ad:Hid (∀ k,aG (d+1+k) st0 log=aG k (iq σ r) rs):=λ k=>by rw[show d+1+k=d+(k+1) by omega,HR.out];exact rD hc hs);rw[hb] at A4;obtain⟨σ2,hσ2⟩:∃ x,iq σ r=x:=⟨_,rfl⟩;rw[hσ2] at A4 Ad;obtain⟨kd,tm,ky,nm,bd⟩:=r;clear hc hs hb hσ2 A2;dsimp only at HC A4;go_wp2_with (first
      | (go_at_call 99;refine Calls.mono HC.out ?_;rintro e w1 ⟨rfl,b1⟩;have A3:Hid _:=b1;have A0:=b1.size;clear b1)
      | (go_at_call 100;refine Calls.mono (A4.out _ (A3.out.alloc A0 _)) ?_;rintro e w2 ⟨rfl,M2,A6,A8,A7⟩;have Ac:Hid _:=A6;have A9:Hid _:=A8;have Aa:Hid _:=A7;clear A6 A8 A7))
     have A1:=A3.out.alloc A0 (.cells #[.int .u8 kd,.int .i64 tm,.string ⟨ky.toArray⟩,.int .i64 nm,.string ⟨bd.toArray⟩] 181);exact⟨⟨σ2,rs,M2,d+1,rfl,Ac.out,(HO.out.trans (Off.of_below A1)).trans' A9.out (λ k hk h=>(HW.out k h).elim id (λ h=>by omega)),λ k hk=>(Aa.out k hk).elim (HW.out k) (λ h=>Or.inr (Nat.le_trans (Nat.le_trans HO.out.size A1.size) h)),Ad.out,by omega⟩,by simp[Aj,ByteArray.size];omega⟩
    ·(have A5:Hid (∀ k,log.length<=k->aG k st0 log=(σ,rest)):=λ k hk=>by obtain⟨q,rfl⟩:∃ q,k=d+q:=⟨k-d,by omega⟩;rw[HR.out q];exact pS hc hs);rw[hb,Ae] at A4;obtain⟨kd,tm,ky,nm,bd⟩:=r;clear hc hs Ae hb A2;dsimp only at HC A4;go_wp2_with (first
      | (go_at_call 99;refine Calls.mono HC.out ?_;rintro e w1 ⟨rfl,b1⟩;have A3:Hid _:=b1;have A0:=b1.size;clear b1)
      | (go_at_call 100;refine Calls.mono (A4.out _ (A3.out.alloc A0 _)) ?_;rintro e w2 ⟨rfl,M2,A6,A8,A7⟩;have Ac:Hid _:=A6;have A9:Hid _:=A8;have Aa:Hid _:=A7;clear A6 A8 A7))
     go_ret;have A1:=A3.out.alloc A0 (.cells #[.int .u8 kd,.int .i64 tm,.string ⟨ky.toArray⟩,.int .i64 nm,.string ⟨bd.toArray⟩] 181);exact⟨σ,rest,M2,A5.out,rfl,Ac.out,(HO.out.trans (Off.of_below A1)).trans' A9.out (λ k hk h=>(HW.out k h).elim id (λ h=>by omega)),λ k hk=>(Aa.out k hk).elim (HW.out k) (λ h=>Or.inr (Nat.le_trans (Nat.le_trans HO.out.size A1.size) h))⟩
noncomputable def cx (log:List UInt8):St×List UInt8:=aG log.length st0 log
theorem jb0:Jb st0:=⟨by simp[st0,cA],λ E hE=>by simp[st0] at hE,by simp[st0],by simp[st0]⟩
theorem pN (log:List UInt8):Jb (cx log).1:=jY log.length st0 _ log _ jb0 rfl
theorem uS (log:List UInt8):log=(cx log).1.log++(cx log).2/\cx (cx log).1.log=((cx log).1,[]):=by
 obtain⟨c,h1,h2,h3⟩:=oh log.length st0 (cx log).1 log (cx log).2 rfl;have e:(cx log).1.log=c:=by rw[h2];simp[st0]
 refine⟨by rw[e];exact h1,?_⟩;rw[e];exact h3 c.length (Nat.le_refl _)
theorem yp (log:List UInt8)(n:Nat)(w:World)(h1:1<=n)(h8:n<=8)(hl:log.length<=9223372036854775807) :
 Calls Tryz.prog 30 #[.string ⟨log.toArray⟩,.int .i64 n] w λ e w'=>∃ s M,e=.returned (.tuple #[.pointer (some ⟨s,0,none⟩),.int .i64 (((cx log).1.log.length:Nat):Int),.int .i64 0])/\ak w' s n 0 (λ _=>0) (cx log).1 M/\Below w.heap.size w w'/\∀ k,M.own s n k->w.heap.size<=k:=by
 have HN:Hid _:=uF n w h1 h8;have A0:((cx log).1.log.length:Int)=(log.length:Int)-((cx log).2.length:Int):=by have:=congrArg List.length (uS log).1;rw[List.length_append] at this;omega
 obtain⟨σ0,r0,hF⟩:∃ σ0 r0,cx log=(σ0,r0):=⟨_,_,rfl⟩;rw[hF] at A0 ⊢;dsimp only at A0 ⊢;have A5:Hid _:=hF;have A4:Hid _:=A0;clear A0 hF;go_enter Tryz.func30,Tryz.ntmps30;go_wp2_with fail;refine Calls.mono HN.out ?_;rintro e w1 ⟨s,M,rfl,hS,hb,hO⟩;have HR:Hid _:=tG log w1 hS hl (λ σ rest ⟨m,hm⟩=>(jY m st0 σ log rest jb0 hm).short);have HB:Hid _:=hb;have HO:Hid _:=hO;clear hS hb hO HN;go_wp2_with fail;refine Calls.mono HR.out ?_;rintro e w2 ⟨σ,rest,M2,hk,rfl,A2,A1,A3⟩;have hf:cx log=(σ,rest):=hk log.length (Nat.le_refl _);obtain⟨rfl,rfl⟩:σ0=σ/\r0=rest:=by have:=A5.out.symm.trans hf;injection this with h1 h2;exact⟨h1,h2⟩
 have H1:Hid _:=A2;have H2:Hid (Below w.heap.size w w2):=HB.out.trans ⟨A1.os,A1.tape,A1.output,A1.size,λ k hk=>A1.block k (Nat.lt_of_lt_of_le hk HB.out.size) (λ h=>by have:=HO.out k h;omega)⟩;have H3:Hid (∀ k,M2.own s n k->w.heap.size<=k):=λ k hk=>(A3 k hk).elim (HO.out k) (λ h=>Nat.le_trans HB.out.size h);clear hk hf A2 A1 A3 HR HB HO;go_wp2_with fail;refine bodyPost_ret (results_tmp3 Tryz.results30 _ _ _) rfl ⟨s,M2,?_,H1.out,H2.out,H3.out⟩;rw[A4.out];rfl
def gU (w:World)(p t:Nat)(l:List Itm)(J:List UInt8)(vs:Value)(o:Option (Nat×Rst×Nat))(e:Ending)(w':World):Prop:=match o with
 | none=>e=.returned (.int .i64 0)/\∃ vs',aC w' p t l J vs'/\(∀ g,vs'.ownBlock=some g->vs.ownBlock=some g\/w.heap.size<=g)/\Off (λ k=>k=p\/vs.ownBlock=some k) w w'
 | some (t',s,n)=>e=.returned (.int .i64 (n:Nat))/\∃ vs',aC w' p t' s.l s.J vs'/\(∀ g,vs'.ownBlock=some g->vs.ownBlock=some g\/w.heap.size<=g)/\Off (λ k=>k=p\/vs.ownBlock=some k) w w'
theorem rp {w:World}{p t:Nat}{l:List Itm}{J:List UInt8}{vs:Value}(h:aC w p t l J vs)(t':Nat):aC (w.setCell ⟨p,0,none⟩ (.int .i64 t')) p t' l J vs:=by
 have A3:=h.apart;refine⟨ah h.blk,⟨h.row.1,h.row.2.imp id ?_⟩,h.few⟩;rintro ⟨g,A2,A1,A0,hg,hh,r⟩;refine⟨g,A2,A1,A0,hg,?_,r⟩;rw[<- hh];refine Deep.blk_setCell_other w ⟨p,0,none⟩ _ g (λ e=>?_);have e':g=p:=e;rw[e'] at A0;exact A3 (by rw[A0];rfl)
theorem xp {u:List UInt8}{r:Rec}(h:rpF u=some r):r.time<=253402300799/\r.key.length<=40/\r.body.length<=400/\r.num<4294967296:=by
 unfold rpF at h;split at h
 ·cases h
 ·split at h
  ·cases h
  ·split at h
   ·cases h
   ·rename_i c3;split at h
    ·cases h
    ·rename_i c4;cases h;rw[not_or] at c3;rw[not_or,not_or] at c4;exact⟨Nat.le_of_not_lt c3.2,eE (by simpa using c4.1),Nat.le_of_not_lt c4.2.1,ja _ 4⟩
theorem qv (p t:Nat)(l:List Itm)(J:List UInt8)(vs:Value)(log:List UInt8)(a:Nat)(w:World)(h:aC w p t l J vs)(ha:a<=log.length)(ha2:a<=1000000000000000)(hlog:log.length<=9223372036854775807)(hl:l.length+1<1000000000000)(hJ:J.length<=900000000000000)(ht:t<=253402300799)(hn:∀ key,aH key l<1000000000000)(hi:∀ it∈l,it.num<4611686018427387904/\it.key.length<=1000) :
 Calls Tryz.prog 53 #[.pointer (some ⟨p,0,none⟩),.string ⟨log.toArray⟩,.int .i64 a] w (gU w p t l J vs (eh t ⟨l,J⟩ (log.drop a))):=by
 have A4:=h.lt;refine vV p t log a w _ h.c0 (by simp[World.frozen?,h.blk]) h.lt ht ha ha2 hlog ?_ ?_
 ·intro A2 w2 hb;have e:eh t ⟨l,J⟩ (log.drop a)=none:=by
   unfold eh;cases hr:rpF (log.drop a) with
   | none=>rfl
   | some r=>exact if_pos (A2 r hr)
  rw[e];exact⟨rfl,vs,h.below hb,λ g hg=>Or.inl hg,Off.of_below hb⟩
 ·intro r hr A3 w2 hb;have A5:=Ak hr;(have e:eh t ⟨l,J⟩ (log.drop a)=(ey r.time ⟨l,J⟩ r.kind r.key r.num r.body).map λ s'=>(r.time,s',rpN (log.drop a)+6):=by unfold eh;rw[hr];exact if_neg (by omega));rw[e];have h2:=rp (h.below hb) r.time;have hs:=xp hr;have A0:Off (λ k=>k=p\/vs.ownBlock=some k) w (w2.setCell ⟨p,0,none⟩ (.int .i64 r.time)):=(Off.of_below hb).set p 0 _ (Or.inl (Or.inl rfl));refine (pu p r.time l J vs r.kind r.key r.num r.body _ h2 hl hJ (by omega) (hn _) (by omega) (by omega) (by omega) hi).mono ?_;intro e w' hh;cases ho:ey r.time ⟨l,J⟩ r.kind r.key r.num r.body with
  | none =>rw[ho] at hh;obtain⟨rfl,rfl⟩:=hh;refine Or.inr ⟨rfl,⟨_,h2.c0⟩,by simp[World.frozen?,h2.blk],rfl,vs,rp h2 t,λ g hg=>Or.inl hg,A0.set p 0 _ (Or.inl (Or.inl rfl))⟩
  | some s' =>rw[ho] at hh;obtain⟨rfl,A1,q1,q2,q3⟩:=hh;have hz:w.heap.size<=(w2.setCell ⟨p,0,none⟩ (.int .i64 r.time)).heap.size:=A0.size;exact Or.inl ⟨rfl,rfl,A1,q1,λ g hg=>(q2 g hg).imp id (λ h=>Nat.le_trans hz h),A0.trans q3⟩
structure Fox (w:World)(p:Nat)(log:List UInt8)(av nv:Value)(wr:World):Prop where
 ex:∃ (σ:St) (l:List Itm) (J:List UInt8) (vs:Value) (a n:Nat),av=.int .i64 (a:Nat)/\nv=.int .i64 (n:Nat)/\Fol log σ ⟨l,J⟩ (a+n)/\aC wr p σ.time l J vs/\(∀ g,vs.ownBlock=some g->w.heap.size<=g)/\Below w.heap.size w wr/\(n=0->eh σ.time ⟨l,J⟩ (log.drop a)=none)
theorem Fol.more {log:List UInt8}{σ:St}{l:List Itm}{J:List UInt8}{a p:Nat}{vs:Value}{w:World}(h:Fol log σ ⟨l,J⟩ a)(hr:aC w p σ.time l J vs)(hlog:log.length<=9223372036854775807) :
 Calls Tryz.prog 53 #[.pointer (some ⟨p,0,none⟩),.string ⟨log.toArray⟩,.int .i64 (a:Nat)] w (gU w p σ.time l J vs (eh σ.time ⟨l,J⟩ (log.drop a))):=by
 have hz:=h.twin.sizes h.ok h.jb.many;simp only at hz;have ha:=h.at_;refine qv p σ.time l J vs log a w hr h.le (by omega) hlog (by omega) (by omega) h.ok.time (λ key=>by have:=hz.2.2 key;omega) (λ it hit=>⟨?_,?_⟩)
 ·have h1:it.num<=aH it.key l:=h.twin.num it hit;have h2:=hz.2.2 it.key;omega
 ·have:=eE (h.twin.key it hit);omega
theorem nV {S:Nat->Prop}{w x y:World}(hb:Below w.heap.size w x)(ho:Off S x y)(hS:∀ k,S k->w.heap.size<=k):Below w.heap.size w y :=
 hb.trans ⟨ho.os,ho.tape,ho.output,ho.size,λ k hk=>ho.block k (Nat.lt_of_lt_of_le hk hb.size) (λ h=>by have:=hS k h;omega)⟩
theorem Fol.step {log:List UInt8}{σ:St}{l:List Itm}{J:List UInt8}{a p:Nat}{vs:Value}{w x y:World}{e:Ending}(hf:Fol log σ ⟨l,J⟩ a)(hp:w.heap.size<=p)(hv:∀ g,vs.ownBlock=some g->w.heap.size<=g)(hb:Below w.heap.size w x)(hm:gU x p σ.time l J vs (eh σ.time ⟨l,J⟩ (log.drop a)) e y):∃ n:Nat,e=.returned (.int .i64 (n:Nat))/\a+n<=log.length/\Fox w p log (.int .i64 (a:Nat)) (.int .i64 (n:Nat)) y:=by
 cases ho:eh σ.time ⟨l,J⟩ (log.drop a) with
 | none =>rw[ho] at hm;obtain⟨rfl,A0,h1,h2,h3⟩:=hm;exact⟨0,rfl,hf.le,⟨σ,l,J,A0,a,0,rfl,rfl,hf,h1,λ g hg=>(h2 g hg).elim (hv g) (λ h=>Nat.le_trans hb.size h),nV hb h3 (λ k hk=>hk.elim (λ e=>by omega) (hv k)),λ _=>ho⟩⟩
 | some x3 =>obtain⟨t',s',n⟩:=x3;rw[ho] at hm;obtain⟨rfl,A0,h1,h2,h3⟩:=hm;obtain⟨σ',rfl,A1,hn,A2⟩:=hf.next ho;exact⟨n,rfl,A2,⟨σ',s'.l,s'.J,A0,a,n,rfl,rfl,A1,h1,λ g hg=>(h2 g hg).elim (hv g) (λ h=>Nat.le_trans hb.size h),nV hb h3 (λ k hk=>hk.elim (λ e=>by omega) (hv k)),λ h0=>by omega⟩⟩
theorem BF (log:List UInt8):Fol log st0 ⟨[],[]⟩ 0:=⟨Ao _,⟨by simp[st0,cA],λ E hE=>by simp[st0] at hE,by simp[st0]⟩,jb0,Nat.zero_le _,by simp[st0],0,λ k=>by rw[Nat.zero_add];rfl,Nat.le_refl _⟩
theorem qh (log:List UInt8)(n:Nat)(w:World)(h1:1<=n)(h8:n<=8)(hl:log.length<=9223372036854775807) :
 Calls Tryz.prog 31 #[.string ⟨log.toArray⟩,.int .i64 n] w λ e w'=>∃ p l J vs,e=.returned (.tuple #[.pointer (some ⟨p,0,none⟩),.int .i64 (((cx log).1.log.length:Nat):Int),.int .i64 0])/\aC w' p (cx log).1.time l J vs/\cH 4294967296 (cx log).1 ⟨l,J⟩/\w.heap.size<=p/\(∀ g,vs.ownBlock=some g->w.heap.size<=g)/\Below w.heap.size w w':=by
 have HN:Hid _:=mE (n:Int) w (by omega) (by omega);have A8:Hid _:=hl;clear h1 h8 hl;go_enter Tryz.func31,Tryz.ntmps31;go_wp2_with fail;refine Calls.mono HN.out ?_;rintro e w1 ⟨p,rfl,A7,A3,A6⟩;have HM:Hid _:=(BF log).more (p:=p) (vs:=.slice none 0 0) A7 A8.out;have HS:Hid (∀ e y,gU w1 p st0.time [] [] (.slice none 0 0) (eh st0.time ⟨[],[]⟩ (log.drop 0)) e y->_):=λ e y hm=>(BF log).step (w:=w) (x:=w1) A3 (λ g hg=>by cases hg) A6 hm;have HP:Hid _:=A3;clear A7 A3 A6 HN;go_wp2_with fail;refine Calls.mono HM.out ?_;intro e w2 hm;obtain⟨n0,rfl,A2,A0⟩:=HS.out e w2 hm;have A1:Hid _:=A0;clear hm A0 HM HS;go_wp2_with fail;go_loopw [9,10] (λ av nv wr=>Fox w p log av nv wr) (λ av _ _=>log.length-(intOf av).toNat);case atStart=>exact A1.out
 case round =>
  obtain⟨σ,l,J,vs,a,m,rfl,rfl,hf,hr,hv,hb,h0⟩:=hrel.ex;clear hrel A1 A2;by_cases hm0:m=0
  ·subst hm0;have A4:=Fol.stop (a:=a) hf (h0 rfl);have A5:=hf.at_;have HE:Hid (cx log=(σ,log.drop a)):=A4;have HR:Hid _:=hr;have HT:Hid _:=hf.twin;have HV:Hid _:=hv;have HB:Hid _:=hb;have Ac:Hid _:=A5.1;clear A4 A5 hf hr hv hb h0;go_wp2;refine bodyPost_ret (results_tmp3 Tryz.results31 _ _ _) rfl ⟨p,l,J,vs,?_,?_,?_,HP.out,HV.out,HB.out⟩
   ·rw[HE.out];have:=Ac.out;dsimp only;rw[<- this];rfl
   ·rw[HE.out];exact HR.out
   ·rw[HE.out];exact HT.out
  ·(have Af:(0:Int)<(m:Int):=by omega);have A2:=hf.le;have Aa:=hf.at_;have HM:Hid _:=hf.more hr A8.out;have HS:Hid (∀ e y,gU wr p σ.time l J vs (eh σ.time ⟨l,J⟩ (log.drop (a+m))) e y->_):=λ e y hm=>hf.step (w:=w) (x:=wr) HP.out hv hb hm;rw[show ((a+m:Nat):Int)=(a:Int)+(m:Int) by omega] at HM;(have Ae:(a:Int)+(m:Int)<140000000000000:=by omega);have A9:Hid _:=A2;(have Ad:(a:Int)+(m:Int)<=9223372036854775807:=by omega);clear hf hr hv hb h0 hm0 Aa A2 Ae;go_wp2_with fail;refine Calls.mono HM.out ?_;intro e w3 hm;obtain⟨n1,rfl,Ab,A0⟩:=HS.out e w3 hm;have A1:Hid _:=A0;clear hm A0 HM HS;go_wp2_with fail;refine⟨?_,?_⟩
   ·have:=A1.out;rw[show ((a+m:Nat):Int)=(a:Int)+(m:Int) by omega] at this;exact this
   ·have:=A9.out;simp[intOf];omega
end Go.Proofs.YtmehkneofinmiaaGreatDoor

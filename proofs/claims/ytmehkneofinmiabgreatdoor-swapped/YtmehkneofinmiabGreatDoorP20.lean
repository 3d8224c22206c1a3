/-part 20-/
import Derived.Test.YtmehkneofinmiabGreatDoorP19
open Go.Proofs.Tryz
open Option renaming none->ID,some->IF
open Go.Obj renaming cells->IH
open Array renaming getElem?_append_left->IR,getElem?_setIfInBounds_ne->I3,getElem?_setIfInBounds_self_of_lt->Kx,getElem?_setIfInBounds->Ly,mem_append->LR,ext_getElem?->L3
open Go.Value renaming string->Jx,slice->J0,pointer->Lo,bool->Lz,int->LN
open Go.World renaming cell?->J1,frozen?->LI,news_of_block->L2
open Go.Proofs.Tryz renaming prog->Kf
open Go.Builtin renaming zeroCells->Ks
open Go renaming Value->K0,heap_alloc_old->K2,World->Lq,heap_alloc_new->Lw,Calls->L4,info_parts->Mu
open Go.Calls renaming mono->K1
open Go.Ending renaming returned->Ln
open Or renaming inl->LL,inr->L1
open Bool renaming true->LO,false->L5
open Nat renaming le_trans->LS,zero_le->Mb,le_refl->Mn,mul_one->Mp,zero_add->Mz,mod_lt->MA
set_option maxRecDepth 100000
set_option maxHeartbeats 8000000
namespace Go.Proofs.YtmehkneofinmiabGreatDoor
open Go.RowKit Go.MuLone
variable {x:Lq}{e:TypeId}{base:Nat}{G:K0->Prop}{v:K0}{f:Nat->K0}
theorem contains_nil (key:List UInt8)(w:Lq):L4 Kf 116 #[J0 ID 0 0,Jx ⟨key.toArray⟩] w λe w'=>e=Ln (Lz L5)/\w'=w:=by
 have hi:L4 Kf 161 #[J0 ID 0 0,Jx ⟨key.toArray⟩] w λe w'=>e=Ln (LN .i64 (-1))/\w'=w:=by go_enter func161,ntmps161;go_wp2_with fail;go_loopw [5,8] (λ_ iv wr=>iv=LN .i64 0/\wr=w) (λ_ _ _=>0);(case atStart=>exact⟨rfl,rfl⟩);case round =>obtain⟨rfl,rfl⟩:=hrel;go_wp2;go_ret;exact⟨rfl,rfl⟩
 go_enter func116,ntmps116;go_wp2_with fail;refine hi.mono ?_;rintro e w' ⟨rfl,e2⟩;go_wp2;go_ret;exact⟨rfl,by first|rfl|exact e2⟩
theorem contains_one (D c:Nat)(key:List UInt8)(w:Lq)(hD:w.cell? ⟨D,0,ID⟩=IF (Jx ⟨key.toArray⟩)):L4 Kf 116 #[J0 (IF ⟨D,0,ID⟩) 1 c,Jx ⟨key.toArray⟩] w λe w'=>e=Ln (Lz LO)/\w'=w:=by
 have hi:L4 Kf 161 #[J0 (IF ⟨D,0,ID⟩) 1 c,Jx ⟨key.toArray⟩] w λe w'=>e=Ln (LN .i64 0)/\w'=w:=by go_enter func161,ntmps161;go_wp2_with fail;go_loopw [5,8] (λ_ iv wr=>iv=LN .i64 0/\wr=w) (λ_ _ _=>0);(case atStart=>exact⟨rfl,rfl⟩);case round =>obtain⟨rfl,rfl⟩:=hrel;go_wp2;go_ret;exact⟨rfl,rfl⟩
 go_enter func116,ntmps116;go_wp2_with fail;refine hi.mono ?_;rintro e w' ⟨rfl,e2⟩;go_wp2;go_ret;exact⟨rfl,by first|rfl|exact e2⟩
theorem fF (T u m:Nat)(t:Jg)(c:I7)(k:I9)(g:Nat)(body:List UInt8)(w:Lq)(hm:m=2)(hq:∀(i:Nat) v,(rJ m t c body)[i]?=IF v->w.cell? ⟨T,u+i,ID⟩=IF v)(h19:w.cell? ⟨T,u+19,ID⟩=IF (LN .i64 0))(hR:Rq w g c k)(hT:Jm w) :
 L4 Kf 114 #[Lo (IF ⟨T,u,ID⟩)] w λe w'=>e=Ln (Lz (decide (aJ LO k ID=0)))/\Below w.heap.size w w':=by
 have hw:Jb m=LO:=by rw[hm];rfl
 have A8:((m:Int)==2)=LO:=by rw[hm];rfl
 have HQ:=IA hq;have A0:=lx LO c k g ⟨0,0,L5,[]⟩ ID w hR (λu h=>by cases h) hT.z (λu h=>by cases h);obtain⟨a1,n1,p1,e1⟩:=hR.m.slice;obtain⟨a2,n2,p2,e2⟩:=hR.n.slice;unfold ua bq at A0;rw[e1,e2] at A0;have c0:w.cell? ⟨T,u,ID⟩=IF (LN .i64 (m:Int)):=HQ.out 0 _ rfl;have c4:w.cell? ⟨T,u+4,ID⟩=IF (Lz LO):=by rw[<-hw];exact HQ.out 4 _ rfl
 have c5:w.cell? ⟨T,u+5,ID⟩=IF (Lz c.hm):=HQ.out 5 _ rfl;have c6:w.cell? ⟨T,u+6,ID⟩=IF (Lz c.am):=HQ.out 6 _ rfl;have c7:w.cell? ⟨T,u+7,ID⟩=IF (J0 a1 n1 p1):=by rw[<-e1];exact HQ.out 7 _ rfl
 have c8:w.cell? ⟨T,u+8,ID⟩=IF (Lz c.hn):=HQ.out 8 _ rfl;have c9:w.cell? ⟨T,u+9,ID⟩=IF (Lz c.an):=HQ.out 9 _ rfl;have A9:w.cell? ⟨T,u+10,ID⟩=IF (J0 a2 n2 p2):=by rw[<-e2];exact HQ.out 10 _ rfl
 have A6:w.cell? ⟨T,u+11,ID⟩=IF (Lz c.hs):=HQ.out 11 _ rfl;have A3:w.cell? ⟨T,u+12,ID⟩=IF (LN .i64 c.si):=HQ.out 12 _ rfl;have Aa:w.cell? ⟨T,u+13,ID⟩=IF (Lz c.hu):=HQ.out 13 _ rfl;have A5:w.cell? ⟨T,u+14,ID⟩=IF (LN .i64 c.ul):=HQ.out 14 _ rfl;have A7:w.cell? ⟨T,u+15,ID⟩=IF (Lz L5):=HQ.out 15 _ rfl;have Ab:w.cell? ⟨T,u+16,ID⟩=IF (Jx ⟨#[]⟩):=HQ.out 16 _ rfl;have A4:w.cell? ⟨T,u+17,ID⟩=IF (LN .i64 0):=HQ.out 17 _ rfl;obtain⟨cf,A1⟩:=IG (aJ LO k ID);rw[A1] at A0 ⊢;have A2:=IA A0;clear hq A0 A1 hR hT hm;go_enter func114,ntmps114;go_wp2_with fail;refine K1 A2.out ?_;rintro e w' ⟨rfl,hb⟩;go_wp2;go_ret;refine⟨?_,hb⟩;have hd:decide (cf=0)=((cf:Int)==0):=by
  by_cases h:cf=0
  ·subst h;rfl
  ·rw[decide_eq_false h];exact(beq_eq_false_iff_ne.2 (by omega)).symm
 rw[hd];rfl
theorem lP {s n:Nat}{rd:Int}{σ:St}{M:Mem}{kc B:Nat}(key:List UInt8)(w:Lq)(h:ak w s n rd (λ_=>0) σ M kc B)(hkl:key.length<1000000) :
 L4 Kf 115 #[Lo (IF ⟨s,0,ID⟩),Jx ⟨key.toArray⟩] w λe w'=>e=Ln (Lz (decide (0<(ae σ.Iz key).last)))/\Below w.heap.size w w':=by
 have HH:=IA h;have Ad:w.cell? ⟨s,6,ID⟩=IF (J0 (IF ⟨M.g,0,ID⟩) n M.cap):=by simp[J1,h.blk,storeCells]
 have Af:=h.n1;have Ag:=h.n8;obtain⟨i,A8⟩:=IG (ao key%n);have hi:i<n:=by rw[<-A8];exact MA _ h.n1
 clear h;go_enter_defers func115,ntmps115;go_wp2_with fail;refine(ie s M.g n M.cap key w Ad Af Ag hkl).mono ?_;rintro e w1 ⟨rfl,A7⟩;rw[A8];have A4:=HH.out.below A7;obtain⟨cs,hc,hr⟩:=A4.row;have l0:w1.cell? ⟨M.g,i*3,ID⟩=IF (LN .i32 0):=by simp only[J1,hc];simp[(hr i hi).1]
 have lf:w1.frozen? ⟨M.g,i*3,ID⟩=L5:=by simp[LI,hc]
 have Ah:=IA A4;have Ae:=IA A7;have A9:=IA hc;have Ab:=IA hr;clear A7 A4 hc hr Ad;go_wp2_with (go_at_call 60;refine(lock_free Ja ⟨M.g,i*3,ID⟩ _ l0 lf).mono ?_;rintro e w2 ⟨rfl,Aa⟩;have A5:Hid _:=Aa;clear Aa);have Ac:ak w2 s n rd (λj=>if j=i then 1 else 0) σ M kc B:=by rw[A5.out];exact Ah.out.lock i hi 1
 have A3:=jK key w2 Ac;rw[A8] at A3;refine A3.mono ?_;rintro e w3 ⟨p,vs,rfl,hF,A2,Aj⟩;have HF:=IA hF;have Ak:=IA A2;have A6:w2.heap[M.g]?=IF (IH (cs.setIfInBounds (i*3) (LN .i32 1)) 137 (0,0)):=by rw[A5.out];exact heap_set A9.out
 have A0:w3.heap[M.g]?=_:=(A2.block _ (gL A6)).trans A6;have A1:i*3<cs.size:=(Array.getElem?_eq_some_iff.1 (Ab.out i hi).1).1;have m0:w3.cell? ⟨M.g,i*3,ID⟩=IF (LN .i32 1):=by simp only[J1,A0];simp[A1]
 have mf:w3.frozen? ⟨M.g,i*3,ID⟩=L5:=by simp[LI,A0]
 have Ai:Hid (Below w.heap.size w (w3.setCell ⟨M.g,i*3,ID⟩ (LN .i32 0))):=by
  (have hO:Off (λk=>k=M.g) w (w3.setCell ⟨M.g,i*3,ID⟩ (LN .i32 0)):=by refine(((Off.of_below Ae.out).trans ?_).trans (Off.of_below A2)).set _ _ _ (LL rfl);rw[A5.out];exact(Off.refl (λk=>k=M.g) _).set _ _ _ (LL rfl));refine⟨hO.os,hO.tape,hO.output,hO.size,λq hq=>?_⟩;by_cases e:q=M.g
  ·subst e;rw[heap_set A0,<-Ae.out.block _ hq,A9.out];congr 2;apply L3;intro x;by_cases ex:x=i*3
   ·subst ex;rw[Kx (by simpa using A1)];exact(Ab.out i hi).1.symm
   ·rw[I3 (by omega),I3 (by omega)]
  ·exact hO.block q hq e
 have H3:=IA A0;clear A3 hF A2 Aj Ac A6 A0;go_wp2_with fail;refine(cz p _ vs _ HF.out.Jc).mono ?_;rintro e w4 ⟨rfl,e4⟩;go_wp2;refine leaves_cons (f:=61) (args:=#[Lo (IF ⟨M.g,i*3,ID⟩)]) (by simp) (by simp[go_sem]) ?_;refine(unlock_deferred Ja ⟨M.g,i*3,ID⟩ .returning _ (by first|exact m0|(rw[e4];exact m0)) (by first|exact mf|(rw[e4];exact mf))).mono ?_;rintro e u' Al ⟨rfl,rfl,rfl⟩;exact⟨_,results_tmp rfl _ _ _,rfl,Ai.out⟩
open Go.RowKit Go.MuLone
structure Kv (w:Lq)(T N m:Nat)(t:Jg)(k:I9)(cs:Nat->I7)(gs:Nat->Nat)(bd:Nat->List UInt8)(tc:Array K0):Prop where
 tk:w.heap[T]?=IF (IH tc 110 (0,0))
 sz:tc.size=N*28
 rq:∀j,j<N->∀(i:Nat) v,(rJ m t (cs j) (bd j))[i]?=IF v->tc[j*28+i]?=IF v
 tl:∀j,j<N->tc[j*28+19]?=IF (LN .i64 0)
 cn:∀j,j<N->Rq w (gs j) (cs j) k/\gs j<=w.heap.size
 m2:m=2
 nB:N<1000
theorem Kv.off {w:Lq}{T N m:Nat}{t:Jg}{k:I9}{cs:Nat->I7}{gs:Nat->Nat}{bd:Nat->List UInt8}{tc LA:Array K0}{S:Nat->Prop}(h:Kv w T N m t k cs gs bd tc)(ho:Off S w x)(hS:∀b c f,w.heap[b]?=IF (IH c 273 f)->¬ S b)(hT:x.heap[T]?=IF (IH LA 110 (0,0)))(hs:LA.size=tc.size)(hk:∀j,j<N->∀i,i<20->LA[j*28+i]?=tc[j*28+i]?):Kv x T N m t k cs gs bd LA :=
 ⟨hT,hs.trans h.sz,λj hj i v hv=>(hk j hj i (by have:i<19:=(gL hv);omega)).trans (h.rq j hj i v hv),λj hj=>(hk j hj 19 (by omega)).trans (h.tl j hj),λj hj=>⟨(h.cn j hj).1.off ho hS,LS (h.cn j hj).2 ho.size⟩,h.m2,h.nB⟩
theorem Kv.below {w:Lq}{T N m:Nat}{t:Jg}{k:I9}{cs:Nat->I7}{gs:Nat->Nat}{bd:Nat->List UInt8}{tc:Array K0}(h:Kv w T N m t k cs gs bd tc)(hb:Below w.heap.size w x):Kv x T N m t k cs gs bd tc :=
 h.off (Off.of_below (S:=λ_=>False) hb) (λ_ _ _ _ h=>h) ((hb.block T (gL h.tk)).trans h.tk) rfl (λ_ _ _ _=>rfl)
theorem Kv.cell {w:Lq}{T N m:Nat}{t:Jg}{k:I9}{cs:Nat->I7}{gs:Nat->Nat}{bd:Nat->List UInt8}{tc:Array K0}(h:Kv w T N m t k cs gs bd tc){j:Nat}(hj:j<N):(∀(i:Nat) v,(rJ m t (cs j) (bd j))[i]?=IF v->w.cell? ⟨T,j*28+i,ID⟩=IF v)/\w.cell? ⟨T,j*28+19,ID⟩=IF (LN .i64 0):=by
 refine⟨λi v hv=>?_,?_⟩
 ·simp only[J1,h.tk];simpa using h.rq j hj i v hv
 ·simp only[J1,h.tk];simpa using h.tl j hj
section
variable {w:Lq} {s n T N m:Nat} {rd:Int} {σ:St} {M:Mem} {kc B:Nat} {t:Jg} {k:I9} {cs:Nat->I7} {gs:Nat->Nat} {bd:Nat->List UInt8} {tc:Array K0}
theorem pD (cp:Nat)(h:ak w s n rd (λ_=>0) σ M kc B)(hT:Kv w T N m t k cs gs bd tc)(hb:Jm w)(hkl:t.key.length<1000000)(hc:aJ LO k ID≠0\/(aJ LO k ID=0/\0<(ae σ.Iz t.key).last)) :
 L4 Kf 75 #[Lo (IF ⟨s,0,ID⟩),J0 (IF ⟨T,0,ID⟩) N cp] w λe w'=>e=Ln (.tuple #[])/\Below w.heap.size w w':=by
 have HH:=IA h;have HT:=IA hT;have HB:=IA hb;have hN:=hT.nB;obtain⟨mk,A9⟩:=IG (decide (aJ LO k ID=0));obtain⟨kn,A7⟩:=IG (decide (0<(ae σ.Iz t.key).last));have A1:mk=L5\/(mk=LO/\kn=LO):=by
  rw[<-A9,<-A7];rcases hc with hc|⟨hc,hl⟩
  ·exact LL (decide_eq_false hc)
  ·exact L1 ⟨decide_eq_true hc,decide_eq_true hl⟩
 have Ad:=IA A9;have Ae:=IA A7;clear h hT hb hc A9 A7;go_enter func75,ntmps75;go_wp2_with fail;go_loopw [4,5,6,7,10] (λdv _ _ _ iv wr=>∃j:Nat,j<=N/\iv=LN .i64 j/\dv=J0 ID 0 0/\Hid (Below w.heap.size w wr))
  (λ_ _ _ _ iv _=>N-(intOf iv).toNat)
 case atStart=>exact⟨0,Mb _,rfl,rfl,Below.refl _ _⟩
 case round =>
  obtain⟨j,hj,rfl,rfl,hJ⟩:=hrel;by_cases hlt:j<N
  ·(have Af:(j:Int)<(N:Int):=by omega);have A5:=HT.out.below hJ.out;have hS:=HH.out.below hJ.out;have Ab:Jm wr:=HB.out.below hJ.out;have A6:=A5.cell hlt;have k2:wr.cell? ⟨T,j*28+2,ID⟩=IF (Jx ⟨t.key.toArray⟩):=A6.1 2 _ rfl;have A0:=fF T (j*28) m t (cs j) k (gs j) (bd j) wr A5.m2 A6.1 A6.2 (A5.cn j hlt).1 Ab;rw[Ad.out] at A0;have A3:=IA A0;(have A2:∀y,Below wr.heap.size wr y->L4 Kf 115 #[Lo (IF ⟨s,0,ID⟩),Jx ⟨t.key.toArray⟩] y λe w'=>e=Ln (Lz kn)/\Below y.heap.size y w':=λy hy=>by have:=lP t.key y (hS.below hy) hkl;rw[Ae.out] at this;exact this);have Aa:=IA A2;clear A5 hS Ab A6 A0 A2;rcases A1 with hf|⟨hf,Ag⟩
   ·subst hf;go_wp2_with fail;refine K1 A3.out ?_;rintro e w1 ⟨rfl,A4⟩;have HF:Hid (Below w.heap.size w w1):=hJ.out.trans (A4.mono hJ.out.size);clear A4;go_wp2;exact⟨⟨j+1,by omega,by go_num,rfl,HF⟩,by simp[intOf];omega⟩
   ·subst hf Ag;go_wp2_with fail;refine K1 A3.out ?_;rintro e w1 ⟨rfl,A4⟩;have A8:=IA A4;clear A4;go_wp2_with fail;refine K1 (Aa.out w1 A8.out) ?_;rintro e w2 ⟨rfl,Ac⟩;have HF:Hid (Below w.heap.size w w2):=(hJ.out.trans (A8.out.mono hJ.out.size)).trans (Ac.mono (LS hJ.out.size A8.out.size));clear Ac;go_wp2;exact⟨⟨j+1,by omega,by go_num,rfl,HF⟩,by simp[intOf];omega⟩
  ·(obtain rfl:j=N:=by omega);go_wp2;go_end0;exact⟨rfl,hJ.out⟩
end
open Go.RowKit Go.MuLone
structure Kn (w:Lq)(s n T:Nat)(rd:Int)(σ:St)(M:Mem)(kc B:Nat)(key:List UInt8)(tc:Array K0)(dv:K0)(wr:Lq):Prop where
 dv:∃D c,dv=J0 (IF ⟨D,0,ID⟩) 1 c/\wr.cell? ⟨D,0,ID⟩=IF (Jx ⟨key.toArray⟩)/\∃x,wr.heap[D]?=IF (IH x 9 (0,0))
 st:ak wr s n rd (λ_=>0) σ M (kc+1) B
 tk:wr.heap[T]?=IF (IH (tc.setIfInBounds 20 (Lz LO)) 110 (0,0))
 off:Off (λq=>q=s\/q=T) w wr
theorem ak.count {kc B:Nat}{w:Lq}{s n:Nat}{rd:Int}{lk:Nat->Int}{σ:St}{M:Mem}(h:ak w s n rd lk σ M kc B)(c:Nat):ak (w.setCell ⟨s,10,ID⟩ (LN .i64 (c:Int))) s n rd lk σ M c B:=by
 have ho:Off (λk=>k=s) w (w.setCell ⟨s,10,ID⟩ (LN .i64 (c:Int))):=(Off.refl (λk=>k=s) w).set s 10 _ (LL rfl);obtain⟨cs,hc,hr⟩:=h.row
 exact⟨h.n1,h.n8,(heap_set h.blk).trans rfl,⟨cs,(ho.block _ (gL hc) (aa hc h.blk (by decide))).trans hc,hr⟩,
  λj hj=>(h.kt j hj).off ho (λb hb e=>ai (h.kt j hj).k.row h.blk (by decide) (e ▸ hb)) (λq hq e=>by obtain⟨cq,A0⟩:=(h.kt j hj).t q hq;exact aa A0 h.blk (by decide) e),
  λj hj p hp=>(h.Jc j hj p hp).off ho (λe=>aa (h.Jc j hj p hp).blk h.blk (by decide) e) (λb hb e=>ai (h.Jc j hj p hp).row h.blk (by decide) (e ▸ hb)),
  h.JQ,I4.off (base:=0) h.Jn ho (λb hb e=>ai h.Jn h.blk (by decide) (e ▸ hb)),h.Le,h.Ka,h.rise,h.ok,h.many,h.time,h.lastB⟩
theorem rK:(prog.info? 9).map (λi=>(i.zero,i.size,i.bytes))=IF (IF (Jx ⟨#[]⟩),1,16):=by kernel_rfl
section
variable {w:Lq} {s n T N m:Nat} {rd:Int} {σ:St} {M:Mem} {kc B:Nat} {t:Jg} {k:I9} {cs:Nat->I7} {gs:Nat->Nat} {bd:Nat->List UInt8} {tc:Array K0}
theorem qA (cp:Nat)(h:ak w s n rd (λ_=>0) σ M kc B)(hT:Kv w T N m t k cs gs bd tc)(hb:Jm w)(hHi:eh s/\eh T)(hkl:t.key.length<1000000)(hc:aJ LO k ID=0)(hl:(ae σ.Iz t.key).last=0)(hkc:kc<60)(hN0:0<N) :
 L4 Kf 75 #[Lo (IF ⟨s,0,ID⟩),J0 (IF ⟨T,0,ID⟩) N cp] w λe w'=>e=Ln (.tuple #[])/\∃dv,Kn w s n T rd σ M kc B t.key tc dv w':=by
 have HH:=IA h;have HT:=IA hT;have HB:=IA hb;have hN:=hT.nB;obtain⟨i0,B2,Ay,B3,B0⟩:=Mu rK;have Am:decide (aJ LO k ID=0)=LO:=decide_eq_true hc;have Ak:decide (0<(ae σ.Iz t.key).last)=L5:=by rw[hl];rfl
 have Ap:=IA Am;have Al:=IA Ak;have As:s≠T:=aa h.blk hT.tk (by decide);have B1:28<=tc.size:=by rw[hT.sz];omega
 clear h hT hb hc hl Am Ak;go_enter func75,ntmps75;go_wp2_with fail;go_loopw [4,5,6,7,10] (λdv _ _ _ iv wr=>∃j:Nat,j<=N/\iv=LN .i64 j/\Hid ((j=0/\dv=J0 ID 0 0/\wr=w)\/(0<j/\Kn w s n T rd σ M kc B t.key tc dv wr)))
  (λ_ _ _ _ iv _=>N-(intOf iv).toNat)
 case atStart=>exact⟨0,Mb _,rfl,LL ⟨rfl,rfl,rfl⟩⟩
 case round =>
  obtain⟨j,hj,rfl,hJ⟩:=hrel;by_cases hlt:j<N
  ·(have Ax:(j:Int)<(N:Int):=by omega);rcases hJ.out with⟨Aj,rfl,hw⟩|⟨Aj,hK⟩
   ·subst hw Aj;have A2:=HT.out.cell hlt;(have k2:wr.cell? ⟨T,2,ID⟩=IF (Jx ⟨t.key.toArray⟩):=by simpa using A2.1 2 _ rfl);have A0:=fF T 0 m t (cs 0) k (gs 0) (bd 0) wr HT.out.m2 (by simpa using A2.1) (by simpa using A2.2) (HT.out.cn 0 hlt).1 HB.out;rw[Ap.out] at A0;have A4:=IA A0;clear A2 A0;go_wp2_with fail;refine K1 A4.out ?_;rintro e w1 ⟨rfl,A7⟩;have A5:=IA A7;clear A7;go_wp2_with fail;have A1:=lP t.key w1 (HH.out.below A5.out) hkl;rw[Al.out] at A1;refine K1 A1 ?_;rintro e w2 ⟨rfl,A6⟩;have A3:Hid (Below wr.heap.size wr w2):=A5.out.trans (A6.mono A5.out.size);clear A1 A6;go_wp2_with fail;refine(contains_nil t.key w2).mono ?_;rintro e w3 ⟨rfl,e3⟩;subst e3;have Ac:=HH.out.below A3.out;have Aw:MO w3 s 7 σ.time kc:=Ac.VD;have Av:=IA Ac;have Au:Hid (w3.heap[T]?=IF (IH tc 110 (0,0))):=(A3.out.block T (gL HT.out.tk)).trans HT.out.tk;clear Ac;go_wp2_with (go_at_call 117;refine(qh s 7 σ.time kc w3 Aw (by omega) (by omega)).mono ?_;rintro e w4 ⟨rfl,Aa⟩;have A9:w4.heap[T]?=IF (IH tc 110 (0,0)):=(by rw[Aa,av As.symm];exact Au.out);obtain⟨Az,B4⟩:∃v,w4.cell? ⟨T,20,ID⟩=IF v:=⟨tc[20],by simp[J1,A9]⟩;have At:w4.frozen? ⟨T,20,ID⟩=L5:=(by simp[LI,A9]);have Ai:Hid _:=Aa;have Ar:Hid _:=A9;clear Aa A9);refine⟨⟨1,by omega,rfl,L1 ⟨by omega,?_⟩⟩,by simp[intOf];omega⟩;generalize (Question.appendCap 1 0 9).cut (w4.tape w4.drawn (Question.appendCap 1 0 9))=ac;(have Aq:ak w4 s n rd (λ_=>0) σ M (kc+1) B:=by have:=Av.out.count (kc+1);rw[Ai.out];exact this);obtain⟨Z5,h5⟩:=exj (w4.setCell ⟨T,20,ID⟩ (Lz LO));(have o5:Off (λq=>q=T) w4 Z5:=by rw[h5];exact(Off.refl (λq=>q=T) w4).set T _ _ (LL rfl));(have T5:Z5.heap[T]?=IF (IH (tc.setIfInBounds 20 (Lz LO)) 110 (0,0)):=by rw[h5];exact heap_set Ar.out);have S5:ak Z5 s n rd (λ_=>0) σ M (kc+1) B:=Aq.off o5 (λq hq e=>iZ Aq hq (e ▸ Ar.out));(have z5:Z5.heap.size=w4.heap.size:=by rw[h5];simp);rw[<-h5];obtain⟨Z7,h7⟩:=exj ((Z5.alloc (IH #[Jx ⟨t.key.toArray⟩] 9)).alloc (IH (#[Jx ⟨t.key.toArray⟩]++Ks #[Jx ⟨#[]⟩] (ac-1)) 9));rw[<-h7];(have b7:Below Z5.heap.size Z5 Z7:=by rw[h7];exact((Below.refl _ _).alloc (Mn _) _).alloc (by simp) _);(have hD:Z7.heap[w4.heap.size+1]?=IF (IH (#[Jx ⟨t.key.toArray⟩]++Ks #[Jx ⟨#[]⟩] (ac-1)) 9 (0,0)):=by rw[h7];have:=Lw (Z5.alloc (IH #[Jx ⟨t.key.toArray⟩] 9)) (IH (#[Jx ⟨t.key.toArray⟩]++Ks #[Jx ⟨#[]⟩] (ac-1)) 9);rw[World.size_alloc,z5] at this;exact this);refine⟨⟨w4.heap.size+1,ac,rfl,?_,_,hD⟩,(S5.below b7).below ((Below.refl _ _).drew),(b7.block T (gL T5)).trans T5,?_⟩
    ·show Z7.cell? _=_;simp only[J1,hD];show(if(ID:Option Nat).isSome=LO then ID else _)=_;rw[if_neg (by simp),IR (by simp)];rfl
    ·(have o4:Off (λq=>q=s\/q=T) wr w4:=by rw[Ai.out];exact(Off.of_below A3.out).set s 10 _ (LL (LL rfl)));exact((o4.trans (o5.mono λ_ h=>L1 h)).trans (Off.of_below b7)).drew
   ·obtain⟨⟨D,c,rfl,hD,x0,Ao⟩,hS,Ad,hO⟩:=hK;have An:∀b c f,w.heap[b]?=IF (IH c 273 f)->¬ (b=s\/b=T):=λb c f e=>by
     rintro(h|h)
     ·exact aa HH.out.blk e (by decide) h.symm
     ·exact aa HT.out.tk e (by decide) h.symm
    have A8:Kv wr T N m t k cs gs bd (tc.setIfInBounds 20 (Lz LO)):=HT.out.off hO An Ad (by simp) (λa ha i hi=>by rw[I3 (by omega)]);have Ae:Jm wr:=HB.out.off hO (by rintro q (h|h);exact h ▸ hHi.1;exact h ▸ hHi.2);have A2:=A8.cell hlt;have k2:wr.cell? ⟨T,j*28+2,ID⟩=IF (Jx ⟨t.key.toArray⟩):=A2.1 2 _ rfl;have A0:=fF T (j*28) m t (cs j) k (gs j) (bd j) wr A8.m2 A2.1 A2.2 (A8.cn j hlt).1 Ae;rw[Ap.out] at A0;have A4:=IA A0;have HS:=IA hS;have Ag:=IA Ad;have HO:=IA hO;have Af:=IA Ao;clear A8 Ae A2 A0 hS Ad hO An Ao;go_wp2_with fail;refine K1 A4.out ?_;rintro e w1 ⟨rfl,A7⟩;have A5:=IA A7;clear A7;go_wp2_with fail;have A1:=lP t.key w1 (HS.out.below A5.out) hkl;rw[Al.out] at A1;refine K1 A1 ?_;rintro e w2 ⟨rfl,A6⟩;have Ab:Below wr.heap.size wr w2:=A5.out.trans (A6.mono A5.out.size);have Ah:w2.cell? ⟨D,0,ID⟩=IF (Jx ⟨t.key.toArray⟩):=(Ab.cell (p:=⟨D,0,ID⟩) (bj hD)).trans hD;have A3:=IA Ab;clear A1 A6 Ab;go_wp2_with fail;refine(contains_one D c t.key w2 Ah).mono ?_;rintro e w3 ⟨rfl,e3⟩;have HF:Hid (Kn w s n T rd σ M kc B t.key tc (J0 (IF ⟨D,0,ID⟩) 1 c) w2):=⟨⟨D,c,rfl,Ah,x0,(A3.out.block D (gL Af.out)).trans Af.out⟩,HS.out.below A3.out,(A3.out.block T (gL Ag.out)).trans Ag.out,HO.out.trans (Off.of_below A3.out)⟩;subst e3;go_wp2;exact⟨⟨j+1,by omega,by go_num,L1 ⟨by omega,HF.out⟩⟩,by simp[intOf];omega⟩
  ·(obtain rfl:j=N:=by omega);go_wp2;go_end0;refine⟨rfl,?_⟩;rcases hJ.out with⟨h0,_⟩|⟨_,hK⟩
   ·omega
   ·exact⟨_,hK⟩
end
open Go.RowKit Go.MuLone
def pv (w:Lq)(e:TypeId)(base:Nat)(G:K0->Prop)(v:K0)(n:Nat)(f:Nat->K0):Prop :=
 (n=0/\v=J0 ID 0 0)\/∃g cap cur,v=J0 (IF ⟨g,0,ID⟩) n cap/\base<=g/\w.heap[g]?=IF (IH cur e (0,0))/\n<=cap/\cap<=maxLen/\cur.size=cap/\(∀x,x<n->cur[x]?=IF (f x))/\∀u∈cur,G u
theorem pv.keep {w:Lq}{n:Nat}(h:pv w e base G v n f)(hk:∀g,v.ownBlock=IF g->x.heap[g]?=w.heap[g]?):pv x e base G v n f:=by
 rcases h with h|⟨g,A1,A0,rfl,h1,h2,h3⟩
 ·exact LL h
 ·exact L1 ⟨g,A1,A0,rfl,h1,(hk g rfl).trans h2,h3⟩
theorem pv.own {w:Lq}{n:Nat}(h:pv w e base G v n f){g:Nat}(hg:v.ownBlock=IF g):base<=g/\g<w.heap.size:=by
 rcases h with⟨_,rfl⟩|⟨g',A1,A0,rfl,h1,h2,h3⟩
 ·cases hg
 ·cases hg;exact⟨h1,(gL h2)⟩
theorem tI {z:K0}{n:Nat}{u:K0}(h:u∈Ks #[z] n):u=z:=by
 unfold Ks at h;simp only[Array.mem_map] at h;obtain⟨a,_,rfl⟩:=h;have:a%(#[z]:Array K0).size=0:=by simp[Nat.mod_one]
 rw[this];rfl
theorem uy {P:Program}(w:Lq)(t e:TypeId)(i:TypeInfo)(z:K0)(ht:P.underlying t=IF (.slice e))(hi:P.info? e=IF i)(hz:i.zero=IF z)(hzc:z.cells=#[z])(hsz:i.size=1)(hby:i.bytes<=16)
 {n:Nat}(h:pv w e base G v n f)(hb:base<=w.heap.size)(hn:n<1000000)(Vv:G z)(UW:G (f n))(hone:(f n).oneCell'=LO) :
 ∃g cap w2,(Builtin.append_ #[t,t] t #[v,J0 (IF ⟨w.heap.size,0,ID⟩) 1 1]).run P (w.alloc (IH #[f n] e))=.ok (J0 (IF ⟨g,0,ID⟩) (n+1) cap) w2/\pv w2 e base G (J0 (IF ⟨g,0,ID⟩) (n+1) cap) (n+1) f/\Below base w w2/\(∀k,k<w.heap.size->v.ownBlock≠IF k->w2.heap[k]?=w.heap[k]?)/\base<=g:=by
 have A1:∀j u,([f n]:List K0)[j]?=IF u->(w.alloc (IH #[f n] e)).cell? ((⟨w.heap.size,0,ID⟩:Addr).add j)=IF u:=L2 (cs:=#[f n]) (Lw w _);have A3:Below base w (w.alloc (IH #[f n] e)):=(Below.refl _ _).alloc hb _;rcases h with⟨rfl,rfl⟩|⟨g,cap,A0,rfl,h1,h2,h3,h4,h5,h6,h7⟩
 ·have hr:=run_append_nil (P:=P) (w.alloc (IH #[f 0] e)) t t e i z ht hi hz ⟨w.heap.size,0,ID⟩ 1 1 [f 0] (by rw[hsz];rfl) A1 (by omega) (by omega) (by omega);have A5:=grownCap_ge (w.alloc (IH #[f 0] e)) 1 0 e;have A2:=grownCap_le_maxLen (w.alloc (IH #[f 0] e)) 1 0 e (by unfold maxLen;omega);refine⟨_,_,_,hr,L1 ⟨_,_,_,rfl,?_,Lw _ _,A5,A2,?_,λx hx=>?_,λu hu=>?_⟩,A3.drew.alloc ?_ _,λk hk _=>?_,?_⟩
  ·exact LS hb (by simp)
  ·rw[Array.size_append,size_zeroCells,hzc];simp;omega
  ·(obtain rfl:x=0:=by omega);rw[IR (by simp)];rfl
  ·rcases LR.1 hu with hu|hu
   ·simp at hu;subst hu;exact UW
   ·rw[hzc] at hu;rw[tI hu];exact Vv
  ·simp;omega
  ·rw[K2 _ _ (by simp;omega)];exact K2 w _ hk
  ·simp;omega
 ·have A4:g<w.heap.size:=(gL h2);have A6:(w.alloc (IH #[f n] e)).heap[g]?=IF (IH A0 e (0,0)):=(K2 w _ A4).trans h2;by_cases hroom:n+1<=cap
  ·have hr:=run_append_room (P:=P) (w.alloc (IH #[f n] e)) t t e i ht hi g n cap A0 A6 ⟨w.heap.size,0,ID⟩ 1 1 [f n] (by rw[hsz];rfl) A1 (by simpa using hone) hroom (by rw[hsz];simp;omega);rw[hsz] at hr;simp only[Mp,List.length_cons,List.length_nil,Mz] at hr;have A9:(A0.toList.take n++[f n]++A0.toList.drop (n+1)).toArray=A0.setIfInBounds n (f n):=by
    apply L3;intro x;rw[List.getElem?_toArray,List.append_assoc,Ly];by_cases hx:x<n
    ·rw[List.getElem?_append_left (by simp;omega),List.getElem?_take,if_pos hx,if_neg (by omega)];simp
    ·rw[List.getElem?_append_right (by simp;omega)];(have e1:(A0.toList.take n).length=n:=by simp;omega);rw[e1];by_cases hx2:x=n
     ·subst hx2;rw[if_pos rfl,if_pos (by omega)];simp
     ·rw[if_neg (by omega),List.singleton_append,List.getElem?_cons];rw[if_neg (by omega),List.getElem?_drop];(have:n+1+(x-n-1)=x:=by omega);rw[this];simp
   rw[A9] at hr;have hh:((w.alloc (IH #[f n] e)).setRow g (A0.setIfInBounds n (f n))).heap[g]?=IF (IH (A0.setIfInBounds n (f n)) e (0,0)):=setRow_heap _ _ _ _ _ _ A6;refine⟨_,_,_,hr,L1 ⟨_,_,_,rfl,h1,hh,hroom,h4,by simpa using h5,λx hx=>?_,λu hu=>?_⟩,below_setRow A3 h1 _,λk hk hne=>?_,h1⟩
   ·rw[Ly];by_cases hx2:n=x
    ·subst hx2;rw[if_pos rfl,if_pos (by omega)]
    ·rw[if_neg hx2];exact h6 x (by omega)
   ·rcases Array.mem_or_eq_of_mem_setIfInBounds hu with hu|hu
    ·exact h7 u hu
    ·subst hu;exact UW
   ·rw[setRow_other _ _ _ _ (λh=>hne (by rw[h];rfl))];exact K2 w _ hk
  ·(have A8:cap=n:=by omega);subst A8;(have A7:A0.toList.length=cap*i.size:=by rw[hsz];simp;omega);have hr:=run_append_grow (P:=P) (w.alloc (IH #[f cap] e)) t t e i z ht hi hz ⟨g,0,ID⟩ cap cap A0.toList A7 (L2 (cs:=A0) A6) ⟨w.heap.size,0,ID⟩ 1 1 [f cap] (by rw[hsz];rfl) A1 (by omega) (by omega) (growslice_fits (by omega) (LS (Nat.mul_le_mul_left _ hby) (by omega)));have A5:=grownCap_ge (w.alloc (IH #[f cap] e)) (cap+1) cap e;have A2:=grownCap_le_maxLen (w.alloc (IH #[f cap] e)) (cap+1) cap e (by unfold maxLen;omega);refine⟨_,_,_,hr,L1 ⟨_,_,_,rfl,?_,Lw _ _,A5,A2,?_,λx hx=>?_,λu hu=>?_⟩,A3.drew.alloc ?_ _,λk hk _=>?_,?_⟩
   ·simp;omega
   ·rw[Array.size_append,size_zeroCells,hzc];simp;omega
   ·by_cases hx2:x=cap
    ·subst hx2;rw[IR (by simp;omega),Array.getElem?_append_right (by simp;omega)];simp[h5]
    ·rw[IR (by simp;omega),IR (by simp;omega)];simpa using h6 x (by omega)
   ·rcases LR.1 hu with hu|hu
    ·rcases LR.1 hu with hu|hu
     ·exact h7 u (by simpa using hu)
     ·simp at hu;subst hu;exact UW
    ·rw[hzc] at hu;rw[tI hu];exact Vv
   ·simp;omega
   ·rw[K2 _ _ (by simp;omega)];exact K2 w _ hk
   ·simp;omega
open Go.RowKit Go.MuLone
attribute [local go_sem ↓] eP
attribute [local go_sem] ff
theorem FJ:(prog.info? 155).map (λi=>(i.zero,i.size,i.bytes))=IF (IF (Lo ID),1,8):=by kernel_rfl
theorem Gi:(prog.info? 208).map (λi=>(i.zero,i.size,i.bytes))=IF (IF (J0 ID 0 0),1,24):=by kernel_rfl
def Pt (T:Nat)(v:K0):Prop:=v=Lo ID\/∃off,v=Lo (IF ⟨T,off,ID⟩)
abbrev tp (T:Nat) (j:Nat):K0:=Lo (IF ⟨T,j*28,ID⟩)
structure Dl (w:Lq)(T wk i j:Nat)(C:Array K0)(v:K0)(wr:Lq):Prop where
 blk:wr.heap[w.heap.size]?=IF (IH C 208 (0,0))
 sz:C.size=wk
 nil:∀x,x<wk->x≠i->C[x]?=IF (J0 ID 0 0)
 at':C[i]?=IF v
 row:pv wr 155 (w.heap.size+1) (Pt T) v j (tp T)
 below:Below w.heap.size w wr
 lt:w.heap.size<wr.heap.size
section
variable {w:Lq} {s n T N m:Nat} {rd:Int} {σ:St} {M:Mem} {kc B:Nat} {t:Jg} {k:I9} {cs:Nat->I7} {gs:Nat->Nat} {bd:Nat->List UInt8} {tc:Array K0}
theorem CJ (cp wk:Nat)(h:ak w s n rd (λ_=>0) σ M kc B)(hT:Kv w T N m t k cs gs bd tc)(hkl:t.key.length<1000000)(hw0:0<wk)(hw:wk<1000) :
 L4 Kf 118 #[Lo (IF ⟨s,0,ID⟩),J0 (IF ⟨T,0,ID⟩) N cp,LN .i64 wk] w λe w'=>e=Ln (J0 (IF ⟨w.heap.size,0,ID⟩) wk wk)/\∃C v,Dl w T wk (ao t.key%n%wk) N C v w':=by
 have hN:=hT.nB;obtain⟨i,hi⟩:=IG (ao t.key%n%wk);have Ah:i<wk:=hi ▸ MA _ hw0;rw[hi];obtain⟨q,hq⟩:=IG (ao t.key%n);rw[hq] at hi;have HQ:=IA hq;clear hq;have Au:(q:Int)%(wk:Int)=(i:Int):=by rw[<-hi];rfl
 obtain⟨i0,An,Aj,Ae,Ap⟩:=Mu Gi;have Aa:=run_makeSlice (P:=Kf) w 206 208 i0 _ underlying206 An Aj .i64 .i64 wk wk (by omega) (by omega) (by rw[Ae];omega) (by rw[Ap];omega) (by omega);rw[Ae] at Aa;simp only[Int.toNat_natCast,Mp] at Aa;obtain⟨z0,hz⟩:=IG (madeCells (J0 ID 0 0).cells wk);rw[hz] at Aa;have zs:z0.size=wk:=by rw[<-hz];exact lp _ _
 have zc:∀i,i<wk->z0[i]?=IF (J0 ID 0 0):=λi hi=>by rw[<-hz];have:=xR #[J0 ID 0 0] wk i 0 hi (by simp);simp only[List.size_toArray,List.length_cons,List.length_nil,Mz,Mp,Nat.add_zero] at this;exact this
 obtain⟨i1,Ai,Ar,Ak,Al⟩:=Mu FJ;have HH:=IA h;have HT:=IA hT;have Ao:=IA zs;have Ag:=IA zc;clear h hT zs zc hz;go_enter func118,ntmps118;go_wp2_with fail;go_loopw [8,9,10,15] (λ_ _ _ iv wr=>∃j:Nat,j<=N/\iv=LN .i64 j/\Hid (∃C v,Dl w T wk i j C v wr))
  (λ_ _ _ iv _=>N-(intOf iv).toNat)
 case atStart =>refine⟨0,Mb _,rfl,z0,_,Lw _ _,Ao.out,λx hx _=>Ag.out x hx,Ag.out i Ah,LL ⟨rfl,rfl⟩,(Below.refl _ _).alloc (Mn _) _,by simp⟩
 case round =>
  obtain⟨j,hj,rfl,hJ⟩:=hrel;by_cases hlt:j<N
  ·(have Aq:(j:Int)<(N:Int):=by omega);obtain⟨C,v,hD⟩:=hJ.out;have Af:=HT.out.below hD.below;have hS:=HH.out.below hD.below;have Ab:=Af.cell hlt;have k2:wr.cell? ⟨T,j*28+2,ID⟩=IF (Jx ⟨t.key.toArray⟩):=Ab.1 2 _ rfl;have Av:=Ab.2;(have A9:i<C.size:=by rw[hD.sz];exact Ah);(have x6:wr.cell? ⟨s,6,ID⟩=IF (J0 (IF ⟨M.g,0,ID⟩) n M.cap):=by simp[J1,hS.blk,storeCells]);have A6:=gC s n M.cap _ t.key wr x6 hS.n1 hS.n8 hkl;rw[HQ.out] at A6;(have dC:wr.cell? ⟨w.heap.size,i,ID⟩=IF v:=by simp only[J1,hD.blk];simpa using hD.at');obtain⟨g,cap,w2,A1,A3,A2,A0,hg⟩:=uy (P:=Kf) wr 208 155 i1 _ underlying208 Ai Ar rfl Ak (by rw[Al];omega) hD.row (by have:=hD.lt;omega) (by omega) (LL rfl) (L1 ⟨_,rfl⟩) rfl;obtain⟨Ax,Aw,At⟩:=nI A1;(have A5:v.ownBlock≠IF w.heap.size:=λe=>by have:=(hD.row.own e).1;omega);have A4:w2.heap[w.heap.size]?=IF (IH C 208 (0,0)):=(A0 _ hD.lt A5).trans hD.blk;(have d2:w2.cell? ⟨w.heap.size,i,ID⟩=IF v:=by simp only[J1,A4];simpa using hD.at');(have f2:w2.frozen? ⟨w.heap.size,i,ID⟩=L5:=by simp[LI,A4]);have Am:=IA A6;have HD:=IA hD;have A8:=IA A3;have A7:=IA A2;have As:=IA A4;clear Af hS Ab x6 A6 hD A3 A2 A4 A1 A0;go_wp2_with fail;refine K1 Am.out ?_;rintro e w' ⟨rfl,Ac⟩;rw[Ac];clear Ac;go_wp2_with fail;refine⟨⟨j+1,by omega,by go_num,?_⟩,by simp[intOf];omega⟩;have hD:=HD.out;have Ad:=A7.out;refine⟨C.setIfInBounds i (J0 (IF ⟨g,0,ID⟩) (j+1) cap),_,heap_set As.out,by simpa using hD.sz,λx hx hne=>?_,?_,pv.keep A8.out λb hb=>?_,?_,?_⟩
   ·rw[I3 (by omega)];exact hD.nil x hx hne
   ·rw[Kx A9]
   ·cases hb;exact av (c:=g) (by omega)
   ·exact(hD.below.trans (Ad.mono (by omega))).setCell (p:=⟨w.heap.size,i,ID⟩) (Mn _) _
   ·have:=Ad.size;have:=hD.lt;simp;omega
  ·(obtain rfl:j=N:=by omega);go_wp2;go_ret;exact⟨rfl,hJ.out⟩
end
end Go.Proofs.YtmehkneofinmiabGreatDoor

/-part 24-/
import Derived.Test.YtmehkneofinmiabGreatDoorP22
import Derived.Test.YtmehkneofinmiabGreatDoorP23
import Derived.Conc.RwLoneW
import Derived.Conc.CompanyDraw
open Go.Proofs.Tryz
open Array renaming getElem?_setIfInBounds_ne->ID,getElem?_setIfInBounds_self_of_lt->IH,replicate_succ->Nm,replicate_zero->Nx
open Bool renaming false->IF,true->IR,toNat_true->Ks,toNat_false->K0,false_eq_true->L5,and_eq_true->MT
open Option renaming some->I3,none->Jx,bind_some->N5
open Go.Proofs.Tryz renaming prog->J0
open Or renaming inl->J1,inr->L3
open Go.Region.linearise renaming go->Kf
open Go.Act renaming put->Kx
open Go.Region renaming ready->K1,wanted->Mu
open Go renaming Value->K2,World->Lz,execOp->LO,Frame->LS,wpAny_take->MY
open Go.World renaming cell?->Ln,frozen?->N0
open Nat renaming mul_le_mul_right->Lo,le_trans->Lw,le_refl->NO,reduceAdd->O2,zero_le->Pi
open Go.Value renaming int->Lq,string->LR,tuple->L2,pointer->MD,slice->N3,bool->Pa
open Go.Lib renaming decDigits->Ly
open List renaming length_cons->LI,setIfInBounds_toArray->L4,length_append->Mb,mem_cons->Mn,mem_of_mem_eraseIdx->Mp,getElem?_eq_getElem->Mz,getElem?_cons_succ->MA,mem_append->M1,getElem?_toArray->Nd,append_toArray->NX,mem_singleton->N1,size_toArray->N2,cons_append->N4,length_take->N6,all_eq_true->Of,not_mem_nil->Ok,length_nil->On,nil_append->ON,range->Pu
open Go.Calls renaming mono->LL
open Go.IntKind renaming i64->LN,i32->OS
open UInt8 renaming ofNat->L1
set_option maxRecDepth 100000
set_option maxHeartbeats 8000000
namespace Go.Proofs.YtmehkneofinmiabGreatDoor
open Go.RowKit Go.MuLone Go.Conc Go.Proofs.Rn
variable {lk:Nat->Int}{c d told wk:Nat}{T2:LS->List LS->Lz->Prop}{σ':St}{body:List UInt8}{E:IP}{a:Act}{P:Program}{ops:Array Oper}{o:Oper}{b1 b2 b3 b4 b5 b6 b7:Bool}
abbrev RW:Int := -1073741824
theorem ak.wlock {kc B:Nat}{w:Lz}{s n:Nat}{σ:St}{M:Mem}(h:ak w s n 0 lk σ M kc B):ak ((w.setCell ⟨s,0,Jx⟩ (Lq OS 1)).setCell ⟨s,4,Jx⟩ (Lq OS RW)) s n RW lk σ M kc B:=by
 have ho:Off (λk=>k=s) w ((w.setCell ⟨s,0,Jx⟩ (Lq OS 1)).setCell ⟨s,4,Jx⟩ (Lq OS RW)):=((Off.refl (λk=>k=s) w).set s 0 _ (J1 rfl)).set s 4 _ (J1 rfl);obtain⟨cs,hc,hr⟩:=h.row
 refine⟨h.n1,h.n8,(heap_set (heap_set h.blk)).trans (by simp[storeCells]),⟨cs,(ho.block _ (gL hc) (aa hc h.blk (by decide))).trans hc,hr⟩,
  λj hj=>(h.kt j hj).off ho (λb hb e=>ai (h.kt j hj).k.row h.blk (by decide) (e ▸ hb)) (λq hq e=>by obtain⟨cq,A0⟩:=(h.kt j hj).t q hq;exact aa A0 h.blk (by decide) e),
  λj hj p hp=>(h.Jc j hj p hp).off ho (λe=>aa (h.Jc j hj p hp).blk h.blk (by decide) e) (λb hb e=>ai (h.Jc j hj p hp).row h.blk (by decide) (e ▸ hb)),
  h.JQ,I4.off (base:=0) h.Jn ho (λb hb e=>ai h.Jn h.blk (by decide) (e ▸ hb)),h.Le,h.Ka,h.rise,h.ok,h.many,h.time,h.lastB⟩
theorem ak.wunlock {kc B:Nat}{w:Lz}{s n:Nat}{σ:St}{M:Mem}(h:ak w s n RW lk σ M kc B):ak ((w.setCell ⟨s,4,Jx⟩ (Lq OS 0)).setCell ⟨s,0,Jx⟩ (Lq OS 0)) s n 0 lk σ M kc B:=by
 have ho:Off (λk=>k=s) w ((w.setCell ⟨s,4,Jx⟩ (Lq OS 0)).setCell ⟨s,0,Jx⟩ (Lq OS 0)):=((Off.refl (λk=>k=s) w).set s 4 _ (J1 rfl)).set s 0 _ (J1 rfl);obtain⟨cs,hc,hr⟩:=h.row
 refine⟨h.n1,h.n8,(heap_set (heap_set h.blk)).trans (by simp[storeCells]),⟨cs,(ho.block _ (gL hc) (aa hc h.blk (by decide))).trans hc,hr⟩,
  λj hj=>(h.kt j hj).off ho (λb hb e=>ai (h.kt j hj).k.row h.blk (by decide) (e ▸ hb)) (λq hq e=>by obtain⟨cq,A0⟩:=(h.kt j hj).t q hq;exact aa A0 h.blk (by decide) e),
  λj hj p hp=>(h.Jc j hj p hp).off ho (λe=>aa (h.Jc j hj p hp).blk h.blk (by decide) e) (λb hb e=>ai (h.Jc j hj p hp).row h.blk (by decide) (e ▸ hb)),
  h.JQ,I4.off (base:=0) h.Jn ho (λb hb e=>ai h.Jn h.blk (by decide) (e ▸ hb)),h.Le,h.Ka,h.rise,h.ok,h.many,h.time,h.lastB⟩
def Fo (s n T N cp:Nat)(σ:St)(M:Mem)(kc LH B m:Nat)(t:Jg)(k:I9)(cs:Nat->I7)(gs:Nat->Nat)(bd:Nat->List UInt8)(tc JV:Array K2):Prop :=
 ∀w,ak w s n RW (λ_=>0) σ M kc B->Kv w T N m t k cs gs bd tc->Jm w->Calls J0 75 #[pt s,N3 (I3 ⟨T,0,Jx⟩) N cp] w λe w' =>
  e=.returned (L2 #[])/\ak w' s n RW (λ_=>0) σ M LH B/\w'.heap[T]?=I3 (.cells JV 110 (0,0))/\Off (λq=>q=s\/q=T) w w'
structure FZ (w:Lz)(s n T N cp:Nat)(σ:St)(M:Mem)(kc LH B m:Nat)(t:Jg)(k:I9)(cs:Nat->I7)(gs:Nat->Nat)(bd:Nat->List UInt8)(tc JV:Array K2)(rc:Nat->Option MV):Prop where
 st:ak w s n 0 (λ_=>0) σ M kc B
 tk:Kv w T N m t k cs gs bd tc
 kr:Fo s n T N cp σ M kc LH B m t k cs gs bd tc JV
 sz1:JV.size=tc.size
 eq1:∀j,j<N->∀i,i<20->JV[j*28+i]?=tc[j*28+i]?
 mg:∀j,j<N->M.g<=gs j
 tb:Jm w
 hi:∀k,M.own s n k->eh k
 hT:eh T
 key:aW t.key=IR
 kl:t.key.length<1000000
 Q8:∀j,j<N->(bd j).length<=400
 num:t.num<1000000000000000
 kd:t.kind≠3
 kd0:t.kind≠0
 bB:B<140000000000000
 lB:∀j,j<N->(ae (Jf σ t k bd JV j).1.Iz t.key).last+1<=B
 rm:∀j,j<N->(ae (Jf σ t k bd JV j).1.Iz t.key).last=0->(Jf σ t k bd JV j).2[j*28+20]?=I3 (Pa IR)/\(Jf σ t k bd JV j).1.Iz.length<60
 rc1:∀j,j<N->Gu (Jf σ t k bd JV N).2 (j*28) (rc j)
 rc2:∀j r,j<N->rc j=I3 r->r.kd<256/\r.n<9223372036854775807/\r.key.length<100000/\r.body.length<100000
 rc3:∀j,j<N->(fP (Jf σ t k bd JV N).1.time rc (Jf σ t k bd JV N).1.log j).length<140000000000000
 n0:0<N
structure GD (w:Lz)(s n T N:Nat)(σ:St)(M:Mem)(LH B:Nat)(t:Jg)(k:I9)(bd:Nat->List UInt8)(JV:Array K2)(rc:Nat->Option MV)(w':Lz):Prop where
 ex:∃M',ak w' s n 0 (λ_=>0) ⟨(Jf σ t k bd JV N).1.time,(Jf σ t k bd JV N).1.Iz,fP (Jf σ t k bd JV N).1.time rc (Jf σ t k bd JV N).1.log N⟩ M' LH B/\∀q,M'.own s n q->M.own s n q\/w.heap.size<=q
 tk:w'.heap[T]?=I3 (.cells (Jf σ t k bd JV N).2 110 (0,0))
 off:Off (λq=>M.own s n q\/q=T) w w'
section
variable {w:Lz} {s n T N cp:Nat} {σ:St} {M:Mem} {kc LH B m:Nat} {t:Jg} {k:I9} {cs:Nat->I7} {gs:Nat->Nat} {bd:Nat->List UInt8} {tc JV:Array K2} {rc:Nat->Option MV}
theorem uS (h:FZ w s n T N cp σ M kc LH B m t k cs gs bd tc JV rc)(hcp:N=cp)(hw0:0<wk)(hw:wk<1000){c:LS}{IC:List LS}(hfl:∀f∈c::IC,f.fn∈[4,19,38]/\f.mode=.run)
 (hk:∀t' w',GD (az w t') s n T N σ M LH B t k bd JV rc w'->Rn.Reach J0 T2 (c.finish (L2 #[])) IC w') :
 Rn.Reach J0 (Bg J0 (Dd T2)) (Frame.enter J0 38 #[pt s,N3 (I3 ⟨T,0,Jx⟩) N cp,Lq LN wk] .normal) (c::IC) w:=by
 subst hcp;have HH:=IA h;have HK:=IA hk;have x0:w.cell? ⟨s,0,Jx⟩=I3 (Lq OS 0):=by simp[Ln,h.st.blk,storeCells]
 have x2:w.cell? ⟨s,0+2,Jx⟩=I3 (Lq .u32 0):=by simp[Ln,h.st.blk,storeCells]
 have x3:w.cell? ⟨s,0+3,Jx⟩=I3 (Lq .u32 0):=by simp[Ln,h.st.blk,storeCells]
 have x4:w.cell? ⟨s,0+4,Jx⟩=I3 (Lq OS 0):=by simp[Ln,h.st.blk,storeCells]
 have f0:=Je h.st.blk 0;have f4:w.frozen? ⟨s,0+4,Jx⟩=IF:=by simp[N0,h.st.blk]
 have Aj:=Go.RwLone.wlock_free Mr s 0 _ _ w x0 x2 x3 x4 f0 f4;have HL:=IA Aj;clear h hk Aj x0 x2 x3 x4 f0 f4;rw[enter_at (P:=J0) _ func38 rfl];simp only[f38,N2,LI,On,O2,Nat.reduceSub,Nm,Nx,List.push_toArray,NX,ON,N4];refine Rn.Reach.seq λK hK=>?_;go_wp2_with fail;refine LL HL.out ?_;rintro e w1 ⟨rfl,Aa⟩;have Av:ak w1 s n RW (λ_=>0) σ M kc B:=by rw[Aa];exact HH.out.st.wlock
 have A6:Off (λq=>q=s) w w1:=by rw[Aa];exact((Off.refl (λk=>k=s) w).set s 0 _ (J1 rfl)).set s 4 _ (J1 rfl)
 have Al:∀{q:Nat} {c:Array K2} {f:Nat×Nat},w.heap[q]?=I3 (.cells c 273 f)->¬ q=s:=λe h=>aa HH.out.st.blk e (by decide) h.symm;have Ae:s≠T:=aa HH.out.st.blk HH.out.tk.tk (by decide);have At:Kv w1 T N m t k cs gs bd tc:=HH.out.tk.off A6 (λb c f e=>Al e) ((A6.block T (gL HH.out.tk.tk) Ae.symm).trans HH.out.tk.tk) rfl (λ_ _ _ _=>rfl);have Af:Jm w1:=HH.out.tb.off A6 (λq e=>e ▸ HH.out.hi s (J1 rfl));have Ah:=IA Av;have Ax:=IA A6;have Ad:=IA At;have Ar:=IA Af;clear Aa Av A6 At Af Al;go_wp2_with fail;refine Rn.Reach.seq λK hK=>?_;go_wp2_with fail;refine Rn.Reach.seq λK hK=>?_;go_wp2_with fail;refine LL (HH.out.kr w1 Ah.out Ad.out Ar.out) ?_;rintro e w2 ⟨rfl,Aq,Au,A9⟩;have Ak:∀b c f,w1.heap[b]?=I3 (.cells c 273 f)->¬ (b=s\/b=T):=λb c f e=>by
  rintro(h|h)
  ·exact aa Ah.out.blk e (by decide) h.symm
  ·exact aa Ad.out.tk e (by decide) h.symm
 have Ag:Kv w2 T N m t k cs gs bd JV:=Ad.out.off A9 Ak Au HH.out.sz1 HH.out.eq1;have Am:Jm w2:=Ar.out.off A9 (by rintro q (h|h);exact h ▸ HH.out.hi s (J1 rfl);exact h ▸ HH.out.hT);have Ay:=IA Aq;have A5:=IA Ag;have B0:=IA Am;have Ab:Hid (Off (λq=>M.own s n q\/q=T) w w2):=(Ax.out.mono λq h=>J1 (J1 h)).trans (A9.mono λq h=>h.imp_left J1);clear Au Aq Ag Am A9 Ak;go_wp2_with fail;refine Rn.Reach.ctl (λcs=>stepG_seq) ?_;refine Rn.Reach.seq λK hK=>?_;go_wp2_with fail;refine Rn.Reach.ctl (λcs=>stepG_block) ?_;refine Rn.Reach.ctl (λcs=>stepG_loop) ?_;have B8:(0:Int)<(N:Int):=by have:=HH.out.n0;omega
 have Ba:N<1000:=A5.out.nB;refine Rn.Reach.seq λK hK=>?_;go_wp2_with fail;refine Rn.Reach.ctl (λcs=>stepG_block) ?_;refine Rn.Reach.seq λK hK=>?_;go_wp2_with fail;have Aw:=pe (w:=w2) (T:=T) (N:=N) (tc:=JV) N t.kind A5.out.tk (by omega) (λj hj=>⟨A5.out.tl j hj,A5.out.rq j hj 1 _ rfl⟩) (beq_eq_false_iff_ne.2 (by have:=HH.out.kd0;omega));refine LL Aw ?_;rintro e w3 ⟨rfl,An⟩;rw[An];clear An Aw w3;go_wp2_with fail;refine Rn.Reach.ctl (λcs=>stepG_seq) ?_;refine Rn.Reach.till 5 1 _ rfl rfl λK hK=>?_;have B3:(0:Int)<=(N:Int):=by omega
 go_wp2_with fail;simp only[List.range'_succ,List.range'_zero];refine Rn.Reach.enter (i:=5) rfl rfl (by simp[base]) (bP rfl rfl ⟨_,_,func77,rfl,by kernel_rfl⟩ _).1 ?_
 walk_nrm
 refine Rn.Reach.here ⟨⟨T,s,n,N,N,wk,RW,σ,M,LH,B,m,t,k,cs,gs,bd,JV⟩,_,_,pt s,N3 (I3 ⟨T,0,Jx⟩) N N,Lq LN wk,T,0,N,N,rfl,rfl,rfl,λf hf=>?_,rfl,rfl,rfl,rfl,hw0,hw,HH.out.n0,⟨Ay.out,A5.out,HH.out.mg,B0.out,HH.out.hi,HH.out.hT,HH.out.key,HH.out.kl,HH.out.Q8,HH.out.num,HH.out.kd,HH.out.bB,HH.out.lB,HH.out.rm⟩,λt' wE hE=>?_⟩
 ·rcases Mn.1 hf with rfl|hf
  ·exact⟨by simp[Frame.at,base],rfl⟩
  ·exact hfl f hf
 have HE:=IA hE;clear hE;rw[Frame.finish_at];simp only[Kx,Nd,MA,List.getElem?_cons_zero,N5,L4,List.set_cons_succ,List.set_cons_zero];refine Rn.Reach.ctl (λcs=>stepG_region_end) ?_;refine Rn.Reach.code ?_;go_wp2_with fail;refine Rn.Reach.ctl (λcs=>stepG_inBlock) ?_;refine Rn.Reach.ctl (λcs=>stepG_inLoop) ?_;refine Rn.Reach.ctl (λcs=>stepG_seq) ?_;refine Rn.Reach.seq λK hK=>?_;go_wp2_with fail;refine Rn.Reach.ctl (λcs=>stepG_cond (t:=IF) rfl) ?_;simp only[L5,if_false];refine Rn.Reach.ctl (λcs=>stepG_exit rfl) ?_;refine Rn.Reach.last func38 rfl rfl ?_;go_wp2_with fail;obtain⟨⟨M3,Ai,B7,A2⟩,A7,A4⟩:=HE.out;have Ac:(Jf σ t k bd JV N).2.size=N*28:=by rw[(gz σ t k bd JV N).1];exact A5.out.sz
 refine LL (qM N rc Ai A7 Ac (by omega) HH.out.rc1 HH.out.rc2 HH.out.rc3) ?_;rintro e w6 ⟨rfl,⟨M6,A3,B9,A1⟩,A8,A0⟩;have y0:w6.cell? ⟨s,0,Jx⟩=I3 (Lq OS 1):=by simp[Ln,A3.blk,storeCells]
 have y2:w6.cell? ⟨s,0+2,Jx⟩=I3 (Lq .u32 0):=by simp[Ln,A3.blk,storeCells]
 have y3:w6.cell? ⟨s,0+3,Jx⟩=I3 (Lq .u32 0):=by simp[Ln,A3.blk,storeCells]
 have y4:w6.cell? ⟨s,0+4,Jx⟩=I3 (Lq OS RW):=by simp[Ln,A3.blk,storeCells]
 have g0:=Je A3.blk 0;have g4:w6.frozen? ⟨s,0+4,Jx⟩=IF:=by simp[N0,A3.blk]
 have As:=Go.RwLone.wunlock_deferred Mr s 0 _ _ .returning w6 y0 y2 y3 y4 g0 g4;have HU:=IA As;have Az:=IA A3;have B1:=IA A1;have B6:=IA A8;have B2:=IA A0;have Ao:=IA A2;have B5:=IA A4;clear y0 y2 y3 y4 g0 g4 As A3 A1 A8 A0 Ai A7 A2 A4;go_wp2_with fail;refine leaves_cons (f:=74) (args:=#[MD (I3 ⟨s,0,Jx⟩)]) (by simp) (by simp[go_sem]) ?_;refine CallsD.mono HU.out ?_;rintro e u' w7 ⟨rfl,rfl,B4⟩;refine⟨L2 #[],results_none rfl _ _ _,L2 #[],rfl,HK.out t' _ ?_⟩;have Ap:Off (λq=>M.own s n q\/q=T) (az w t') wE:=(Off.LB t' Ab.out).trans B5.out;have o6:Off (λq=>M.own s n q\/q=T) (az w t') w6:=Ap.trans' B2.out λi hi ho=>(Ao.out i ho).elim J1 λh=>absurd hi (Nat.not_lt.2 (Lw Ab.out.size h));rw[B4];refine⟨⟨M6,Az.out.wunlock,λq hq=>?_⟩,?_,?_⟩
 ·rcases B1.out q hq with h|h
  ·rcases Ao.out q h with h|h
   ·exact J1 h
   ·exact L3 (Lw Ab.out.size h)
  ·exact L3 (Lw Ap.size h)
 ·rw[av Ae.symm,av Ae.symm];exact B6.out
 ·exact(o6.set s _ _ (J1 (J1 (J1 rfl)))).set s _ _ (J1 (J1 (J1 rfl)))
end
open Go.RowKit
abbrev tK (key:List UInt8):Jg:=⟨1,key,0⟩
def MJ (σ:St)(key b0:List UInt8):IP:=⟨key,(ae σ.Iz key).last+1,(ae σ.Iz key).IB++[⟨(ae σ.Iz key).last+1,σ.time,IF,b0⟩]⟩
theorem A5 (σ:St)(key b0:List UInt8):ej σ key ((ae σ.Iz key).last+1) b0=⟨σ.time,bT σ.Iz (MJ σ key b0),σ.log⟩:=by
 unfold ej bn MJ;rw[if_neg (by decide),cx];rfl
theorem xP {σ:St}{key b0:List UInt8}(hr:cG σ.Iz):ae (ej σ key ((ae σ.Iz key).last+1) b0).Iz key=MJ σ key b0:=by
 rw[A5];show ae (bT σ.Iz (MJ σ key b0)) key=_;rw[ly hr];exact if_pos rfl
theorem lF (σ:St)(key b0:List UInt8):ax (MJ σ key b0)=I3 ⟨(ae σ.Iz key).last+1,σ.time,IF,b0⟩:=by
 unfold ax MJ;simp
noncomputable def dG (σ:St)(key b0:List UInt8)(j:Nat):L9 :=
 if 20<=(ae σ.Iz key).IB.length then⟨507,[],[]⟩
 else if j=0 then⟨bN (ae σ.Iz key) 1,[⟨[69,84,97,103],bX b0⟩,⟨[86,101,114,115,105,111,110],Ly ((ae σ.Iz key).last+1)⟩],[]⟩
 else⟨412,[],[]⟩
noncomputable def Kr (σ:St)(key b0:List UInt8)(j:Nat):St:=if 20<=(ae σ.Iz key).IB.length\/j=0 then σ else ej σ key ((ae σ.Iz key).last+1) b0
noncomputable def Kz (σ:St)(key b0:List UInt8)(j:Nat):Option MV:=if 20<=(ae σ.Iz key).IB.length\/j≠0 then Jx else I3 ⟨1,0,key,(ae σ.Iz key).last+1,b0⟩
section
variable {σ:St} {key:List UInt8} {k:I9} {bd:Nat->List UInt8} {tc:Array K2}
theorem FW (hr:cG σ.Iz)(h0:aJ IR k (ax (ae σ.Iz key))=0)(h1:aJ IR k (I3 ⟨(ae σ.Iz key).last+1,σ.time,IF,bd 0⟩)=412)(tc:Array K2)(j:Nat) :
 fQ (Kr σ key (bd 0) j) (tK key) k (bd j) tc (j*28)=(dG σ key (bd 0) j,Kr σ key (bd 0) (j+1),if(Kz σ key (bd 0) j).isSome then dW tc (j*28) 1 0 key ((ae σ.Iz key).last+1) (bd 0) else tc):=by
 by_cases hf:20<=(ae σ.Iz key).IB.length
 ·have e1:∀j,Kr σ key (bd 0) j=σ:=λj=>if_pos (J1 hf);have e2:Kz σ key (bd 0) j=Jx:=if_pos (J1 hf);rw[e1,e1,e2];rw[wo (t:=tK key) h0 hf];simp[dG,hf]
 ·by_cases hj:j=0
  ·subst hj;have e1:Kr σ key (bd 0) 0=σ:=if_pos (L3 rfl);have e2:Kr σ key (bd 0) (0+1)=ej σ key ((ae σ.Iz key).last+1) (bd 0):=if_neg (by omega);have e3:Kz σ key (bd 0) 0=I3 ⟨1,0,key,(ae σ.Iz key).last+1,bd 0⟩:=if_neg (by omega);rw[e1,e2,e3];rw[vg (t:=tK key) h0 hf];simp[dG,hf]
  ·have e1:∀j,j≠0->Kr σ key (bd 0) j=ej σ key ((ae σ.Iz key).last+1) (bd 0):=λj hj=>if_neg (by omega);have e3:Kz σ key (bd 0) j=Jx:=if_pos (L3 hj);rw[e1 j hj,e1 (j+1) (by omega),e3];(have hc:aJ IR k (dA (ae (ej σ key ((ae σ.Iz key).last+1) (bd 0)).Iz (tK key).key) (tK key))=412:=by rw[show(tK key).key=key from rfl,xP hr];show aJ IR k (ax _)=412;rw[lF];exact h1);rw[vG (t:=tK key) (by rw[hc];decide),hc];simp[dG,hf,hj]
theorem wb (hr:cG σ.Iz)(h0:aJ IR k (ax (ae σ.Iz key))=0)(h1:aJ IR k (I3 ⟨(ae σ.Iz key).last+1,σ.time,IF,bd 0⟩)=412)(j:Nat):(Jf σ (tK key) k bd tc j).1=Kr σ key (bd 0) j:=by
 induction j with
 | zero=>exact(if_pos (L3 rfl)).symm
 | succ j ih =>show(fQ (Jf σ (tK key) k bd tc j).1 (tK key) k (bd j) (Jf σ (tK key) k bd tc j).2 (j*28)).2.1=_;rw[ih,FW hr h0 h1]
theorem Bl (hr:cG σ.Iz)(h0:aJ IR k (ax (ae σ.Iz key))=0)(h1:aJ IR k (I3 ⟨(ae σ.Iz key).last+1,σ.time,IF,bd 0⟩)=412)(j:Nat):(Jf σ (tK key) k bd tc (j+1)).2 =
 (if(Kz σ key (bd 0) j).isSome then dW (Jf σ (tK key) k bd tc j).2 (j*28) 1 0 key ((ae σ.Iz key).last+1) (bd 0) else(Jf σ (tK key) k bd tc j).2).setIfInBounds (j*28+27) (LR ⟨(aL (dG σ key (bd 0) j).told (dG σ key (bd 0) j).IQ (dG σ key (bd 0) j).body).toArray⟩):=by
 show(fQ (Jf σ (tK key) k bd tc j).1 (tK key) k (bd j) (Jf σ (tK key) k bd tc j).2 (j*28)).2.2.setIfInBounds (j*28+27) (LR ⟨(aL (fQ (Jf σ (tK key) k bd tc j).1 (tK key) k (bd j) (Jf σ (tK key) k bd tc j).2 (j*28)).1.told (fQ (Jf σ (tK key) k bd tc j).1 (tK key) k (bd j) (Jf σ (tK key) k bd tc j).2 (j*28)).1.IQ (fQ (Jf σ (tK key) k bd tc j).1 (tK key) k (bd j) (Jf σ (tK key) k bd tc j).2 (j*28)).1.body).toArray⟩)=_;rw[wb hr h0 h1,FW hr h0 h1]
theorem xK (N:Nat)(j x:Nat)(hx:x<(j+1)*28)(hj:j+1<=N):(Jf σ (tK key) k bd tc N).2[x]?=(Jf σ (tK key) k bd tc (j+1)).2[x]?:=by
 induction N with
 | zero=>omega
 | succ N ih =>
   by_cases e:j+1=N+1
   ·rw[e]
   ·(have A0:j+1<=N:=by omega);have hk:=lM (Jf σ (tK key) k bd tc N).1 (tK key) k (bd N) (Jf σ (tK key) k bd tc N).2 (N*28);rw[<-ih A0];have h2:(j+1)*28<=N*28:=Lo _ A0;show(Array.setIfInBounds _ _ _)[x]?=_;rw[ID (by omega),hk.2 x (J1 (by omega))]
theorem DH (hr:cG σ.Iz)(h0:aJ IR k (ax (ae σ.Iz key))=0)(h1:aJ IR k (I3 ⟨(ae σ.Iz key).last+1,σ.time,IF,bd 0⟩)=412){N:Nat}(hs:tc.size=N*28)(j:Nat)(hj:j<N) :
 (Jf σ (tK key) k bd tc N).2[j*28+27]?=I3 (LR ⟨(aL (dG σ key (bd 0) j).told (dG σ key (bd 0) j).IQ (dG σ key (bd 0) j).body).toArray⟩):=by
 rw[xK N j _ (by omega) (by omega),Bl hr h0 h1];rw[IH];have hk:=(gz σ (tK key) k bd tc j).1;have h2:(j+1)*28<=N*28:=Lo _ (by omega);split
 ·rw[qa,hk,hs];omega
 ·rw[hk,hs];omega
theorem Fg (hr:cG σ.Iz)(h0:aJ IR k (ax (ae σ.Iz key))=0)(h1:aJ IR k (I3 ⟨(ae σ.Iz key).last+1,σ.time,IF,bd 0⟩)=412){N:Nat}(hs:tc.size=N*28)(h21:∀j,j<N->tc[j*28+21]?=I3 (Pa IF))(j:Nat)(hj:j<N) :
 Gu (Jf σ (tK key) k bd tc N).2 (j*28) (Kz σ key (bd 0) j):=by
 have hk:=gz σ (tK key) k bd tc j;have h2:(j+1)*28<=N*28:=Lo _ (by omega);have e:∀x,x<27->(Jf σ (tK key) k bd tc N).2[j*28+x]?=(if(Kz σ key (bd 0) j).isSome then dW (Jf σ (tK key) k bd tc j).2 (j*28) 1 0 key ((ae σ.Iz key).last+1) (bd 0) else(Jf σ (tK key) k bd tc j).2)[j*28+x]?:=λx hx=>by rw[xK N j _ (by omega) (by omega),Bl hr h0 h1,ID (by omega)]
 by_cases hf:20<=(ae σ.Iz key).IB.length\/j≠0
 ·have e3:Kz σ key (bd 0) j=Jx:=if_pos hf;rw[e3] at e ⊢;show _=_;rw[e 21 (by omega)];simp only[Option.isSome_none,L5,if_false];rw[hk.2 _ (by omega)];exact h21 j hj
 ·have e3:Kz σ key (bd 0) j=I3 ⟨1,0,key,(ae σ.Iz key).last+1,bd 0⟩:=if_neg hf;rw[e3] at e ⊢;simp only[Option.isSome_some,if_true] at e;obtain⟨Z,hZ⟩:=IG ((Jf σ (tK key) k bd tc j).2);(have hz:Z.size=N*28:=by rw[<-hZ,hk.1,hs]);rw[hZ] at e;refine⟨?_,?_,?_,?_,?_,?_⟩<;>rw[e _ (by omega)]<;>unfold dW
  ·rw[IH (by simp;omega)]
  ·rw[ID (by omega),ID (by omega),ID (by omega),ID (by omega),ID (by omega),IH (by omega)]
  ·rw[ID (by omega),ID (by omega),ID (by omega),ID (by omega),IH (by simp;omega)]
  ·rw[ID (by omega),ID (by omega),ID (by omega),IH (by simp;omega)]
  ·rw[ID (by omega),ID (by omega),IH (by simp;omega)]
  ·rw[ID (by omega),IH (by simp;omega)]
theorem xe (tm:Nat)(J:List UInt8)(j:Nat):fP tm (Kz σ key (bd 0)) J j=if 20<=(ae σ.Iz key).IB.length\/j=0 then J else J++bG 1 tm key ((ae σ.Iz key).last+1) (bd 0):=by
 induction j with
 | zero=>simp[fP]
 | succ j ih =>
   by_cases hf:20<=(ae σ.Iz key).IB.length
   ·have e3:Kz σ key (bd 0) j=Jx:=if_pos (J1 hf);rw[qR e3,ih,if_pos (J1 hf),if_pos (J1 hf)]
   ·by_cases hj:j=0
    ·subst hj;have e3:Kz σ key (bd 0) 0=I3 ⟨1,0,key,(ae σ.Iz key).last+1,bd 0⟩:=if_neg (by omega);rw[uI e3,ih,if_pos (L3 rfl),if_neg (by omega)]
    ·have e3:Kz σ key (bd 0) j=Jx:=if_pos (L3 hj);rw[qR e3,ih,if_neg (by omega),if_neg (by omega)]
end
open Go.RowKit Go.MuLone Go.Conc Go.Proofs.Rn
theorem ak.more {kc B B':Nat}{w:Lz}{s n:Nat}{rd:Int}{σ:St}{M:Mem}(h:ak w s n rd lk σ M kc B)(hB:B<=B'):ak w s n rd lk σ M kc B' :=
 ⟨h.n1,h.n8,h.blk,h.row,h.kt,h.Jc,h.JQ,h.Jn,h.Le,h.Ka,h.rise,h.ok,h.many,h.time,λE hE=>Lw (h.lastB E hE) hB⟩
section
variable {w:Lz} {s n T N cp m:Nat} {σ:St} {M:Mem} {kc B:Nat} {t:Jg} {k:I9} {cs:Nat->I7} {gs:Nat->Nat} {bd:Nat->List UInt8} {tc:Array K2}
theorem Eo (hkl:t.key.length<1000000)(hl:0<(ae σ.Iz t.key).last):Fo s n T N cp σ M kc kc B m t k cs gs bd tc tc:=λw hS hT hb=>by
 refine LL (pD cp hS hT hb hkl (by by_cases h:aJ IR k Jx=0;exact L3 ⟨h,hl⟩;exact J1 h)) ?_
 rintro e w' ⟨rfl,hb'⟩
 exact⟨rfl,hS.below hb',(hb'.block T (gL hT.tk)).trans hT.tk,Off.of_below hb'⟩
theorem FI (hHi:eh s/\eh T)(hkl:t.key.length<1000000)(hc:aJ IR k Jx=0)(hl:(ae σ.Iz t.key).last=0)(hkc:kc<60)(hN0:0<N):Fo s n T N cp σ M kc (kc+1) B m t k cs gs bd tc (tc.setIfInBounds 20 (Pa IR)):=λw hS hT hb=>by
 refine LL (qA cp hS hT hb hHi hkl hc hl hkc hN0) ?_
 rintro e w' ⟨rfl,dv,h⟩
 exact⟨rfl,h.st,h.tk,h.off⟩
end
noncomputable def LU (σ:St)(key:List UInt8)(tc:Array K2):Array K2:=if(ae σ.Iz key).last=0 then tc.setIfInBounds 20 (Pa IR) else tc
noncomputable def Ox (σ:St)(key:List UInt8):Nat:=if(ae σ.Iz key).last=0 then σ.Iz.length+1 else σ.Iz.length
theorem nA (σ:St)(key:List UInt8)(tc:Array K2):(LU σ key tc).size=tc.size:=by
 unfold LU;split<;>simp
theorem Aa (σ:St)(key:List UInt8)(tc:Array K2){x:Nat}(hx:x≠20):(LU σ key tc)[x]?=tc[x]?:=by
 unfold LU;split
 ·rw[ID (Ne.symm hx)]
 ·rfl
section
variable {w0 w:Lz} {s n N:Nat} {σ:St} {M:Mem} {key:List UInt8} {k:I9} {cs:Nat->I7} {gs:Nat->Nat} {bd:Nat->List UInt8}
theorem GQ (hS:aN w0 s n 0 (λ_=>0) σ M)(hb:Jm w0)(hHi:∀q,M.own s n q->eh q)(JL:σ.log.length<1000000000000)(J3:σ.Iz.length<60)(hkey:aW key=IR)(hkl:key.length<100000)(hbd:∀j,j<N->(bd j).length<=400)
 (h0:aJ IR k (ax (ae σ.Iz key))=0)(h1:aJ IR k (I3 ⟨(ae σ.Iz key).last+1,σ.time,IF,bd 0⟩)=412)(hN:N<1000)(hN0:0<N)(hR:TF w0 N 2 (tK key) k bd N cs gs w) :
 ∃tc,FZ w s n w0.heap.size N N σ M σ.Iz.length (Ox σ key) (σ.log.length+2) 2 (tK key) k cs gs bd tc (LU σ key tc) (Kz σ key (bd 0))/\w.heap[w0.heap.size]?=I3 (.cells tc 110 (0,0)):=by
 obtain⟨tc,A9,A8,Ac,A2,Af,A1⟩:=hR.blk;have Ab:aN w s n 0 (λ_=>0) σ M:=hS.below hR.below;have Ah:M.g<w0.heap.size:=JB hS (L3 (J1 rfl));have hr:cG σ.Iz:=hS.rise;have Ad:eh s:=hHi s (J1 rfl);have A3:eh w0.heap.size:=hb.high (NO _);have A5:(ae σ.Iz key).last<=σ.log.length:=by
  by_cases hl:(ae σ.Iz key).last=0
  ·omega
  ·exact hS.lastB _ (ee hl)
 have A6:(ae σ.Iz key).last=0->ax (ae σ.Iz key)=Jx/\(ae σ.Iz key).IB.length=0:=λhl=>by have:=bV (λE hE=>(hS.ok E hE).last) hl;rw[this.2];exact⟨rfl,rfl⟩
 have A0:=λj=>wb (tc:=LU σ key tc) hr h0 h1 j;refine⟨tc,?_,A9⟩;refine⟨ak.more Ab (by omega),⟨A9,A8,Ac,A2,λj hj=>⟨(hR.rq j hj).1,(hR.rq j hj).2.1⟩,rfl,hN⟩,?_,nA _ _ _,λj hj i hi=>Aa _ _ _ (by omega),λj hj=>by have:=(hR.rq j hj).2.2;omega,hb.below hR.below,hHi,A3,hkey,by show key.length<_;omega,hbd,by show(0:Nat)<_;omega,by show(1:Nat)≠3;decide,by show(1:Nat)≠0;decide,by omega,λj hj=>?_,λj hj hl=>?_,λj hj=>?_,λj r hj Tk=>?_,λj hj=>?_,hN0⟩
 ·by_cases hl:(ae σ.Iz key).last=0
  ·have e1:LU σ key tc=tc.setIfInBounds 20 (Pa IR):=if_pos hl;have e2:Ox σ key=σ.Iz.length+1:=if_pos hl;rw[e1,e2];rw[(A6 hl).1] at h0;exact FI ⟨Ad,A3⟩ (by show key.length<_;omega) h0 hl J3 hN0
  ·have e1:LU σ key tc=tc:=if_neg hl;have e2:Ox σ key=σ.Iz.length:=if_neg hl;rw[e1,e2];exact Eo (by show key.length<_;omega) (by show 0<(ae σ.Iz key).last;omega)
 ·rw[A0];unfold Kr;split
  ·show(ae σ.Iz key).last+1<=_;omega
  ·show(ae (ej σ key ((ae σ.Iz key).last+1) (bd 0)).Iz key).last+1<=_;rw[xP hr];show(ae σ.Iz key).last+1+1<=_;omega
 ·rw[A0] at hl ⊢;unfold Kr at hl ⊢;split at hl
  ·rename_i hc;rw[if_pos hc];have A7:(ae σ.Iz key).last=0:=hl;(have Ae:j=0:=by have:=(A6 A7).2;omega);subst Ae;refine⟨?_,J3⟩;show(LU σ key tc)[0*28+20]?=_;have e1:LU σ key tc=tc.setIfInBounds 20 (Pa IR):=if_pos A7;rw[e1,Nat.zero_mul,Nat.zero_add,IH (by omega)]
  ·have A4:(ae (ej σ key ((ae σ.Iz key).last+1) (bd 0)).Iz key).last=0:=hl;rw[xP hr] at A4;simp[MJ] at A4
 ·exact Fg hr h0 h1 (by rw[nA];exact A8) (λj hj=>by rw[Aa _ _ _ (by omega)];exact A1 j hj) j hj
 ·unfold Kz at Tk;split at Tk
  ·cases Tk
  ·cases Tk;exact⟨by show(1:Nat)<256;decide,by show(ae σ.Iz key).last+1<_;omega,by show key.length<_;omega,by show(bd 0).length<_;have:=hbd 0 hN0;omega⟩
 ·rw[xe,A0];(have e:(Kr σ key (bd 0) N).log=σ.log:=by unfold Kr;split<;>rfl);have Ag:=hbd 0 hN0;rw[e];split
  ·omega
  ·rw[Mb,eW];omega
end
open Go.RowKit Go.MuLone Go.Conc Go.Proofs.Rn
structure E1 (w0:Lz)(s n N:Nat)(σ:St)(M:Mem)(key b0:List UInt8)(O:Nat)(w':Lz):Prop where
 ex:∃M',ak w' s n 0 (λ_=>0) ⟨σ.time,(Kr σ key b0 N).Iz,fP σ.time (Kz σ key b0) σ.log N⟩ M' (Ox σ key) (σ.log.length+2)/\∀q,M'.own s n q->M.own s n q\/w0.heap.size<=q
 off:Off (M.own s n) w0 w'
 ans:∀j,j<N->w'.cell? ⟨O,j,Jx⟩=I3 (LR ⟨(aL (dG σ key b0 j).told (dG σ key b0 j).IQ (dG σ key b0 j).body).toArray⟩)
 new:w0.heap.size<=O
section
variable {w0:Lz} {s n N R cp:Nat} {σ:St} {M:Mem} {key:List UInt8} {k:I9} {bd l:Nat->List UInt8}
theorem sP (hS:aN w0 s n 0 (λ_=>0) σ M)(hM:bu w0)(hb:Jm w0)(hHi:∀q,M.own s n q->eh q)(JL:σ.log.length<1000000000000)(J3:σ.Iz.length<60)(hkey:aW key=IR)(hkl:key.length<100000)(hbd:∀j,j<N->(bd j).length<=400)
 (h0:aJ IR k (ax (ae σ.Iz key))=0)(h1:aJ IR k (I3 ⟨(ae σ.Iz key).last+1,σ.time,IF,bd 0⟩)=412)(hN:N<=64)(hN0:0<N)
 (hc:∀j,j<N->w0.cell? ⟨R,j,Jx⟩=I3 (LR ⟨(l j).toArray⟩))(hl:∀j,j<N->(l j).length<=9223372036854775807)(hrd:∀j,j<N->aZ (l j)=.ok (2,tK key,k,bd j))(hk0:k.s=Jx/\k.u=Jx)
 (hw0:0<wk)(hw:wk<=8){c:LS}{IC:List LS}(hfl:∀f∈c::IC,f.fn∈[4,19,38]/\f.mode=.run)
 (hk:∀t' w' O,E1 (az w0 t') s n N σ M key (bd 0) O w'->Rn.Reach J0 T2 (c.finish (L2 #[N3 (I3 ⟨O,0,Jx⟩) N N,Lq LN 0])) IC w') :
 Rn.Reach J0 (Bg J0 (Dd T2)) (Frame.enter J0 19 #[pt s,N3 (I3 ⟨R,0,Jx⟩) N cp,Lq LN wk] .normal) (c::IC) w0:=by
 have HR:=oS (m:=2) (t:=tK key) (k:=k) (bd:=bd) (l:=l) cp hM (by omega) hN0 hc hl hrd (λj hj=>⟨_,_,_,_,hrd j hj,(by decide:1≠0),(by decide:1≠3),hk0.1,hk0.2⟩);have Ai:=IA HR;have Aj:Hid (∀cs gs w,TF w0 N 2 (tK key) k bd N cs gs w->∃tc,FZ w s n w0.heap.size N N σ M σ.Iz.length (Ox σ key) (σ.log.length+2) 2 (tK key) k cs gs bd tc (LU σ key tc) (Kz σ key (bd 0))/\w.heap[w0.heap.size]?=I3 (.cells tc 110 (0,0))):=λcs gs w h=>GQ hS hb hHi JL J3 hkey hkl hbd h0 h1 (by omega) hN0 h;have HK:=IA hk;have HS:=IA hS;have H0:=IA h0;have H1:=IA h1;clear HR hS hM hb hHi JL J3 hkey hkl hbd h0 h1 hc hl hrd hk;have As:¬ ((wk:Int)<1):=by omega
 have Aq:¬ ((8:Int)<(wk:Int)):=by omega
 have Ap:¬ ((64:Int)<(N:Int)):=by omega
 rw[enter_at (P:=J0) _ func19 rfl];simp only[f19,N2,LI,On,O2,Nat.reduceSub,Nm,Nx,List.push_toArray,NX,ON,N4];refine Rn.Reach.seq λK hK=>?_;go_wp2_with fail;refine Rn.Reach.seq λK hK=>?_;go_wp2_with fail;refine Rn.Reach.seq λK hK=>?_;go_wp2_with fail;refine LL Ai.out ?_;rintro e w1 ⟨rfl,cs,gs,hR⟩;obtain⟨tc,Ac,Aa⟩:=Aj.out cs gs w1 hR;have HI:=IA Ac;have Ar:=IA Aa;have A0:=IA hR.below;clear hR Ac Aa;go_wp2_with fail;refine Rn.Reach.ctl (λcs=>stepG_seq) ?_;refine Rn.Reach.till 3 1 _ rfl rfl λK hK=>?_;go_wp2_with fail;simp only[List.range'_succ,List.range'_zero];refine Rn.Reach.enter (i:=3) rfl rfl (by simp[base]) (bP rfl rfl ⟨_,_,func38,rfl,by kernel_rfl⟩ _).1 ?_
 walk_nrm
 refine uS HI.out rfl hw0 (by omega) (λf hf=>?_) λt' w' hO=>?_
 ·rcases Mn.1 hf with rfl|hf
  ·exact⟨by simp[Frame.at,base],rfl⟩
  ·exact hfl f hf
 have HO:=IA hO;clear hO;rw[Frame.finish_at];simp only[Kx,Nd,MA,List.getElem?_cons_zero,N5,L4,List.set_cons_succ,List.set_cons_zero];refine Rn.Reach.ctl (λcs=>stepG_region_end) ?_;refine Rn.Reach.last func19 rfl rfl ?_;obtain⟨i0,Ah,Ae,A9,Al⟩:=info_parts rK;have A5:=run_makeSlice (P:=J0) w' 45 9 i0 _ underlying45 Ah Ae LN LN N N (by omega) (by omega) (by rw[A9];omega) (by rw[Al];omega) (by omega);rw[A9] at A5;simp only[Int.toNat_natCast,Nat.mul_one] at A5;obtain⟨z0,hz⟩:=IG (madeCells (Value.string ⟨#[]⟩).cells N);rw[hz] at A5;have zs:z0.size=N:=by rw[<-hz];exact lp _ _
 have A8:=wb (tc:=LU σ key tc) HS.out.rise H0.out H1.out N;have A1:=λj hj=>DH (tc:=LU σ key tc) (N:=N) HS.out.rise H0.out H1.out (by rw[nA];exact HI.out.tk.sz) j hj;have A4:=HO.out.tk;have Ag:w0.heap.size<w'.heap.size:=(gL A4);have A7:∀j,j<N->w'.cell? ⟨w0.heap.size,j*28+27,Jx⟩=I3 (LR ⟨(aL (dG σ key (bd 0) j).told (dG σ key (bd 0) j).IQ (dG σ key (bd 0) j).body).toArray⟩):=λj hj=>by simp only[Ln,A4];simpa using A1 j hj
 have Ak:=IA A7;have Ao:=IA A8;clear A8 A1 A4 A7 hz;go_wp2_with fail;go_loopw [10,33] (λ_ iv wr=>∃j:Nat,j<=N/\iv=Lq LN j/\Hid (Below w'.heap.size w' wr/\∃C,wr.heap[w'.heap.size]?=I3 (.cells C 9 (0,0))/\C.size=N/\∀x,x<j->C[x]?=I3 (LR ⟨(aL (dG σ key (bd 0) x).told (dG σ key (bd 0) x).IQ (dG σ key (bd 0) x).body).toArray⟩)))
  (λ_ iv _=>N-(intOf iv).toNat)
 case atStart=>exact⟨0,Pi _,rfl,(Below.refl _ _).alloc (NO _) _,z0,heap_alloc_new _ _,zs,λx hx=>by omega⟩
 case round =>
  obtain⟨j,hj,rfl,hJ⟩:=hrel;by_cases hlt:j<N
  ·(have Am:(j:Int)<(N:Int):=by omega);obtain⟨hB,C,hC,A6,A3⟩:=hJ.out;obtain⟨A,hA⟩:∃A:ByteArray,(⟨(aL (dG σ key (bd 0) j).told (dG σ key (bd 0) j).IQ (dG σ key (bd 0) j).body).toArray⟩:ByteArray)=A:=⟨_,rfl⟩;(have ta:wr.cell? ⟨w0.heap.size,j*28+27,Jx⟩=I3 (LR A):=by rw[hB.cell (p:=⟨w0.heap.size,j*28+27,Jx⟩) Ag,<-hA];exact Ak.out j hlt);obtain⟨v0,oc⟩:∃v,wr.cell? ⟨w'.heap.size,j,Jx⟩=I3 v:=⟨C[j],by simp[Ln,hC]⟩;(have of:wr.frozen? ⟨w'.heap.size,j,Jx⟩=IF:=by simp[N0,hC]);have HC:=IA hC;have HB:=IA hB;have Af:=IA A3;have HA:=IA hA;clear hC hB A3 hA;go_wp2_with fail;refine⟨⟨j+1,by omega,by go_num,?_⟩,by simp[intOf];omega⟩;refine⟨HB.out.setCell (p:=⟨w'.heap.size,j,Jx⟩) (NO _) _,C.setIfInBounds j (LR A),heap_set HC.out,by simpa using A6,λx hx=>?_⟩;by_cases e:j=x
   ·subst e;rw[IH (by omega),HA.out]
   ·rw[ID e];exact Af.out x (by omega)
  ·(obtain rfl:j=N:=by omega);go_wp2;obtain⟨hB,C,hC,A6,A3⟩:=hJ.out;refine⟨L2 #[N3 (I3 ⟨w'.heap.size,0,Jx⟩) j j,Lq LN 0],results_tmp2 (t:=6) (u:=7) rfl _ _ _,_,rfl,HK.out t' wr w'.heap.size ?_⟩;obtain⟨⟨M',Ab,Ad⟩,An,A2⟩:=HO.out;have q1:=A0.out.size;have q2:w1.heap.size<=w'.heap.size:=A2.size;(have e1:(Kr σ key (bd 0) j).time=σ.time:=by unfold Kr;split<;>rfl);(have e2:(Kr σ key (bd 0) j).log=σ.log:=by unfold Kr;split<;>rfl);rw[Ao.out,e1,e2] at Ab;refine⟨⟨M',Ab.below hB,λq hq=>(Ad q hq).imp_right λh=>Lw q1 h⟩,?_,λx hx=>?_,Lw q1 q2⟩
   ·have o1:Off (M.own s n) (az w0 t') (az w1 t'):=Off.LB t' ⟨A0.out.os,A0.out.tape,A0.out.output,A0.out.size,λq hq _=>A0.out.block q hq⟩;exact(o1.trans' A2 λi hi ho=>ho.elim id λh=>absurd hi (by rw[h];exact Nat.lt_irrefl _)).trans (Off.of_below hB)
   ·simp only[Ln,hC];simpa using A3 x hx
end
structure Good (σ:St)(c:Nat):Prop where
 t:σ.time<=c*5000
 e:∀E∈σ.Iz,E.last<=c/\∀v∈E.IB,0<v.num/\v.num<=c/\v.time<=σ.time/\v.body.length<=400
theorem Good.more {σ:St}(h:Good σ c):Good σ (c+1) :=
 ⟨Lw h.t (Lo _ (Nat.le_succ _)),λE hE=>⟨by have:=(h.e E hE).1;omega,λv hv=>by have:=(h.e E hE).2 v hv;exact⟨this.1,by omega,this.2.2⟩⟩⟩
theorem nC (l:List IP)(key:List UInt8):ae l key∈l\/ae l key=⟨key,0,[]⟩:=by
 unfold ae;cases hf:l.find? (λE=>E.key==key) with
 | none=>exact L3 rfl
 | some E=>exact J1 (List.mem_of_find?_eq_some hf)
theorem Good.find {σ:St}(h:Good σ c)(key:List UInt8):(ae σ.Iz key).last<=c/\∀v∈(ae σ.Iz key).IB,0<v.num/\v.num<=c/\v.time<=σ.time/\v.body.length<=400:=by
 rcases nC σ.Iz key with hm|hm
 ·exact h.e _ hm
 ·rw[hm];exact⟨Pi _,λv hv=>by cases hv⟩
theorem Good.Oo {σ:St}{key:List UInt8}{k n:Nat}(h:Good σ c)(hn:k≠3->n=(ae σ.Iz key).last+1/\body.length<=400)(hc:dS σ key k n body=(told,I3 σ')):Good σ' (c+1):=by
 unfold dS at hc;split at hc
 ·simp at hc
 ·split at hc
  ·simp at hc
  ·simp only[Prod.mk.injEq,Option.some.injEq] at hc;rw[<-hc.2];have hf:=h.find key;refine⟨h.more.t,λE hE=>?_⟩;rcases el hE with rfl|hE
   ·unfold bn;split
    ·exact⟨Nat.le_succ_of_le hf.1,λv hv=>by
      have:=hf.2 v (Mp hv)
      exact⟨this.1,by omega,this.2.2⟩⟩
    ·rename_i h3;have A0:=hn h3;refine⟨by show n<=c+1;omega,λv hv=>?_⟩;rcases M1.1 hv with hv|hv
     ·have:=hf.2 v hv;exact⟨this.1,by omega,this.2.2⟩
     ·rw[N1] at hv;rw[hv];exact⟨by show 0<n;omega,by show n<=c+1;omega,NO _,A0.2⟩
   ·exact h.more.e E hE
theorem Dg (E:IP)(m:Nat)(t:Jg)(body:List UInt8)(hb:body.length<=400):(bJ E m t body).1≠3->(bJ E m t body).2.1=E.last+1/\(bJ E m t body).2.2.length<=400:=by
 unfold bJ;repeat' split
 all_goals simp[hb]
theorem yt {l:List UInt8}{m:Nat}{t:Jg}{k:I9}(h:aZ l=.ok (m,t,k,body)):body.length<=400:=by
 unfold aZ at h;split at h
 ·cases h
 ·split at h
  ·cases h
  ·split at h
   ·cases h
   ·split at h
    ·cases h
    ·split at h
     ·rename_i h4 _;cases h;omega
     ·cases h
theorem Good.ans {σ:St}(h:Good σ c)(l:List UInt8):Good (bF σ l).2 (c+1):=by
 unfold bF;split
 ·exact h.more
 ·rename_i m t k body hrd;have A0:=yt hrd;split
  ·exact h.more
  ·unfold ir;split
   ·exact h.more
   ·split
    ·exact h.more
    ·split
     ·split
      ·exact h.more
      ·rename_i hc;exact h.Oo (Dg _ _ _ _ A0) hc
     ·split
      ·exact h.more
      ·exact h.more
theorem Good.step {σ:St}(h:Good σ c)(k a b d:Int):Good (jC σ k a b d) (c+1):=by
 unfold jC;split
 ·exact h.ans _
 ·split
  ·exact h.ans _
  ·split
   ·exact h.ans _
   ·split
    ·exact h.ans _
    ·split
     ·exact h.ans _
     ·have hp:=bZ b 5000 (by omega);refine⟨by have:=h.t;rw[Nat.add_mul];show σ.time+(pk b 5000).toNat<=_;omega,λE hE=>⟨(h.more.e E hE).1,λv hv=>?_⟩⟩;have:=(h.more.e E hE).2 v hv;exact⟨this.1,this.2.1,by show v.time<=σ.time+(pk b 5000).toNat;omega,this.2.2.2⟩
theorem zQ (l:List Stp):∀σ c,Good σ c->Good (fM σ l) (c+l.length):=by
 induction l with
 | nil=>exact λσ c h=>h
 | cons o l ih =>intro σ c h;have:=ih _ _ (h.step o.k o.a o.b o.c);rw[show c+(o::l).length=c+1+l.length by simp;omega];exact this
theorem uD (l:List Stp):Good (fM st0 (l.take 400)) 400:=by
 have h0:Good st0 0:=⟨by decide,λE hE=>by cases hE⟩;have h1:=zQ (l.take 400) _ _ h0;have h2:(l.take 400).length<=400:=by rw[N6];omega
 refine⟨Lw h1.t (Lo _ (by omega)),λE hE=>⟨by have:=(h1.e E hE).1;omega,λv hv=>?_⟩⟩;have:=(h1.e E hE).2 v hv;exact⟨this.1,by omega,this.2.2⟩
theorem xE {v:IZ}(h:ax E=I3 v):v∈E.IB/\v.mark=IF:=by
 cases hg:E.IB.getLast? with
 | none=>simp[ax,hg] at h
 | some y =>
   cases hm:y.mark with
   | true=>simp[ax,hg,hm] at h
   | false =>simp[ax,hg,hm] at h;rw[<-h];exact⟨List.mem_of_getLast? hg,hm⟩
open Go.RowKit Go.MuLone Go.Conc Go.Proofs.Rn
noncomputable def OM:Code:=match Tryz.f4.body with|some (.seq _ (.seq _ (.seq _ (.seq _ (.seq _ (.seq _ (.seq _ (.seq _ (.seq _ (.seq _ (.seq _ c)))))))))))=>c|_=>.skip
noncomputable def Jt:Array Oper:=match OM with|.seq (.region _ o _) _=>o|_=>#[]
def oX (p:Bool->Bool):Bool:=p IF&&p IR
theorem fZ {p:Bool->Bool}(h:oX p=IR)(b:Bool):p b=IR:=by
 unfold oX at h;rw[MT] at h;cases b
 ·exact h.1
 ·exact h.2
def Lf (b0 b1 b2 b3 b5 b6 b7:Bool):Bool:=(!b1||b0)&&(!b2||b1)&&(!b3||b2)&&(!b6||b5)&&(!b7||b6)
theorem G9:∀b1 b2 b3 b5 b6 b7:Bool,Lf IF b1 b2 b3 b5 b6 b7=IR->Lf IR b1 b2 b3 b5 b6 b7=IR:=by decide
theorem Hn:∀b2 b3 b5 b6 b7:Bool,Lf IR IF b2 b3 b5 b6 b7=IR->Lf IR IR b2 b3 b5 b6 b7=IR:=by decide
theorem Hh:∀b0 b3 b5 b6 b7:Bool,Lf b0 IR IF b3 b5 b6 b7=IR->Lf b0 IR IR b3 b5 b6 b7=IR:=by decide
theorem Hv:∀b0 b1 b5 b6 b7:Bool,Lf b0 b1 IR IF b5 b6 b7=IR->Lf b0 b1 IR IR b5 b6 b7=IR:=by decide
theorem Hf:∀b0 b1 b2 b3 b6 b7:Bool,Lf b0 b1 b2 b3 IF b6 b7=IR->Lf b0 b1 b2 b3 IR b6 b7=IR:=by decide
theorem Hb:∀b0 b1 b2 b3 b7:Bool,Lf b0 b1 b2 b3 IR IF b7=IR->Lf b0 b1 b2 b3 IR IR b7=IR:=by decide
theorem Ig:∀b0 b1 b2 b3 b5:Bool,Lf b0 b1 b2 b3 b5 IR IF=IR->Lf b0 b1 b2 b3 b5 IR IR=IR:=by decide
noncomputable def Bn (b0 b1 b2 b3 b4 b5 b6 b7:Bool):Bool :=
 !Lf b0 b1 b2 b3 b5 b6 b7||(!(K1 .any Jt #[b0,b1,b2,b3,b4,b5,b6,b7,IF,IF,IF,IF,IF,IF]).isEmpty&&(K1 .any Jt #[b0,b1,b2,b3,b4,b5,b6,b7,IF,IF,IF,IF,IF,IF]).all λi=>match i with
  | 0=>!b0
  | 1=>!b1&&b0
  | 2=>!b2&&b1
  | 3=>!b3&&b2
  | 4=>!b4
  | 5=>!b5
  | 6=>!b6&&b5
  | 7=>!b7&&b6
  | 8=>b0&&b1&&b2&&b3&&b4&&b5&&b6&&b7
  | _=>IF)
theorem Dz:(oX λb0=>oX λb1=>oX λb2=>oX λb3=>oX λb4=>oX λb5=>oX λb6=>oX λb7=>Bn b0 b1 b2 b3 b4 b5 b6 b7)=IR:=by kernel_rfl
theorem FT (b0 b1 b2 b3 b4 b5 b6 b7:Bool):Bn b0 b1 b2 b3 b4 b5 b6 b7=IR:=fZ (fZ (fZ (fZ (fZ (fZ (fZ (fZ Dz b0) b1) b2) b3) b4) b5) b6) b7
theorem aj (a:Act){t:Nat}(h:d≠t)(v:K2):(a.put (I3 d) v).tmps[t]?=a.tmps[t]?:=by
 show(a.tmps.setIfInBounds d v)[t]?=_;rw[ID h]
theorem put_eq (a:Act)(h:d<a.tmps.size)(v:K2):(a.put (I3 d) v).tmps[d]?=I3 v:=by
 show(a.tmps.setIfInBounds d v)[d]?=_;rw[IH h]
theorem bR {t:Nat}{v:K2}(h:a.tmps[t]?=I3 v):a.eval (.tmp t)=v:=by
 simp[Act.eval,h]
theorem Rn.Reach.val {T:LS->List LS->Lz->Prop}{IC:List LS}{w:Lz}{b:LS}{k:List Item}{i:Nat}{rest:List Nat}{v:K2}{d:Option Tmp}(ho:ops[i]?=I3 o)(hg:o.guard=Jx)(hd:o.dst=d)(hr:(LO a.eval o).run P w=.ok (.value v) w)(h:Rn.Reach P T (b.at (a.put d v) (.inRegion ops rest::k)) IC w):Rn.Reach P T (b.at a (.inRegion ops (i::rest)::k)) IC w:=by
 refine Rn.Reach.op ho (by simp[Mu,hg]) ?_;unfold Oper.wp;rw[hr,<-hd] at *
 exact h
structure Iv (a0:Act)(b s:Nat)(RV:K2)(z:Int)(b0 b1 b2 b3 b4 b5 b6 b7:Bool)(a:Act):Prop where
 df:a.defers=a0.defers
 sz:a.tmps.size=151
 far:∀t,t<74\/82<=t->a.tmps[t]?=a0.tmps[t]?
 c0:b0=IR->a.tmps[74]?=I3 (pt b)
 c1:b1=IR->a.tmps[75]?=I3 (pt b)
 c2:b2=IR->a.tmps[76]?=I3 (MD (I3 ⟨b,0,Jx⟩))
 c3:b3=IR->a.tmps[77]?=I3 (pt s)
 c4:b4=IR->a.tmps[78]?=I3 (RV)
 c5:b5=IR->a.tmps[79]?=I3 (Lq LN z)
 c6:b6=IR->a.tmps[80]?=I3 (Lq LN (pk z 8))
 c7:b7=IR->a.tmps[81]?=I3 (Lq LN (1+pk z 8))
def aF (a0:Act)(b s:Nat)(RV:K2)(z:Int):Act:=(((((((a0.put (I3 74) (pt b)).put (I3 75) (pt b)).put (I3 76) (MD (I3 ⟨b,0,Jx⟩))).put (I3 77) (pt s)).put (I3 78) (RV)).put (I3 79) (Lq LN z)).put (I3 80) (Lq LN (pk z 8))).put (I3 81) (Lq LN (1+pk z 8))
theorem Iv.full {a0:Act}{b s:Nat}{RV:K2}{z:Int}(h0:a0.tmps.size=151)(h:Iv a0 b s RV z IR IR IR IR IR IR IR IR a):a=aF a0 b s RV z:=by
 have hd:(aF a0 b s RV z).defers=a0.defers:=by simp only[aF,Kx]
 have A0:(aF a0 b s RV z).tmps.size=151:=by simp[aF,Kx,h0]
 have ht:a.tmps=(aF a0 b s RV z).tmps:=by
  apply Array.ext_getElem?;intro t;by_cases hx:t<74\/82<=t
  ·rw[h.far t hx];unfold aF;rw[aj _ (by omega),aj _ (by omega),aj _ (by omega),aj _ (by omega),aj _ (by omega),aj _ (by omega),aj _ (by omega),aj _ (by omega)]
  ·(have:t=74\/t=75\/t=76\/t=77\/t=78\/t=79\/t=80\/t=81:=by omega);unfold aF;rcases this with rfl|rfl|rfl|rfl|rfl|rfl|rfl|rfl
   ·rw[h.c0 rfl,aj _ (by decide),aj _ (by decide),aj _ (by decide),aj _ (by decide),aj _ (by decide),aj _ (by decide),aj _ (by decide),put_eq _ (by simp[h0])]
   ·rw[h.c1 rfl,aj _ (by decide),aj _ (by decide),aj _ (by decide),aj _ (by decide),aj _ (by decide),aj _ (by decide),put_eq _ (by simp[Kx,h0])]
   ·rw[h.c2 rfl,aj _ (by decide),aj _ (by decide),aj _ (by decide),aj _ (by decide),aj _ (by decide),put_eq _ (by simp[Kx,h0])]
   ·rw[h.c3 rfl,aj _ (by decide),aj _ (by decide),aj _ (by decide),aj _ (by decide),put_eq _ (by simp[Kx,h0])]
   ·rw[h.c4 rfl,aj _ (by decide),aj _ (by decide),aj _ (by decide),put_eq _ (by simp[Kx,h0])]
   ·rw[h.c5 rfl,aj _ (by decide),aj _ (by decide),put_eq _ (by simp[Kx,h0])]
   ·rw[h.c6 rfl,aj _ (by decide),put_eq _ (by simp[Kx,h0])]
   ·rw[h.c7 rfl,put_eq _ (by simp[Kx,h0])]
 obtain⟨x,y⟩:=a;have h1:=h.df;simp only at h1 ht;rw[<-hd] at h1;rw[ht,h1]
theorem Iv.T9 {a0:Act}{b s:Nat}{RV:K2}{z:Int}{b0:Bool}(h:Iv a0 b s RV z b0 b1 b2 b3 b4 b5 b6 b7 a):Iv a0 b s RV z IR b1 b2 b3 b4 b5 b6 b7 (a.put (I3 74) (pt b)) :=
 ⟨h.df,by simpa [Kx] using h.sz,λt ht=>(aj _ (by omega) _).trans (h.far t ht),λ_=>put_eq _ (by rw[h.sz];decide) _,λhb=>(aj _ (by decide) _).trans (h.c1 hb),λhb=>(aj _ (by decide) _).trans (h.c2 hb),λhb=>(aj _ (by decide) _).trans (h.c3 hb),λhb=>(aj _ (by decide) _).trans (h.c4 hb),λhb=>(aj _ (by decide) _).trans (h.c5 hb),λhb=>(aj _ (by decide) _).trans (h.c6 hb),λhb=>(aj _ (by decide) _).trans (h.c7 hb)⟩
theorem Iv.TZ {a0:Act}{b s:Nat}{RV:K2}{z:Int}{b0:Bool}(h:Iv a0 b s RV z b0 b1 b2 b3 b4 b5 b6 b7 a):Iv a0 b s RV z b0 IR b2 b3 b4 b5 b6 b7 (a.put (I3 75) (pt b)) :=
 ⟨h.df,by simpa [Kx] using h.sz,λt ht=>(aj _ (by omega) _).trans (h.far t ht),λhb=>(aj _ (by decide) _).trans (h.c0 hb),λ_=>put_eq _ (by rw[h.sz];decide) _,λhb=>(aj _ (by decide) _).trans (h.c2 hb),λhb=>(aj _ (by decide) _).trans (h.c3 hb),λhb=>(aj _ (by decide) _).trans (h.c4 hb),λhb=>(aj _ (by decide) _).trans (h.c5 hb),λhb=>(aj _ (by decide) _).trans (h.c6 hb),λhb=>(aj _ (by decide) _).trans (h.c7 hb)⟩
theorem Iv.TY {a0:Act}{b s:Nat}{RV:K2}{z:Int}{b0:Bool}(h:Iv a0 b s RV z b0 b1 b2 b3 b4 b5 b6 b7 a):Iv a0 b s RV z b0 b1 IR b3 b4 b5 b6 b7 (a.put (I3 76) (MD (I3 ⟨b,0,Jx⟩))) :=
 ⟨h.df,by simpa [Kx] using h.sz,λt ht=>(aj _ (by omega) _).trans (h.far t ht),λhb=>(aj _ (by decide) _).trans (h.c0 hb),λhb=>(aj _ (by decide) _).trans (h.c1 hb),λ_=>put_eq _ (by rw[h.sz];decide) _,λhb=>(aj _ (by decide) _).trans (h.c3 hb),λhb=>(aj _ (by decide) _).trans (h.c4 hb),λhb=>(aj _ (by decide) _).trans (h.c5 hb),λhb=>(aj _ (by decide) _).trans (h.c6 hb),λhb=>(aj _ (by decide) _).trans (h.c7 hb)⟩
theorem Iv.TW {a0:Act}{b s:Nat}{RV:K2}{z:Int}{b0:Bool}(h:Iv a0 b s RV z b0 b1 b2 b3 b4 b5 b6 b7 a):Iv a0 b s RV z b0 b1 b2 IR b4 b5 b6 b7 (a.put (I3 77) (pt s)) :=
 ⟨h.df,by simpa [Kx] using h.sz,λt ht=>(aj _ (by omega) _).trans (h.far t ht),λhb=>(aj _ (by decide) _).trans (h.c0 hb),λhb=>(aj _ (by decide) _).trans (h.c1 hb),λhb=>(aj _ (by decide) _).trans (h.c2 hb),λ_=>put_eq _ (by rw[h.sz];decide) _,λhb=>(aj _ (by decide) _).trans (h.c4 hb),λhb=>(aj _ (by decide) _).trans (h.c5 hb),λhb=>(aj _ (by decide) _).trans (h.c6 hb),λhb=>(aj _ (by decide) _).trans (h.c7 hb)⟩
theorem Iv.TV {a0:Act}{b s:Nat}{RV:K2}{z:Int}{b0:Bool}(h:Iv a0 b s RV z b0 b1 b2 b3 b4 b5 b6 b7 a):Iv a0 b s RV z b0 b1 b2 b3 IR b5 b6 b7 (a.put (I3 78) (RV)) :=
 ⟨h.df,by simpa [Kx] using h.sz,λt ht=>(aj _ (by omega) _).trans (h.far t ht),λhb=>(aj _ (by decide) _).trans (h.c0 hb),λhb=>(aj _ (by decide) _).trans (h.c1 hb),λhb=>(aj _ (by decide) _).trans (h.c2 hb),λhb=>(aj _ (by decide) _).trans (h.c3 hb),λ_=>put_eq _ (by rw[h.sz];decide) _,λhb=>(aj _ (by decide) _).trans (h.c5 hb),λhb=>(aj _ (by decide) _).trans (h.c6 hb),λhb=>(aj _ (by decide) _).trans (h.c7 hb)⟩
theorem Iv.TU {a0:Act}{b s:Nat}{RV:K2}{z:Int}{b0:Bool}(h:Iv a0 b s RV z b0 b1 b2 b3 b4 b5 b6 b7 a):Iv a0 b s RV z b0 b1 b2 b3 b4 IR b6 b7 (a.put (I3 79) (Lq LN z)) :=
 ⟨h.df,by simpa [Kx] using h.sz,λt ht=>(aj _ (by omega) _).trans (h.far t ht),λhb=>(aj _ (by decide) _).trans (h.c0 hb),λhb=>(aj _ (by decide) _).trans (h.c1 hb),λhb=>(aj _ (by decide) _).trans (h.c2 hb),λhb=>(aj _ (by decide) _).trans (h.c3 hb),λhb=>(aj _ (by decide) _).trans (h.c4 hb),λ_=>put_eq _ (by rw[h.sz];decide) _,λhb=>(aj _ (by decide) _).trans (h.c6 hb),λhb=>(aj _ (by decide) _).trans (h.c7 hb)⟩
theorem Iv.TT {a0:Act}{b s:Nat}{RV:K2}{z:Int}{b0:Bool}(h:Iv a0 b s RV z b0 b1 b2 b3 b4 b5 b6 b7 a):Iv a0 b s RV z b0 b1 b2 b3 b4 b5 IR b7 (a.put (I3 80) (Lq LN (pk z 8))) :=
 ⟨h.df,by simpa [Kx] using h.sz,λt ht=>(aj _ (by omega) _).trans (h.far t ht),λhb=>(aj _ (by decide) _).trans (h.c0 hb),λhb=>(aj _ (by decide) _).trans (h.c1 hb),λhb=>(aj _ (by decide) _).trans (h.c2 hb),λhb=>(aj _ (by decide) _).trans (h.c3 hb),λhb=>(aj _ (by decide) _).trans (h.c4 hb),λhb=>(aj _ (by decide) _).trans (h.c5 hb),λ_=>put_eq _ (by rw[h.sz];decide) _,λhb=>(aj _ (by decide) _).trans (h.c7 hb)⟩
theorem Iv.TR {a0:Act}{b s:Nat}{RV:K2}{z:Int}{b0:Bool}(h:Iv a0 b s RV z b0 b1 b2 b3 b4 b5 b6 b7 a):Iv a0 b s RV z b0 b1 b2 b3 b4 b5 b6 IR (a.put (I3 81) (Lq LN (1+pk z 8))) :=
 ⟨h.df,by simpa [Kx] using h.sz,λt ht=>(aj _ (by omega) _).trans (h.far t ht),λhb=>(aj _ (by decide) _).trans (h.c0 hb),λhb=>(aj _ (by decide) _).trans (h.c1 hb),λhb=>(aj _ (by decide) _).trans (h.c2 hb),λhb=>(aj _ (by decide) _).trans (h.c3 hb),λhb=>(aj _ (by decide) _).trans (h.c4 hb),λhb=>(aj _ (by decide) _).trans (h.c5 hb),λhb=>(aj _ (by decide) _).trans (h.c6 hb),λ_=>put_eq _ (by rw[h.sz];decide) _⟩
section
variable {T:LS->List LS->Lz->Prop} {fr:LS} {k:List Item} {IC:List LS} {w:Lz} {a0:Act} {b s:Nat} {RV:K2} {z:Int}
theorem Au (_:fr.kind≠.early)(h0:a0.tmps.size=151)(h11:a0.tmps[11]?=I3 (pt b))(UY:a0.tmps[17]?=I3 RV)(h1:a0.tmps[1]?=I3 (Lq LN z))(Qk : -9223372036854775808<=z)(Qj:z<=9223372036854775807)(hc:w.cell? ⟨b,0,Jx⟩=I3 (pt s))
 (hcall:∀t,Rn.Reach J0 T (fr.at (aF a0 b s RV z) (.inRegion Jt (8::Kf .any Jt 5 t #[IR,IR,IR,IR,IR,IR,IR,IR,IR,IF,IF,IF,IF,IF] [])::k)) IC w) :
 ∀(fuel t:Nat) (b0 b1 b2 b3 b4 b5 b6 b7:Bool) (a:Act),fuel+(b0.toNat+b1.toNat+b2.toNat+b3.toNat+b4.toNat+b5.toNat+b6.toNat+b7.toNat)=14->Lf b0 b1 b2 b3 b5 b6 b7=IR->Iv a0 b s RV z b0 b1 b2 b3 b4 b5 b6 b7 a ->
  Rn.Reach J0 T (fr.at a (.inRegion Jt (Kf .any Jt fuel t #[b0,b1,b2,b3,b4,b5,b6,b7,IF,IF,IF,IF,IF,IF] [])::k)) IC w:=by
 have Ad:=bZ z 8 (by omega);intro fuel;induction fuel with
 | zero =>intro t b0 b1 b2 b3 b4 b5 b6 b7 a hf;(have q:∀b:Bool,b.toNat<=1:=λb=>by cases b<;>decide);have:=q b0;have:=q b1;have:=q b2;have:=q b3;have:=q b4;have:=q b5;have:=q b6;have:=q b7;omega
 | succ fuel ih =>
   intro t b0 b1 b2 b3 b4 b5 b6 b7 a hf A3 hI;have A5:=FT b0 b1 b2 b3 b4 b5 b6 b7;unfold Bn at A5;rw[A3] at A5;simp only[Bool.not_true,Bool.false_or,MT,Bool.not_eq_true',List.isEmpty_eq_false_iff,Of] at A5;obtain⟨A6,A4⟩:=A5;have Ab:∀t,∃i t',i∈K1 .any Jt #[b0,b1,b2,b3,b4,b5,b6,b7,IF,IF,IF,IF,IF,IF]/\Kf .any Jt (fuel+1) t #[b0,b1,b2,b3,b4,b5,b6,b7,IF,IF,IF,IF,IF,IF] []=i::Kf .any Jt fuel t' (#[b0,b1,b2,b3,b4,b5,b6,b7,IF,IF,IF,IF,IF,IF].setIfInBounds i IR) []:=by
    intro t;have A8:t%(K1 .any Jt #[b0,b1,b2,b3,b4,b5,b6,b7,IF,IF,IF,IF,IF,IF]).length<(K1 .any Jt #[b0,b1,b2,b3,b4,b5,b6,b7,IF,IF,IF,IF,IF,IF]).length:=Nat.mod_lt _ (List.length_pos_iff.2 A6);refine⟨(K1 .any Jt #[b0,b1,b2,b3,b4,b5,b6,b7,IF,IF,IF,IF,IF,IF])[t%(K1 .any Jt #[b0,b1,b2,b3,b4,b5,b6,b7,IF,IF,IF,IF,IF,IF]).length],t/(K1 .any Jt #[b0,b1,b2,b3,b4,b5,b6,b7,IF,IF,IF,IF,IF,IF]).length,List.getElem_mem _,?_⟩;conv=>lhs;unfold Kf
    show(match (K1 .any Jt #[b0,b1,b2,b3,b4,b5,b6,b7,IF,IF,IF,IF,IF,IF])[t%(K1 .any Jt #[b0,b1,b2,b3,b4,b5,b6,b7,IF,IF,IF,IF,IF,IF]).length]? with
     | some i=>Kf .any Jt fuel (t/(K1 .any Jt #[b0,b1,b2,b3,b4,b5,b6,b7,IF,IF,IF,IF,IF,IF]).length) (#[b0,b1,b2,b3,b4,b5,b6,b7,IF,IF,IF,IF,IF,IF].setIfInBounds i IR) [i]
     | none=>[].reverse)=_
    rw[Mz A8];simp only;rw[linearise_go_acc];rfl
   obtain⟨i,t',hi,hg⟩:=Ab t;rw[hg];have A0:=A4 i hi;clear hg A4 A6 hi;have A9:=(hI.far 11 (by omega)).trans h11;have Ac:=(hI.far 17 (by omega)).trans UY;have e1:=(hI.far 1 (by omega)).trans h1
   match i,A0 with
   | 0,A0 =>(obtain rfl:b0=IF:=by revert A0;cases b0<;>simp);obtain⟨o,ho,A2,hd,A1⟩:∃o,Jt[0]?=I3 o/\o.op=.move (.tmp 11)/\o.dst=I3 74/\o.guard=Jx:=⟨_,rfl,rfl,rfl,rfl⟩;refine Rn.Reach.val (v:=pt b) ho A1 hd (by unfold LO;simp only[A2,bR A9];simp[go_sem]) ?_;refine ih t' IR b1 b2 b3 b4 b5 b6 b7 _ (by simp only[Ks,K0] at hf ⊢;omega) (G9 _ _ _ _ _ _ A3) hI.T9
   | 1,A0 =>(obtain rfl:b1=IF:=by revert A0;cases b1<;>simp);(obtain rfl:b0=IR:=by revert A0;cases b0<;>simp);have ed:=hI.c0 rfl;obtain⟨o,ho,A2,hd,A1⟩:∃o,Jt[1]?=I3 o/\o.op=.nilCheck (.tmp 74)/\o.dst=I3 75/\o.guard=Jx:=⟨_,rfl,rfl,rfl,rfl⟩;refine Rn.Reach.val (v:=pt b) ho A1 hd (by unfold LO;simp only[A2,bR ed];simp[go_sem]) ?_;refine ih t' IR IR b2 b3 b4 b5 b6 b7 _ (by simp only[Ks,K0] at hf ⊢;omega) (Hn _ _ _ _ _ A3) hI.TZ
   | 2,A0 =>(obtain rfl:b2=IF:=by revert A0;cases b2<;>simp);(obtain rfl:b1=IR:=by revert A0;cases b1<;>simp);have ed:=hI.c1 rfl;obtain⟨o,ho,A2,hd,A1⟩:∃o,Jt[2]?=I3 o/\o.op=.fieldAddr 31 (.tmp 75) 0/\o.dst=I3 76/\o.guard=Jx:=⟨_,rfl,rfl,rfl,rfl⟩;refine Rn.Reach.val (v:=MD (I3 ⟨b,0,Jx⟩)) ho A1 hd (by unfold LO;simp only[A2,bR ed];simp[go_sem,Instr.fieldAt]) ?_;refine ih t' b0 IR IR b3 b4 b5 b6 b7 _ (by simp only[Ks,K0] at hf ⊢;omega) (Hh _ _ _ _ _ A3) hI.TY
   | 3,A0 =>(obtain rfl:b3=IF:=by revert A0;cases b3<;>simp);(obtain rfl:b2=IR:=by revert A0;cases b2<;>simp);have ed:=hI.c2 rfl;obtain⟨o,ho,A2,hd,A1⟩:∃o,Jt[3]?=I3 o/\o.op=.load 25 (.tmp 76)/\o.dst=I3 77/\o.guard=Jx:=⟨_,rfl,rfl,rfl,rfl⟩;refine Rn.Reach.val (v:=pt s) ho A1 hd (by unfold LO;simp only[A2,bR ed];simp[go_sem,Instr.loadAt,loadVar,isAgg25,hc]) ?_;refine ih t' b0 b1 IR IR b4 b5 b6 b7 _ (by simp only[Ks,K0] at hf ⊢;omega) (Hv _ _ _ _ _ A3) hI.TW
   | 4,A0 =>(obtain rfl:b4=IF:=by revert A0;cases b4<;>simp);obtain⟨o,ho,A2,hd,A1⟩:∃o,Jt[4]?=I3 o/\o.op=.move (.tmp 17)/\o.dst=I3 78/\o.guard=Jx:=⟨_,rfl,rfl,rfl,rfl⟩;refine Rn.Reach.val (v:=RV) ho A1 hd (by unfold LO;simp only[A2,bR Ac];simp[go_sem]) ?_;refine ih t' b0 b1 b2 b3 IR b5 b6 b7 _ (by simp only[Ks,K0] at hf ⊢;omega) A3 hI.TV
   | 5,A0 =>(obtain rfl:b5=IF:=by revert A0;cases b5<;>simp);obtain⟨o,ho,A2,hd,A1⟩:∃o,Jt[5]?=I3 o/\o.op=.move (.tmp 1)/\o.dst=I3 79/\o.guard=Jx:=⟨_,rfl,rfl,rfl,rfl⟩;refine Rn.Reach.val (v:=Lq LN z) ho A1 hd (by unfold LO;simp only[A2,bR e1];simp[go_sem]) ?_;refine ih t' b0 b1 b2 b3 b4 IR b6 b7 _ (by simp only[Ks,K0] at hf ⊢;omega) (Hf _ _ _ _ _ _ A3) hI.TU
   | 6,A0 =>(obtain rfl:b6=IF:=by revert A0;cases b6<;>simp);(obtain rfl:b5=IR:=by revert A0;cases b5<;>simp);have ed:=hI.c5 rfl;obtain⟨o,ho,A2,hd,A1⟩:∃o,Jt[6]?=I3 o/\o.op=.call { callee:=.value (.func 10),args:=#[.tmp 79,.const (Lq LN 8)],argTypes:=#[3,3] }/\o.dst=I3 80/\o.guard=Jx:=⟨_,rfl,rfl,rfl,rfl⟩;refine Rn.Reach.op ho (by simp[Mu,A1]) ?_;unfold Oper.wp;have hr:=(bP (P:=J0) (a:=a) (f:=10) (cap:=#[]) A2 rfl ⟨_,_,func10,rfl,by kernel_rfl⟩ w).1;(have hx:(#[.tmp 79,.const (Lq LN 8)]:Array Operand).map a.eval++#[]=#[Lq LN z,Lq LN 8]:=by simp[bR ed];rfl);rw[hx] at hr;rw[hr];simp only[Oper.upon,hd];refine(bo z 8 w Qk Qj (by omega) (by omega)).mono ?_;rintro e w' ⟨rfl,A7⟩;rw[A7];exact ih t' b0 b1 b2 b3 b4 IR IR b7 _ (by simp only[Ks,K0] at hf ⊢;omega) (Hb _ _ _ _ _ A3) hI.TT
   | 7,A0 =>(obtain rfl:b7=IF:=by revert A0;cases b7<;>simp);(obtain rfl:b6=IR:=by revert A0;cases b6<;>simp);have ed:=hI.c6 rfl;obtain⟨o,ho,A2,hd,A1⟩:∃o,Jt[7]?=I3 o/\o.op=.binOp .add 3 (.const (Lq LN 1)) (.tmp 80) 3/\o.dst=I3 81/\o.guard=Jx:=⟨_,rfl,rfl,rfl,rfl⟩;refine Rn.Reach.val (v:=Lq LN (1+pk z 8)) ho A1 hd (by unfold LO;simp only[A2,bR ed];simp[go_sem,Act.eval,IntWalk.i64_in (1+pk z 8) (by omega)]) ?_;refine ih t' b0 b1 b2 b3 b4 b5 IR IR _ (by simp only[Ks,K0] at hf ⊢;omega) (Ig _ _ _ _ _ A3) hI.TR
   | 8,A0 =>simp only[MT] at A0;obtain⟨⟨⟨⟨⟨⟨⟨rfl,rfl⟩,rfl⟩,rfl⟩,rfl⟩,rfl⟩,rfl⟩,rfl⟩:=A0;(have Aa:fuel=5:=by simp only[Ks] at hf;omega);subst Aa;rw[hI.full h0];exact hcall t'
   | n+9,A0=>simp at A0
theorem GM (hk:fr.kind≠.early)(h0:a0.tmps.size=151)(h11:a0.tmps[11]?=I3 (pt b))(UY:a0.tmps[17]?=I3 RV)(h1:a0.tmps[1]?=I3 (Lq LN z))(Qk : -9223372036854775808<=z)(Qj:z<=9223372036854775807)(hc:w.cell? ⟨b,0,Jx⟩=I3 (pt s))
 (hcall:∀t,Rn.Reach J0 T (Frame.enter J0 19 #[pt s,RV,Lq LN (1+pk z 8)] .normal) (fr.at (aF a0 b s RV z) (.inRegion Jt (8::Kf .any Jt 5 t #[IR,IR,IR,IR,IR,IR,IR,IR,IR,IF,IF,IF,IF,IF] [])::k)::IC) w.drew) :
 Rn.Reach J0 T (fr.at a0 (.code (.region 16 Jt IR)::k)) IC w:=by
 refine Rn.Reach.step (λcs=>step_region_draw) ?_;have hm:prog.follows .mixedOrders=IR:=by kernel_rfl
 simp only[Region.schedule,hm,Bool.true_or,if_true];refine Au (w:=w.drew) hk h0 h11 UY h1 Qk Qj hc (λt=>?_) 14 _ IF IF IF IF IF IF IF IF a0 rfl rfl ⟨rfl,h0,λ_ _=>rfl,(λh=>nomatch h),(λh=>nomatch h),(λh=>nomatch h),(λh=>nomatch h),(λh=>nomatch h),(λh=>nomatch h),(λh=>nomatch h),(λh=>nomatch h)⟩;obtain⟨o,ho,A1,A0⟩:∃o,Jt[8]?=I3 o/\o.op=.call { callee:=.value (.func 19),args:=#[.tmp 77,.tmp 78,.tmp 81],argTypes:=#[25,45,3] }/\o.guard=Jx:=⟨_,rfl,rfl,rfl⟩;have hr:=(bP (P:=J0) (a:=aF a0 b s RV z) (f:=19) (cap:=#[]) A1 rfl ⟨_,_,func19,rfl,by kernel_rfl⟩ w.drew).1;have hx:(#[.tmp 77,.tmp 78,.tmp 81]:Array Operand).map (aF a0 b s RV z).eval++#[]=#[pt s,RV,Lq LN (1+pk z 8)]:=by simp[aF,Act.eval,Kx,h0]
 rw[hx] at hr;exact Rn.Reach.enter (i:=8) ho (by simp[Mu,A0]) hk hr (hcall t)
end
def aG (a:Act)(x y:K2):Act:=((((a.put (I3 73) (L2 #[x,y])).put (I3 83) x).put (I3 84) y).put (I3 20) x).put (I3 21) y
theorem MP {v:K2}(hg:o.guard=Jx)(hr:∀w,(LO a.eval o).run P w=.ok (.value v) w):Yields P ops o v a:=J1 ⟨by simp[Mu,hg],hr⟩
theorem Fz {T:LS->List LS->Lz->Prop}{fr:LS}{k:List Item}{IC:List LS}{w:Lz}{x y:K2}(t:Nat)(hs:a.tmps.size=151)(h82:a.tmps[82]?=I3 (L2 #[x,y]))(h:Rn.Reach J0 T (fr.at (aG a x y) k) IC w) :
 Rn.Reach J0 T (fr.at a (.inRegion Jt (Kf .any Jt 5 t #[IR,IR,IR,IR,IR,IR,IR,IR,IR,IF,IF,IF,IF,IF] [])::k)) IC w:=by
 refine Rn.Reach.tail λK hK=>wpAny_sound 5 t _ a w ?_;obtain⟨o9,Am,A5,Aq,Ap⟩:∃o,Jt[9]?=I3 o/\o.op=.move (.tmp 82)/\o.dst=I3 73/\o.guard=Jx:=⟨_,rfl,rfl,rfl,rfl⟩;obtain⟨At,Ai,A3,Aa,A7⟩:∃o,Jt[10]?=I3 o/\o.op=.extract (.tmp 73) 0/\o.dst=I3 83/\o.guard=Jx:=⟨_,rfl,rfl,rfl,rfl⟩;obtain⟨Au,A8,A2,A6,Ad⟩:∃o,Jt[11]?=I3 o/\o.op=.extract (.tmp 73) 1/\o.dst=I3 84/\o.guard=Jx:=⟨_,rfl,rfl,rfl,rfl⟩;obtain⟨Ar,Ah,A1,Ab,Ag⟩:∃o,Jt[12]?=I3 o/\o.op=.assign (.tmp 83)/\o.dst=I3 20/\o.guard=Jx:=⟨_,rfl,rfl,rfl,rfl⟩;obtain⟨As,Ak,A4,Ac,Aj⟩:∃o,Jt[13]?=I3 o/\o.op=.assign (.tmp 84)/\o.dst=I3 21/\o.guard=Jx:=⟨_,rfl,rfl,rfl,rfl⟩;have A0:Region.noSelect Jt=IR:=by kernel_rfl
 refine MY (i:=9) (v:=L2 #[x,y]) Am A0 (by kernel_rfl) (by kernel_rfl) (λ_ _ _ h=>h) (MP Ap λw=>by unfold LO;simp only[A5,bR h82];simp[go_sem]) ?_;rw[Aq];obtain⟨a1,e1⟩:=IG (a.put (I3 73) (L2 #[x,y]));have s1:a1.tmps.size=151:=by rw[<-e1];simpa [Kx] using hs
 have Al:a1.tmps[73]?=I3 (L2 #[x,y]):=by rw[<-e1];exact put_eq _ (by rw[hs];decide) _
 rw[e1];refine MY (i:=10) (v:=x) Ai A0 (by kernel_rfl) (by kernel_rfl) (λ_ _ _ h=>h) (MP A7 λw=>by unfold LO;simp only[A3,bR Al];simp[go_sem]) ?_;rw[Aa];obtain⟨a2,e2⟩:=IG (a1.put (I3 83) x);have s2:a2.tmps.size=151:=by rw[<-e2];simpa [Kx] using s1
 have Af:a2.tmps[73]?=I3 (L2 #[x,y]):=by rw[<-e2,aj _ (by decide)];exact Al
 have Ao:a2.tmps[83]?=I3 x:=by rw[<-e2];exact put_eq _ (by rw[s1];decide) _
 rw[e2];refine MY (i:=11) (v:=y) A8 A0 (by kernel_rfl) (by kernel_rfl) (λ_ _ _ h=>h) (MP Ad λw=>by unfold LO;simp only[A2,bR Af];simp[go_sem]) ?_;rw[A6];obtain⟨a3,e3⟩:=IG (a2.put (I3 84) y);have s3:a3.tmps.size=151:=by rw[<-e3];simpa [Kx] using s2
 have Ae:a3.tmps[83]?=I3 x:=by rw[<-e3,aj _ (by decide)];exact Ao
 have An:a3.tmps[84]?=I3 y:=by rw[<-e3];exact put_eq _ (by rw[s2];decide) _
 rw[e3];refine MY (i:=12) (v:=x) Ah A0 (by kernel_rfl) (by kernel_rfl) (λ_ _ _ h=>h) (MP Ag λw=>by unfold LO;simp only[A1,bR Ae];simp[go_sem]) ?_;rw[Ab];obtain⟨a4,e4⟩:=IG (a3.put (I3 20) x);have A9:a4.tmps[84]?=I3 y:=by rw[<-e4,aj _ (by decide)];exact An
 rw[e4];refine MY (i:=13) (v:=y) Ak A0 (by kernel_rfl) (by kernel_rfl) (λ_ _ _ h=>h) (MP Aj λw=>by unfold LO;simp only[A4,bR A9];simp[go_sem]) ?_;rw[Ac];refine wpAny_done (by kernel_rfl) (hK _ _ ?_) _;rw[<-e4,<-e3,<-e2,<-e1];exact h
open Go.RowKit Go.MuLone Go.Conc Go.Proofs.Rn
attribute [local go_sem ↓] eP
attribute [local go_sem] ff
theorem BI (a b:List UInt8)(h:a.length+b.length<=100000):∀w:Lz,(Op.stringOp .add ⟨a.toArray⟩ ⟨b.toArray⟩).run J0 w=.ok (LR ⟨(a++b).toArray⟩) w:=by
 have:=rX ⟨a.toArray⟩ ⟨b.toArray⟩ (by simp[ByteArray.size];omega);rw[cZ] at this;exact this
structure QK (B b s q:Nat)(K:List UInt8)(vl:Nat)(I:Lz->Prop)(cur:K2)(th:Bool):Prop where
 sz:∀y,I y->b<y.heap.size
 bB:B<=b
 c0:∀y,I y->y.cell? ⟨b,0,Jx⟩=I3 (MD (I3 ⟨s,0,Jx⟩))
 ck:∀y,I y->y.cell? ⟨b,1+q*3,Jx⟩=I3 (LR ⟨K.toArray⟩)
 cl:∀y,I y->∃a cap,y.cell? ⟨b,1+q*3+1,Jx⟩=I3 (N3 a vl cap)
 MU:∀y z,I y->Below y.heap.size y z->I z
 tab:∀y,I y->J8 y
 curr:∀y,I y->Calls J0 18 #[MD (I3 ⟨b,1+q*3,Jx⟩)] y λe w'=>e=.returned (L2 #[cur,Pa th])/\Below y.heap.size y w'
theorem QK.Vy {B b s q:Nat}{K:List UInt8}{vl:Nat}{I:Lz->Prop}{cur:K2}{th:Bool}(h:QK B b s q K vl I cur th){y:Lz}(hy:I y):I y.drew:=h.MU _ _ hy (Below.refl _ _).drew
def wP (th:Bool)(tg:List UInt8):List UInt8:=if th then[73,102,45,77,97,116,99,104,58,32]++tg++[13,10] else[73,102,45,78,111,110,101,45,77,97,116,99,104,58,32,42,13,10]
def JC (j:Nat):List UInt8:=[119,114,105,116,101,114,32]++Ly j
def jY (K F:List UInt8)(j:Nat):List UInt8:=bp [80,85,84] (47::K) F (JC j)
def Mi (σ:St):Prop:=∀E∈σ.Iz,∀v∈E.IB,v.mark=IF->∃c,v.body=dm c
theorem Mi.Oo {σ:St}{key:List UInt8}{k n:Nat}(h:Mi σ)(hb:k=1->∃c,body=dm c)(hk:k=1\/k=2\/k=3)(hc:dS σ key k n body=(told,I3 σ')):Mi σ':=by
 unfold dS at hc;split at hc
 ·simp at hc
 ·split at hc
  ·simp at hc
  ·simp only[Prod.mk.injEq,Option.some.injEq] at hc;rw[<-hc.2];have hf:∀v∈(ae σ.Iz key).IB,v.mark=IF->∃c,v.body=dm c:=by
    rcases nC σ.Iz key with hm|hm
    ·exact h _ hm
    ·rw[hm];exact λv hv=>by cases hv
   intro E hE v hv hm;rcases el hE with rfl|hE
   ·unfold bn at hv;split at hv
    ·exact hf v (Mp hv) hm
    ·rename_i h3;rcases M1.1 hv with hv|hv
     ·exact hf v hv hm
     ·rw[N1] at hv;rw[hv] at hm ⊢;rcases hk with rfl|rfl|rfl
      ·exact hb rfl
      ·simp at hm
      ·exact absurd rfl h3
   ·exact h E hE v hv hm
theorem Mi.ans {σ:St}(h:Mi σ)(l:List UInt8)(hl:∀t k body,aZ l=.ok (2,t,k,body)->∃c,body=dm c):Mi (bF σ l).2:=by
 unfold bF;split
 ·exact h
 ·rename_i m t k body hrd;split
  ·exact h
  ·unfold ir;split
   ·exact h
   ·split
    ·exact h
    ·split
     ·split
      ·exact h
      ·rename_i hc;refine h.Oo (λh1=>?_) ?_ hc
       ·unfold bJ at h1 ⊢;by_cases h2:m=2
        ·subst h2;rw[if_pos rfl];exact hl t k body hrd
        ·rw[if_neg h2] at h1;split at h1<;>simp at h1
       ·unfold bJ;split
        ·exact J1 rfl
        ·split
         ·exact L3 (L3 rfl)
         ·exact L3 (J1 rfl)
     ·split
      ·exact h
      ·exact h
theorem Mi.step {σ:St}(h:Mi σ)(k a b d:Int)(hlast:∀i,(IE σ i).last<=1000):Mi (jC σ k a b d):=by
 have A0:∀{l:List UInt8} {t0:Jg} {UE:I9},aZ l=.ok (2,t0,UE,dm b)->∀t k body,aZ l=.ok (2,t,k,body)->∃c,body=dm c:=λh1 t k body h2=>by rw[h1] at h2;cases h2;exact⟨b,rfl⟩
 have A1:∀{l:List UInt8} {t0:Jg} {UE:I9} {bd:List UInt8},aZ l=.ok (3,t0,UE,bd)->∀t k body,aZ l=.ok (2,t,k,body)->∃c,body=dm c:=λh1 t k body h2=>by rw[h1] at h2;cases h2
 have hk:=db (pk a 5).toNat;have ht:=fH b;unfold jC;split
 ·exact h.ans _ (A0 (ju hk ht))
 ·split
  ·exact h.ans _ (A0 (lq hk ht))
  ·split
   ·have hp:=sn (IE σ (pk a 5).toNat) d;exact h.ans _ (A0 (jM hk ht hp.1 hp.2.1 (by omega)))
   ·split
    ·exact h.ans _ (A1 (kR hk))
    ·split
     ·have hl:=hlast (pk a 5).toNat;have hp:=bZ b ((IE σ (pk a 5).toNat).last+2:Nat) (by omega);exact h.ans _ (A1 (lA hk _ (by omega) (by omega)))
     ·exact h
theorem Ao (l:List Stp):∀σ c,Good σ c->c+l.length<=1000->Mi σ->Mi (fM σ l):=by
 induction l with
 | nil=>exact λσ c _ _ h=>h
 | cons o l ih =>intro σ c hg hc h;simp only[LI] at hc;exact ih _ (c+1) (hg.step o.k o.a o.b o.c) (by omega) (h.step o.k o.a o.b o.c λi=>by have:=(hg.find (IW i)).1;unfold IE;omega)
theorem wF (l:List Stp):Mi (fM st0 (l.take 400)):=by
 have h2:(l.take 400).length<=400:=by rw[N6];omega
 exact Ao _ _ 0 ⟨by decide,λE hE=>by cases hE⟩ (by omega) λE hE=>by cases hE
def Fw:List (List UInt8):=(Pu 9).flatMap λi=>(Pu 4).map λj=>List.replicate i 120++[48+L1 j]
theorem Dy:(Fw.all λt=>!(dj 16 (JG t)==dj 16 (JG [119,114,105,116,101,114,32,48])))=IR:=by kernel_rfl
theorem zu (j:Nat)(h:j<4):Ly j=[48+L1 j]:=by
 have e0:Ly 0=[48+L1 0]:=by kernel_rfl
 have e1:Ly 1=[48+L1 1]:=by kernel_rfl
 have e2:Ly 2=[48+L1 2]:=by kernel_rfl
 have e3:Ly 3=[48+L1 3]:=by kernel_rfl
 match j,h with
 | 0,_=>exact e0
 | 1,_=>exact e1
 | 2,_=>exact e2
 | 3,_=>exact e3
theorem DI (c:Int):dj 16 (JG (dm c))≠dj 16 (JG (JC 0)):=by
 have p9:=bZ c 9 (by omega);have p4:=bZ c 4 (by omega);have hm:dm c∈Fw:=by unfold dm Fw;rw[zu _ (by omega)];refine List.mem_flatMap.2 ⟨(pk c 9).toNat,List.mem_range.2 (by omega),List.mem_map.2 ⟨(pk c 4).toNat,List.mem_range.2 (by omega),rfl⟩⟩
 have h:=Of.1 Dy _ hm;have e:JC 0=[119,114,105,116,101,114,32,48]:=by kernel_rfl
 rw[e];intro hc;rw[hc] at h;simp at h
theorem BD (n:Nat)(hn:n<2678400):IK.Sp ((n:Int)/86400) 1970 0 ((n:Int)/86400) :=
 ⟨by decide,by decide,by omega,by simp[IK.ml];omega,by rw[IK.Kk];simp[IK.J6]⟩
theorem z8 (n:Nat)(hn:n<2678400):IK.Jh (n:Int) (cw n):=by
 have hx:IK.Jh (n:Int) (Classical.epsilon (IK.Jh (n:Int))):=Classical.epsilon_spec ⟨_,_,_,_,BD n hn,rfl⟩;have:cw n=Classical.epsilon (IK.Jh (n:Int)):=by unfold cw;exact List.take_of_length_le (qc hx)
 rw[this];exact hx
def ek (l:List UInt8):Prop:=∀c∈l,c≠13/\c≠10
theorem ek.app {a b:List UInt8}(h:ek a)(h':ek b):ek (a++b):=λc hc=>(M1.1 hc).elim (h c) (h' c)
theorem AX (x:Int)(h0:0<=x)(h1:x<10):IK.Ld x≠13/\IK.Ld x≠10:=by
 obtain⟨d,rfl⟩:∃d:Nat,x=d:=⟨x.toNat,by omega⟩;have:d=0\/d=1\/d=2\/d=3\/d=4\/d=5\/d=6\/d=7\/d=8\/d=9:=by omega
 rcases this with rfl|rfl|rfl|rfl|rfl|rfl|rfl|rfl|rfl|rfl<;>decide
theorem FM (x:Int)(h0:0<=x)(h1:x<100):ek (IK.two x):=by
 intro c hc;simp only[IK.two,Mn,Ok,or_false] at hc;rcases hc with rfl|rfl
 ·exact AX _ (by omega) (by omega)
 ·exact AX _ (by omega) (by omega)
theorem DY (i:Nat)(hi:i<7):∃a m,IK.nm IK.KR i=a::m/\a≠32/\a≠9/\ek (IK.nm IK.KR i):=by
 have:i=0\/i=1\/i=2\/i=3\/i=4\/i=5\/i=6:=by omega
 rcases this with rfl|rfl|rfl|rfl|rfl|rfl|rfl;all_goals exact⟨_,_,rfl,by decide,by decide,by unfold ek;decide⟩
theorem yz (n:Nat)(hn:n<2678400):(∃a m,cw n=a::m++[84]/\a≠32/\a≠9)/\ek (cw n):=by
 have e:cw n=IK.fmt ((n:Int)/86400) 1970 0 ((n:Int)/86400) ((n:Int)%86400):=(z8 n hn).uniq ⟨_,_,_,BD n hn,rfl⟩;obtain⟨a,m,hw,h1,h2,h3⟩:=DY ((n:Int)/86400%7).toNat (by omega);rw[e];unfold IK.fmt;constructor
 ·rw[hw];exact⟨a,m++[44,32]++IK.two ((n:Int)/86400+1)++[32]++IK.nm IK.JR 0++[32]++IK.four 1970++[32]++IK.two ((n:Int)%86400/3600)++[58]++IK.two ((n:Int)%86400%3600/60)++[58]++IK.two ((n:Int)%86400%60)++[32,71,77],by simp,h1,h2⟩
 ·refine ek.app (ek.app (ek.app (ek.app (ek.app (ek.app (ek.app (ek.app (ek.app (ek.app (ek.app (ek.app (ek.app h3 ?_) ?_) ?_) ?_) ?_) ?_) ?_) ?_) ?_) ?_) ?_) ?_) ?_;all_goals first|exact FM _ (by omega) (by omega)|(unfold ek;decide)
theorem Fa {σ:St}{m:Nat}{t:Jg}{k:I9}(h3:t.kind≠3)(hw:Jb m=IF):ir σ m t k body=(if aJ IF k (dA (ae σ.Iz t.key) t)≠0 then⟨aJ IF k (dA (ae σ.Iz t.key) t),[],[]⟩ else
 match dA (ae σ.Iz t.key) t with
 | none=>⟨404,[],[]⟩
 | some v=>⟨200,cj v (cw v.time),if m=0 then v.body else[]⟩,σ):=by
 unfold ir;rw[if_neg h3,hw];by_cases h:aJ IF k (dA (ae σ.Iz t.key) t)≠0
 ·rw[if_pos h,if_pos h]
 ·rw[if_neg h,if_neg h];simp only[L5,if_false];cases dA (ae σ.Iz t.key) t<;>rfl
theorem get_none {σ:St}{l key:List UInt8}{m:Nat}(hr:aZ l=.ok (m,⟨1,key,0⟩,k0,[]))(hw:Jb m=IF)(h:ax (ae σ.Iz key)=Jx):bF σ l=(⟨404,[],[]⟩,σ):=by
 rw[jT hr (by simp),Fa (by simp) hw];have e:dA (ae σ.Iz key) ⟨1,key,0⟩=Jx:=h;simp only[e,gZ];rfl
theorem get_some {σ:St}{l key:List UInt8}{m:Nat}{k:I9}{v:IZ}(hr:aZ l=.ok (m,⟨1,key,0⟩,k,[]))(hw:Jb m=IF)(h:ax (ae σ.Iz key)=I3 v)(hc:aJ IF k (I3 v)=0):bF σ l=(⟨200,cj v (cw v.time),if m=0 then v.body else[]⟩,σ):=by
 rw[jT hr (by simp),Fa (by simp) hw];have e:dA (ae σ.Iz key) ⟨1,key,0⟩=I3 v:=h;simp only[e,hc];rfl
theorem lK {mt key:List UInt8}{m:Nat}(hm:eR mt=I3 m/\∀c∈mt,c≠32/\c≠13)(hl:mt.length<10)(hf:fO m 1=IR)(h:aW key=IR):aZ (bp mt (47::key) [] [])=.ok (m,⟨1,key,0⟩,k0,[]) :=
 Ov (by have:=(da h).2.1;rw[cQ];simp;omega) (gU hm.1 hm.2 (xH h) (iB h)) (by simp) (by simp) hf
open Go.RowKit
theorem GG {l:List UInt8}(h:ek l):∀c∈l,c≠13:=λc hc=>(h c hc).1
theorem Fv {t:List UInt8}(h:ek t):ek (34::t++[34]):=ek.app (a:=[34]++t) (ek.app (by unfold ek;decide) h) (by unfold ek;decide)
variable {σ:St} {key:List UInt8} {v:IZ}
theorem A9 (hk:aW key=IR)(hc:ax (ae σ.Iz key)=I3 v):bF σ (bp getM (47::key) [] [])=(⟨200,cj v (cw v.time),v.body⟩,σ) :=
 get_some (lK BC (by decide) rfl hk) rfl hc (gZ _ _)
theorem DW (hk:aW key=IR)(hc:ax (ae σ.Iz key)=Jx):bF σ (bp getM (47::key) [] [])=(⟨404,[],[]⟩,σ) :=
 get_none (lK BC (by decide) rfl hk) rfl hc
theorem tQ (v:IZ)(hn:v.time<2678400):∀f∈cj v (cw v.time),OL f:=by
 intro f hf;simp only[cj,Mn,Ok,or_false] at hf;rcases hf with rfl|rfl|rfl
 ·exact⟨by simp,(by decide:∀c∈([69,84,97,103]:List UInt8),c≠13),GG (Fv (ny v.body).2)⟩
 ·exact⟨by simp,(by decide:∀c∈([76,97,115,116,45,77,111,100,105,102,105,101,100]:List UInt8),c≠13),GG (yz _ hn).2⟩
 ·exact⟨by simp,(by decide:∀c∈([86,101,114,115,105,111,110]:List UInt8),c≠13),Cd _⟩
def wR (o:Option IZ):I9:=match o with
 | none=>⟨Jx,I3 (IR,[]),Jx,Jx⟩
 | some v=>⟨I3 (IF,[(IF,dj 16 (JG v.body))]),Jx,Jx,Jx⟩
def NR (o:Option IZ):List UInt8:=match o with
 | none=>[]
 | some v=>bX v.body
theorem nd (j:Nat)(hj:j<100):(JC j).length<100:=by
 have:=ec (n:=j) (k:=2) (by omega) (by omega);simp[JC];omega
theorem C2 (o:Option IZ):(NR o).length<=100:=by
 cases o with
 | none=>simp[NR]
 | some v=>have:=gx v.body;simp only[NR];omega
theorem Et (o:Option IZ):(wP o.isSome (NR o)).length<=1000:=by
 cases o with
 | none=>decide
 | some v=>have:=gx v.body;simp[wP,NR];omega
theorem Bp (o:Option IZ):(wR o).s=Jx/\(wR o).u=Jx:=by cases o<;>exact⟨rfl,rfl⟩
theorem Ft {K:List UInt8}(h:aW K=IR)(o:Option IZ)(j:Nat)(hj:j<100):aZ (jY K (wP o.isSome (NR o)) j)=.ok (2,tK K,wR o,JC j):=by
 have hb:=nd j hj;cases o with
 | none=>exact lq h hb
 | some v =>have ht:=ny v.body;have hl:=gx v.body;(have A0:(dj 16 (JG v.body)).length<100:=by simp[bX] at hl;omega);exact jM h hb ht.1 ht.2 A0
theorem Dp (o:Option IZ):aJ IR (wR o) o=0:=by
 cases o with
 | none=>exact(lZ Jx).trans (by simp)
 | some v=>exact(jR _ (I3 v)).trans (by simp[kZ])
theorem DF (o:Option IZ)(n t:Nat)(h:∀v,o=I3 v->dj 16 (JG v.body)≠dj 16 (JG (JC 0))):aJ IR (wR o) (I3 ⟨n,t,IF,JC 0⟩)=412:=by
 cases o with
 | none=>exact(lZ _).trans (by simp)
 | some v =>refine(jR _ _).trans ?_;rw[if_neg];rintro⟨_,e⟩;exact h v rfl e.symm
theorem uz (σ:St)(K b0:List UInt8)(j:Nat):(dG σ K b0 j).told=if decide ((ae σ.Iz K).IB.length<20) then(if j=0 then(if(ax (ae σ.Iz K)).isSome then 200 else 201) else 412) else 507:=by
 unfold dG;by_cases hf:20<=(ae σ.Iz K).IB.length
 ·have hd:decide ((ae σ.Iz K).IB.length<20)=IF:=decide_eq_false (by omega);rw[hd];simp[hf]
 ·have hd:decide ((ae σ.Iz K).IB.length<20)=IR:=decide_eq_true (by omega);rw[hd];by_cases hj:j=0
  ·simp[hf,hj,bN]
  ·simp[hf,hj]
theorem xo (σ:St)(K b0:List UInt8)(j:Nat):100<=(dG σ K b0 j).told/\(dG σ K b0 j).told<1000:=by
 rw[uz];repeat' split
 all_goals omega
theorem DT {σ:St}{K:List UInt8}{k:I9}{bd:Nat->List UInt8}(hr:cG σ.Iz)(h0:aJ IR k (ax (ae σ.Iz K))=0)(h1:aJ IR k (I3 ⟨(ae σ.Iz K).last+1,σ.time,IF,bd 0⟩)=412)(hl:(ae σ.Iz K).last<1000000)(j:Nat):pM (dG σ K (bd 0) j):=by
 have h:=xN (Kr σ K (bd 0) j) (tK K) k (bd j) #[] (j*28) ?_
 ·rw[FW hr h0 h1] at h;exact h
 ·unfold Kr;split
  ·show(ae σ.Iz K).last+1<_;omega
  ·show(ae (ej σ K ((ae σ.Iz K).last+1) (bd 0)).Iz K).last+1<_;rw[xP hr];show(ae σ.Iz K).last+1+1<_;omega
open Go.RowKit Go.MuLone Go.Conc Go.Proofs.Rn
noncomputable def Mc (σ:St)(K b0:List UInt8)(N:Nat):St:=⟨σ.time,(Kr σ K b0 N).Iz,fP σ.time (Kz σ K b0) σ.log N⟩
theorem zD {l:List IP}(hn:∀A∈l,A.key≠E.key):(bT l E).length=l.length+1:=by
 induction l with
 | nil=>rfl
 | cons a l ih =>
   rw[eg,if_neg (hn a List.mem_cons_self)];split
   ·rfl
   ·rw[LI,ih (λA hA=>hn A (List.mem_cons_of_mem _ hA)),LI]
section
variable {σ:St} {K b0:List UInt8} {N:Nat}
theorem qS (h:20<=(ae σ.Iz K).IB.length):Mc σ K b0 N=σ:=by
 have e1:Kr σ K b0 N=σ:=if_pos (J1 h);have e2:fP σ.time (Kz σ K b0) σ.log N=σ.log:=(xe (bd:=λ_=>b0) σ.time σ.log N).trans (if_pos (J1 h));unfold Mc;rw[e1,e2]
theorem oK (h:¬ 20<=(ae σ.Iz K).IB.length)(hN:N≠0):Mc σ K b0 N=⟨σ.time,bT σ.Iz (MJ σ K b0),σ.log++bG 1 σ.time K ((ae σ.Iz K).last+1) b0⟩:=by
 have e1:Kr σ K b0 N=ej σ K ((ae σ.Iz K).last+1) b0:=if_neg (by omega);have e2:fP σ.time (Kz σ K b0) σ.log N=σ.log++bG 1 σ.time K ((ae σ.Iz K).last+1) b0:=(xe (bd:=λ_=>b0) σ.time σ.log N).trans (if_neg (by omega));unfold Mc;rw[e1,e2,A5]
theorem F7 (hr:cG σ.Iz)(hp:∀E∈σ.Iz,0<E.last)(hN:N≠0):(Mc σ K b0 N).Iz.length=Ox σ K:=by
 unfold Ox;by_cases hl:(ae σ.Iz K).last=0
 ·have hz:=bV hp hl;(have hf:¬ 20<=(ae σ.Iz K).IB.length:=by rw[hz.2];simp);rw[if_pos hl,oK hf hN];exact zD λA hA=>hz.1 A hA
 ·rw[if_neg hl];by_cases hf:20<=(ae σ.Iz K).IB.length
  ·rw[qS hf]
  ·rw[oK hf hN];obtain⟨i,hi,he⟩:=List.getElem_of_mem (ee hl);exact oM hr (i:=i) (A:=ae σ.Iz K) (by rw[Mz hi,he]) (cx _ _)
theorem Ez (hb:∀E∈σ.Iz,E.last<=σ.log.length)(hN:N≠0):∀E∈(Mc σ K b0 N).Iz,E.last<=(Mc σ K b0 N).log.length:=by
 by_cases hf:20<=(ae σ.Iz K).IB.length
 ·rw[qS hf];exact hb
 ·rw[oK hf hN];intro E hE;(have hl:(σ.log++bG 1 σ.time K ((ae σ.Iz K).last+1) b0).length=σ.log.length+(20+K.length+b0.length):=by rw[Mb,eW]);have A1:E∈bT σ.Iz (MJ σ K b0):=hE;show E.last<=(σ.log++bG 1 σ.time K ((ae σ.Iz K).last+1) b0).length;rw[hl];have A0:(ae σ.Iz K).last<=σ.log.length:=by
   by_cases h0:(ae σ.Iz K).last=0
   ·omega
   ·exact hb _ (ee h0)
  rcases el A1 with rfl|h
  ·show(ae σ.Iz K).last+1<=_;omega
  ·have:=hb E h;omega
theorem Fu (hN:N≠0):(Mc σ K b0 N).log.length<=σ.log.length+20+K.length+b0.length:=by
 by_cases hf:20<=(ae σ.Iz K).IB.length
 ·rw[qS hf];omega
 ·rw[oK hf hN];show(σ.log++bG 1 σ.time K ((ae σ.Iz K).last+1) b0).length<=_;rw[Mb,eW];omega
theorem Fj (hr:cG σ.Iz)(hf:¬ 20<=(ae σ.Iz K).IB.length)(hN:N≠0):ax (ae (Mc σ K b0 N).Iz K)=I3 ⟨(ae σ.Iz K).last+1,σ.time,IF,b0⟩:=by
 rw[oK hf hN];show ax (ae (bT σ.Iz (MJ σ K b0)) K)=_;rw[ly hr,if_pos (show(MJ σ K b0).key=K from rfl)];exact lF σ K b0
theorem Env.tape {B:Nat->Prop}{w:Lz}(h:Env B w)(t:Nat->Question->Nat):Env B (az w t):=⟨h.mx,h.tb.tape t,h.hm,h.hi,h.sz⟩
theorem vh {B:Nat->Prop}{w w':Lz}{s n:Nat}{M:Mem}{O:Nat}(t:Nat->Question->Nat)(hS:J4 B w s n σ M)(hN:N≠0)(h:E1 (az w t) s n N σ M K b0 O w'):∃M',J4 B w' s n (Mc σ K b0 N) M':=by
 obtain⟨M',h1,h2⟩:=h.ex;have hO:Off B (az w t) w':=h.off.mono hS.own;have A0:ak w' s n 0 (λ_=>0) (Mc σ K b0 N) M' (Ox σ K) (σ.log.length+2):=h1;refine⟨M',(hS.env.tape t).off hO,?_,λq hq=>(h2 q hq).elim (hS.own q) λhq=>hS.env.sz q hq⟩;have e:=F7 (b0:=b0) (K:=K) hS.st.rise (λE hE=>(hS.st.ok E hE).last) hN;rw[<-e] at A0;exact⟨A0.n1,A0.n8,A0.blk,A0.row,A0.kt,A0.Jc,A0.JQ,A0.Jn,A0.Le,A0.Ka,A0.rise,A0.ok,A0.many,A0.time,Ez hS.st.lastB hN⟩
end
end Go.Proofs.YtmehkneofinmiabGreatDoor

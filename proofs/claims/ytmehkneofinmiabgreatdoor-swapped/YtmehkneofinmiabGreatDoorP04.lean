/-part 4-/
import Derived.Test.YtmehkneofinmiabGreatDoorP03
import Derived.Deep.RegionHeld3
import Derived.Lib.ConvBytes
import Derived.Lib.JoinLaws
import Derived.Lib.AppendZerosOnto
import Derived.Lib.Overlaps
open Go.Proofs.Tryz
open Go.Value renaming string->ID,int->IR,slice->J0,bool->LR,pointer->N1,oneCell'->Rd,agg->R2
open Option renaming none->IF,some->IH
open Go.Proofs.Tryz renaming prog->I3,underlying135->Mp,underlying9->PF
open Go.World renaming cell?->Jx,setCell->L5,frozen?->Mb,cell?_setCells_out->N0,news_of_block->ON
open Go.Lib renaming decDigits->J1,size_eq->Lw,byteCells->LO,strCells->R0
open Go.IntKind renaming i64->Kf,u64->Rr,u8->RR
open Go.Act renaming put->Ks
open Go.Ending renaming returned->Kx
open Go renaming World->K0,heap_alloc_old->LI,Value->L3,Calls->Mz,heap_alloc_new->MY,bodyPost_end->N2,results_none->N3,maxLen->N6,wpAnyH_done->PP,info_parts->Rg,TypeId->RK
open Go.Obj renaming cells->K1
open List renaming getElem?_take_of_lt->K2,length_append->Lo,append_assoc->Lq,getElem?_eq_some_iff->LN,getElem?_eq_none->LS,length_singleton->L2,length_cons->L4,length_nil->Mn,length_take->MD,replicate->Nd,getElem?_eq_getElem->Nx,isPrefixOf->N4,getElem?_drop->OS,flatMap_cons->Pu,length_drop->PC,append_nil->Q1,mem_append->Q2
open Nat renaming lt_of_lt_of_le->Ln,le_refl->Lz,min_eq_left->MT,zero_le->Ok,mul_one->On,le_trans->O2,le_of_lt->R1
open Array renaming getElem?_setIfInBounds_ne->Ly,getElem?_modify->LL,getElem?_eq_getElem->Nm
open Or renaming inl->L1,inr->Of
open Bool renaming false->Mu,true->Pa
open ByteArray renaming data_append->MA,ext->NO
open Go.AllReadyH renaming cons->M1,nil->RE
open Go.Builtin renaming copy_->NX,clear_->N5,zeroCells->Pi
set_option maxRecDepth 100000
set_option maxHeartbeats 4000000
namespace Go.Proofs.YtmehkneofinmiabGreatDoor
open Go.RowKit
variable {S T:Nat->Prop}{a w w' w0:K0}{D L body p t:List UInt8}{cap g k n told:Nat}{fs v':L3}{P:Program}{o:Oper}{Q:Exit->Act->K0->Prop}{e:RK}{xs:List L3}
structure Off (S:Nat->Prop)(w x:K0):Prop where
 os:x.os=w.os
 tape:x.tape=w.tape
 output:x.output=w.output
 size:w.heap.size<=x.heap.size
 block:∀k,k<w.heap.size->¬ S k->x.heap[k]?=w.heap[k]?
theorem Off.refl (S:Nat->Prop)(w:K0):Off S w w:=⟨rfl,rfl,rfl,Lz _,λ_ _ _=>rfl⟩
theorem Off.trans {b c:K0}(h:Off S a b)(k:Off S b c):Off S a c :=
 ⟨k.os.trans h.os,k.tape.trans h.tape,k.output.trans h.output,O2 h.size k.size,λi hi hs=>(k.block i (Ln hi h.size) hs).trans (h.block i hi hs)⟩
theorem Off.trans' {b c:K0}(h:Off S a b)(k:Off T b c)(hT:∀i,i<a.heap.size->T i->S i):Off S a c :=
 ⟨k.os.trans h.os,k.tape.trans h.tape,k.output.trans h.output,O2 h.size k.size,λi hi hs=>(k.block i (Ln hi h.size) (λt=>hs (hT i hi t))).trans (h.block i hi hs)⟩
theorem Off.mono {b:K0}(h:Off S a b)(hT:∀i,S i->T i):Off T a b:=⟨h.os,h.tape,h.output,h.size,λk hk hs=>h.block k hk (λs=>hs (hT k s))⟩
theorem Off.of_below {x:K0}(h:Below w.heap.size w x):Off S w x:=⟨h.os,h.tape,h.output,h.size,λk hk _=>h.block k hk⟩
theorem Off.set {x:K0}(h:Off S w x)(g i:Nat)(v:L3)(hg:S g\/w.heap.size<=g):Off S w (x.setCell ⟨g,i,IF⟩ v):=by
 refine⟨h.os,h.tape,h.output,by simpa using h.size,λk hk hs=>?_⟩;have A0:g≠k:=λe=>by subst e;rcases hg with hg|hg;exact hs hg;omega
 rw[<-h.block k hk hs];simp[L5,LL,A0]
theorem Off.alloc {x:K0}(h:Off S w x)(o:Obj):Off S w (x.alloc o):=by
 refine⟨h.os,h.tape,h.output,by have:=h.size;simp;omega,λk hk hs=>?_⟩;rw[<-h.block k hk hs];exact LI _ _ (Ln hk h.size)
theorem Off.drew {x:K0}(h:Off S w x):Off S w x.drew:=⟨h.os,h.tape,h.output,h.size,h.block⟩
theorem Off.grown {x y:K0}{r:Option Nat}(h:Off S w x)(hg:x.grownBy y r)(hr:∀k,r=IH k->S k\/w.heap.size<=k):Off S w y:=by
 refine⟨hg.os.trans h.os,hg.tape.trans h.tape,hg.output.trans h.output,O2 h.size hg.size,λk hk hs=>?_⟩;rw[<-h.block k hk hs];refine hg.block k (Ln hk h.size) (λe=>?_);rcases hr k e.symm with h1|h1
 ·exact hs h1
 ·omega
theorem tW:(prog.info? 147).map (λi=>(i.zero,i.size,i.bytes))=IH (IH (R2 #[IR Kf 0,IR Kf 0,LR Mu,ID ⟨#[]⟩]),4,40):=by kernel_rfl
open Go.RowKit
attribute [local go_sem ↓] eP
attribute [local go_sem] ff
theorem zx (w:K0)(ty:RK)(b o c:Nat)(hc:∀j,j<4->(w.cell? ⟨b,o+j,IF⟩).isSome=Pa)(hf:∀j,j<4->w.frozen? ⟨b,o+j,IF⟩=Mu) :
 (N5 #[181] ty #[J0 (IH ⟨b,o,IF⟩) 1 c]).run I3 w=.ok (.tuple #[]) (w.setCells b o [IR Kf 0,IR Kf 0,LR Mu,ID ⟨#[]⟩]):=by
 have A0:=run_storeCells_cells (P:=I3) b o [IR Kf 0,IR Kf 0,LR Mu,ID ⟨#[]⟩] 0 w (by simpa using hc) (by simpa using hf) (by simp[Rd]);simp only[Nat.add_zero] at A0;have A1:(Pi (R2 #[IR Kf 0,IR Kf 0,LR Mu,ID ⟨#[]⟩]).cells 1).toList=[IR Kf 0,IR Kf 0,LR Mu,ID ⟨#[]⟩]:=by simp[Pi,Value.cells,List.range_succ]
 simp only[N5];simp[run_underlying underlying181,zeroValue147,A1,A0]
theorem ic (a b:List IZ):rowOf (a++b)=rowOf a++rowOf b:=by simp[rowOf]
theorem vU (l:List IZ)(i:Nat)(h:i<=l.length):(rowOf l).take (i*4)=rowOf (l.take i):=by
 have e:rowOf l=rowOf (l.take i)++rowOf (l.drop i):=by rw[<-ic,List.take_append_drop]
 rw[e];have hl:(rowOf (l.take i)).length=i*4:=by rw[dM,MD,MT h]
 rw[<-hl,List.take_left]
theorem vL (l:List IZ)(i:Nat)(h:i<=l.length):(rowOf l).drop (i*4)=rowOf (l.drop i):=by
 have e:rowOf l=rowOf (l.take i)++rowOf (l.drop i):=by rw[<-ic,List.take_append_drop]
 rw[e];have hl:(rowOf (l.take i)).length=i*4:=by rw[dM,MD,MT h]
 rw[<-hl,List.drop_left]
theorem zM {l:List IZ}{v:L3}(h:v∈rowOf l):v.oneCell'=Pa:=by
 simp only[rowOf,List.mem_flatMap] at h;obtain⟨x,_,hx⟩:=h;simp only[dR,List.mem_cons,List.not_mem_nil,or_false] at hx;rcases hx with rfl|rfl|rfl|rfl<;>rfl
theorem vx (l:List IZ)(g cap:Nat)(i:Nat)(w:K0)(h:w.ownsRow 0 147 4 (J0 (IH ⟨g,0,IF⟩) l.length cap) l.length (rowOf l))(hi:i<l.length)(hl:l.length<1000000) :
 Mz I3 239 #[J0 (IH ⟨g,0,IF⟩) l.length cap,IR Kf i,IR Kf ((i:Int)+1)] w λe w'=>e=Kx (J0 (IH ⟨g,0,IF⟩) (l.length-1) cap) /\
  w'.ownsRow 0 147 4 (J0 (IH ⟨g,0,IF⟩) (l.length-1) cap) (l.length-1) (rowOf (l.eraseIdx i))/\Off (λk=>k=g) w w':=by
 obtain⟨i0,Aj,Am,Ah,An⟩:=Rg tW;obtain⟨A3,hg,Ao,Af,Ae,Aa⟩:∃A3,w.heap[g]?=IH (K1 A3 147 (0,0))/\l.length<=cap/\cap<=N6/\A3.size=cap*4/\A3.toList.take (l.length*4)=rowOf l:=by
  rcases h.2 with⟨h0,_⟩|⟨g',Ab,A3,hv,_,hg,h2⟩
  ·cases h0
  ·cases hv;exact⟨A3,hg,h2⟩
 have Ak:g<w.heap.size:=(gL hg);simp only[N6] at Af;have A5:w.drew.ownsRow 0 147 4 (J0 (IH ⟨g,0,IF⟩) i cap) i (rowOf (l.take i)):=by refine⟨by rw[dM,MD,MT (by omega)],Of ⟨g,cap,A3,rfl,Ok _,hg,by omega,by simp only[N6];omega,Ae,?_⟩⟩;rw[<-vU l i (by omega),<-Aa,List.take_take,MT (by omega)]
 have A0:∀j u,(rowOf l)[j]?=IH u->w.cell? ⟨g,j,IF⟩=IH u:=by intro j u hu;(have hj:j<l.length*4:=by have:=(LN.1 hu).1;rwa [dM] at this);rw[<-Aa,K2 hj] at hu;simpa [Jx,hg] using hu
 obtain⟨A,hA,A8⟩:∃A:Addr,(if cap=i+1 then IH (⟨g,0,IF⟩:Addr) else IH ⟨g,(i+1)*4,IF⟩)=IH A/\Hid (∀t u,(rowOf (l.drop (i+1)))[t]?=IH u->w.drew.cell? (A.add t)=IH u):=by
  by_cases hc:cap=i+1
  ·refine⟨⟨g,0,IF⟩,by simp[hc],λt u hu=>?_⟩;have:l.drop (i+1)=[]:=List.drop_eq_nil_of_le (by omega);rw[this] at hu;simp[rowOf] at hu
  ·refine⟨⟨g,(i+1)*4,IF⟩,by simp[hc],λt u hu=>?_⟩;rw[<-vL l (i+1) (by omega),OS] at hu;rw[Addr.add_lit];exact A0 _ _ hu
 obtain⟨w1,A6,A1,A2⟩:=run_append_fits (P:=I3) w.drew 0 181 181 147 i0 4 underlying181 Aj Ah g i cap (rowOf (l.take i)) A5 A (l.length-(i+1)) (cap-(i+1)) (rowOf (l.drop (i+1))) (by rw[dM,PC]) A8.out (λu hu=>zM hu) (by omega);obtain⟨Aq,Ap,Al⟩:=nI A6;have HG:=IA A2;have HO:=IA A1;obtain⟨lF,A9,A7,A4⟩:∃lF,w1.heap[g]?=IH (K1 lF 147 (0,0))/\lF.size=cap*4/\lF.toList.take ((i+(l.length-(i+1)))*4)=rowOf (l.take i)++rowOf (l.drop (i+1)):=by
  rcases HO.out.2 with⟨h0,_⟩|⟨g',Ab,Ad,hv,_,Ag,_,_,h3,h4⟩
  ·cases h0
  ·cases hv;exact⟨Ad,Ag,h3,h4⟩
 have Ai:(N5 #[181] 0 #[J0 (IH ⟨g,(i+(l.length-(i+1)))*4,IF⟩) (l.length-(i+(l.length-(i+1)))) (cap-(i+(l.length-(i+1))))]).run I3 w1=.ok (.tuple #[]) (w1.setCells g ((i+(l.length-(i+1)))*4) [IR Kf 0,IR Kf 0,LR Mu,ID ⟨#[]⟩]):=by
  (have e1:l.length-(i+(l.length-(i+1)))=1:=by omega);rw[e1];refine zx w1 0 g _ _ (λj hj=>?_) (λj hj=>?_)
  ·simp only[Jx,A9];rw[Nm (by omega)];rfl
  ·simp[Mb,A9]
 obtain⟨w2,Ac⟩:=exj (w1.setCells g ((i+(l.length-(i+1)))*4) [IR Kf 0,IR Kf 0,LR Mu,ID ⟨#[]⟩]);rw[<-Ac] at Ai;have HW:=IA Ac;have H1:=IA A9;have H2:=IA A7;have H3:=IA A4;clear A6 A2 A1 A5 A0 A8 h Aa Ae hg Ac A9 A7 A4;go_enter func239,ntmps239;go_wp2_with fail;go_region;go_wp2;go_ret;have hk:i+(l.length-(i+1))=l.length-1:=by omega
 refine⟨by rw[<-hk];rfl,?_,?_⟩
 ·(have hb:w2.heap[g]?=IH (K1 (((((lF.setIfInBounds ((l.length-1)*4) (IR Kf 0)).setIfInBounds ((l.length-1)*4+1) (IR Kf 0)).setIfInBounds ((l.length-1)*4+1+1) (LR Mu)).setIfInBounds ((l.length-1)*4+1+1+1) (ID ⟨#[]⟩))) 147 (0,0)):=by rw[HW.out,hk];exact heap_set (heap_set (heap_set (heap_set H1.out))));refine⟨by rw[dM,List.length_eraseIdx_of_lt hi],Of ⟨g,cap,_,rfl,Ok _,hb,by omega,by simp only[N6];omega,by simpa using H2.out,?_⟩⟩;have h3:=H3.out;rw[hk] at h3;(have e2:rowOf (l.eraseIdx i)=rowOf (l.take i)++rowOf (l.drop (i+1)):=by rw[List.eraseIdx_eq_take_drop_succ,ic]);rw[e2,<-h3];apply List.ext_getElem?;intro t;by_cases ht:t<(l.length-1)*4
  ·rw[K2 ht,K2 ht];simp only[Array.getElem?_toList];rw[Ly (by omega),Ly (by omega),Ly (by omega),Ly (by omega)]
  ·rw[LS (by simp;omega),LS (by simp;omega)]
 ·have ho:Off (λk=>k=g) w w1:=(Off.refl _ w).drew.grown HG.out (λk hk=>L1 (by cases hk;rfl));rw[HW.out];exact(((ho.set g _ _ (L1 rfl)).set g _ _ (L1 rfl)).set g _ _ (L1 rfl)).set g _ _ (L1 rfl)
open Go.RowKit
theorem wZ (p:Nat)(E:IP)(vs:L3)(n:Int)(w:K0)(h:ay w p E vs)(hp:vs.ownBlock≠IH p)(hl:E.IB.length<1000000)(i:Nat)(hn:eu E.IB n=IH i) :
 Mz I3 200 #[N1 (IH ⟨p,0,IF⟩),IR Kf n] w λe w'=>(∃v,e=Kx v)/\∃vs',ay w' p ⟨E.key,E.last,E.IB.eraseIdx i⟩ vs'/\vs'.ownBlock=vs.ownBlock/\Off (λk=>k=p\/vs.ownBlock=IH k) w w':=by
 obtain⟨v,hv,_⟩:=ku hn;have hi:i<E.IB.length:=(LN.1 hv).1;go_enter func200,ntmps200;go_wp2_with fail;refine(jw p E vs n _ h hl).mono ?_;rintro e w2 ⟨rfl,A3⟩;rw[il hn];have h2:=h.below A3;obtain⟨g,cap,rfl⟩:∃g cap,vs=J0 (IH ⟨g,0,IF⟩) E.IB.length cap:=by obtain⟨g,cap,e,_⟩:=ft h2.row i v hv;exact⟨g,cap,e⟩
 have c2:=h2.c2;have A5:=h2.lt;have HH:Hid (ay w2 p E (J0 (IH ⟨g,0,IF⟩) E.IB.length cap)):=h2;have HB:Hid (Below w.heap.size w w2):=A3;have HP:Hid ((J0 (IH ⟨g,0,IF⟩) E.IB.length cap).ownBlock≠IH p):=hp;clear h2 A3 h hp;go_wp2_with fail;refine(vx E.IB g cap i _ HH.out.row hi hl).mono ?_;rintro e w3 ⟨rfl,A0,A2⟩;have A4:g≠p:=λe=>HP.out (by rw[e];rfl);have A1:w3.heap[p]?=IH (K1 #[ID ⟨E.key.toArray⟩,IR Kf E.last,J0 (IH ⟨g,0,IF⟩) E.IB.length cap] 183 (0,0)):=(A2.block p A5 (Ne.symm A4)).trans HH.out.blk;have c3:w3.cell? ⟨p,2,IF⟩=IH (J0 (IH ⟨g,0,IF⟩) E.IB.length cap):=by simp[Jx,A1]
 have f3:=Je A1 2;have H1:=IA A0;have H2:=IA A2;have H3:=IA A1;clear A0 A2 A1;go_wp2;refine N2 (N3 results200 _ _ _) rfl ⟨⟨_,rfl⟩,_,⟨heap_set (i:=2) H3.out,?_⟩,rfl,?_⟩
 ·have h0:=H1.out;rw[List.length_eraseIdx_of_lt hi];refine⟨h0.1,?_⟩;rcases h0.2 with⟨hc,_⟩|⟨g',A6,A7,hv,h1,hg,h2⟩
  ·cases hc
  ·cases hv;refine Of ⟨g,cap,A7,rfl,h1,?_,h2⟩;rw[<-hg];simp[L5,LL,Ne.symm A4]
 ·refine(((Off.of_below HB.out).trans' H2.out (λk _ e=>?_)).set p 2 _ (L1 (L1 rfl)));right;rw[e];rfl
open Go.RowKit
attribute [local go_sem ↓] eP
attribute [local go_sem] ff
def GW (k t:Nat)(key:List UInt8)(n:Nat)(body:List UInt8):L3:=R2 #[IR RR k,IR Kf t,ID ⟨key.toArray⟩,IR Kf n,ID ⟨body.toArray⟩]
theorem uj (p:Nat)(E:IP)(vs:L3)(k t n:Nat)(key body:List UInt8)(w:K0)(h:ay w p E vs)(hp:vs.ownBlock≠IH p)(hl:E.IB.length<1000000)(hb:body.length<1000000) :
 Mz I3 202 #[N1 (IH ⟨p,0,IF⟩),GW k t key n body] w λe w'=>∃g cap,(∃v,e=Kx v) /\
  ay w' p ⟨E.key,n,E.IB++[⟨n,t,k==2,body⟩]⟩ (J0 (IH ⟨g,0,IF⟩) (E.IB.length+1) cap)/\(vs.ownBlock=IH g\/w.heap.size<=g)/\Off (λk=>k=p\/vs.ownBlock=IH k) w w':=by
 obtain⟨i0,Ay,As,B0,Ax⟩:=Rg tW;have e1:=h.c1;have e2:=h.c2;have Ar:=h.lt;have f1:=h.fz 1;have f2:=h.fz 2;have HE:Hid (ay w p E vs):=h;clear h;unfold GW;go_enter func202,ntmps202;go_wp2_with fail;obtain⟨x,hx⟩:=exj (((w.setCell ⟨p,1,IF⟩ (IR Kf (n:Int))).alloc (K1 #[IR RR (k:Int),IR Kf (t:Int),ID ⟨key.toArray⟩,IR Kf (n:Int),ID ⟨body.toArray⟩] 108)));rw[<-hx];have Am:x.heap.size=w.heap.size+1:=by rw[hx];simp
 have hO:Off (λk=>k=p\/vs.ownBlock=IH k) w x:=by rw[hx];exact((Off.refl _ _).set p 1 _ (L1 (L1 rfl))).alloc _
 have hB:x.heap[p]?=IH (K1 #[ID ⟨E.key.toArray⟩,IR Kf (n:Int),vs] 183 (0,0)):=by rw[hx];rw[LI _ _ (by simpa using Ar)];exact heap_set (i:=1) HE.out.blk
 have hR:x.ownsRow 0 147 4 vs E.IB.length (rowOf E.IB):=by
  have h0:=HE.out.row;refine⟨h0.1,?_⟩;rcases h0.2 with h0|⟨g,cap,A9,hv,h1,hg,h2⟩
  ·exact L1 h0
  ·refine Of ⟨g,cap,A9,hv,h1,?_,h2⟩;(have Ad:p≠g:=λe=>by subst e;apply hp;rw[hv];rfl);rw[hx,LI _ _ (by simpa using(gL hg)),<-hg];simp[L5,LL,Ad]
 have hC:x.heap[w.heap.size]?=IH (K1 #[IR RR (k:Int),IR Kf (t:Int),ID ⟨key.toArray⟩,IR Kf (n:Int),ID ⟨body.toArray⟩] 108 (0,0)):=by rw[hx];have:=MY (w.setCell ⟨p,1,IF⟩ (IR Kf (n:Int))) (K1 #[IR RR (k:Int),IR Kf (t:Int),ID ⟨key.toArray⟩,IR Kf (n:Int),ID ⟨body.toArray⟩] 108);simpa using this
 have Av:vs.ownBlock≠IH w.heap.size:=by
  intro e;rcases HE.out.row.2 with⟨rfl,_⟩|⟨g,cap,A9,rfl,_,hg,_⟩
  ·cases e
  ·cases e;exact absurd (gL hg) (Nat.lt_irrefl _)
 clear hx e1 e2 f1 f2;have B3:p≠w.heap.size:=by omega
 have HB:=IA hB;have HC:=IA hC;have HR:=IA hR;have HO:=IA hO;clear hB hC hR hO;have B6:Hid (x.heap.size=w.heap.size+1):=Am;have A8:p<x.heap.size:=by omega
 have A4:w.heap.size<x.heap.size:=by omega
 clear Am;have e2:x.cell? ⟨p,2,IF⟩=IH vs:=by simp[Jx,HB.out]
 have f2:=Je HB.out 2;obtain⟨b0,b1,-,b3,b4⟩:=Ku HC.out;have Al:(⟨body.toArray⟩:ByteArray).size<=281474976710656:=by simp only[ByteArray.size,List.size_toArray];omega
 have HT:Hid (∀w1,Below x.drew.heap.size x.drew w1->∃gg cap w2,(w1.cell? ⟨p,2,IF⟩=IH vs/\(w1.alloc (K1 #[IR Kf (n:Int),IR Kf (t:Int),LR ((k:Int)==2),ID ⟨body.toArray⟩] 147)).cell? ⟨p,2,IF⟩=IH vs) /\
  tN I3 181 181 (w1.alloc (K1 #[IR Kf (n:Int),IR Kf (t:Int),LR ((k:Int)==2),ID ⟨body.toArray⟩] 147)) vs (J0 (IH ⟨w1.heap.size,0,IF⟩) 1 1) /\
  (lG I3 181 181 (w1.alloc (K1 #[IR Kf (n:Int),IR Kf (t:Int),LR ((k:Int)==2),ID ⟨body.toArray⟩] 147)) vs (J0 (IH ⟨w1.heap.size,0,IF⟩) 1 1)).1=J0 (IH ⟨gg,0,IF⟩) (E.IB.length+1) cap /\
  (lG I3 181 181 (w1.alloc (K1 #[IR Kf (n:Int),IR Kf (t:Int),LR ((k:Int)==2),ID ⟨body.toArray⟩] 147)) vs (J0 (IH ⟨w1.heap.size,0,IF⟩) 1 1)).2=w2 /\
  ((w1.alloc (K1 #[IR Kf (n:Int),IR Kf (t:Int),LR ((k:Int)==2),ID ⟨body.toArray⟩] 147)).cell? ⟨w.heap.size,0,IF⟩=IH (IR RR (k:Int))/\(w1.alloc (K1 #[IR Kf (n:Int),IR Kf (t:Int),LR ((k:Int)==2),ID ⟨body.toArray⟩] 147)).cell? ⟨w.heap.size,1,IF⟩=IH (IR Kf (t:Int))/\(w1.alloc (K1 #[IR Kf (n:Int),IR Kf (t:Int),LR ((k:Int)==2),ID ⟨body.toArray⟩] 147)).cell? ⟨w.heap.size,3,IF⟩=IH (IR Kf (n:Int))/\(w1.alloc (K1 #[IR Kf (n:Int),IR Kf (t:Int),LR ((k:Int)==2),ID ⟨body.toArray⟩] 147)).cell? ⟨w.heap.size,4,IF⟩=IH (ID ⟨body.toArray⟩))/\w2.cell? ⟨p,2,IF⟩=IH vs/\w2.frozen? ⟨p,2,IF⟩=Mu /\
  ((w2.cell? ⟨w.heap.size,0,IF⟩=IH (IR RR (k:Int))/\w2.cell? ⟨w.heap.size,1,IF⟩=IH (IR Kf (t:Int))/\w2.cell? ⟨w.heap.size,3,IF⟩=IH (IR Kf (n:Int))/\w2.cell? ⟨w.heap.size,4,IF⟩=IH (ID ⟨body.toArray⟩))/\((w2.setCell ⟨p,2,IF⟩ (J0 (IH ⟨gg,0,IF⟩) (E.IB.length+1) cap)).cell? ⟨w.heap.size,0,IF⟩=IH (IR RR (k:Int))/\(w2.setCell ⟨p,2,IF⟩ (J0 (IH ⟨gg,0,IF⟩) (E.IB.length+1) cap)).cell? ⟨w.heap.size,1,IF⟩=IH (IR Kf (t:Int))/\(w2.setCell ⟨p,2,IF⟩ (J0 (IH ⟨gg,0,IF⟩) (E.IB.length+1) cap)).cell? ⟨w.heap.size,3,IF⟩=IH (IR Kf (n:Int))/\(w2.setCell ⟨p,2,IF⟩ (J0 (IH ⟨gg,0,IF⟩) (E.IB.length+1) cap)).cell? ⟨w.heap.size,4,IF⟩=IH (ID ⟨body.toArray⟩))) /\
  (ay (w2.setCell ⟨p,2,IF⟩ (J0 (IH ⟨gg,0,IF⟩) (E.IB.length+1) cap)) p ⟨E.key,n,E.IB++[⟨n,t,k==2,body⟩]⟩ (J0 (IH ⟨gg,0,IF⟩) (E.IB.length+1) cap)/\(vs.ownBlock=IH gg\/w.heap.size<=gg)/\Off (λk=>k=p\/vs.ownBlock=IH k) w (w2.setCell ⟨p,2,IF⟩ (J0 (IH ⟨gg,0,IF⟩) (E.IB.length+1) cap)))):=by
  intro w1 A0;have A0:Below x.heap.size x w1:=⟨A0.os,A0.tape,A0.output,A0.size,A0.block⟩;have A7:x.heap.size<=w1.heap.size:=A0.size;have Ae:w1.heap[p]?=_:=(A0.block p A8).trans HB.out;have Aq:w1.heap[w.heap.size]?=_:=(A0.block _ A4).trans HC.out;have B5:=dH HR.out A0;have Ap:p<w1.heap.size:=Ln A8 A7;have An:w.heap.size<w1.heap.size:=Ln A4 A7;obtain⟨gg,cap,w2,Aj,A1,A2,Az,B2⟩:=run_append_lies (P:=I3) (w1.alloc (K1 #[IR Kf (n:Int),IR Kf (t:Int),LR ((k:Int)==2),ID ⟨body.toArray⟩] 147)) 181 181 0 147 i0 _ 4 40 underlying181 Ay As B0 Ax rfl (by omega) vs E.IB.length (rowOf E.IB) (World.ownsRow.alloc B5 _)
   ⟨w1.heap.size,0,IF⟩ 1 1 [IR Kf (n:Int),IR Kf (t:Int),LR ((k:Int)==2),ID ⟨body.toArray⟩] (by rfl) (ON (cs:=#[IR Kf (n:Int),IR Kf (t:Int),LR ((k:Int)==2),ID ⟨body.toArray⟩]) (t:=147) (fr:=(0,0)) (MY w1 _)) (by simp[Rd])
   (by omega) (by simp only[N6];omega) (by omega) (by simp) _ rfl
  (have B4:p<(w1.alloc (K1 #[IR Kf (n:Int),IR Kf (t:Int),LR ((k:Int)==2),ID ⟨body.toArray⟩] 147)).heap.size:=by simp;omega);(have B1:w.heap.size<(w1.alloc (K1 #[IR Kf (n:Int),IR Kf (t:Int),LR ((k:Int)==2),ID ⟨body.toArray⟩] 147)).heap.size:=by simp;omega);have Ai:w2.heap[p]?=_:=((A2.block p B4 (Ne.symm hp)).trans (LI _ _ Ap)).trans Ae;have A6:w2.heap[w.heap.size]?=_:=((A2.block _ B1 (Ne.symm Av)).trans (LI _ _ An)).trans Aq;have Ab:(w1.alloc (K1 #[IR Kf (n:Int),IR Kf (t:Int),LR ((k:Int)==2),ID ⟨body.toArray⟩] 147)).heap[w.heap.size]?=_:=(LI _ _ An).trans Aq;have Aw:(w1.alloc (K1 #[IR Kf (n:Int),IR Kf (t:Int),LR ((k:Int)==2),ID ⟨body.toArray⟩] 147)).heap[p]?=_:=(LI _ _ Ap).trans Ae;(have Ac:(w2.setCell ⟨p,2,IF⟩ (J0 (IH ⟨gg,0,IF⟩) (E.IB.length+1) cap)).heap[w.heap.size]?=IH (K1 #[IR RR (k:Int),IR Kf (t:Int),ID ⟨key.toArray⟩,IR Kf (n:Int),ID ⟨body.toArray⟩] 108 (0,0)):=by rw[<-A6];simp[L5,LL,B3]);obtain⟨Ah,Ag,Af⟩:=nI Aj;have Ao:vs.ownBlock=IH gg\/w.heap.size<=gg:=by
   rcases Az with h1|h1
   ·exact L1 h1
   ·right;(have h2:gg=w1.heap.size+1:=by rw[h1];simp);omega
  have Ad:p≠gg:=by
   intro e;rcases Ao with h1|h1
   ·exact hp (e ▸ h1)
   ·omega
  refine⟨gg,cap,w2,⟨by simp[Jx,Ae],by simp[Jx,Aw]⟩,Ah,Ag,Af,⟨by simp[Jx,Ab],by simp[Jx,Ab],by simp[Jx,Ab],by simp[Jx,Ab]⟩,by simp[Jx,Ai],by simp[Mb,Ai],
   ⟨⟨by simp[Jx,A6],by simp[Jx,A6],by simp[Jx,A6],by simp[Jx,A6]⟩,⟨by simp only[Jx,Ac];simp,by simp only[Jx,Ac];simp,by simp only[Jx,Ac];simp,by simp only[Jx,Ac];simp⟩⟩,⟨heap_set (i:=2) Ai,?_⟩,Ao,?_⟩
  ·(have e1:rowOf E.IB++[IR Kf (n:Int),IR Kf (t:Int),LR ((k:Int)==2),ID ⟨body.toArray⟩]=rowOf (E.IB++[⟨n,t,k==2,body⟩]):=by(have Au:((k:Int)==2)=(k==2):=by rw[Bool.eq_iff_iff];simp only[beq_iff_eq];omega);simp[rowOf,dR,Au]);rw[e1] at A1;simp only[Lo,L2];refine⟨A1.1,?_⟩;rcases A1.2 with⟨hc,_⟩|⟨g,At,A9,hv,h1,hg,h2⟩
   ·cases hc
   ·cases hv;refine Of ⟨gg,cap,A9,rfl,h1,?_,h2⟩;rw[<-hg];simp[L5,LL,Ad]
  ·exact(((HO.out.trans (Off.of_below A0)).alloc _).grown A2 (λk hk=>L1 (Of hk))).set p 2 _ (L1 (L1 rfl))
 refine wp_region_held_drew (S:=(λy=>y.cell? ⟨w.heap.size,0,IF⟩=IH (IR RR (k:Int))/\y.cell? ⟨w.heap.size,1,IF⟩=IH (IR Kf (t:Int))/\y.cell? ⟨w.heap.size,3,IF⟩=IH (IR Kf (n:Int))/\y.cell? ⟨w.heap.size,4,IF⟩=IH (ID ⟨body.toArray⟩))) (by kernel_rfl) ⟨b0,b1,b3,b4⟩ (λhHeld=>?_);refine IJ 0 hHeld ?_;try simp only[Ks]
 refine IJ 1 hHeld ?_;try simp only[Ks]
 refine IJ 2 hHeld ?_;try simp only[Ks]
 refine IJ 3 hHeld ?_;try simp only[Ks]
 refine IJ 5 hHeld ?_;try simp only[Ks]
 refine IJ 6 hHeld ?_;try simp only[Ks]
 refine IJ 7 hHeld ?_;try simp only[Ks]
 refine IJ 8 hHeld ?_;try simp only[Ks]
 refine IJ 9 hHeld ?_;try simp only[Ks]
 refine IJ 10 hHeld ?_;try simp only[Ks]
 refine IJ 11 hHeld ?_;try simp only[Ks]
 refine IJ 12 hHeld ?_;try simp only[Ks]
 refine IJ 13 hHeld ?_;try simp only[Ks]
 refine wpAnyH_ready (rs:=[4,14]) (by kernel_rfl) (by simp) ?_;refine M1 rfl (λK hK=>?_) (M1 rfl (λK hK=>?_) RE)
 ·go_simp;refine hK.out _ _ hHeld (λ_=>?_);clear hK K;(try simp only[Ks]);refine I6 14 (λK hK=>?_);go_simp;refine(je ⟨body.toArray⟩ _ Al).mono ?_;rintro e w1 ⟨rfl,A0⟩;have Ak:w1.cell? ⟨w.heap.size,0,IF⟩=IH (IR RR (k:Int))/\w1.cell? ⟨w.heap.size,1,IF⟩=IH (IR Kf (t:Int))/\w1.cell? ⟨w.heap.size,3,IF⟩=IH (IR Kf (n:Int))/\w1.cell? ⟨w.heap.size,4,IF⟩=IH (ID ⟨body.toArray⟩) :=
   ⟨(A0.cell (p:=⟨w.heap.size,0,IF⟩) A4).trans b0,(A0.cell (p:=⟨w.heap.size,1,IF⟩) A4).trans b1,(A0.cell (p:=⟨w.heap.size,3,IF⟩) A4).trans b3,(A0.cell (p:=⟨w.heap.size,4,IF⟩) A4).trans b4⟩
  obtain⟨gg,cap,w2,hP⟩:=HT.out w1 A0;obtain⟨⟨g2,g3⟩,Ah,Ag,Af,Aa,c4,f4,A5,A3⟩:=hP;have HF:=IA A3;clear A3;(try go_wp2_with fail);refine hK.out _ _ Ak (λI5=>?_);clear hK K;(try simp only[Ks]);refine IJ 15 I5 ?_;(try simp only[Ks]);refine I6 16 (λK hK=>?_);go_simp;refine hK.out _ _ Aa (λJj=>?_);clear hK K;(try simp only[Ks]);refine I6 17 (λK hK=>?_);go_simp;refine hK.out _ _ A5.1 (λII=>?_);clear hK K;(try simp only[Ks]);refine IJ 18 II ?_;(try simp only[Ks]);refine IJ 19 II ?_;(try simp only[Ks]);refine I6 20 (λK hK=>?_);go_simp;refine hK.out _ _ A5.2 (λI8=>?_);clear hK K;(try simp only[Ks]);refine PP (by kernel_rfl) ?_ _;go_wp2;exact N2 (N3 results202 _ _ _) rfl ⟨gg,cap,⟨_,rfl⟩,HF.out⟩
 ·go_simp;refine(je ⟨body.toArray⟩ _ Al).mono ?_;rintro e w1 ⟨rfl,A0⟩;have Ak:w1.cell? ⟨w.heap.size,0,IF⟩=IH (IR RR (k:Int))/\w1.cell? ⟨w.heap.size,1,IF⟩=IH (IR Kf (t:Int))/\w1.cell? ⟨w.heap.size,3,IF⟩=IH (IR Kf (n:Int))/\w1.cell? ⟨w.heap.size,4,IF⟩=IH (ID ⟨body.toArray⟩) :=
   ⟨(A0.cell (p:=⟨w.heap.size,0,IF⟩) A4).trans b0,(A0.cell (p:=⟨w.heap.size,1,IF⟩) A4).trans b1,(A0.cell (p:=⟨w.heap.size,3,IF⟩) A4).trans b3,(A0.cell (p:=⟨w.heap.size,4,IF⟩) A4).trans b4⟩
  obtain⟨gg,cap,w2,hP⟩:=HT.out w1 A0;obtain⟨⟨g2,g3⟩,Ah,Ag,Af,Aa,c4,f4,A5,A3⟩:=hP;have HF:=IA A3;clear A3;(try go_wp2_with fail);refine hK.out _ _ Ak (λI5=>?_);clear hK K;(try simp only[Ks]);refine IJ 15 I5 ?_;(try simp only[Ks]);refine wpAnyH_ready (rs:=[4,16]) (by kernel_rfl) (by simp) ?_;refine M1 rfl (λK hK=>?_) (M1 rfl (λK hK=>?_) RE)
  ·go_simp;refine hK.out _ _ I5 (λ_=>?_);clear hK K;(try simp only[Ks]);refine I6 16 (λK hK=>?_);go_simp;refine hK.out _ _ Aa (λJj=>?_);clear hK K;(try simp only[Ks]);refine I6 17 (λK hK=>?_);go_simp;refine hK.out _ _ A5.1 (λII=>?_);clear hK K;(try simp only[Ks]);refine IJ 18 II ?_;(try simp only[Ks]);refine IJ 19 II ?_;(try simp only[Ks]);refine I6 20 (λK hK=>?_);go_simp;refine hK.out _ _ A5.2 (λI8=>?_);clear hK K;(try simp only[Ks]);refine PP (by kernel_rfl) ?_ _;go_wp2;exact N2 (N3 results202 _ _ _) rfl ⟨gg,cap,⟨_,rfl⟩,HF.out⟩
  ·go_simp;refine hK.out _ _ Aa (λJj=>?_);clear hK K;(try simp only[Ks]);refine I6 4 (λK hK=>?_);go_simp;refine hK.out _ _ Jj (λ_=>?_);clear hK K;(try simp only[Ks]);refine I6 17 (λK hK=>?_);go_simp;refine hK.out _ _ A5.1 (λII=>?_);clear hK K;(try simp only[Ks]);refine IJ 18 II ?_;(try simp only[Ks]);refine IJ 19 II ?_;(try simp only[Ks]);refine I6 20 (λK hK=>?_);go_simp;refine hK.out _ _ A5.2 (λI8=>?_);clear hK K;(try simp only[Ks]);refine PP (by kernel_rfl) ?_ _;go_wp2;exact N2 (N3 results202 _ _ _) rfl ⟨gg,cap,⟨_,rfl⟩,HF.out⟩
def gS (n:Nat):UInt8:=UInt8.ofNat (if n<10 then 48+n else 87+n)
def dj:Nat->Nat->List UInt8
 | 0,_=>[]
 | k+1,u=>dj k (u/16)++[gS (u%16)]
def fR:Nat->Nat->List UInt8
 | 0,_=>[]
 | k+1,u=>if u<16 then[gS u] else fR k (u/16)++[gS (u%16)]
theorem oJ (k u:Nat):(dj k u).length=k:=by
 induction k generalizing u with
 | zero=>rfl
 | succ k ih=>simp[dj,ih]
theorem Ab (k u:Nat):(fR k u).length<=k:=by
 induction k generalizing u with
 | zero=>exact Lz _
 | succ k ih =>
   unfold fR;split
   ·simp
   ·have:=ih (u/16);simp;omega
theorem yC (k:Nat):dj k 0=Nd k 48:=by
 induction k with
 | zero=>rfl
 | succ k ih =>rw[dj,Nat.zero_div,ih,List.replicate_succ'];rfl
theorem B8 (k u:Nat):0<k->0<(fR k u).length:=by
 cases k with
 | zero=>omega
 | succ k =>intro _;unfold fR;split<;>simp
theorem Do (k u:Nat)(h:u<16 ^ (k+1)):Nd (k+1-(fR (k+1) u).length) 48++fR (k+1) u=dj (k+1) u:=by
 induction k generalizing u with
 | zero =>(have h':u<16:=by simpa using h);simp[fR,dj,h',Nat.mod_eq_of_lt h']
 | succ k ih =>
   by_cases hu:u<16
   ·(have e:fR (k+1+1) u=[gS u]:=by rw[fR,if_pos hu]);rw[e,dj,Nat.div_eq_of_lt hu,yC,Nat.mod_eq_of_lt hu];rfl
   ·(have e:fR (k+1+1) u=fR (k+1) (u/16)++[gS (u%16)]:=by rw[fR,if_neg hu]);(have h2:u/16<16 ^ (k+1):=by rw[Nat.div_lt_iff_lt_mul (by decide),<-Nat.pow_succ];exact h);rw[e,dj,<-ih (u/16) h2,Lo,L2,<-Lq];congr 3;omega
def qx (h:Nat)(c:UInt8):Nat:=(h ^^^ c.toNat)*1099511628211%18446744073709551616
def JG (l:List UInt8):Nat:=l.foldl qx 14695981039346656037
theorem B0 (l:List UInt8)(c:UInt8):JG (l++[c])=qx (JG l) c:=by
 unfold JG;rw[List.foldl_append,List.foldl_cons,List.foldl_nil]
theorem DN (h:Nat)(c:UInt8):qx h c<18446744073709551616:=by
 unfold qx;omega
theorem Cn (l:List UInt8):JG l<18446744073709551616:=by
 suffices h:∀(l:List UInt8) (x:Nat),x<18446744073709551616->l.foldl qx x<18446744073709551616 from h l _ (by omega)
 intro l;induction l with
 | nil=>exact λx hx=>hx
 | cons c l ih=>exact λx _=>ih _ (DN x c)
theorem CL (H:Nat)(c:UInt8)(hH:H<18446744073709551616):IntKind.u64.wrap (bits .xor Rr (H:Int) (c.toNat:Int)*1099511628211)=((qx H c:Nat):Int):=by
 rw[u64_xor_nat H c.toNat hH (by have:=c.toNat_lt;omega),IntKind.wrap_u64];unfold qx;omega
open Go.RowKit
def Tz (w:K0):Prop:=w.cell? ⟨3,15,IF⟩=IH (IR RR 4)
theorem Tz.below (h:Tz w)(hb:Below w.heap.size w w'):Tz w':=(hb.cell (p:=⟨3,15,IF⟩) (World.block_lt_of_cell? _ _ h)).trans h
theorem Ek (w:K0):Mz I3 159 #[IR Kf 16] w λe w'=>e=Kx (LR Pa)/\w'=w:=by
 go_enter func159,ntmps159;go_wp2;go_ret;exact⟨rfl,rfl⟩
theorem EG (w:K0)(h:Tz w):Mz I3 206 #[IR Rr 16] w λe w'=>e=Kx (IR Kf 4)/\w'=w:=by
 unfold Tz at h;have e4:IntKind.u64.wrap (bits .and Rr 16 (IntKind.u64.wrap (-16))*285870213051353865)/288230376151711744=15:=by decide +kernel
 go_enter func206,ntmps206;go_wp2;go_ret;exact⟨rfl,rfl⟩
theorem GB (w:K0)(h:Tz w):Mz I3 160 #[IR Rr 16] w λe w'=>e=Kx (IR Kf 4)/\w'=w:=by
 go_enter func160,ntmps160;go_wp2_with fail;refine(EG _ h).mono ?_;rintro e w1 ⟨rfl,rfl⟩;go_wp2;go_ret;exact⟨rfl,rfl⟩
def ph:ByteArray:=⟨#[48,49,50,51,52,53,54,55,56,57,97,98,99,100,101,102,103,104,105,106,107,108,109,110,111,112,113,114,115,116,117,118,119,120,121,122]⟩
theorem xJ:∀k:Fin 16,ph[k.val]'(by have:ph.size=36:=rfl;omega)=gS k.val:=by decide
theorem tC (k:Nat)(h:k<16)(w:K0):(Instr.index 9 (ID ph) (IR Rr (k:Int))).run I3 w=.ok (IR RR ((gS k).toNat:Int)) w:=by
 have hd:ph.size=36:=rfl;rw[run_index_string _ 9 ph Rr k PF,dif_pos ⟨by omega,by rw[hd];omega⟩];exact congrArg (λz:UInt8=>Result.ok (Value.int RR (z.toNat:Int)) w) (xJ ⟨k,h⟩)
structure Ar (w x:K0)(D:List UInt8):Prop where
 b:Below w.heap.size w x
 c:∀j,j<65->∃v:UInt8,x.cell? ⟨w.heap.size,j,IF⟩=IH (IR RR (v.toNat:Int))
 d:∀j,j<D.length->x.cell? ⟨w.heap.size,65-D.length+j,IF⟩=IH (IR RR ((D.getD j 0).toNat:Int))
 f:∀j,j<65->x.frozen? ⟨w.heap.size,j,IF⟩=Mu
 lt:w.heap.size<x.heap.size
theorem Ar.push {x:K0}(h:Ar w x D)(c:UInt8)(hD:D.length<65):Ar w (x.setCell ⟨w.heap.size,64-D.length,IF⟩ (IR RR (c.toNat:Int))) (c::D):=by
 obtain⟨v,hv⟩:=h.c (64-D.length) (by omega);have A1:=World.cell?_setCell_same x ⟨w.heap.size,64-D.length,IF⟩ (IR RR (c.toNat:Int)) hv;have A0:∀j,j≠64-D.length->(x.setCell ⟨w.heap.size,64-D.length,IF⟩ (IR RR (c.toNat:Int))).cell? ⟨w.heap.size,j,IF⟩=x.cell? ⟨w.heap.size,j,IF⟩:=λj hj =>
  World.cell?_setCell_other _ _ _ _ (by intro e;injection e;omega)
 refine⟨h.b.setCell (Lz _) _,λj hj=>?_,λj hj=>?_,λj hj=>?_,?_⟩
 ·by_cases e:j=64-D.length
  ·rw[e];exact⟨c,A1⟩
  ·rw[A0 j e];exact h.c j hj
 ·cases j with
  | zero =>rw[show 65-(c::D).length+0=64-D.length by simp];exact A1
  | succ j =>(have A2:j<D.length:=by simpa using hj);rw[show 65-(c::D).length+(j+1)=65-D.length+j by simp;omega,A0 _ (by omega),h.d j A2];simp
 ·rw[World.frozen?_setCell];exact h.f j hj
 ·simpa [L5] using h.lt
theorem Ar.text {x:K0}(h:Ar w x D)(n cp:Nat)(hn:n=D.length):(convert 95 9 (J0 (IH ⟨w.heap.size,65-D.length,IF⟩) n cp)).run I3 x=.ok (ID ⟨D.toArray⟩) x:=by
 subst hn;exact run_convert_bytes_back (P:=I3) x 95 9 5 ⟨w.heap.size,65-D.length,IF⟩ cp D underlying95 underlying5 PF (λj hj=>by
  rw[Go.WideShapes.add_plain,h.d j hj];rw[List.getD,Nx hj]
  rfl)
theorem yd:zeroCells250=Array.replicate 65 (IR RR 0):=by kernel_rfl
theorem Ar.made (w:K0):Ar w (w.alloc (K1 zeroCells250 250)) []:=by
 refine⟨(Below.refl _ _).alloc (Lz _) _,λj hj=>⟨0,?_⟩,λj hj=>absurd hj (by simp),λj hj=>?_,by simp⟩
 ·rw[yd];simp[hj]
 ·rw[yd];simp
theorem C6 (W:K0)(g j:Nat)(h:j<65):(Instr.sliceAt 250 (N1 (IH ⟨g,0,IF⟩)) (IH (IR Kf (j:Int))) IF IF).run I3 W=.ok (J0 (IH ⟨g,j,IF⟩) (65-j) (65-j)) W:=by
 have hu:prog.underlying 250=IH (.array (prog.arrayLen 250) (prog.elem 250)):=by kernel_rfl
 have hl:prog.arrayLen 250=65:=by kernel_rfl
 have he:prog.elem 250=5:=by kernel_rfl
 rw[run_sliceAt_array_l W 250 ⟨g,0,IF⟩ hu Kf (j:Int) (by omega) (by rw[hl];omega),hl,he,sizeOf5];simp only[Result.andThen,slicedAt,Int.toNat_natCast,On];rw[if_neg (by omega),Go.WideShapes.add_plain,Nat.zero_add]
theorem GV (u:Nat)(h:u<18446744073709551616):bits .and Rr (u:Int) 15=((u%16:Nat):Int):=by
 have:=u64_and_nat u 15 h (by omega);rw[show(u &&& 15:Nat)=u%16 from Nat.and_two_pow_sub_one_eq_mod u 4] at this;exact this
theorem oR (U:Nat)(w:K0)(hU:U<18446744073709551616)(h:Tz w):Mz I3 111 #[J0 IF 0 0,IR Rr (U:Int),IR Kf 16,LR Mu,LR Mu] w λe w'=>e=Kx (.tuple #[J0 IF 0 0,ID ⟨(fR 16 U).toArray⟩])/\Below w.heap.size w w':=by
 go_enter func111,ntmps111;go_wp2_with fail;refine(Ek _).mono ?_;rintro e w1 ⟨rfl,A4⟩;have A3:Ar w w1 []:=by rw[A4];exact Ar.made w
 clear A4;go_wp2_with fail;refine(GB _ (h.below A3.b)).mono ?_;rintro e w2 ⟨rfl,rfl⟩;go_wp2;go_loopw [1,13] (λu i wr=>∃(n k:Nat) (D:List UInt8),u=IR Rr (n:Int)/\i=IR Kf ((65-D.length:Nat):Int)/\D.length+k=16/\0<k/\n<16 ^ k/\Hid (fR 16 U=fR k n++D)/\Ar w wr D) (λu _ _=>(intOf u).toNat);case atStart=>exact⟨U,16,[],rfl,rfl,rfl,by omega,by omega,(Q1 _).symm,A3⟩
 case round =>
  obtain⟨n,k,D,rfl,rfl,hk,A9,hn,hx,ar⟩:=hrel;(have A2:n<18446744073709551616:=by have:16 ^ k<=16 ^ 16:=Nat.pow_le_pow_right (by decide) (by omega);omega);obtain⟨j,hj⟩:=IG (64-D.length);(have A7:((65-D.length:Nat):Int)=(j:Int)+1:=by omega);(have A0:j<65:=by omega);obtain⟨v0,Ab⟩:=ar.c j A0;have Aa:=ar.f j A0;rw[A7];by_cases hge:16<=n
  ·have ha:=GV n A2;have hd:=tC (n%16) (by omega);unfold ph at hd;have HE:Hid (ph[n%16]'(by have:ph.size=36:=rfl;omega)=gS (n%16)):=xJ ⟨n%16,by omega⟩;have HA:=IA (ar.push (gS (n%16)) (by omega));clear hd;go_wp2;refine⟨⟨n/16,k-1,gS (n%16)::D,by go_num,by simp;omega,by simp;omega,?_,?_,?_,?_⟩,by simp[intOf];omega⟩
   ·apply Classical.byContradiction;intro hc;(obtain rfl:k=1:=by omega);omega
   ·obtain⟨k',rfl⟩:∃k',k=k'+1:=⟨k-1,by omega⟩;rw[Nat.add_sub_cancel,Nat.div_lt_iff_lt_mul (by decide),<-Nat.pow_succ];exact hn
   ·show _=_;obtain⟨k',rfl⟩:∃k',k=k'+1:=⟨k-1,by omega⟩;rw[hx.out,Nat.add_sub_cancel,fR,if_neg (by omega)];simp
   ·have:=HA.out;rw[hj] at this;have e:=HE.out;unfold ph at e;rw[e];exact this
  ·have hd:=tC n (by omega);unfold ph at hd;have HA:=IA (ar.push (gS n) (by omega));have A8:=λW=>C6 W w.heap.size j A0;have A1:=(ar.push (gS n) (by omega));rw[hj] at A1;have A5:=A1.text (65-j) (65-j) (by simp;omega);rw[show 65-(gS n::D).length=j by simp;omega] at A5;(have HR:Hid (fR 16 U=gS n::D):=by show _=_;obtain⟨k',rfl⟩:∃k',k=k'+1:=⟨k-1,by omega⟩;rw[hx.out,fR,if_pos (by omega)];rfl);have A6:=A1.b;clear HA;go_wp2;rw[HR.out];go_ret2;exact⟨rfl,A6⟩
theorem oY (U:Nat)(w:K0)(hU:U<18446744073709551616)(h:Tz w):Mz I3 194 #[IR Rr (U:Int),IR Kf 16] w λe w'=>e=Kx (ID ⟨(fR 16 U).toArray⟩)/\Below w.heap.size w w':=by
 go_enter func194,ntmps194;go_wp2_with fail;refine(oR U _ hU h).mono ?_;rintro e w1 ⟨rfl,hb⟩;go_wp2;go_ret;exact⟨rfl,hb⟩
theorem vj (U:Nat)(w:K0)(hU:U<18446744073709551616)(h:Tz w):Mz I3 145 #[IR Rr (U:Int),IR Kf 16] w λe w'=>e=Kx (ID ⟨(fR 16 U).toArray⟩)/\Below w.heap.size w w':=by
 go_enter func145,ntmps145;go_wp2_with fail;refine(oY U _ hU h).mono ?_;rintro e w1 ⟨rfl,hb⟩;go_wp2;go_ret;exact⟨rfl,hb⟩
theorem ER (c:Nat):Lib.repeatL [48] c=Nd c 48:=by
 induction c with
 | zero=>rfl
 | succ c ih =>simp[Lib.repeatL,List.replicate_succ] at ih ⊢;exact ih
theorem xz (s:ByteArray)(w:K0)(hs:s.size<=9223372036854775807)(h:Tz w):Mz I3 100 #[ID s] w λe w'=>e=Kx (ID ⟨(dj 16 (JG s.data.toList)).toArray⟩)/\Below w.heap.size w w':=by
 go_enter func100,ntmps100;go_wp2;go_loop [3,8] (λhh i=>∃k:Nat,k<=s.size/\i=IR Kf k/\hh=IR Rr ((JG (s.data.toList.take k):Nat):Int)) (λ_ i=>s.size-(intOf i).toNat);case atStart=>exact⟨0,Ok _,rfl,rfl⟩
 case round =>
  obtain⟨k,hk,rfl,rfl⟩:=hrel;by_cases hlt:k<s.size
  ·have A0:=Cn (s.data.toList.take k);(have HX:Hid (JG (s.data.toList.take (k+1))=qx (JG (s.data.toList.take k)) s[k]):=by show _=_;rw[cV s k hlt,B0]);obtain⟨F,hF⟩:=IG (JG (s.data.toList.take k));rw[hF] at A0 HX ⊢;have A1:=CL F s[k] A0;(have A4:IntKind.u64.wrap (s[k].toNat:Int)=(s[k].toNat:Int):=by rw[IntKind.wrap_u64];have:=s[k].toNat_lt;omega);rw[<-A4] at A1;obtain⟨F2,A7⟩:=IG (qx F s[k]);rw[A7] at HX A1;have HS:=IA A1;clear A1 A4;go_wp2;exact⟨⟨k+1,by omega,by go_num,by rw[HS.out,HX.out]⟩,by simp[intOf];omega⟩
  ·(obtain rfl:k=s.size:=by omega);rw[List.take_of_length_le (by rw[Lw];exact Lz _)];have hl:=Cn s.data.toList;obtain⟨F,hF⟩:=IG (JG s.data.toList);rw[hF] at hl ⊢;have hp:=Do 15 F (by omega);have hm:=Ab 16 F;have hq:=B8 16 F (by omega);have HP:=IA hp;clear hp;go_wp2_with fail;refine(vj F _ hl h).mono ?_;rintro e w1 ⟨rfl,A3⟩;obtain⟨M,hM⟩:=IG (fR 16 F);rw[hM] at hm hq HP ⊢;go_wp2_with fail;rw[show(16:Int)-(M.length:Int)=((16-M.length:Nat):Int) by omega];have A2:=strings_Repeat ⟨#[48]⟩ (16-M.length) w1 (by omega) (by show 1*_<=_;omega);rw[show(⟨#[48]⟩:ByteArray).data.toList=[48] from rfl,ER] at A2;refine A2.mono ?_;rintro e w2 ⟨rfl,A5⟩;clear A2;obtain⟨Z,hZ⟩:=IG (Nd (16-M.length) (48:UInt8));(have A8:Z.length<=16:=by rw[<-hZ];simp);(have A6:Hid (Z++M=dj 16 F):=by have:=HP.out;rw[show 15+1-M.length=16-M.length by omega,hZ] at this;exact this);rw[hZ];clear hZ HP;go_wp2;go_ret;refine⟨eM ?_,A3.trans (A5.mono A3.size)⟩;rw[hF,<-A6.out];apply NO;simp[MA]
def bX (body:List UInt8):List UInt8:=34::dj 16 (JG body)++[34]
theorem pA (body:List UInt8)(w:K0)(hb:body.length<1000000)(h:Tz w) :
 Mz I3 95 #[ID ⟨body.toArray⟩] w λe w'=>e=Kx (ID ⟨(bX body).toArray⟩)/\Below w.heap.size w w':=by
 go_enter func95,ntmps95;go_wp2_with fail;refine(xz ⟨body.toArray⟩ _ (by rw[Lw];simp;omega) h).mono ?_;rintro e w1 ⟨rfl,A1⟩;obtain⟨H,hH⟩:=IG (dj 16 (JG body));have A0:H.length=16:=by rw[<-hH];exact oJ 16 _
 have HH:=IA hH;rw[show(ByteArray.mk body.toArray).data.toList=body from rfl,hH];have hs:(⟨H.toArray⟩:ByteArray).size=16:=by rw[Lw];exact A0
 clear hH A0;go_wp2;go_ret;refine⟨eM ?_,A1⟩;unfold bX;rw[HH.out];apply NO;simp[MA]
theorem GP (n:Nat)(w:K0)(h:n<1000000000000000)(hT:J8 w) :
 Mz I3 13 #[IR Kf n] w λe w'=>e=Kx (ID ⟨(J1 n).toArray⟩)/\Below w.heap.size w w':=by
 refine(strconv_Itoa n (by omega) (by omega) w hT.tab).mono ?_;rintro e w' ⟨rfl,k,os,rfl⟩;refine⟨eM ?_,Lib.below_grow _ _ (Lz _) _ _⟩;unfold Lib.itoa;rw[if_neg (by omega)];rfl
theorem mD (k:Nat):∀n:Nat,n<10 ^ (k+1)->(J1 n).length<=k+1:=by
 induction k with
 | zero =>intro n h;rw[Lib.decDigits_one (by omega)];simp
 | succ k ih =>
   intro n h;rw[J1];split
   ·simp
   ·rw[Lo];have:=ih (n/10) (by rw[Nat.pow_succ] at h;omega);simp only[L2];omega
theorem gx (b:List UInt8):(bX b).length=18:=by simp[bX,oJ]
theorem rX (a b:ByteArray)(h:a.size+b.size<=1000000):∀w:K0,(Op.stringOp .add a b).run I3 w=.ok (ID (a++b)) w:=λw=>run_string_add_sum w a b (by omega)
structure J9 where
 name:List UInt8
 value:List UInt8
def fE (f:J9):List L3:=[ID ⟨f.name.toArray⟩,ID ⟨f.value.toArray⟩]
def cN (l:List J9):List L3:=l.flatMap fE
def aH (f:J9):List UInt8:=f.name++[58,32]++f.value++[13,10]
def aL (told:Nat)(fs:List J9)(body:List UInt8):List UInt8:=J1 told++[13,10]++fs.flatMap aH++[13,10]++body
theorem xg (l:List J9)(i:Nat)(v:J9)(h:l[i]?=IH v)(j:Nat)(hj:j<2):(cN l)[i*2+j]?=(fE v)[j]?:=by
 induction l generalizing i with
 | nil=>simp at h
 | cons a l ih =>
   simp only[cN,Pu];cases i with
   | zero =>simp at h;subst h;rw[List.getElem?_append_left (by simp[fE];omega)];simp
   | succ i =>rw[List.getElem?_append_right (by simp[fE];omega)];(have e:(i+1)*2+j-(fE a).length=i*2+j:=by simp[fE];omega);rw[e];exact ih i (by simpa using h)
theorem yp {vs:L3}{l:List J9}(h:w.ownsRow 0 124 2 vs l.length (cN l))(i:Nat)(v:J9)(hi:l[i]?=IH v) :
 ∃g cap,vs=J0 (IH ⟨g,0,IF⟩) l.length cap/\l.length<=cap/\cap<=N6/\g<w.heap.size/\(∀j,w.frozen? ⟨g,j,IF⟩=Mu) /\
  w.cell? ⟨g,i*2,IF⟩=IH (ID ⟨v.name.toArray⟩)/\w.cell? ⟨g,i*2+1,IF⟩=IH (ID ⟨v.value.toArray⟩):=by
 have A3:i<l.length:=(LN.1 hi).1;rcases h.2 with⟨_,h0⟩|⟨g,cap,A2,hv,_,hg,hn,hm,hs,A1⟩
 ·omega
 ·refine⟨g,cap,hv,hn,hm,(gL hg),λj=>by simp[Mb,hg],?_⟩;(have A0:∀j,j<2->w.cell? ⟨g,i*2+j,IF⟩=(fE v)[j]?:=by intro j hj;rw[<-xg l i v hi j hj,<-A1,K2 (by omega)];simp[Jx,hg]);exact⟨A0 0 (by omega),A0 1 (by omega)⟩
theorem uB (l:List UInt8):R0 ⟨l.toArray⟩=LO l:=by simp[R0,LO]
theorem byteCells_append (a b:List UInt8):LO (a++b)=LO a++LO b:=by simp[LO]
structure Tx (w0:K0)(a b:Nat)(told:Nat)(fs:L3)(body:List UInt8)(t:List UInt8)(w:K0):Prop where
 low:Below w0.heap.size w0 w
 h0:w0.heap.size<=a
 ab:a<b
 blk:w.heap[a]?=IH (K1 #[IR Kf told,fs,ID ⟨body.toArray⟩] 80 (0,0))
 Va:Lib.IsBuilder 118 5 b b (LO t) w
 sz:b<w.heap.size
theorem oZ {T e B b:Nat}{bs:List L3}{x:K0}(h:Lib.IsBuilder T e B b bs w)(hb:Below w.heap.size w x):Lib.IsBuilder T e B b bs x:=by
 rcases h with⟨h0,v,h1,h2,h3⟩|⟨h0,v,h1,h2,h3⟩
 ·exact L1 ⟨h0,v,(hb.block _ (gL h1)).trans h1,dH h2 hb,h3⟩
 ·exact Of ⟨h0,v,(hb.block _ (gL h1)).trans h1,dH h2 hb,h3⟩
theorem Tx.below {a b:Nat}{x:K0}(h:Tx w0 a b told fs body t w)(hb:Below w.heap.size w x):Tx w0 a b told fs body t x :=
 ⟨h.low.trans (hb.mono h.low.size),h.h0,h.ab,(hb.block a (by have:=h.ab;have:=h.sz;omega)).trans h.blk,oZ h.Va hb,Ln h.sz hb.size⟩
theorem sj (l:List J9)(hf:∀f∈l,f.name.length<1000/\f.value.length<1000):(l.flatMap aH).length<=l.length*2004:=by
 induction l with
 | nil=>simp
 | cons a l ih =>have h1:=hf a (by simp);have h2:=ih (λf h=>hf f (by simp[h]));simp only[Pu,Lo,L4,aH,Mn];omega
theorem Tx.write {a b:Nat}(h:Tx w0 a b told fs body t w)(s:List UInt8)(hl:t.length+s.length<=140737488355328) :
 Mz I3 50 #[N1 (IH ⟨b,0,IF⟩),ID ⟨s.toArray⟩] w λe w'=>(∃v,e=Kx v)/\Tx w0 a b told fs body (t++s) w':=by
 refine(Builder_WriteString b b (LO t) ⟨s.toArray⟩ w h.Va (by rw[Lib.byteCells_length,Lw];simpa using hl) (R1 h.sz)).mono ?_;rintro e w' ⟨rfl,hB,hb⟩;refine⟨⟨_,rfl⟩,⟨h.low.trans (hb.mono (by have:=h.h0;have:=h.ab;omega)),h.h0,h.ab,(hb.block a h.ab).trans h.blk,?_,Ln h.sz hb.size⟩⟩;rw[uB,<-byteCells_append] at hB;exact Of hB
theorem D4 (n:Nat)(h:n<100000):(J1 n).length<=5:=mD 4 n h
theorem sM (told:Nat)(fs:L3)(l:List J9)(body:List UInt8)(w:K0)(hT:J8 w)(ht:told<100000)
 (hF:w.ownsRow 0 124 2 fs l.length (cN l))(hl:l.length<1000)(hf:∀f∈l,f.name.length<1000/\f.value.length<1000)(hb:body.length<1000000) :
 Mz I3 31 #[R2 #[IR Kf told,fs,ID ⟨body.toArray⟩]] w λe w'=>e=Kx (ID ⟨(aL told l body).toArray⟩)/\Below w.heap.size w w':=by
 have A1:∃a c,fs=J0 a l.length c:=by
  rcases hF.2 with⟨rfl,h0⟩|⟨g,A6,Af,rfl,_⟩
  ·rw[h0];exact⟨_,_,rfl⟩
  ·exact⟨_,_,rfl⟩
 have HF:Hid (w.ownsRow 0 124 2 fs l.length (cN l)):=hF;clear hF;obtain⟨fa,fc,A5⟩:=A1;subst A5;go_enter func31,ntmps31;go_wp2_with fail;have A2:Below w.heap.size w ((w.alloc (K1 #[IR Kf told,J0 fa l.length fc,ID ⟨body.toArray⟩] 80)).alloc (K1 #[N1 IF,J0 IF 0 0] 118)):=((Below.refl _ _).alloc (Lz _) _).alloc (by simp) _;refine(fI told _ (by omega) (by omega) (hT.below A2)).mono ?_;rintro e w1 ⟨rfl,A0⟩;have X1:Tx w w.heap.size (w.heap.size+1) told (J0 fa l.length fc) body [] w1:=by
  have hs:=A0.size;simp at hs;refine⟨A2.trans (A0.mono (by simp;try omega)),Lz _,by omega,?_,L1 ⟨Lz _,J0 IF 0 0,?_,⟨rfl,L1 ⟨rfl,rfl⟩⟩,by simp[Value.ownBlock]⟩,by omega⟩
  ·rw[A0.block _ (by simp;try omega)];rw[LI _ _ (by simp)];exact MY _ _
  ·rw[A0.block _ (by simp;try omega)];have:=MY (w.alloc (K1 #[IR Kf told,J0 fa l.length fc,ID ⟨body.toArray⟩] 80)) (K1 #[N1 IF,J0 IF 0 0] 118);simpa using this
 rw[Int.toNat_natCast];obtain⟨D,hD⟩:=IG (J1 told);have Ag:D.length<=5:=by rw[<-hD];exact D4 told ht
 rw[hD];have HW:Hid (aL told l body=D++[13,10]++l.flatMap aH++[13,10]++body):=by rw[<-hD];rfl
 have Ab:=IA HF;clear A2 A0 hD Ab;go_wp2_with fail;refine(X1.write D (by simp;omega)).mono ?_;rintro e w2 ⟨⟨v,rfl⟩,X2⟩;clear X1;go_wp2_with fail;refine(X2.write [13,10] (by simp;omega)).mono ?_;rintro e w3 ⟨⟨v,rfl⟩,X3⟩;clear X2;have c1:w3.cell? ⟨w.heap.size,1,IF⟩=IH (J0 fa l.length fc):=by simp[Jx,X3.blk]
 have X:=IA X3;clear X3 c1;have c1:w3.cell? ⟨w.heap.size,1,IF⟩=IH (J0 fa l.length fc):=by simp[Jx,X.out.blk]
 go_wp2;go_loopw [14] (λx wx=>∃i:Nat,i<=l.length/\x=IR Kf i/\Hid (Tx w w.heap.size (w.heap.size+1) told (J0 fa l.length fc) body (D++[13,10]++(l.take i).flatMap aH) wx)) (λx _=>l.length-(intOf x).toNat);case atStart=>exact⟨0,by omega,rfl,by simpa using X⟩
 case round =>
  obtain⟨i,hi,rfl,X⟩:=hrel;by_cases hlt2:i<l.length
  ·obtain⟨v,hv⟩:∃v,l[i]?=IH v:=⟨l[i],Nx hlt2⟩;obtain⟨A4,A8⟩:=hf v (List.mem_of_getElem? hv);obtain⟨g,A6,e1,hn,hm,hg,Ah,c0,c1⟩:=yp (dH HF.out (X.out.low.mono (Lz _))) i v hv;cases e1;have HV:Hid (l[i]?=IH v):=hv;(have A7:(i:Int)<(l.length:Int):=by omega);(have Ae:(⟨v.name.toArray⟩:ByteArray).size<1000:=by rw[Lw];simpa using A4);(have A9:(⟨v.value.toArray⟩:ByteArray).size<1000:=by rw[Lw];simpa using A8);clear hv;go_wp2_with fail;(have et:(⟨v.name.toArray⟩++⟨#[58,32]⟩++⟨v.value.toArray⟩++⟨#[13,10]⟩:ByteArray)=⟨(aH v).toArray⟩:=by apply NO;simp[MA,aH]);rw[et];have A3:=sj (l.take i) (λf h=>hf f (List.mem_of_mem_take h));(have Ad:(l.take i).length<=1000:=by rw[MD];omega);(have Ac:(aH v).length<=2004:=by simp only[aH,Lo,L4,Mn];omega);refine((X.out.below ((Below.refl _ _).alloc (Lz _) _)).write (aH v) (by simp only[Lo,L4,Mn];omega)).mono ?_;rintro e w4 ⟨⟨v',rfl⟩,X4⟩;(have X5:Hid (Tx w w.heap.size (w.heap.size+1) told (J0 (IH ⟨g,0,IF⟩) l.length fc) body (D++[13,10]++(l.take (i+1)).flatMap aH) w4):=by(have e2:(l.take (i+1)).flatMap aH=(l.take i).flatMap aH++aH v:=by rw[List.take_add_one,HV.out];simp);rw[e2,<-Lq];exact X4);clear X4 X et A3;go_wp2;refine⟨⟨i+1,by omega,rfl,X5⟩,?_⟩;simp[intOf];omega
  ·(obtain rfl:i=l.length:=by omega);clear hlt2;rw[List.take_length] at X;have A3:=sj l hf;go_wp2_with fail;refine(X.out.write [13,10] (by simp only[Lo,L4,Mn];omega)).mono ?_;rintro e w5 ⟨⟨v5,rfl⟩,X5⟩;(have c2:w5.cell? ⟨w.heap.size,2,IF⟩=IH (ID ⟨body.toArray⟩):=by simp[Jx,X5.blk]);have X6:=IA X5;clear X X5;go_wp2_with fail;refine(X6.out.write body (by simp only[Lo,L4,Mn];omega)).mono ?_;rintro e w7 ⟨⟨v7,rfl⟩,X7⟩;clear X6 c2;rw[<-HW.out] at X7;go_wp2_with fail;refine(Builder_String_any (w.heap.size+1) (w.heap.size+1) _ _ X7.Va (R1 X7.sz)).mono ?_;rintro e w8 ⟨rfl,Aa⟩;go_wp2;go_ret;exact⟨rfl,X7.low.trans (Aa.mono (by omega))⟩
def dO (p L:List UInt8)(k:Nat):Prop:=p.isPrefixOf (L.drop k)=Pa/\∀j,j<k->p.isPrefixOf (L.drop j)=Mu
theorem dO.base (p L:List UInt8):dO p (p++L) 0:=⟨by simp,λj h=>absurd h (Nat.not_lt_zero _)⟩
theorem dO.step {a:UInt8}(h:dO p L k)(hn:p.isPrefixOf (a::L)=Mu):dO p (a::L) (k+1):=by
 refine⟨by simpa using h.1,λj hj=>?_⟩;cases j with
 | zero=>exact hn
 | succ j=>simpa using h.2 j (by omega)
theorem dO.skip {c:List UInt8}(h:dO (13::p) L k)(hc:∀x∈c,x≠13):dO (13::p) (c++L) (c.length+k):=by
 induction c with
 | nil=>simpa using h
 | cons a c ih =>
   have:=(ih (λx hx=>hc x (by simp[hx]))).step (a:=a) (by
    have:((13:UInt8)==a)=Mu:=by simp;exact λe=>hc a (by simp) e.symm
    simp[N4,this])
   rw[show(a::c).length+k=c.length+k+1 by simp;omega];exact this
theorem sd (L:List UInt8)(j m:Nat):((⟨L.toArray⟩:ByteArray).extract j (j+m)).toList=(L.drop j).take m:=by
 rw[ByteArray.toList_eq,Lib.extract_data];simp
theorem tX :p.isPrefixOf L=Pa ↔ L.take p.length=p:=by
 rw[List.isPrefixOf_iff_prefix,List.prefix_iff_eq_take];exact eq_comm
theorem nh (L p:List UInt8)(j m:Nat)(hm:m=p.length):((⟨L.toArray⟩:ByteArray).extract j (j+m)).toList=p ↔ p.isPrefixOf (L.drop j)=Pa:=by
 rw[sd,hm,tX]
theorem dO.head (h:dO [13,10,13,10] L k):uV ⟨L.toArray⟩ k:=by
 refine⟨?_,(nh L [13,10,13,10] k 4 rfl).2 h.1,λj hj e=>?_⟩
 ·have:=congrArg List.length (tX.1 h.1);rw[Lw];simp at this;simp;omega
 ·have:=(nh L [13,10,13,10] j 4 rfl).1 e;rw[h.2 j hj] at this;cases this
def OL (f:J9):Prop:=f.name≠[]/\(∀c∈f.name,c≠13)/\∀c∈f.value,c≠13
theorem yR (fs:List J9)(body:List UInt8)(h:∀f∈fs,OL f):dO [13,10,13,10] ([13,10]++fs.flatMap aH++[13,10]++body) (fs.flatMap aH).length:=by
 induction fs with
 | nil=>exact dO.base _ _
 | cons f fs ih =>
   have hf:=h f (by simp);have i1:=ih (λg hg=>h g (by simp[hg]));have i2:=i1.skip (c:=f.name++[58,32]++f.value) (by
    intro x hx;simp only[Q2] at hx;rcases hx with(hx|hx)|hx
    ·exact hf.2.1 x hx
    ·revert hx;revert x;decide
    ·exact hf.2.2 x hx)
   have i3:=i2.step (a:=10) rfl;have i4:=i3.step (a:=13) (by
    obtain⟨a,l,e⟩:∃a l,f.name=a::l:=by
     cases hh:f.name with
     | nil=>exact absurd hh hf.1
     | cons a l=>exact⟨a,l,rfl⟩
    (have ha:((13:UInt8)==a)=Mu:=by simp;exact λe'=>hf.2.1 a (by rw[e];simp) e'.symm);rw[e]
    simp[N4,ha])
   (have e1:([13,10]++(f::fs).flatMap aH++[13,10]++body)=13::10::(f.name++[58,32]++f.value++([13,10]++fs.flatMap aH++[13,10]++body)):=by simp[aH]);(have e2:((f::fs).flatMap aH).length=(f.name++[58,32]++f.value).length+(fs.flatMap aH).length+1+1:=by simp[aH];omega);rw[e1,e2];exact i4
theorem Cd (n:Nat):∀x∈J1 n,x≠13:=λx hx=>(lY n x hx).1
theorem qg (told:Nat)(fs:List J9)(body:List UInt8)(h:∀f∈fs,OL f):dO [13,10,13,10] (aL told fs body) ((J1 told).length+(fs.flatMap aH).length):=by
 have:=(yR fs body h).skip (c:=J1 told) (Cd told);unfold aL;simpa using this
theorem yl (pre:List J9)(name value tail:List UInt8)(h:∀f∈pre,OL f/\f.name.head?≠name.head?)(hn:name≠[]):dO (13::10::(name++[58,32])) ([13,10]++pre.flatMap aH++(name++[58,32]++value++tail)) (pre.flatMap aH).length:=by
 induction pre with
 | nil =>have:=dO.base (13::10::(name++[58,32])) (value++tail);simpa using this
 | cons f pre ih =>
   have⟨hf,hh⟩:=h f (by simp);have i1:=ih (λg hg=>h g (by simp[hg]));have i2:=i1.skip (c:=f.name++[58,32]++f.value) (by
    intro x hx;simp only[Q2] at hx;rcases hx with(hx|hx)|hx
    ·exact hf.2.1 x hx
    ·revert hx;revert x;decide
    ·exact hf.2.2 x hx)
   have i3:=i2.step (a:=10) rfl;have i4:=i3.step (a:=13) (by
    obtain⟨a,l,e⟩:∃a l,f.name=a::l:=by
     cases hh:f.name with
     | nil=>exact absurd hh hf.1
     | cons a l=>exact⟨a,l,rfl⟩
    obtain⟨b,r,e'⟩:∃a l,name=a::l:=by
     cases hh:name with
     | nil=>exact absurd hh hn
     | cons a l=>exact⟨a,l,rfl⟩
    (have ha:(b==a)=Mu:=by simp;intro A0;rw[e,e',A0] at hh;exact hh rfl);rw[e,e']
    simp[N4,ha])
   (have e1:([13,10]++(f::pre).flatMap aH++(name++[58,32]++value++tail))=13::10::(f.name++[58,32]++f.value++([13,10]++pre.flatMap aH++(name++[58,32]++value++tail))):=by simp[aH]);(have e2:((f::pre).flatMap aH).length=(f.name++[58,32]++f.value).length+(pre.flatMap aH).length+1+1:=by simp[aH];omega);rw[e1,e2];exact i4
theorem xB (L:List UInt8)(j:Nat)(h:j<(⟨L.toArray⟩:ByteArray).size):(⟨L.toArray⟩:ByteArray)[j]=L[j]'(by rw[Lw] at h;simpa using h):=by
 simp[ByteArray.getElem_eq_getElem_data]
theorem xv (A v R:List UInt8):(⟨(A++v++R).toArray⟩:ByteArray).extract A.length (A.length+v.length)=⟨v.toArray⟩:=by
 apply NO;apply Array.toList_inj.1;rw[Lib.extract_data];simp
theorem dJ (told:Nat)(fs:List J9)(body:List UInt8)(w:K0)(h1:100<=told)(h2:told<1000)(hs:(aL told fs body).length<=1000000000) :
 Mz I3 14 #[ID ⟨(aL told fs body).toArray⟩] w λe w'=>e=Kx (IR Kf (told:Nat))/\w'=w:=by
 have hl:(J1 told).length=3:=by rw[Lib.decDigits_length];exact Lib.nDigits_unique 2 told h1 h2
 have hd:=mY told;have ht:(aL told fs body).take 3=J1 told:=by unfold aL;rw[Lq,Lq,Lq,<-hl];simp
 have hx:((⟨(aL told fs body).toArray⟩:ByteArray).extract 3 5).toList=[13,10]:=by rw[show(5:Nat)=3+2 from rfl,sd];unfold aL;rw[Lq,Lq,Lq,List.drop_append,hl,List.drop_of_length_le (by omega)];simp
 have hz:(⟨(aL told fs body).toArray⟩:ByteArray).size=(aL told fs body).length:=by rw[Lw]
 have:=FB ⟨(aL told fs body).toArray⟩ w (by rw[hz];unfold aL;simp;omega) (by rw[hz];omega) hx (by show((aL told fs body).take 3).all gM=Pa;rw[ht];exact hd.1);refine this.mono ?_;rintro e w' ⟨rfl,rfl⟩;refine⟨?_,rfl⟩;show Kx (IR Kf ((gV ((aL told fs body).take 3):Nat):Int))=_;rw[ht,hd.2.1]
theorem F0 (told:Nat)(fs:List J9)(body:List UInt8)(w:K0)(h:∀f∈fs,OL f)(hs:(aL told fs body).length<=1000000000) :
 Mz I3 15 #[ID ⟨(aL told fs body).toArray⟩] w λe w'=>e=Kx (ID ⟨body.toArray⟩)/\w'=w:=by
 have hh:=(qg told fs body h).head;refine(FC _ w (by rw[Lw];simpa using hs) _ hh).mono ?_;rintro e w' ⟨rfl,rfl⟩;refine⟨?_,rfl⟩;have:=xv (J1 told++[13,10]++fs.flatMap aH++[13,10]) body [];rw[Q1] at this;have e1:(J1 told).length+(fs.flatMap aH).length+4=(J1 told++[13,10]++fs.flatMap aH++[13,10]).length:=by simp;omega
 have e2:(⟨(aL told fs body).toArray⟩:ByteArray).size=(J1 told++[13,10]++fs.flatMap aH++[13,10]).length+body.length:=by rw[Lw];simp[aL];omega
 rw[e1,e2];exact congrArg (λx=>Kx (ID x)) this
theorem kJ (told:Nat)(pre post:List J9)(name value body:List UInt8)(w:K0)(h:∀f∈pre++⟨name,value⟩::post,OL f)(hp:∀f∈pre,f.name.head?≠name.head?)(hn:name.length<=1000)(hs:(aL told (pre++⟨name,value⟩::post) body).length<=1000000000) :
 Mz I3 16 #[ID ⟨(aL told (pre++⟨name,value⟩::post) body).toArray⟩,ID ⟨name.toArray⟩] w λe w'=>e=Kx (ID ⟨value.toArray⟩)/\w'=w:=by
 have hh:=(qg told (pre++⟨name,value⟩::post) body h).head;have hc:=h ⟨name,value⟩ (by simp);obtain⟨A,hA⟩:=exj (J1 told++[13,10]++pre.flatMap aH++name++[58,32]);obtain⟨R,hR⟩:=exj ([10]++post.flatMap aH++[13,10]++body);have hT:aL told (pre++⟨name,value⟩::post) body=A++value++13::R:=by rw[hA,hR];simp[aL,aH]
 have A0:A.length=(J1 told).length+(pre.flatMap aH).length+(name.length+4):=by rw[hA];simp;omega
 have hF:dO (13::10::(name++[58,32])) (A++value++13::R) ((J1 told).length+(pre.flatMap aH).length):=by have:=(yl pre name value (13::R) (λf hf=>⟨h f (by simp[hf]),hp f hf⟩) hc.1).skip (c:=J1 told) (Cd told);rw[hA];simpa using this
 have A1:((pre++⟨name,value⟩::post).flatMap aH).length=(pre.flatMap aH).length+(name.length+value.length+4)+(post.flatMap aH).length:=by simp[aH];omega
 rw[A1] at hh;rw[hT] at hs hh ⊢;have A2:(⟨(A++value++13::R).toArray⟩:ByteArray).size=A.length+value.length+1+R.length:=by rw[Lw];simp;omega
 have:=DJ ⟨(A++value++13::R).toArray⟩ name w (by rw[Lw];simpa using hs) hn (name.length+4) rfl _ hh ((J1 told).length+(pre.flatMap aH).length) (by omega)
  ((nh _ ([13,10]++name++[58,32]) _ _ (by simp)).2 (by simpa using hF.1)) (λj hj e=>by
    have:=(nh _ ([13,10]++name++[58,32]) _ _ (by simp)).1 e;have h0:=hF.2 j hj;simp only[List.cons_append,List.nil_append] at this h0;rw[h0] at this
    cases this) (A.length+value.length) (by omega) (by omega)
  (λj hj h1 h2=>by
    rw[xB];rw[List.getElem_append_left (by simp;omega),List.getElem_append_right (by omega)]
    exact hc.2.2 _ (List.getElem_mem _))
  (λhj=>by
    rw[xB];rw[List.getElem_append_right (by simp)]
    simp)
 refine this.mono ?_;rintro e w' ⟨rfl,rfl⟩;refine⟨?_,rfl⟩;rw[<-A0,xv]
open Go.RowKit
attribute [local go_sem ↓] eP
attribute [local go_sem] ff
theorem su (w:K0){a:Act}{K:Act->K0->Prop}(d s:Operand)(t t':RK)
 (ho:o.op=.call { callee:=.builtin .copy,args:=#[d,s],argTypes:=#[t,t'] })(v u:L3)(hd:a.eval d=v)(hs:a.eval s=u)
 (hr:(NX #[t,t'] o.type #[v,u]).run P w=.ok v' w')(h:K (a.put o.dst v') w'):o.wp P a w K Q:=by
 unfold Oper.wp execOp;simp only[ho,resolve,invoke,builtin,Sem.run_bind,Sem.run_pure,Result.andThen_ok,List.map_toArray,List.map_cons,List.map_nil,hd,hs,hr];exact h
theorem iI (w:K0){ops:Array Oper}{rest:List Oper}{a:Act}(hgd:o.guard=IF)(d s:Operand)(t t':RK)
 (ho:o.op=.call { callee:=.builtin .copy,args:=#[d,s],argTypes:=#[t,t'] })(v u:L3)(hd:a.eval d=v)(hs:a.eval s=u)
 (hr:(NX #[t,t'] o.type #[v,u]).run P w=.ok v' w')(h:wpList P ops Q rest (a.put o.dst v') w'):wpList P ops Q (o::rest) a w :=
 wpList_plain hgd λ_ hK=>su w d s t t' ho v u hd hs hr (hK _ _ h)
theorem CF:(prog.info? 143).map (λi=>(i.zero,i.size,i.bytes))=IH (IH (N1 IF),1,8):=by kernel_rfl
theorem xW:(prog.info? 143).map (·.size)=IH 1:=by kernel_rfl
theorem jN (h:w.ownsRow 0 e 1 (J0 (IH ⟨g,0,IF⟩) n cap) n xs) :
 xs.length=n/\n<=cap/\cap<=9223372036854775807/\g<w.heap.size/\∃cur,w.heap[g]?=IH (K1 cur e (0,0))/\cur.size=cap/\cur.toList.take n=xs/\(∀j v,xs[j]?=IH v->w.cell? ⟨g,j,IF⟩=IH v) /\
  (∀j,j<cap->(w.cell? ⟨g,j,IF⟩).isSome=Pa)/\∀j,w.frozen? ⟨g,j,IF⟩=Mu:=by
 rcases h.2 with⟨h0,_⟩|⟨g',A1,cur,hv,_,hg,hn,hm,hs,A0⟩
 ·cases h0
 ·cases hv;rw[On] at hs A0;(have hl:xs.length=n:=by rw[h.1,On]);refine⟨hl,hn,by simpa [N6] using hm,(gL hg),cur,hg,hs,A0,?_,?_,?_⟩
  ·intro j v hv;(have hj:j<n:=by rw[<-hl];exact(LN.1 hv).1);rw[<-A0,K2 hj] at hv;simpa [Jx,hg] using hv
  ·intro j hj;simp only[Jx,hg];rw[Nm (by omega)];rfl
  ·intro j;simp[Mb,hg]
theorem uQ (es:L3)(n:Nat)(xs:List L3)(vb:Nat)(x:L3)(w:K0)(h:w.ownsRow 0 143 1 es n xs)(hx:x.oneCell'=Pa)(hv:w.heap[vb]?=IH (K1 #[x] 143 (0,0)))(hn:n<1000000) :
 Mz I3 241 #[es,IR Kf n,J0 (IH ⟨vb,0,IF⟩) 1 1] w λe w'=>∃g cap,e=Kx (J0 (IH ⟨g,0,IF⟩) (n+1) cap) /\
  w'.ownsRow 0 143 1 (J0 (IH ⟨g,0,IF⟩) (n+1) cap) (n+1) (xs++[x])/\(es.ownBlock=IH g\/w.heap.size<=g)/\Off (λk=>es.ownBlock=IH k) w w':=by
 obtain⟨i0,A6,A2,A4,A5⟩:=Rg CF;have HR:Hid (w.ownsRow 0 143 1 es n xs):=h;have HV:=IA hv;rcases h.2 with⟨rfl,rfl⟩|⟨g0,c,A8,rfl,_,_,A9,_⟩
 all_goals(
  clear h hv;go_enter func241,ntmps241;go_wp2_with (at_builtin;refine wpList_append_lies _ rfl _ _ 135 rfl 0 143 i0 _ 1 8 Mp A6 A2 A4 A5 rfl (by omega) _ _ xs rfl HR.out ⟨vb,0,IF⟩ 1 1 [x] rfl rfl (ON (cs:=#[x]) HV.out) (by simpa using hx) (by omega) (by simp only[N6];omega) (by omega) (by omega) _ rfl ?_;intro g cap w1 A0 A1 A3 A7)
  all_goals(
   go_ret;refine⟨g,cap,rfl,A0,?_,(Off.refl _ w).grown A1 (λk hk=>L1 hk)⟩;rcases A3 with h1|h1
   ·exact L1 h1
   ·right;omega))
theorem isSome_setCells (b:Nat)(vs:List L3)(o:Nat)(w:K0)(h:∀j,j<vs.length->(w.cell? ⟨b,o+j,IF⟩).isSome=Pa)(k:Nat)(hk:(w.cell? ⟨b,k,IF⟩).isSome=Pa):((w.setCells b o vs).cell? ⟨b,k,IF⟩).isSome=Pa:=by
 by_cases hin:o<=k/\k<o+vs.length
 ·have:=World.cell?_setCells_in b vs o w h (k-o) (by omega);rw[show o+(k-o)=k by omega] at this;rw[this];rfl
 ·rw[N0 b vs o w ⟨b,k,IF⟩ (λ_ _=>by show k<o\/o+vs.length<=k;omega)];exact hk
theorem Off.setCells (g:Nat)(hg:S g\/w.heap.size<=g):∀(vs:List L3) (o:Nat) (x:K0),Off S w x->Off S w (x.setCells g o vs)
 | [],_,_,h=>h
 | v::r,o,_,h=>Off.setCells g hg r (o+1) _ (h.set g o v hg)
theorem B4 {x:K0}(cur:Array L3)(hg:x.heap[g]?=IH (K1 cur e (0,0)))(hs:cur.size=cap)(hn:n<=cap)(hc:cap<=9223372036854775807)(hl:xs.length=n)(hx:∀j,j<n->cur[j]?=xs[j]?) :
 x.ownsRow 0 e 1 (J0 (IH ⟨g,0,IF⟩) n cap) n xs:=by
 refine⟨by omega,Of ⟨g,cap,cur,rfl,Ok _,hg,hn,by simpa [N6] using hc,by omega,?_⟩⟩;apply List.ext_getElem?;intro j;rw[On];by_cases hj:j<n
 ·rw[K2 hj,<-hx j hj];simp
 ·rw[LS (by simp;omega),LS (by omega)]
theorem ey (g:Nat):∀(vs:List L3) (o:Nat) (w:K0) (cur:Array L3) (t:RK) (fr:Nat×Nat),w.heap[g]?=IH (K1 cur t fr)->∃cur',(w.setCells g o vs).heap[g]?=IH (K1 cur' t fr)/\cur'.size=cur.size
 | [],_,_,cur,_,_,h=>⟨cur,h,rfl⟩
 | v::r,o,w,_,t,fr,h=>by
   obtain⟨cur',h1,h2⟩:=ey g r (o+1) (w.setCell ⟨g,o,IF⟩ v) _ t fr (heap_set h)
   exact⟨cur',h1,by rw[h2];simp⟩
theorem rk (g c n i vb:Nat)(xs:List L3)(x:L3)(w:K0)(h:w.ownsRow 0 143 1 (J0 (IH ⟨g,0,IF⟩) n c) n xs)(h1:∀v∈xs,v.oneCell'=Pa)(hx:x.oneCell'=Pa)(hv:w.heap[vb]?=IH (K1 #[x] 143 (0,0)))(hi:i<n)(hroom:n+1<=c)(hvb:vb≠g)(hn:n<1000000) :
 Mz I3 241 #[J0 (IH ⟨g,0,IF⟩) n c,IR Kf i,J0 (IH ⟨vb,0,IF⟩) 1 1] w λe w'=>e=Kx (J0 (IH ⟨g,0,IF⟩) (n+1) c) /\
  w'=(w.drew.setCells g (i+1) (xs.drop i)).setCells g i [x]:=by
 obtain⟨Ae,Ah,Aa,Af,Ac,hg,Ad,A9,A0,A3,A6⟩:=jN h;have A7:w.cell? ⟨vb,0,IF⟩=IH x:=by simp[Jx,hv]
 have Ab:∀lb cb,(callFunc 265 #[J0 (IH ⟨vb,0,IF⟩) 1 1,J0 (IH ⟨g,i+1,IF⟩) lb cb]).run I3 w=.ok (.value (LR Mu)) w:=λlb cb=>by
  rw[run_callFunc_extern func265 (by kernel_rfl) (by kernel_rfl) (by kernel_rfl) (e:=Extern.SlicesOverlaps.overlaps #[135,135] #[4]) (by kernel_rfl),
   Lib.run_overlaps_apart w 135 4 143 Mp 1 sizeOf143 ⟨vb,0,IF⟩ ⟨g,i+1,IF⟩ 1 1 lb cb hvb 143 143 1 Ac.size (by simp[World.shape?,hv]) (by simp[World.shape?,hg]) (by omega) (by simp[Mb,hv]) (by simp[Mb,hv])]
  rfl
 have A8:(xs.drop i).length=n-i:=by rw[PC,Ae]
 have A5:∀ty dc sc,(NX #[135,135] ty #[J0 (IH ⟨g,i+1,IF⟩) (n-i) dc,J0 (IH ⟨g,i,IF⟩) (n+1-i) sc]).run I3 w.drew=.ok (goInt (xs.drop i).length) (w.drew.setCells g (i+1) (xs.drop i)):=λty dc sc =>
  run_copy_cells w.drew _ _ ty 143 g (i+1) (n-i) dc ⟨g,i,IF⟩ (n+1-i) sc (xs.drop i) Mp xW (by rw[A8];simp only[Nat.min_def];split<;>omega)
   (λj v hj=>by rw[Addr.add_lit];exact A0 (i+j) v (by rwa [OS] at hj))
   (λj hj=>A3 _ (by omega)) (λj hj=>A6 _) (λv hv=>h1 v (List.mem_of_mem_drop hv))
 obtain⟨W1,A1⟩:=exj (w.drew.setCells g (i+1) (xs.drop i));have A2:∀k,k<n+1->(W1.cell? ⟨g,k,IF⟩).isSome=Pa:=λk hk=>by rw[A1];exact isSome_setCells g (xs.drop i) (i+1) w.drew (λj hj=>A3 _ (by omega)) _ (A3 k (by omega))
 have A4:∀(W:K0),(∀x,W.cell? x=W1.cell? x)->(∀x,W.frozen? x=W1.frozen? x)->∀ty dc,(NX #[135,135] ty #[J0 (IH ⟨g,i,IF⟩) (n+1-i) dc,J0 (IH ⟨vb,0,IF⟩) 1 1]).run I3 W=.ok (goInt 1) (W.setCells g i [x]):=λW hWc hWf ty dc =>
  run_copy_cells W _ _ ty 143 g i (n+1-i) dc ⟨vb,0,IF⟩ 1 1 [x] Mp xW (by simp only[L2,Nat.min_def];split<;>omega)
   (λj v hj=>by
     rw[Addr.add_lit,hWc,A1,N0 g _ _ _ _ (λh _=>absurd h hvb)];cases j with
     | zero=>simp at hj;subst hj;exact A7
     | succ j=>simp at hj)
   (λj hj=>by rw[hWc];exact A2 _ (by simp at hj;omega)) (λj hj=>by rw[hWf,A1,World.frozen?_setCells];exact A6 _) (by simpa using hx)
 rw[<-A1] at A5;have HW:=IA A1;have Ag:¬ ((i:Int)=(n:Int)):=by omega
 have Ai:¬ (c=i+1):=by omega
 have Aj:¬ (c=i):=by omega
 clear A1 A2 A3 A6 A0 A9 Ad hg A7 h A8;go_enter func241,ntmps241;go_wp2_with (simp only[Ab]);go_region;go_wp2_with (at_builtin;refine iI _ rfl _ _ 135 135 rfl _ _ rfl rfl (A4 _ (λ_=>rfl) (λ_=>rfl) _ _) ?_);go_ret;exact⟨rfl,by rw[HW.out]⟩
end Go.Proofs.YtmehkneofinmiabGreatDoor

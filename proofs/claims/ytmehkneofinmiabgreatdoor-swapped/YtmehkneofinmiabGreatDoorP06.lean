/-part 6-/
import Derived.Test.YtmehkneofinmiabGreatDoorP05
open Go.Proofs.Tryz
open Go.Value renaming string->ID,int->IF,bool->Jx,slice->Ks,pointer->Lw,agg->MT,tuple->Nx
open Option renaming some->IH,none->J0
open Go.IntKind renaming i64->IR,u8->L5,i32->MY
open Go.Obj renaming cells->I3
open Go.World renaming cell?->J1,frozen?->LN,setCell->MA
open Go.Act renaming put->Kf
open Nat renaming le_refl->Kx,le_succ->K1,le_trans->L2,lt_of_lt_of_le->Mn
open Go renaming heap_alloc_new->K0,bodyPost_ret->Ln,Value->Lq,heap_alloc_old->LI,World->LR,wp_region_held_drew->LS,results_tmp2->Mb,wpAnyH_done->Mu,TypeId->Mz,Calls->MD
open Go.Proofs.Tryz renaming prog->K2,ntmps102->L3,underlying108->Mp,underlying95->M1,underlying80->Nd,underlying9->Nm
open Or renaming inl->Lo,inr->Lz
open Go.Ending renaming returned->Ly
open Bool renaming false->LL
open Array renaming getElem?_modify->LO
open List renaming length_append->L1
open Go.Builtin renaming append_->L4
set_option maxRecDepth 100000
set_option maxHeartbeats 8000000
namespace Go.Proofs.YtmehkneofinmiabGreatDoor
open Go.RowKit Go.MuLone
variable {P:Program}{ts:Array Mz}{T e ty:Mz}{w x:LR}{args cs:Array Lq}{es v:Lq}{b base g i n size:Nat}{l:List UInt8}{xs:List Lq}{S:Nat->Prop}{ps:List Nat}{K:List (List UInt8)}
noncomputable def kG (P:Program)(ts:Array Mz)(ty:Mz)(w:LR)(args:Array Lq):Lq×LR :=
 match (L4 ts ty args).run P w with
 | .ok v w'=>(v,w')
 | _=>(undef,w)
def vr (P:Program)(ts:Array Mz)(ty:Mz)(w:LR)(args:Array Lq):Prop:=∃v w',(L4 ts ty args).run P w=.ok v w'
theorem Ci (h:vr P ts ty w args) :
 (AZ ts ty args).run P w=.ok (kG P ts ty w args).1 (kG P ts ty w args).2:=by
 obtain⟨v,w',h⟩:=h;simp only[kG,AZ,h]
theorem DV {w':LR}(h:(L4 ts ty args).run P w=.ok v w') :
 vr P ts ty w args/\(kG P ts ty w args).1=v/\(kG P ts ty w args).2=w':=⟨⟨v,w',h⟩,by simp only[kG,h],by simp only[kG,h]⟩
theorem wU (w:LR)(t u ty e:Mz)(i:TypeInfo)(ht:P.underlying t=IH (.slice e))(hu:P.underlying u=IH .string)(hi:P.info? e=IH i)(hz:i.zero=IH (IF L5 0))(hsize:i.size=1)(hby:i.bytes=1)
 (v:Lq)(n:Nat)(xs:List Lq)(hown:w.ownsRow 0 e 1 v n xs)(s:ByteArray)(hs:0<s.size)(hb:n+s.size<=140737488355328)(v':Lq)(w':LR)(hr:(L4 #[t,u] ty #[v,ID s]).run P w=.ok v' w') :
 v'.ownBlock=v.ownBlock\/v'.ownBlock=IH w.heap.size:=by
 rcases hown.2 with⟨rfl,rfl⟩|⟨g,A0,A1,rfl,_,hg,hn,hm,hc,A2⟩
 ·have h:=run_append_nil_string (P:=P) w t u ty e i (IF L5 0) ht hu hi hz s (by omega) (by omega) (by rw[hby];omega);rw[h] at hr;injection hr with h1;rw[<-h1];exact Lz rfl
 ·by_cases hroom:n+s.size<=A0
  ·have h:=Lib.run_append_room_string (P:=P) w t u ty e i ht hu hi hsize g n A0 A1 hg s hroom (by omega);rw[h] at hr;injection hr with h1;rw[<-h1];exact Lo rfl
  ·have h:=Lib.run_append_grow_string (P:=P) w t u ty e i (IF L5 0) ht hu hi hz ⟨g,0,J0⟩ n A0 xs (by rw[hsize];exact hown.1) (hown.cells (g:=g) rfl) s (by omega) (by omega) (by rw[hby];exact growslice_fits (by omega) (by omega));rw[h] at hr;injection hr with h1;rw[<-h1];exact Lz rfl
attribute [local go_sem ↓] eP
attribute [local go_sem] Ci
theorem ki {u:LR}{off:Nat}{jr:Lq}(h:u.heap[b]?=IH (I3 ((cs.setIfInBounds off (IF MY 1)).setIfInBounds (off+4) jr) T (0,0)))(h0:cs[off]?=IH (IF MY 0)) :
 (u.setCell ⟨b,off,J0⟩ (IF MY 0)).heap[b]?=IH (I3 (cs.setIfInBounds (off+4) jr) T (0,0)):=by
 rw[heap_set h];congr 2;apply Array.ext_getElem?;intro i;have A0:=(gL h0);simp only[Array.getElem?_setIfInBounds,Array.size_setIfInBounds];by_cases e:off=i
 ·subst e;simp[A0];exact(Array.getElem?_eq_some_iff.1 h0).2.symm
 ·by_cases e4:off+4=i
  ·simp[e,e4]
  ·simp[e,e4]
theorem I4.LC (h:I4 w base v l){x:Lq}(hb:v.ownBlock≠IH b):I4 (w.setCell ⟨b,i,J0⟩ x) base v l:=by
 refine⟨h.1,?_⟩;rcases h.2 with h0|⟨g,A2,A0,hv,h1,hg,h2⟩
 ·exact Lo h0
 ·refine Lz ⟨g,A2,A0,hv,h1,?_,h2⟩;(have A1:b≠g:=λe=>by subst e;apply hb;rw[hv];rfl);rw[<-hg];simp[MA,LO,A1]
theorem GI {o:Option Nat}(h:IH g=o\/n<=g)(ho:o≠IH b)(hb:b<n):g≠b:=by
 intro e;subst e;rcases h with h|h
 ·exact ho h.symm
 ·omega
theorem jb (b off:Nat)(cs:Array Lq)(T:Mz)(t kd t0 n:Nat)(key body:List UInt8)(jr:Lq)(J:List UInt8)(w:LR)
 (hb:w.heap[b]?=IH (I3 cs T (0,0)))(h0:cs[off]?=IH (IF MY 0))(h2:cs[off+2]?=IH (IF IR t))(h4:cs[off+4]?=IH jr)(hj:I4 w 0 jr J)(hjb:jr.ownBlock≠IH b)
 (hk:kd<256)(ht:t<9223372036854775807)(hn:n<9223372036854775807)(hkl:key.length<100000)(hbl:body.length<100000)(hJ:J.length<140000000000000) :
 MD K2 123 #[Lw (IH ⟨b,off,J0⟩),MT #[IF L5 kd,IF IR t0,ID ⟨key.toArray⟩,IF IR n,ID ⟨body.toArray⟩]] w λe w'=>e=Ly (IF IR t) /\
  ∃Jk,w'.heap[b]?=IH (I3 (cs.setIfInBounds (off+4) Jk) T (0,0))/\I4 w' 0 Jk (J++bG kd t key n body)/\(Jk.ownBlock=jr.ownBlock\/∃g,Jk.ownBlock=IH g/\w.heap.size<=g)/\Off (λk=>k=b\/jr.ownBlock=IH k) w w':=by
 obtain⟨i0,At,An,Au,As⟩:=info_parts qJ;have c0:w.cell? ⟨b,off,J0⟩=IH (IF MY 0):=by simp[J1,hb,h0]
 have c2:w.cell? ⟨b,off+2,J0⟩=IH (IF IR t):=by simp[J1,hb,h2]
 have c4:w.cell? ⟨b,off+4,J0⟩=IH jr:=by simp[J1,hb,h4]
 have f0:w.frozen? ⟨b,off,J0⟩=LL:=by simp[LN,hb]
 have Ab:b<w.heap.size:=(gL hb);go_enter_defers func123,ntmps123;have a0:(w.alloc (I3 #[IF L5 kd,IF IR t0,ID ⟨key.toArray⟩,IF IR n,ID ⟨body.toArray⟩] 108)).cell? ⟨b,off,J0⟩=IH (IF MY 0):=by simp[J1,LI _ _ Ab,hb,h0]
 have z0:(w.alloc (I3 #[IF L5 kd,IF IR t0,ID ⟨key.toArray⟩,IF IR n,ID ⟨body.toArray⟩] 108)).frozen? ⟨b,off,J0⟩=LL:=by simp[LN,LI _ _ Ab,hb]
 go_wp2_with (go_at_call 60;refine(lock_free Ja ⟨b,off,J0⟩ _ a0 z0).mono ?_;rintro e w' ⟨rfl,rfl⟩);obtain⟨x,hx⟩:=exj ((w.setCell ⟨b,off,J0⟩ (IF MY 1)).alloc (I3 #[IF L5 kd,IF IR t,ID ⟨key.toArray⟩,IF IR n,ID ⟨body.toArray⟩] 108));rw[<-hx];have Am:x.heap.size=w.heap.size+1:=by rw[hx];simp
 have hO:Off (λk=>k=b\/jr.ownBlock=IH k) w x:=by rw[hx];exact((Off.refl _ _).set b off _ (Lo (Lo rfl))).alloc _
 have hB:x.heap[b]?=IH (I3 (cs.setIfInBounds off (IF MY 1)) T (0,0)):=by rw[hx,LI _ _ (by simpa using Ab)];exact heap_set hb
 have hR:I4 x 0 jr J:=by
  refine⟨hj.1,?_⟩;rcases hj.2 with h0|⟨g,A0,Ah,hv,h1,hg,h2⟩
  ·exact Lo h0
  ·refine Lz ⟨g,A0,Ah,hv,h1,?_,h2⟩;(have Ax:b≠g:=λe=>by subst e;apply hjb;rw[hv];rfl);rw[hx,LI _ _ (by simpa using(gL hg)),<-hg];simp[MA,LO,Ax]
 have hC:x.heap[w.heap.size]?=IH (I3 #[IF L5 kd,IF IR t,ID ⟨key.toArray⟩,IF IR n,ID ⟨body.toArray⟩] 108 (0,0)):=by rw[hx];have:=K0 (w.setCell ⟨b,off,J0⟩ (IF MY 1)) (I3 #[IF L5 kd,IF IR t,ID ⟨key.toArray⟩,IF IR n,ID ⟨body.toArray⟩] 108);simpa using this
 have B1:jr.ownBlock≠IH w.heap.size:=λe=>absurd (hj.lt _ e).2 (Nat.lt_irrefl _);have B6:b≠w.heap.size:=by omega
 clear hx c2 c4 a0 z0;have HB:=IA hB;have HC:=IA hC;have HR:=IA hR;have HO:=IA hO;have B9:=IA Am;have HW:=IA hb;have H0:=IA h0;have H2:=IA h2;have H4:=IA h4;have B7:=IA hj;have Ac:b<x.heap.size:=by omega
 have Ap:w.heap.size<x.heap.size:=by omega
 have c4:x.cell? ⟨b,off+4,J0⟩=IH jr:=by simp[J1,hB,h4]
 have c2:x.cell? ⟨b,off+2,J0⟩=IH (IF IR t):=by simp[J1,hB,h2]
 have f4:x.frozen? ⟨b,off+4,J0⟩=LL:=by simp[LN,hB]
 obtain⟨b0,b1,b2,b3,b4⟩:=Ku hC;have Aa:off<cs.size:=(gL h0);have Ak:off+4<cs.size:=(gL h4);clear hB hC hR hO Am hb h0 h2 h4 hj
 have HT:Hid (∀w1,Below x.drew.heap.size x.drew w1->∃g A0 w2,w1.cell? ⟨b,off+4,J0⟩=IH jr /\
  vr K2 #[95,9] 95 w1 #[jr,ID ⟨(bG kd t key n body).toArray⟩]/\(kG K2 #[95,9] 95 w1 #[jr,ID ⟨(bG kd t key n body).toArray⟩]).1=(Ks (IH ⟨g,0,J0⟩) (J.length+(bG kd t key n body).length) A0)/\(kG K2 #[95,9] 95 w1 #[jr,ID ⟨(bG kd t key n body).toArray⟩]).2=w2/\w2.cell? ⟨b,off+4,J0⟩=IH jr/\w2.frozen? ⟨b,off+4,J0⟩=LL /\
  (w1.cell? ⟨w.heap.size,0,J0⟩=IH (IF L5 (kd:Int))/\w1.cell? ⟨w.heap.size,1,J0⟩=IH (IF IR (t:Int))/\w1.cell? ⟨w.heap.size,2,J0⟩=IH (ID ⟨key.toArray⟩)/\w1.cell? ⟨w.heap.size,3,J0⟩=IH (IF IR (n:Int))/\w1.cell? ⟨w.heap.size,4,J0⟩=IH (ID ⟨body.toArray⟩))/\(w2.cell? ⟨w.heap.size,0,J0⟩=IH (IF L5 (kd:Int))/\w2.cell? ⟨w.heap.size,1,J0⟩=IH (IF IR (t:Int))/\w2.cell? ⟨w.heap.size,2,J0⟩=IH (ID ⟨key.toArray⟩)/\w2.cell? ⟨w.heap.size,3,J0⟩=IH (IF IR (n:Int))/\w2.cell? ⟨w.heap.size,4,J0⟩=IH (ID ⟨body.toArray⟩))/\((w2.setCell ⟨b,off+4,J0⟩ (Ks (IH ⟨g,0,J0⟩) (J.length+(bG kd t key n body).length) A0)).cell? ⟨w.heap.size,0,J0⟩=IH (IF L5 (kd:Int))/\(w2.setCell ⟨b,off+4,J0⟩ (Ks (IH ⟨g,0,J0⟩) (J.length+(bG kd t key n body).length) A0)).cell? ⟨w.heap.size,1,J0⟩=IH (IF IR (t:Int))/\(w2.setCell ⟨b,off+4,J0⟩ (Ks (IH ⟨g,0,J0⟩) (J.length+(bG kd t key n body).length) A0)).cell? ⟨w.heap.size,2,J0⟩=IH (ID ⟨key.toArray⟩)/\(w2.setCell ⟨b,off+4,J0⟩ (Ks (IH ⟨g,0,J0⟩) (J.length+(bG kd t key n body).length) A0)).cell? ⟨w.heap.size,3,J0⟩=IH (IF IR (n:Int))/\(w2.setCell ⟨b,off+4,J0⟩ (Ks (IH ⟨g,0,J0⟩) (J.length+(bG kd t key n body).length) A0)).cell? ⟨w.heap.size,4,J0⟩=IH (ID ⟨body.toArray⟩)) /\
  ((w2.setCell ⟨b,off+4,J0⟩ (Ks (IH ⟨g,0,J0⟩) (J.length+(bG kd t key n body).length) A0)).heap[b]?=IH (I3 ((cs.setIfInBounds off (IF MY 1)).setIfInBounds (off+4) (Ks (IH ⟨g,0,J0⟩) (J.length+(bG kd t key n body).length) A0)) T (0,0))/\I4 (w2.setCell ⟨b,off+4,J0⟩ (Ks (IH ⟨g,0,J0⟩) (J.length+(bG kd t key n body).length) A0)) 0 (Ks (IH ⟨g,0,J0⟩) (J.length+(bG kd t key n body).length) A0) (J++bG kd t key n body)/\(IH g=jr.ownBlock\/w.heap.size<=g)/\Off (λk=>k=b\/jr.ownBlock=IH k) w (w2.setCell ⟨b,off+4,J0⟩ (Ks (IH ⟨g,0,J0⟩) (J.length+(bG kd t key n body).length) A0)))):=by
  intro w1 A1;have A1:Below x.heap.size x w1:=⟨A1.os,A1.tape,A1.output,A1.size,A1.block⟩;have Al:w1.heap[b]?=_:=(A1.block b Ac).trans HB.out;have Av:w1.heap[w.heap.size]?=_:=(A1.block _ Ap).trans HC.out;have Aw:=I4.below (base:=0) (l:=J) HR.out A1;have Ai:b<w1.heap.size:=Mn Ac A1.size;have Az:w.heap.size<w1.heap.size:=Mn Ap A1.size;have Aq:=eW kd t key n body;(have B8:(⟨(bG kd t key n body).toArray⟩:ByteArray).size=20+key.length+body.length:=by rw[Lib.size_eq];exact Aq);obtain⟨v',w2,Ae,Af,A2,Ay⟩:=Lib.run_append_own_string (P:=K2) w1 0 95 9 95 5 i0 M1 Nm At An Au As jr J.length (Lc J) Aw ⟨(bG kd t key n body).toArray⟩ (by unfold maxLen;omega) (by omega) (by omega);(have A4:I4 w2 0 v' (J++bG kd t key n body):=by rw[Lib.size_eq,kN,<-x9] at Af;unfold I4;rw[L1];exact Af);have B3:=wU (P:=K2) w1 95 9 95 5 i0 M1 Nm At An Au As jr J.length (Lc J) Aw ⟨(bG kd t key n body).toArray⟩ (by omega) (by omega) v' w2 Ae;obtain⟨g,A0,rfl⟩:∃g A0,v'=(Ks (IH ⟨g,0,J0⟩) (J.length+(bG kd t key n body).length) A0):=by
   rcases A4.2 with⟨_,h0⟩|⟨g,A0,Ah,hv,_⟩
   ·rw[L1,Aq] at h0;omega
   ·rw[L1] at hv;exact⟨g,A0,hv⟩
  have Ar:IH g=jr.ownBlock\/w1.heap.size<=g:=by
   rcases B3 with h|h
   ·exact Lo h
   ·right;injection h with h;simp only at h;omega
  have B5:b≠g:=by
   intro e;rcases Ar with h|h
   ·exact hjb (h ▸ e ▸ rfl)
   ·omega
  have Aj:w2.heap[b]?=_:=(A2.block b Ai (Ne.symm hjb)).trans Al;have Ao:w2.heap[w.heap.size]?=_:=(A2.block _ Az (Ne.symm B1)).trans Av;(have B4:(w2.setCell ⟨b,off+4,J0⟩ (Ks (IH ⟨g,0,J0⟩) (J.length+(bG kd t key n body).length) A0)).heap[w.heap.size]?=IH (I3 #[IF L5 kd,IF IR t,ID ⟨key.toArray⟩,IF IR n,ID ⟨body.toArray⟩] 108 (0,0)):=by rw[<-Ao];simp[MA,LO,B6]);obtain⟨A9,A8,A6⟩:=DV Ae
  refine⟨g,A0,w2,by simp[J1,Al,H4.out],A9,A8,A6,by simp[J1,Aj,H4.out],by simp[LN,Aj],by simp[J1,Av],by simp[J1,Ao],by simp only[J1,B4];simp,
   heap_set Aj,?_,Ar.imp_right (λh=>by omega),?_⟩
  ·refine⟨A4.1,?_⟩;rcases A4.2 with⟨hc,_⟩|⟨g',B0,Ah,hv,h1,hg,h2⟩
   ·cases hc
   ·injection hv with e1 e2 e3;injection e1 with e1;injection e1 with e1;subst e1;subst e3;refine Lz ⟨g,A0,Ah,by rw[L1],h1,?_,h2⟩;rw[<-hg];simp[MA,LO,B5]
  ·exact((HO.out.trans (Off.of_below A1)).grown A2 (λk hk=>Lo (Lz hk))).set b _ _ (Lo (Lo rfl))
 refine wp_region_noPanic ?_;refine LS (S:=λy=>(y.cell? ⟨w.heap.size,0,J0⟩=IH (IF L5 (kd:Int))/\y.cell? ⟨w.heap.size,1,J0⟩=IH (IF IR (t:Int))/\y.cell? ⟨w.heap.size,2,J0⟩=IH (ID ⟨key.toArray⟩)/\y.cell? ⟨w.heap.size,3,J0⟩=IH (IF IR (n:Int))/\y.cell? ⟨w.heap.size,4,J0⟩=IH (ID ⟨body.toArray⟩))) (by kernel_rfl) ⟨b0,b1,b2,b3,b4⟩ (λhHeld=>?_);refine IJ 0 hHeld ?_;try simp only[Kf]
 refine IJ 1 hHeld ?_;try simp only[Kf]
 refine IJ 2 hHeld ?_;try simp only[Kf]
 refine IJ 3 hHeld ?_;try simp only[Kf]
 refine IJ 5 hHeld ?_;try simp only[Kf]
 refine wpAnyH_ready (rs:=[4,6]) (by kernel_rfl) (by simp) ?_;refine AllReadyH.cons rfl (λK hK=>?_) (AllReadyH.cons rfl (λK hK=>?_) AllReadyH.nil)
 ·go_simp;refine hK.out _ _ hHeld (λ_=>?_);clear hK K;(try simp only[Kf]);refine I6 6 (λK hK=>?_);go_simp;refine(sO kd t n key body _ hk ht hn hkl hbl).mono ?_;rintro e w1 ⟨rfl,A1⟩;obtain⟨g,A0,w2,g2,A9,A8,A6,d4,z4,Ag,Ad,A7,A3⟩:=HT.out w1 A1;have HF:=IA A3;clear A3;(try go_wp2_with fail);refine hK.out _ _ Ag (λI5=>?_);clear hK K;(try simp only[Kf]);refine I6 7 (λK hK=>?_);go_simp;refine hK.out _ _ Ad (λII=>?_);clear hK K;(try simp only[Kf]);refine IJ 8 II ?_;(try simp only[Kf]);refine IJ 9 II ?_;(try simp only[Kf]);refine I6 10 (λK hK=>?_);go_simp;refine hK.out _ _ A7 (λI8=>?_);clear hK K;(try simp only[Kf]);refine Mu (by kernel_rfl) ?_ _;refine NoPanic.normal ?_;obtain⟨u,hu⟩:=exj (w2.setCell ⟨b,off+4,J0⟩ (Ks (IH ⟨g,0,J0⟩) (J.length+(bG kd t key n body).length) A0));rw[<-hu];rw[<-hu] at HF;have A5:=HF.out.1;(have u0:u.cell? ⟨b,off,J0⟩=IH (IF MY 1):=by simp only[J1,A5];simp[Aa]);(have u2:u.cell? ⟨b,off+2,J0⟩=IH (IF IR t):=by simp only[J1,A5];simp[H2.out]);(have uf:u.frozen? ⟨b,off,J0⟩=LL:=by simp[LN,A5]);clear I8 II I5 Ag Ad A7 hu A8 A6 A9 d4 z4 g2;go_wp2;refine leaves_cons (f:=61) (args:=#[Lw (IH ⟨b,off,J0⟩)]) (by simp) (by simp[go_sem]) ?_;refine(unlock_deferred Ja ⟨b,off,J0⟩ .returning _ u0 uf).mono ?_;rintro e u' B2 ⟨rfl,rfl,rfl⟩;exact⟨_,results_tmp rfl _ _ _,rfl,_,ki A5 H0.out,I4.LC HF.out.2.1 (λe=>(GI HF.out.2.2.1 hjb Ab) (by injection e)),HF.out.2.2.1.elim Lo (λh=>Lz ⟨_,rfl,h⟩),HF.out.2.2.2.set b off _ (Lo (Lo rfl))⟩
 ·go_simp;refine(sO kd t n key body _ hk ht hn hkl hbl).mono ?_;rintro e w1 ⟨rfl,A1⟩;obtain⟨g,A0,w2,g2,A9,A8,A6,d4,z4,Ag,Ad,A7,A3⟩:=HT.out w1 A1;have HF:=IA A3;clear A3;(try go_wp2_with fail);refine hK.out _ _ Ag (λI5=>?_);clear hK K;(try simp only[Kf]);refine I6 4 (λK hK=>?_);go_simp;refine hK.out _ _ I5 (λ_=>?_);clear hK K;(try simp only[Kf]);refine I6 7 (λK hK=>?_);go_simp;refine hK.out _ _ Ad (λII=>?_);clear hK K;(try simp only[Kf]);refine IJ 8 II ?_;(try simp only[Kf]);refine IJ 9 II ?_;(try simp only[Kf]);refine I6 10 (λK hK=>?_);go_simp;refine hK.out _ _ A7 (λI8=>?_);clear hK K;(try simp only[Kf]);refine Mu (by kernel_rfl) ?_ _;refine NoPanic.normal ?_;obtain⟨u,hu⟩:=exj (w2.setCell ⟨b,off+4,J0⟩ (Ks (IH ⟨g,0,J0⟩) (J.length+(bG kd t key n body).length) A0));rw[<-hu];rw[<-hu] at HF;have A5:=HF.out.1;(have u0:u.cell? ⟨b,off,J0⟩=IH (IF MY 1):=by simp only[J1,A5];simp[Aa]);(have u2:u.cell? ⟨b,off+2,J0⟩=IH (IF IR t):=by simp only[J1,A5];simp[H2.out]);(have uf:u.frozen? ⟨b,off,J0⟩=LL:=by simp[LN,A5]);clear I8 II I5 Ag Ad A7 hu A8 A6 A9 d4 z4 g2;go_wp2;refine leaves_cons (f:=61) (args:=#[Lw (IH ⟨b,off,J0⟩)]) (by simp) (by simp[go_sem]) ?_;refine(unlock_deferred Ja ⟨b,off,J0⟩ .returning _ u0 uf).mono ?_;rintro e u' B2 ⟨rfl,rfl,rfl⟩;exact⟨_,results_tmp rfl _ _ _,rfl,_,ki A5 H0.out,I4.LC HF.out.2.1 (λe=>(GI HF.out.2.2.1 hjb Ab) (by injection e)),HF.out.2.2.1.elim Lo (λh=>Lz ⟨_,rfl,h⟩),HF.out.2.2.2.set b off _ (Lo (Lo rfl))⟩
open Go.RowKit
abbrev bookC (s:Nat):Lq:=.iface 102 (Lw (IH ⟨s,7,J0⟩))
theorem nO {s:Nat}{t k:Int}(h:w.heap[s]?=IH (I3 cs T (0,0)))(h0:cs[7]?=IH (IF MY 0))(h2:cs[9]?=IH (IF IR t))(h3:cs[10]?=IH (IF IR k)):MO w s 7 t k :=
 ⟨by simp[J1,h,h0],by simp[J1,h,h2],by simp[J1,h,h3],λj=>by simp[LN,h]⟩
theorem vF (g o p s:Nat)(E:IP)(vs:Lq)(k t n:Nat)(key body:List UInt8)(w:LR)(h:ay w p E vs)(hl:E.IB.length<1000)(ho:aX E k n≠0) :
 MD K2 102 #[Lw (IH ⟨g,o,J0⟩),Lw (IH ⟨p,0,J0⟩),ev k t key n body,bookC s] w λe w'=>e=Ly (Nx #[IF IR (aX E k n:Nat),Jx LL])/\Below w.heap.size w w':=by
 have A0:Below w.heap.size w (w.alloc (I3 #[IF L5 k,IF IR t,ID ⟨key.toArray⟩,IF IR n,ID ⟨body.toArray⟩] 108)):=(Below.refl _ _).alloc (Kx _) _;have HE:=IA (h.below A0);have HA:=IA A0;clear h A0;obtain⟨o',A2⟩:=IG (aX E k n);go_enter func102,L3;go_wp2_with fail;refine(cE p E vs k t n key body _ HE.out hl).mono ?_;rintro e w1 ⟨rfl,A1⟩;rw[A2] at ho ⊢;have HB:Hid (Below w.heap.size w w1):=HA.out.trans (A1.mono (by simp));have A3:((o':Int)==0)=LL:=beq_eq_false_iff_ne.2 (by omega);clear A1;go_wp2;refine Ln (Mb rfl _ _ _) rfl ?_;exact⟨by rw[A2];rfl,HB.out⟩
theorem vu (g o p s:Nat)(cs:Array Lq)(T:Mz)(tm:Int)(E:IP)(vs:Lq)(k t n:Nat)(key body:List UInt8)(w:LR)(h:ay w p E vs)(hl:E.IB.length<1000)(ho:aX E k n=0)(hla:E.last=0)
 (hb:w.heap[s]?=IH (I3 cs T (0,0)))(h0:cs[7]?=IH (IF MY 0))(h2:cs[9]?=IH (IF IR tm))(h3:cs[10]?=IH (IF IR 60)) :
 MD K2 102 #[Lw (IH ⟨g,o,J0⟩),Lw (IH ⟨p,0,J0⟩),ev k t key n body,bookC s] w λe w'=>e=Ly (Nx #[IF IR 507,Jx LL])/\Below w.heap.size w w':=by
 have A1:Below w.heap.size w (w.alloc (I3 #[IF L5 k,IF IR t,ID ⟨key.toArray⟩,IF IR n,ID ⟨body.toArray⟩] 108)):=(Below.refl _ _).alloc (Kx _) _;have HE:=IA (h.below A1);have HA:=IA A1;have A3:s<w.heap.size:=(gL hb);have HS:=IA ((A1.block s A3).trans hb);have A4:s<(w.alloc (I3 #[IF L5 k,IF IR t,ID ⟨key.toArray⟩,IF IR n,ID ⟨body.toArray⟩] 108)).heap.size:=by simp;omega
 clear h A1 hb;go_enter func102,L3;go_wp2_with fail;refine(cE p E vs k t n key body _ HE.out hl).mono ?_;rintro e w1 ⟨rfl,A0⟩;rw[ho];have HB:Hid (Below w.heap.size w w1):=HA.out.trans (A0.mono (by simp));have A5:=IA (HE.out.below A0);have HC:Hid (MO w1 s 7 tm 60):=nO ((A0.block s A4).trans HS.out) h0 h2 h3;have A2:decide (0<E.last)=LL:=by simp[hla]
 clear A0;go_wp2_with fail;refine(cz p E vs _ A5.out).mono ?_;rintro e w2 ⟨rfl,rfl⟩;rw[A2];go_wp2_with fail;refine(B3 s 7 tm _ HC.out).mono ?_;rintro e w3 ⟨rfl,rfl⟩;go_wp2;refine Ln (Mb rfl _ _ _) rfl ?_;exact⟨rfl,HB.out⟩
theorem aa {a:Nat}{c1 c2:Array Lq}{T1 T2:Mz}{f1 f2:Nat×Nat}(h1:w.heap[a]?=IH (I3 c1 T1 f1))(h2:w.heap[b]?=IH (I3 c2 T2 f2))(h:T1≠T2):a≠b:=by
 intro e;subst e;rw[h1] at h2;injection h2 with h2;injection h2 with _ h3;exact h h3
theorem dN (h:w.ownsRow base e size v n xs)(hg:v.ownBlock=IH g):∃cur,w.heap[g]?=IH (I3 cur e (0,0)):=by
 rcases h.2 with⟨rfl,_⟩|⟨g',A0,cur,rfl,_,hh,_⟩
 ·cases hg
 ·injection hg with hg;subst hg;exact⟨cur,hh⟩
theorem ai (h:w.ownsRow base e size v n xs){f:Nat×Nat}(hb:w.heap[b]?=IH (I3 cs T f))(hT:e≠T):v.ownBlock≠IH b:=by
 intro hg;obtain⟨A0,hc⟩:=dN h hg;exact aa hc hb hT rfl
theorem bH {b1 b2:Nat}{e1 e2:Mz}{s1 s2:Nat}{v1 v2:Lq}{n1 n2:Nat}{x1 x2:List Lq}(h1:w.ownsRow b1 e1 s1 v1 n1 x1)(h2:w.ownsRow b2 e2 s2 v2 n2 x2)(hT:e1≠e2):∀g,v1.ownBlock=IH g->v2.ownBlock≠IH g:=by
 intro g hg A0;obtain⟨c,hc⟩:=dN h1 hg;exact ai h2 hc (Ne.symm hT) A0
theorem I4.off (h:I4 w base v l)(ho:Off S w x)(hv:∀g,v.ownBlock=IH g->¬ S g):I4 x base v l:=by
 refine⟨h.1,?_⟩;rcases h.2 with h0|⟨g,A2,A1,A0,h1,hg,h2⟩
 ·exact Lo h0
 ·exact Lz ⟨g,A2,A1,A0,h1,(ho.block g (gL hg) (hv g (by rw[A0];rfl))).trans hg,h2⟩
structure Kt (w:LR)(es:Lq)(ps:List Nat)(K:List (List UInt8)):Prop where
 k:Keys w es ps K
 t:∀q∈ps,∃cq,w.heap[q]?=IH (I3 cq 183 (0,0))
theorem Kt.off (h:Kt w es ps K)(ho:Off S w x)(he:∀g,es.ownBlock=IH g->¬ S g)(hq:∀q∈ps,¬ S q):Kt x es ps K:=by
 refine⟨⟨⟨h.k.row.1,?_⟩,h.k.len,λi p k hp hk=>?_,λp hp=>Mn (h.k.lt p hp) ho.size⟩,λq hq'=>?_⟩
 ·rcases h.k.row.2 with h0|⟨g,A2,A1,A0,h1,hg,h2⟩
  ·exact Lo h0
  ·exact Lz ⟨g,A2,A1,A0,h1,(ho.block g (gL hg) (he g (by rw[A0];rfl))).trans hg,h2⟩
 ·have hm:=List.mem_of_getElem? hp;have:=h.k.key i p k hp hk;simp only[J1] at this ⊢;rw[ho.block p (h.k.lt p hm) (hq p hm)];exact this
 ·obtain⟨cq,hc⟩:=h.t q hq';exact⟨cq,(ho.block q (h.k.lt q hq') (hq q hq')).trans hc⟩
theorem Kt.below (h:Kt w es ps K)(hb:Below w.heap.size w x):Kt x es ps K :=
 h.off (Off.of_below (S:=λ_=>False) hb) (λ_ _ h=>h) (λ_ _ h=>h)
structure OI (w':LR)(s:Nat)(cs:Array Lq)(jr Jk:Lq)(J:List UInt8)(N:Nat):Prop where
 blk:w'.heap[s]?=IH (I3 cs 99 (0,0))
 VF:I4 w' 0 Jk J
 at':Jk.ownBlock=jr.ownBlock\/∃g,Jk.ownBlock=IH g/\N<=g
theorem zm (g o p s:Nat)(cs:Array Lq)(tm:Nat)(jr:Lq)(J:List UInt8)(E:IP)(vs:Lq)(t n i:Nat)(key body:List UInt8)(w:LR)(h:ay w p E vs)(hl:E.IB.length<1000)(hn:eu E.IB n=IH i)(hla:0<E.last)
 (hb:w.heap[s]?=IH (I3 cs 99 (0,0)))(h0:cs[7]?=IH (IF MY 0))(h2:cs[9]?=IH (IF IR tm))(h4:cs[11]?=IH jr)(hj:I4 w 0 jr J)
 (ht:tm<9223372036854775807)(hnn:n<9223372036854775807)(hkl:key.length<100000)(hbl:body.length<100000)(hJ:J.length<140000000000000) :
 MD K2 102 #[Lw (IH ⟨g,o,J0⟩),Lw (IH ⟨p,0,J0⟩),ev 3 t key n body,bookC s] w λe w'=>e=Ly (Nx #[IF IR 204,Jx true]) /\
  ∃Jk vs',OI w' s (cs.setIfInBounds 11 Jk) jr Jk (J++bG 3 tm key n body) w.heap.size/\ay w' p ⟨E.key,E.last,E.IB.eraseIdx i⟩ vs'/\vs'.ownBlock=vs.ownBlock/\Off (λk=>k=s\/jr.ownBlock=IH k\/k=p\/vs.ownBlock=IH k) w w':=by
 have A3:Below w.heap.size w (w.alloc (I3 #[IF L5 3,IF IR t,ID ⟨key.toArray⟩,IF IR n,ID ⟨body.toArray⟩] 108)):=(Below.refl _ _).alloc (Kx _) _;have HE:=IA (h.below A3);have HA:=IA A3;have B1:s<w.heap.size:=(gL hb);have HS:=IA ((A3.block s B1).trans hb);have HJ:Hid (I4 (w.alloc (I3 #[IF L5 3,IF IR t,ID ⟨key.toArray⟩,IF IR n,ID ⟨body.toArray⟩] 108)) 0 jr J):=hj.below A3;have B3:s<(w.alloc (I3 #[IF L5 3,IF IR t,ID ⟨key.toArray⟩,IF IR n,ID ⟨body.toArray⟩] 108)).heap.size:=by simp;omega
 have ho:aX E 3 n=0:=by simp[aX,hn]
 clear h A3 hb hj;go_enter func102,L3;go_wp2_with fail;refine(cE p E vs 3 t n key body _ HE.out hl).mono ?_;rintro e w1 ⟨rfl,A2⟩;rw[ho];have Ai:w1.heap[w.heap.size]?=IH (I3 #[IF L5 3,IF IR t,ID ⟨key.toArray⟩,IF IR n,ID ⟨body.toArray⟩] 108 (0,0)):=(A2.block _ (by simp)).trans (K0 _ _);have HB:Hid (Below w.heap.size w w1):=HA.out.trans (A2.mono (by simp));have Ae:=IA (HE.out.below A2);have Ah:Hid (w1.heap[s]?=IH (I3 cs 99 (0,0))):=(A2.block s B3).trans HS.out;have Au:Hid (I4 w1 0 jr J):=I4.below (base:=0) (l:=J) HJ.out A2;have B0:decide (0<E.last)=true:=by simpa using hla
 have r0:w1.cell? ⟨w.heap.size,0,J0⟩=IH (IF L5 3):=by simp[J1,Ai]
 have Ak:=IA Ai;clear A2 Ai HJ HS HE HA;go_wp2_with fail;refine(cz p E vs _ Ae.out).mono ?_;rintro e w2 ⟨rfl,rfl⟩;rw[B0];go_wp2_with fail;refine(eU p E vs 3 _ Ae.out hl).mono ?_;rintro e w2 ⟨rfl,A1⟩;rw[show bN E 3=204 from by simp[bN]];have Ag:w2.heap[w.heap.size]?=IH (I3 #[IF L5 3,IF IR t,ID ⟨key.toArray⟩,IF IR n,ID ⟨body.toArray⟩] 108 (0,0)):=(A1.block _ (gL Ak.out)).trans Ak.out;have Ao:w2.heap[s]?=IH (I3 cs 99 (0,0)):=(A1.block s (gL Ah.out)).trans Ah.out;have Az:I4 w2 0 jr J:=I4.below (base:=0) (l:=J) Au.out A1;have A8:=IA (Ae.out.below A1);have Aq:Hid (Below w.heap.size w w2):=HB.out.trans (A1.mono HB.out.size);obtain⟨q0,q1,q2,q3,q4⟩:=Ku Ag;have Ab:=IA Ag;have A4:=IA Ao;have A5:Hid (I4 w2 0 jr J):=Az;clear Ag Ao Az A1 Ak Ah Au Ae r0;go_wp2_with fail;refine(jb s 7 cs 99 tm 3 t n key body jr J _ A4.out h0 h2 h4 A5.out (ai A5.out A4.out (by decide)) (by omega) ht hnn hkl hbl hJ).mono ?_;rintro e w3 ⟨rfl,Jk,An,Ay,Ap,Af⟩;have B6:w.heap.size<w2.heap.size:=(gL Ab.out);have A6:w3.heap[w.heap.size]?=IH (I3 #[IF L5 3,IF IR t,ID ⟨key.toArray⟩,IF IR n,ID ⟨body.toArray⟩] 108 (0,0)):=(Af.block _ B6 (by rintro(h|h);exact aa Ab.out A4.out (by decide) h;exact ai A5.out Ab.out (by decide) h)).trans Ab.out;have Ad:Hid (ay w3 p E vs):=A8.out.off Af (by rintro(h|h);exact aa A8.out.blk A4.out (by decide) h;exact ai A5.out A8.out.blk (by decide) h) (by intro g hg;rintro(h|h);exact ai A8.out.row A4.out (by decide) (h ▸ hg);exact bH A8.out.row A5.out (by decide) g hg h);have s1:w3.cell? ⟨w.heap.size,1,J0⟩=IH (IF IR t):=by simp[J1,A6]
 have sf:=Je A6 1;have A7:=IA A6;have Ac:=IA An;have Am:Hid (I4 w3 0 Jk (J++bG 3 tm key n body)):=Ay;have Aw:=IA Af;have B4:=IA Ap;obtain⟨s0,-,s2,s3,s4⟩:=Ku A6;clear A6 An Ay Af Ap;go_wp2_with fail;obtain⟨x3,Aa⟩:=exj (w3.setCell ⟨w.heap.size,1,J0⟩ (IF IR tm));rw[<-Aa];have hx:Off (λk=>k=w.heap.size) w3 x3:=by rw[Aa];exact(Off.refl _ _).set _ 1 _ (Lo rfl)
 have Aj:s<w3.heap.size:=(gL Ac.out);have Ax:x3.heap[s]?=_:=(hx.block s Aj (aa Ac.out A7.out (by decide))).trans Ac.out;have Ar:I4 x3 0 Jk _:=I4.off (base:=0) Am.out hx (λg hg h=>ai Am.out A7.out (by decide) (h ▸ hg));have As:ay x3 p E vs:=Ad.out.off hx (λh=>aa Ad.out.blk A7.out (by decide) h) (λg hg h=>ai Ad.out.row A7.out (by decide) (h ▸ hg));have B5:Hid (Off (λk=>k=s\/jr.ownBlock=IH k\/k=p\/vs.ownBlock=IH k) w x3):=by rw[Aa];exact((Off.of_below Aq.out).trans' Aw.out (λk _ h=>h.elim Lo (λh=>Lz (Lo h)))).set _ 1 _ (Lz (Kx _))
 have A9:=IA Ax;have Al:Hid (I4 x3 0 Jk (J++bG 3 tm key n body)):=Ar;have A0:=IA As;clear Aa hx Ax Ar As s0 s1 s2 s3 s4 sf A7 Ac Am Ad Aw;refine(BM g o p E vs tm n key body _ A0.out (ai A0.out.row A0.out.blk (by decide)) (by omega) i hn).mono ?_;rintro e w4 ⟨⟨v,rfl⟩,vs',At,B2,Av⟩;have H1:=IA At;have H2:=IA Av;clear At Av;go_wp2;refine Ln (Mb rfl _ _ _) rfl ⟨rfl,Jk,vs',⟨?_,?_,?_⟩,H1.out,B2,?_⟩
 ·exact(H2.out.block s (gL A9.out) (by rintro(h|h);exact aa A9.out A0.out.blk (by decide) h;exact ai A0.out.row A9.out (by decide) h)).trans A9.out
 ·exact I4.off (base:=0) Al.out H2.out (by intro g hg;rintro(h|h);exact ai Al.out A0.out.blk (by decide) (h ▸ hg);exact bH Al.out A0.out.row (by decide) g hg h)
 ·exact B4.out.imp_right (λ⟨g,h1,h2⟩=>⟨g,h1,L2 Aq.out.size h2⟩)
 ·exact B5.out.trans' H2.out (λk _ h=>Lz (Lz h))
theorem qX (g o p s:Nat)(cs:Array Lq)(tm:Nat)(jr:Lq)(J:List UInt8)(E:IP)(vs:Lq)(k t n:Nat)(key body:List UInt8)(w:LR)(h:ay w p E vs)(hl:E.IB.length<1000)(ho:aX E k n=0)(hk:k≠3)(Vs:k<256)(hla:0<E.last)
 (hb:w.heap[s]?=IH (I3 cs 99 (0,0)))(h0:cs[7]?=IH (IF MY 0))(h2:cs[9]?=IH (IF IR tm))(h4:cs[11]?=IH jr)(hj:I4 w 0 jr J)
 (ht:tm<9223372036854775807)(hnn:n<9223372036854775807)(hkl:key.length<100000)(hbl:body.length<100000)(hJ:J.length<140000000000000) :
 MD K2 102 #[Lw (IH ⟨g,o,J0⟩),Lw (IH ⟨p,0,J0⟩),ev k t key n body,bookC s] w λe w'=>e=Ly (Nx #[IF IR (bN E k:Nat),Jx true]) /\
  ∃Jk g2 cap2,OI w' s (cs.setIfInBounds 11 Jk) jr Jk (J++bG k tm key n body) w.heap.size/\ay w' p ⟨E.key,n,E.IB++[⟨n,tm,k==2,body⟩]⟩ (Ks (IH ⟨g2,0,J0⟩) (E.IB.length+1) cap2)/\(vs.ownBlock=IH g2\/w.heap.size<=g2)/\Off (λk=>k=s\/jr.ownBlock=IH k\/k=p\/vs.ownBlock=IH k) w w':=by
 have A3:Below w.heap.size w (w.alloc (I3 #[IF L5 k,IF IR t,ID ⟨key.toArray⟩,IF IR n,ID ⟨body.toArray⟩] 108)):=(Below.refl _ _).alloc (Kx _) _;have HE:=IA (h.below A3);have HA:=IA A3;have B3:s<w.heap.size:=(gL hb);have HS:=IA ((A3.block s B3).trans hb);have HJ:Hid (I4 (w.alloc (I3 #[IF L5 k,IF IR t,ID ⟨key.toArray⟩,IF IR n,ID ⟨body.toArray⟩] 108)) 0 jr J):=hj.below A3;have B5:s<(w.alloc (I3 #[IF L5 k,IF IR t,ID ⟨key.toArray⟩,IF IR n,ID ⟨body.toArray⟩] 108)).heap.size:=by simp;omega
 clear h A3 hb hj;go_enter func102,L3;go_wp2_with fail;refine(cE p E vs k t n key body _ HE.out hl).mono ?_;rintro e w1 ⟨rfl,A2⟩;rw[ho];have Ai:w1.heap[w.heap.size]?=IH (I3 #[IF L5 k,IF IR t,ID ⟨key.toArray⟩,IF IR n,ID ⟨body.toArray⟩] 108 (0,0)):=(A2.block _ (by simp)).trans (K0 _ _);have HB:Hid (Below w.heap.size w w1):=HA.out.trans (A2.mono (by simp));have Ae:=IA (HE.out.below A2);have Ah:Hid (w1.heap[s]?=IH (I3 cs 99 (0,0))):=(A2.block s B5).trans HS.out;have Aw:Hid (I4 w1 0 jr J):=I4.below (base:=0) (l:=J) HJ.out A2;have B2:decide (0<E.last)=true:=by simpa using hla
 have r0:w1.cell? ⟨w.heap.size,0,J0⟩=IH (IF L5 k):=by simp[J1,Ai]
 have Al:=IA Ai;clear A2 Ai HJ HS HE HA;go_wp2_with fail;refine(cz p E vs _ Ae.out).mono ?_;rintro e w2 ⟨rfl,rfl⟩;rw[B2];go_wp2_with fail;refine(eU p E vs k _ Ae.out hl).mono ?_;rintro e w2 ⟨rfl,A1⟩;obtain⟨sc,Aj⟩:=IG (bN E k);rw[Aj];have B8:=IA Aj;clear Aj;have Ag:w2.heap[w.heap.size]?=IH (I3 #[IF L5 k,IF IR t,ID ⟨key.toArray⟩,IF IR n,ID ⟨body.toArray⟩] 108 (0,0)):=(A1.block _ (gL Al.out)).trans Al.out;have Ap:w2.heap[s]?=IH (I3 cs 99 (0,0)):=(A1.block s (gL Ah.out)).trans Ah.out;have B1:I4 w2 0 jr J:=I4.below (base:=0) (l:=J) Aw.out A1;have A8:=IA (Ae.out.below A1);have Ar:Hid (Below w.heap.size w w2):=HB.out.trans (A1.mono HB.out.size);obtain⟨q0,q1,q2,q3,q4⟩:=Ku Ag;have Ab:=IA Ag;have A4:=IA Ap;have A5:Hid (I4 w2 0 jr J):=B1;clear Ag Ap B1 A1 Al Ah Aw Ae r0;go_wp2_with fail;refine(jb s 7 cs 99 tm k t n key body jr J _ A4.out h0 h2 h4 A5.out (ai A5.out A4.out (by decide)) (by omega) ht hnn hkl hbl hJ).mono ?_;rintro e w3 ⟨rfl,Jk,Ao,B0,Aq,Af⟩;have B7:w.heap.size<w2.heap.size:=(gL Ab.out);have A6:w3.heap[w.heap.size]?=IH (I3 #[IF L5 k,IF IR t,ID ⟨key.toArray⟩,IF IR n,ID ⟨body.toArray⟩] 108 (0,0)):=(Af.block _ B7 (by rintro(h|h);exact aa Ab.out A4.out (by decide) h;exact ai A5.out Ab.out (by decide) h)).trans Ab.out;have Ad:Hid (ay w3 p E vs):=A8.out.off Af (by rintro(h|h);exact aa A8.out.blk A4.out (by decide) h;exact ai A5.out A8.out.blk (by decide) h) (by intro g hg;rintro(h|h);exact ai A8.out.row A4.out (by decide) (h ▸ hg);exact bH A8.out.row A5.out (by decide) g hg h);have s1:w3.cell? ⟨w.heap.size,1,J0⟩=IH (IF IR t):=by simp[J1,A6]
 have sf:=Je A6 1;have A7:=IA A6;have Ac:=IA Ao;have An:Hid (I4 w3 0 Jk (J++bG k tm key n body)):=B0;have Ay:=IA Af;have B6:=IA Aq;obtain⟨s0,-,s2,s3,s4⟩:=Ku A6;clear A6 Ao B0 Af Aq;go_wp2_with fail;obtain⟨x3,Aa⟩:=exj (w3.setCell ⟨w.heap.size,1,J0⟩ (IF IR tm));rw[<-Aa];have hx:Off (λk=>k=w.heap.size) w3 x3:=by rw[Aa];exact(Off.refl _ _).set _ 1 _ (Lo rfl)
 have Ak:s<w3.heap.size:=(gL Ac.out);have Az:x3.heap[s]?=_:=(hx.block s Ak (aa Ac.out A7.out (by decide))).trans Ac.out;have At:I4 x3 0 Jk _:=I4.off (base:=0) An.out hx (λg hg h=>ai An.out A7.out (by decide) (h ▸ hg));have Au:ay x3 p E vs:=Ad.out.off hx (λh=>aa Ad.out.blk A7.out (by decide) h) (λg hg h=>ai Ad.out.row A7.out (by decide) (h ▸ hg));have As:Hid (Off (λk=>k=s\/jr.ownBlock=IH k\/k=p\/vs.ownBlock=IH k) w x3):=by rw[Aa];exact((Off.of_below Ar.out).trans' Ay.out (λk _ h=>h.elim Lo (λh=>Lz (Lo h)))).set _ 1 _ (Lz (Kx _))
 have A9:=IA Az;have Am:Hid (I4 x3 0 Jk (J++bG k tm key n body)):=At;have A0:=IA Au;clear Aa hx Az At Au s0 s1 s2 s3 s4 sf A7 Ac An Ad Ay;refine(mh g o p E vs k tm n key body _ A0.out (ai A0.out.row A0.out.blk (by decide)) (by omega) (by omega) hk hla).mono ?_;rintro e w4 ⟨⟨v,rfl⟩,g2,cap2,Av,B4,Ax⟩;have H1:=IA Av;have H2:=IA Ax;clear Av Ax;go_wp2;refine Ln (Mb rfl _ _ _) rfl ⟨by rw[B8.out];rfl,Jk,g2,cap2,⟨?_,?_,?_⟩,H1.out,B4.imp_right (λh=>L2 As.out.size h),?_⟩
 ·exact(H2.out.block s (gL A9.out) (by rintro(h|h);exact aa A9.out A0.out.blk (by decide) h;exact ai A0.out.row A9.out (by decide) h)).trans A9.out
 ·exact I4.off (base:=0) Am.out H2.out (by intro g hg;rintro(h|h);exact ai Am.out A0.out.blk (by decide) (h ▸ hg);exact bH Am.out A0.out.row (by decide) g hg h)
 ·exact B6.out.imp_right (λ⟨g,h1,h2⟩=>⟨g,h1,L2 Ar.out.size h2⟩)
 ·exact As.out.trans' H2.out (λk _ h=>Lz (Lz h))
theorem vZ (g o p s:Nat)(gs cs:Array Lq)(es:Lq)(ps:List Nat)(K:List (List UInt8))(i tm:Nat)(kc:Int)(jr:Lq)(J:List UInt8)(E:IP)(vs:Lq)(k t n:Nat)(key body:List UInt8)(w:LR)(h:ay w p E vs)(hl:E.IB.length<1000)(ho:aX E k n=0)(hk:k≠3)(Vs:k<256)(hla:E.last=0)
 (hg:w.heap[g]?=IH (I3 gs 137 (0,0)))(hge:gs[o+2]?=IH es)(Oh:Kt w es ps K)(Qo:er K)(hpl:ps.length<1000000)(Qq:E.key.length<1000000)(hi:cR K E.key i)(MS:∀g,vs.ownBlock=IH g->es.ownBlock≠IH g)
 (hb:w.heap[s]?=IH (I3 cs 99 (0,0)))(h0:cs[7]?=IH (IF MY 0))(h2:cs[9]?=IH (IF IR tm))(h3:cs[10]?=IH (IF IR kc))(UM:0<=kc)(hkc:kc<60)(h4:cs[11]?=IH jr)(hj:I4 w 0 jr J)
 (ht:tm<9223372036854775807)(hnn:n<9223372036854775807)(hkl:key.length<100000)(hbl:body.length<100000)(hJ:J.length<140000000000000) :
 MD K2 102 #[Lw (IH ⟨g,o,J0⟩),Lw (IH ⟨p,0,J0⟩),ev k t key n body,bookC s] w λe w'=>e=Ly (Nx #[IF IR (bN E k:Nat),Jx true]) /\
  ∃Jk g1 J7 g2 cap2,OI w' s ((cs.setIfInBounds 10 (IF IR (kc+1))).setIfInBounds 11 Jk) jr Jk (J++bG k tm key n body) w.heap.size /\
  w'.heap[g]?=IH (I3 (gs.setIfInBounds (o+2) (Ks (IH ⟨g1,0,J0⟩) (ps.length+1) J7)) 137 (0,0)) /\
  w'.ownsRow 0 143 1 (Ks (IH ⟨g1,0,J0⟩) (ps.length+1) J7) (ps.length+1) (gE (ps.take i++p::ps.drop i))/\(es.ownBlock=IH g1\/w.heap.size<=g1) /\
  ay w' p ⟨E.key,n,E.IB++[⟨n,tm,k==2,body⟩]⟩ (Ks (IH ⟨g2,0,J0⟩) (E.IB.length+1) cap2)/\(vs.ownBlock=IH g2\/w.heap.size<=g2) /\
  Off (λk=>k=s\/jr.ownBlock=IH k\/k=g\/k=p\/es.ownBlock=IH k\/vs.ownBlock=IH k) w w':=by
 have A8:Below w.heap.size w (w.alloc (I3 #[IF L5 k,IF IR t,ID ⟨key.toArray⟩,IF IR n,ID ⟨body.toArray⟩] 108)):=(Below.refl _ _).alloc (Kx _) _;have HE:=IA (h.below A8);have HA:=IA A8;have C2:s<w.heap.size:=(gL hb);have C6:g<w.heap.size:=(gL hg);have HS:=IA ((A8.block s C2).trans hb);have HG:=IA ((A8.block g C6).trans hg);have HK:=IA (Oh.below A8);have HJ:Hid (I4 (w.alloc (I3 #[IF L5 k,IF IR t,ID ⟨key.toArray⟩,IF IR n,ID ⟨body.toArray⟩] 108)) 0 jr J):=hj.below A8;have C4:s<(w.alloc (I3 #[IF L5 k,IF IR t,ID ⟨key.toArray⟩,IF IR n,ID ⟨body.toArray⟩] 108)).heap.size:=by simp;omega
 have C1:g<(w.alloc (I3 #[IF L5 k,IF IR t,ID ⟨key.toArray⟩,IF IR n,ID ⟨body.toArray⟩] 108)).heap.size:=by simp;omega
 have Bx:=IA MS;have C9:=IA Qo;have HI:=IA hi;clear h A8 hb hj hg Oh MS Qo hi;go_enter func102,L3;go_wp2_with fail;refine(cE p E vs k t n key body _ HE.out hl).mono ?_;rintro e w1 ⟨rfl,A7⟩;rw[ho];have B9:w1.heap[w.heap.size]?=IH (I3 #[IF L5 k,IF IR t,ID ⟨key.toArray⟩,IF IR n,ID ⟨body.toArray⟩] 108 (0,0)):=(A7.block _ (by simp)).trans (K0 _ _);have HB:Hid (Below w.heap.size w w1):=HA.out.trans (A7.mono (by simp));have Af:=IA (HE.out.below A7);have Ai:=IA (HK.out.below A7);have A0:Hid (w1.heap[s]?=IH (I3 cs 99 (0,0))):=(A7.block s C4).trans HS.out;have At:Hid (w1.heap[g]?=IH (I3 gs 137 (0,0))):=(A7.block g C1).trans HG.out;have B1:Hid (I4 w1 0 jr J):=I4.below (base:=0) (l:=J) HJ.out A7;have Bw:decide (0<E.last)=LL:=by simp[hla]
 have Am:=IA B9;clear A7 B9 HJ HS HE HA HK HG;go_wp2_with fail;refine(cz p E vs _ Af.out).mono ?_;rintro e Bz ⟨rfl,B8⟩;rw[B8,Bw];clear B8 Bz;go_wp2_with fail;refine(qh s 7 tm kc _ (nO A0.out h0 h2 h3) UM hkc).mono ?_;rintro e wa ⟨rfl,B3⟩;have A9:Off (λk=>k=s) w1 wa:=by rw[B3];exact(Off.refl _ _).set s 10 _ (Lo rfl)
 have Bi:wa.heap[s]?=IH (I3 (cs.setIfInBounds 10 (IF IR (kc+1))) 99 (0,0)):=by rw[B3];exact heap_set A0.out
 have Av:wa.heap[w.heap.size]?=_:=(A9.block _ (gL Am.out) (aa Am.out A0.out (by decide))).trans Am.out;have Bh:wa.heap[g]?=_:=(A9.block _ (gL At.out) (aa At.out A0.out (by decide))).trans At.out;have Bk:ay wa p E vs:=Af.out.off A9 (aa Af.out.blk A0.out (by decide)) (λg hg h=>ai Af.out.row A0.out (by decide) (h ▸ hg));have Bj:I4 wa 0 jr J:=I4.off (base:=0) B1.out A9 (λg hg h=>ai B1.out A0.out (by decide) (h ▸ hg));have Ba:Kt wa es ps K:=Ai.out.off A9 (λg hg h=>ai Ai.out.k.row A0.out (by decide) (h ▸ hg)) (λq hq h=>by obtain⟨cq,hc⟩:=Ai.out.t q hq;exact aa hc A0.out (by decide) h);have r0:wa.cell? ⟨w.heap.size,0,J0⟩=IH (IF L5 k):=by simp[J1,Av]
 have B4:Hid (wa.heap[w.heap.size]?=IH (I3 #[IF L5 k,IF IR t,ID ⟨key.toArray⟩,IF IR n,ID ⟨body.toArray⟩] 108 (0,0))):=Av;have Az:=IA Bi;have Ay:Hid (wa.heap[g]?=IH (I3 gs 137 (0,0))):=Bh;have Aw:=IA Bk;have Bc:Hid (I4 wa 0 jr J):=Bj;have B6:=IA Ba;have Bs:Hid (Off (λk=>k=s\/jr.ownBlock=IH k\/k=g\/k=p\/es.ownBlock=IH k\/vs.ownBlock=IH k) w wa):=(Off.of_below HB.out).trans' A9 (λk _ h=>Lo h);clear Av Bi Bh Bk Bj Ba A9 B3 Am A0 At Af B1 Ai HB;go_wp2_with fail;refine(eU p E vs k _ Aw.out hl).mono ?_;rintro e w2 ⟨rfl,A5⟩;obtain⟨sc,Ax⟩:=IG (bN E k);rw[Ax];have Cb:=IA Ax;have Au:w2.heap[w.heap.size]?=IH (I3 #[IF L5 k,IF IR t,ID ⟨key.toArray⟩,IF IR n,ID ⟨body.toArray⟩] 108 (0,0)):=(A5.block _ (gL B4.out)).trans B4.out;have B7:w2.heap[s]?=IH (I3 (cs.setIfInBounds 10 (IF IR (kc+1))) 99 (0,0)):=(A5.block s (gL Az.out)).trans Az.out;have Br:w2.heap[g]?=IH (I3 gs 137 (0,0)):=(A5.block g (gL Ay.out)).trans Ay.out;have Bv:I4 w2 0 jr J:=I4.below (base:=0) (l:=J) Bc.out A5;have Ah:=IA (Aw.out.below A5);have Ap:=IA (B6.out.below A5);have Bg:Hid (Off (λk=>k=s\/jr.ownBlock=IH k\/k=g\/k=p\/es.ownBlock=IH k\/vs.ownBlock=IH k) w w2):=Bs.out.trans (Off.of_below A5);obtain⟨q0,q1,q2,q3,q4⟩:=Ku Au;have Al:=IA Au;have A3:=IA B7;have Ao:=IA Br;have A4:Hid (I4 w2 0 jr J):=Bv;have c0:(cs.setIfInBounds 10 (IF IR (kc+1)))[7]?=IH (IF MY 0):=by simp[h0]
 have c2:(cs.setIfInBounds 10 (IF IR (kc+1)))[9]?=IH (IF IR tm):=by simp[h2]
 have c4:(cs.setIfInBounds 10 (IF IR (kc+1)))[11]?=IH jr:=by simp[h4]
 have By:=IA c0;have C7:=IA c2;have C0:=IA c4;clear Au B7 Br Bv A5 B4 Az Ay Bc Aw B6 Bs r0 Ax c0 c2 c4;go_wp2_with fail;refine(jb s 7 (cs.setIfInBounds 10 (IF IR (kc+1))) 99 tm k t n key body jr J _ A3.out By.out C7.out C0.out A4.out (ai A4.out A3.out (by decide)) Vs ht hnn hkl hbl hJ).mono ?_;rintro e w3 ⟨rfl,Jk,B5,Bu,Bd,Ac⟩;have Ca:w.heap.size<w2.heap.size:=(gL Al.out);have Ad:w3.heap[w.heap.size]?=IH (I3 #[IF L5 k,IF IR t,ID ⟨key.toArray⟩,IF IR n,ID ⟨body.toArray⟩] 108 (0,0)):=(Ac.block _ Ca (by rintro(h|h);exact aa Al.out A3.out (by decide) h;exact ai A4.out Al.out (by decide) h)).trans Al.out;have Bf:w3.heap[g]?=IH (I3 gs 137 (0,0)):=(Ac.block _ (gL Ao.out) (by rintro(h|h);exact aa Ao.out A3.out (by decide) h;exact ai A4.out Ao.out (by decide) h)).trans Ao.out;have Aq:Hid (ay w3 p E vs):=Ah.out.off Ac (by rintro(h|h);exact aa Ah.out.blk A3.out (by decide) h;exact ai A4.out Ah.out.blk (by decide) h) (by intro g hg;rintro(h|h);exact ai Ah.out.row A3.out (by decide) (h ▸ hg);exact bH Ah.out.row A4.out (by decide) g hg h);have Ar:Hid (Kt w3 es ps K):=Ap.out.off Ac (by intro g hg;rintro(h|h);exact ai Ap.out.k.row A3.out (by decide) (h ▸ hg);exact bH Ap.out.k.row A4.out (by decide) g hg h) (by intro q hq;obtain⟨cq,hc⟩:=Ap.out.t q hq;rintro(h|h);exact aa hc A3.out (by decide) h;exact ai A4.out hc (by decide) h);obtain⟨s0,s1,-,-,-⟩:=Ku Ad;have sf:=Je Ad 1;obtain⟨-,-,s2,s3,s4⟩:=Ku Ad;have A6:=IA Ad;have An:=IA B5;have As:=IA Bf;have B2:Hid (I4 w3 0 Jk (J++bG k tm key n body)):=Bu;have Bq:=IA Ac;have C8:=IA Bd;clear Ad B5 Bf Bu Ac Bd;go_wp2_with fail;obtain⟨x3,Aj⟩:=exj (w3.setCell ⟨w.heap.size,1,J0⟩ (IF IR tm));rw[<-Aj];have hx:Off (λk=>k=w.heap.size) w3 x3:=by rw[Aj];exact(Off.refl _ _).set _ 1 _ (Lo rfl)
 have Bt:x3.heap[s]?=_:=(hx.block s (gL An.out) (aa An.out A6.out (by decide))).trans An.out;have Bb:x3.heap[g]?=_:=(hx.block g (gL As.out) (aa As.out A6.out (by decide))).trans As.out;have Bl:I4 x3 0 Jk _:=I4.off (base:=0) B2.out hx (λg hg h=>ai B2.out A6.out (by decide) (h ▸ hg));have Bm:ay x3 p E vs:=Aq.out.off hx (λh=>aa Aq.out.blk A6.out (by decide) h) (λg hg h=>ai Aq.out.row A6.out (by decide) (h ▸ hg));have Be:Kt x3 es ps K:=Ar.out.off hx (λg hg h=>ai Ar.out.k.row A6.out (by decide) (h ▸ hg)) (λq hq h=>by obtain⟨cq,hc⟩:=Ar.out.t q hq;exact aa hc A6.out (by decide) h);have B0:Hid (Off (λk=>k=s\/jr.ownBlock=IH k\/k=g\/k=p\/es.ownBlock=IH k\/vs.ownBlock=IH k) w x3):=by rw[Aj];exact(Bg.out.trans' Bq.out (λk _ h=>h.elim Lo (λh=>Lz (Lo h)))).set _ 1 _ (Lz (Kx _))
 have Aa:=IA Bt;have Ab:=IA Bb;have Ag:Hid (I4 x3 0 Jk (J++bG k tm key n body)):=Bl;have A1:=IA Bm;have Ae:=IA Be;clear Aj hx Bt Bb Bl Bm Be s0 s1 s2 s3 s4 sf A6 An As B2 Aq Ar Bq;refine(qe g o p gs 137 es ps K E vs i k tm n key body _ Ab.out hge A1.out Ae.out.k C9.out hpl Qq HI.out (aa Ab.out A1.out.blk (by decide)) (ai Ae.out.k.row Ab.out (by decide)) (ai Ae.out.k.row A1.out.blk (by decide)) (ai A1.out.row Ab.out (by decide)) Bx.out (ai A1.out.row A1.out.blk (by decide)) (by omega) (by omega) hk hla).mono ?_;rintro e w4 ⟨⟨v,rfl⟩,g1,J7,g2,cap2,Bo,A2,C5,Bn,C3,Bp⟩;have H1:=IA Bn;have H2:=IA Bp;have H3:=IA Bo;have H4:=IA A2;clear Bn Bp Bo A2;go_wp2;refine Ln (Mb rfl _ _ _) rfl ⟨by rw[Cb.out];rfl,Jk,g1,J7,g2,cap2,⟨?_,?_,?_⟩,H3.out,H4.out,C5.imp_right (λh=>L2 B0.out.size h),H1.out,C3.imp_right (λh=>L2 B0.out.size h),?_⟩
 ·refine(H2.out.block s (gL Aa.out) ?_).trans Aa.out;rintro(h|h|h|h)
  ·exact aa Aa.out Ab.out (by decide) h
  ·exact aa Aa.out A1.out.blk (by decide) h
  ·exact ai Ae.out.k.row Aa.out (by decide) h
  ·exact ai A1.out.row Aa.out (by decide) h
 ·refine I4.off (base:=0) Ag.out H2.out ?_;intro g' Ak;rintro(h|h|h|h)
  ·exact ai Ag.out Ab.out (by decide) (h ▸ Ak)
  ·exact ai Ag.out A1.out.blk (by decide) (h ▸ Ak)
  ·exact bH Ag.out Ae.out.k.row (by decide) g' Ak h
  ·exact bH Ag.out A1.out.row (by decide) g' Ak h
 ·exact C8.out.imp_right (λ⟨g,h1,h2⟩=>⟨g,h1,L2 Bg.out.size h2⟩)
 ·exact B0.out.trans' H2.out (λk _ h=>Lz (Lz h))
theorem E3:(prog.info? 124).map (·.size)=IH 2:=by kernel_rfl
theorem iC (t:Int)(w:LR):MD K2 30 #[IF IR t] w λe w'=>e=Ly (MT #[IF IR t,Ks J0 0 0,ID ⟨#[]⟩])/\Below w.heap.size w w':=by
 go_enter func30,ntmps30;go_wp2;exact Ln (v:=MT #[IF IR t,Ks J0 0 0,ID ⟨#[]⟩]) (aK results30 _ _ w.heap.size 80 _ (0,0) _ rfl (K0 _ _) Nd rfl fb) rfl ⟨rfl,(Below.refl _ _).alloc (Kx _) _⟩
theorem dx (t:Int)(a:Option Addr)(n c:Nat)(w:LR):MD K2 103 #[IF IR t,Ks a n c] w λe w'=>e=Ly (MT #[IF IR t,Ks a n c,ID ⟨#[]⟩])/\Below w.heap.size w w':=by
 go_enter func103,ntmps103;go_wp2;exact Ln (v:=MT #[IF IR t,Ks a n c,ID ⟨#[]⟩]) (aK results103 _ _ w.heap.size 80 _ (0,0) _ rfl (K0 _ _) Nd rfl fb) rfl ⟨rfl,(Below.refl _ _).alloc (Kx _) _⟩
theorem kD (body:List UInt8)(w:LR)(hb:body.length<1000000)(h:Tz w):MD K2 104 #[ID ⟨body.toArray⟩] w λe w'=>e=Ly (MT #[ID ⟨#[69,84,97,103]⟩,ID ⟨(bX body).toArray⟩])/\Below w.heap.size w w':=by
 have A2:Below w.heap.size w (w.alloc (I3 #[ID ⟨#[]⟩,ID ⟨#[]⟩] 124)):=(Below.refl _ _).alloc (Kx _) _;go_enter func104,ntmps104;go_wp2_with fail;refine(pA body _ hb (h.below A2)).mono ?_;rintro e w1 ⟨rfl,A1⟩;have A0:w1.heap[w.heap.size]?=IH (I3 #[ID ⟨#[]⟩,ID ⟨#[]⟩] 124 (0,0)):=(A1.block _ (by simp)).trans (K0 _ _);obtain⟨c0,c1⟩:=U8 A0;have f0:=Je A0 0;have f1:=Je A0 1;have HB:Hid (Below w.heap.size w w1):=A2.trans (A1.mono (by simp));have HK:=IA A0;clear A0 A1 A2;go_wp2;have hs:=heap_set (i:=1) (v:=ID ⟨(bX body).toArray⟩) (heap_set (i:=0) (v:=ID ⟨#[69,84,97,103]⟩) HK.out);exact Ln (v:=MT #[ID ⟨#[69,84,97,103]⟩,ID ⟨(bX body).toArray⟩]) (aK results104 _ _ w.heap.size 124 _ (0,0) _ rfl hs underlying124 rfl E3) rfl ⟨rfl,(HB.out.setCell (p:=⟨w.heap.size,0,J0⟩) (Kx _) _).setCell (p:=⟨w.heap.size,1,J0⟩) (Kx _) _⟩
theorem eX (n:Nat)(w:LR)(hn:n<1000000000000000)(h:J8 w):MD K2 105 #[IF IR n] w λe w'=>e=Ly (MT #[ID ⟨#[86,101,114,115,105,111,110]⟩,ID ⟨(Lib.decDigits n).toArray⟩])/\Below w.heap.size w w':=by
 have A2:Below w.heap.size w (w.alloc (I3 #[ID ⟨#[]⟩,ID ⟨#[]⟩] 124)):=(Below.refl _ _).alloc (Kx _) _;go_enter func105,ntmps105;go_wp2_with fail;refine(GP n _ hn (h.below A2)).mono ?_;rintro e w1 ⟨rfl,A1⟩;have A0:w1.heap[w.heap.size]?=IH (I3 #[ID ⟨#[]⟩,ID ⟨#[]⟩] 124 (0,0)):=(A1.block _ (by simp)).trans (K0 _ _);obtain⟨c0,c1⟩:=U8 A0;have f0:=Je A0 0;have f1:=Je A0 1;have HB:Hid (Below w.heap.size w w1):=A2.trans (A1.mono (by simp));have HK:=IA A0;obtain⟨D,hD⟩:=IG (Lib.decDigits n);rw[hD];have HD:=IA hD;clear A0 A1 A2 hD;go_wp2;rw[HD.out];have hs:=heap_set (i:=1) (v:=ID ⟨D.toArray⟩) (heap_set (i:=0) (v:=ID ⟨#[86,101,114,115,105,111,110]⟩) HK.out);exact Ln (v:=MT #[ID ⟨#[86,101,114,115,105,111,110]⟩,ID ⟨D.toArray⟩]) (aK results105 _ _ w.heap.size 124 _ (0,0) _ rfl hs underlying124 rfl E3) rfl ⟨rfl,(HB.out.setCell (p:=⟨w.heap.size,0,J0⟩) (Kx _) _).setCell (p:=⟨w.heap.size,1,J0⟩) (Kx _) _⟩
theorem fB (x:LR)(a:Addr):x.drew.cell? a=x.cell? a:=rfl
theorem ah {c j:Nat}(h:c≠b):(w.setCell ⟨b,i,J0⟩ v).cell? ⟨c,j,J0⟩=w.cell? ⟨c,j,J0⟩ :=
 World.cell?_setCell_other _ _ _ _ (by intro e;injection e with e1;exact h e1.symm)
theorem Bu:(prog.info? 108).map (·.size)=IH 5:=by kernel_rfl
def bJ (E:IP)(m:Nat)(t:Jg)(body:List UInt8):Nat×Nat×List UInt8 :=
 if m=2 then(1,E.last+1,body) else if t.kind=2 then(3,t.num,[]) else(2,E.last+1,[])
theorem wanted_put (p:Nat)(E:IP)(vs:Lq)(t:Jg)(wr:Bool)(c:I7)(body:List UInt8)(w:LR)(h:ay w p E vs)(hl:E.last<4611686018427387904)(e1:∃a n m,c.lm=Ks a n m)(e2:∃a n m,c.ln=Ks a n m) :
 MD K2 70 #[eY 2 t wr c body,Lw (IH ⟨p,0,J0⟩)] w λe w'=>e=Ly (ev 1 0 E.key (E.last+1) body)/\Below w.heap.size w w':=by
 obtain⟨a1,m1,p1,e1⟩:=e1;obtain⟨a2,m2,p2,e2⟩:=e2;unfold eY;rw[e1,e2];have HE:=IA h;clear h;go_enter func70,ntmps70;go_wp2_with fail;obtain⟨X,hX⟩:=exj (((w.alloc (I3 #[IF IR 2,IF IR (t.kind:Int),ID ⟨t.key.toArray⟩,IF IR (t.num:Int),Jx wr,Jx c.hm,Jx c.am,Ks a1 m1 p1,Jx c.hn,Jx c.an,Ks a2 m2 p2,Jx c.hs,IF IR c.si,Jx c.hu,IF IR c.ul,Jx LL,ID ⟨#[]⟩,IF IR 0,ID ⟨body.toArray⟩] 75)).alloc (I3 #[IF L5 0,IF IR 0,ID ⟨#[]⟩,IF IR 0,ID ⟨#[]⟩] 108)));rw[<-hX];have A2:Below w.heap.size w X:=by rw[hX];exact((Below.refl _ _).alloc (Kx _) _).alloc (by simp) _
 have hQ:X.heap[w.heap.size]?=IH (I3 #[IF IR 2,IF IR (t.kind:Int),ID ⟨t.key.toArray⟩,IF IR (t.num:Int),Jx wr,Jx c.hm,Jx c.am,Ks a1 m1 p1,Jx c.hn,Jx c.an,Ks a2 m2 p2,Jx c.hs,IF IR c.si,Jx c.hu,IF IR c.ul,Jx LL,ID ⟨#[]⟩,IF IR 0,ID ⟨body.toArray⟩] 75 (0,0)):=by rw[hX];exact(LI _ _ (by simp)).trans (K0 _ _)
 have hZ:X.heap[w.heap.size+1]?=IH (I3 #[IF L5 0,IF IR 0,ID ⟨#[]⟩,IF IR 0,ID ⟨#[]⟩] 108 (0,0)):=by rw[hX];have:=K0 (w.alloc (I3 #[IF IR 2,IF IR (t.kind:Int),ID ⟨t.key.toArray⟩,IF IR (t.num:Int),Jx wr,Jx c.hm,Jx c.am,Ks a1 m1 p1,Jx c.hn,Jx c.an,Ks a2 m2 p2,Jx c.hs,IF IR c.si,Jx c.hu,IF IR c.ul,Jx LL,ID ⟨#[]⟩,IF IR 0,ID ⟨body.toArray⟩] 75)) (I3 #[IF L5 0,IF IR 0,ID ⟨#[]⟩,IF IR 0,ID ⟨#[]⟩] 108);simpa using this
 clear hX;generalize (MT #[IF IR ((2:Nat):Int),IF IR (t.kind:Int),ID ⟨t.key.toArray⟩,IF IR (t.num:Int),Jx wr,Jx c.hm,Jx c.am,Ks a1 m1 p1,Jx c.hn,Jx c.an,Ks a2 m2 p2,Jx c.hs,IF IR c.si,Jx c.hu,IF IR c.ul,Jx LL,ID ⟨#[]⟩,IF IR 0,ID ⟨body.toArray⟩])=Qv;have hE:=HE.out.below A2;have k0:X.cell? ⟨p,0,J0⟩=IH (ID ⟨E.key.toArray⟩):=hE.c0;have A3:X.cell? ⟨w.heap.size,18,J0⟩=IH (ID ⟨body.toArray⟩):=by simp[J1,hQ]
 have q3:X.cell? ⟨w.heap.size,3,J0⟩=IH (IF IR (t.num:Int)):=by simp[J1,hQ]
 obtain⟨z0,z1,z2,z3,z4⟩:=Ku hZ;have A6:=Je hZ 0;have A9:=Je hZ 1;have A7:=Je hZ 2;have A5:=Je hZ 3;have A8:=Je hZ 4;have A1:p≠w.heap.size+1:=by have:=HE.out.lt;omega
 have A0:w.heap.size≠w.heap.size+1:=by omega
 have A4:Hid (ay X.drew p E vs):=⟨hE.blk,hE.row⟩;have HZ:=IA hZ;have HL:=IA A2;clear hE hQ hZ A2;refine LS (S:=(λy=>y.cell? ⟨p,0,J0⟩=IH (ID ⟨E.key.toArray⟩)/\y.cell? ⟨w.heap.size,18,J0⟩=IH (ID ⟨body.toArray⟩))) (by kernel_rfl) ⟨k0,A3⟩ (λhHeld=>?_);refine IJ 0 hHeld ?_;try simp only[Kf]
 refine IJ 1 hHeld ?_;try simp only[Kf]
 refine IJ 2 hHeld ?_;try simp only[Kf]
 refine IJ 3 hHeld ?_;try simp only[Kf]
 refine IJ 4 hHeld ?_;try simp only[Kf]
 refine IJ 6 hHeld ?_;try simp only[Kf]
 refine IJ 7 hHeld ?_;try simp only[Kf]
 refine I6 5 (λK hK=>?_);go_simp;refine(uu p E vs X.drew A4.out hl).mono ?_;rintro e w1 ⟨rfl,rfl⟩;try go_wp2_with fail
 refine hK.out _ _ hHeld (λI5=>?_);clear hK K;try simp only[Kf]
 refine IJ 8 I5 ?_;try simp only[Kf]
 refine I6 9 (λK hK=>?_);go_simp;refine hK.out _ _ ?_ (λI8=>?_)
 ·constructor
  ·rw[fB,ah A1,ah A1,ah A1,ah A1,ah A1];exact k0
  ·rw[fB,ah A0,ah A0,ah A0,ah A0,ah A0];exact A3
 clear hK K;try simp only[Kf]
 refine Mu (by kernel_rfl) ?_ _;go_wp2;have hs:=heap_set (i:=4) (v:=ID ⟨body.toArray⟩) (heap_set (i:=3) (v:=IF IR ((E.last+1:Nat):Int)) (heap_set (i:=2) (v:=ID ⟨E.key.toArray⟩) (heap_set (i:=1) (v:=IF IR 0) (heap_set (i:=0) (v:=IF L5 1) (HZ.out)))));exact Ln (v:=ev 1 0 E.key (E.last+1) body) (aK results70 _ _ (w.heap.size+1) 108 _ (0,0) _ rfl hs Mp rfl Bu) rfl ⟨rfl,(((((HL.out.setCell (p:=⟨w.heap.size+1,0,J0⟩) (K1 _) _).setCell (p:=⟨w.heap.size+1,1,J0⟩) (K1 _) _).setCell (p:=⟨w.heap.size+1,2,J0⟩) (K1 _) _).setCell (p:=⟨w.heap.size+1,3,J0⟩) (K1 _) _).setCell (p:=⟨w.heap.size+1,4,J0⟩) (K1 _) _).drew⟩
theorem zH (p:Nat)(E:IP)(vs:Lq)(m:Nat)(t:Jg)(wr:Bool)(c:I7)(body:List UInt8)(w:LR)(h:ay w p E vs)(hm:((m:Int)==2)=LL)(hk:((t.kind:Int)==2)=true)(e1:∃a n m,c.lm=Ks a n m)(e2:∃a n m,c.ln=Ks a n m) :
 MD K2 70 #[eY m t wr c body,Lw (IH ⟨p,0,J0⟩)] w λe w'=>e=Ly (ev 3 0 E.key t.num [])/\Below w.heap.size w w':=by
 obtain⟨a1,m1,p1,e1⟩:=e1;obtain⟨a2,m2,p2,e2⟩:=e2;unfold eY;rw[e1,e2];have HE:=IA h;clear h;go_enter func70,ntmps70;go_wp2_with fail;obtain⟨X,hX⟩:=exj (((w.alloc (I3 #[IF IR (m:Int),IF IR (t.kind:Int),ID ⟨t.key.toArray⟩,IF IR (t.num:Int),Jx wr,Jx c.hm,Jx c.am,Ks a1 m1 p1,Jx c.hn,Jx c.an,Ks a2 m2 p2,Jx c.hs,IF IR c.si,Jx c.hu,IF IR c.ul,Jx LL,ID ⟨#[]⟩,IF IR 0,ID ⟨body.toArray⟩] 75)).alloc (I3 #[IF L5 0,IF IR 0,ID ⟨#[]⟩,IF IR 0,ID ⟨#[]⟩] 108)));rw[<-hX];have A2:Below w.heap.size w X:=by rw[hX];exact((Below.refl _ _).alloc (Kx _) _).alloc (by simp) _
 have hQ:X.heap[w.heap.size]?=IH (I3 #[IF IR (m:Int),IF IR (t.kind:Int),ID ⟨t.key.toArray⟩,IF IR (t.num:Int),Jx wr,Jx c.hm,Jx c.am,Ks a1 m1 p1,Jx c.hn,Jx c.an,Ks a2 m2 p2,Jx c.hs,IF IR c.si,Jx c.hu,IF IR c.ul,Jx LL,ID ⟨#[]⟩,IF IR 0,ID ⟨body.toArray⟩] 75 (0,0)):=by rw[hX];exact(LI _ _ (by simp)).trans (K0 _ _)
 have hZ:X.heap[w.heap.size+1]?=IH (I3 #[IF L5 0,IF IR 0,ID ⟨#[]⟩,IF IR 0,ID ⟨#[]⟩] 108 (0,0)):=by rw[hX];have:=K0 (w.alloc (I3 #[IF IR (m:Int),IF IR (t.kind:Int),ID ⟨t.key.toArray⟩,IF IR (t.num:Int),Jx wr,Jx c.hm,Jx c.am,Ks a1 m1 p1,Jx c.hn,Jx c.an,Ks a2 m2 p2,Jx c.hs,IF IR c.si,Jx c.hu,IF IR c.ul,Jx LL,ID ⟨#[]⟩,IF IR 0,ID ⟨body.toArray⟩] 75)) (I3 #[IF L5 0,IF IR 0,ID ⟨#[]⟩,IF IR 0,ID ⟨#[]⟩] 108);simpa using this
 clear hX;generalize (MT #[IF IR (m:Int),IF IR (t.kind:Int),ID ⟨t.key.toArray⟩,IF IR (t.num:Int),Jx wr,Jx c.hm,Jx c.am,Ks a1 m1 p1,Jx c.hn,Jx c.an,Ks a2 m2 p2,Jx c.hs,IF IR c.si,Jx c.hu,IF IR c.ul,Jx LL,ID ⟨#[]⟩,IF IR 0,ID ⟨body.toArray⟩])=Qv;have hE:=HE.out.below A2;have k0:X.cell? ⟨p,0,J0⟩=IH (ID ⟨E.key.toArray⟩):=hE.c0;have A4:X.cell? ⟨w.heap.size,18,J0⟩=IH (ID ⟨body.toArray⟩):=by simp[J1,hQ]
 have q3:X.cell? ⟨w.heap.size,3,J0⟩=IH (IF IR (t.num:Int)):=by simp[J1,hQ]
 obtain⟨z0,z1,z2,z3,z4⟩:=Ku hZ;have A5:=Je hZ 0;have A9:=Je hZ 1;have A7:=Je hZ 2;have A3:=Je hZ 3;have A8:=Je hZ 4;have A1:p≠w.heap.size+1:=by have:=HE.out.lt;omega
 have A0:w.heap.size≠w.heap.size+1:=by omega
 have A6:Hid (ay X.drew p E vs):=⟨hE.blk,hE.row⟩;have HZ:=IA hZ;have HL:=IA A2;clear hE hQ hZ A2;refine LS (S:=(λy=>y.cell? ⟨p,0,J0⟩=IH (ID ⟨E.key.toArray⟩)/\y.cell? ⟨w.heap.size,3,J0⟩=IH (IF IR (t.num:Int)))) (by kernel_rfl) ⟨k0,q3⟩ (λhHeld=>?_);refine IJ 0 hHeld ?_;try simp only[Kf]
 refine IJ 1 hHeld ?_;try simp only[Kf]
 refine IJ 2 hHeld ?_;try simp only[Kf]
 refine IJ 3 hHeld ?_;try simp only[Kf]
 refine IJ 4 hHeld ?_;try simp only[Kf]
 refine IJ 5 hHeld ?_;try simp only[Kf]
 refine IJ 6 hHeld ?_;try simp only[Kf]
 refine IJ 7 hHeld ?_;try simp only[Kf]
 refine I6 8 (λK hK=>?_);go_simp;refine hK.out _ _ ?_ (λI8=>?_)
 ·constructor
  ·rw[fB,ah A1,ah A1,ah A1,ah A1,ah A1];exact k0
  ·rw[fB,ah A0,ah A0,ah A0,ah A0,ah A0];exact q3
 clear hK K;try simp only[Kf]
 refine Mu (by kernel_rfl) ?_ _;go_wp2;have hs:=heap_set (i:=4) (v:=ID ⟨#[]⟩) (heap_set (i:=3) (v:=IF IR (t.num:Int)) (heap_set (i:=2) (v:=ID ⟨E.key.toArray⟩) (heap_set (i:=1) (v:=IF IR 0) (heap_set (i:=0) (v:=IF L5 3) (HZ.out)))));exact Ln (v:=ev 3 0 E.key t.num []) (aK results70 _ _ (w.heap.size+1) 108 _ (0,0) _ rfl hs Mp rfl Bu) rfl ⟨rfl,(((((HL.out.setCell (p:=⟨w.heap.size+1,0,J0⟩) (K1 _) _).setCell (p:=⟨w.heap.size+1,1,J0⟩) (K1 _) _).setCell (p:=⟨w.heap.size+1,2,J0⟩) (K1 _) _).setCell (p:=⟨w.heap.size+1,3,J0⟩) (K1 _) _).setCell (p:=⟨w.heap.size+1,4,J0⟩) (K1 _) _).drew⟩
theorem tr (p:Nat)(E:IP)(vs:Lq)(m:Nat)(t:Jg)(wr:Bool)(c:I7)(body:List UInt8)(w:LR)(h:ay w p E vs)(hm:((m:Int)==2)=LL)(hk:((t.kind:Int)==2)=LL)(hl:E.last<4611686018427387904)(e1:∃a n m,c.lm=Ks a n m)(e2:∃a n m,c.ln=Ks a n m) :
 MD K2 70 #[eY m t wr c body,Lw (IH ⟨p,0,J0⟩)] w λe w'=>e=Ly (ev 2 0 E.key (E.last+1) [])/\Below w.heap.size w w':=by
 obtain⟨a1,m1,p1,e1⟩:=e1;obtain⟨a2,m2,p2,e2⟩:=e2;unfold eY;rw[e1,e2];have HE:=IA h;clear h;go_enter func70,ntmps70;go_wp2_with fail;obtain⟨X,hX⟩:=exj (((w.alloc (I3 #[IF IR (m:Int),IF IR (t.kind:Int),ID ⟨t.key.toArray⟩,IF IR (t.num:Int),Jx wr,Jx c.hm,Jx c.am,Ks a1 m1 p1,Jx c.hn,Jx c.an,Ks a2 m2 p2,Jx c.hs,IF IR c.si,Jx c.hu,IF IR c.ul,Jx LL,ID ⟨#[]⟩,IF IR 0,ID ⟨body.toArray⟩] 75)).alloc (I3 #[IF L5 0,IF IR 0,ID ⟨#[]⟩,IF IR 0,ID ⟨#[]⟩] 108)));rw[<-hX];have A2:Below w.heap.size w X:=by rw[hX];exact((Below.refl _ _).alloc (Kx _) _).alloc (by simp) _
 have hQ:X.heap[w.heap.size]?=IH (I3 #[IF IR (m:Int),IF IR (t.kind:Int),ID ⟨t.key.toArray⟩,IF IR (t.num:Int),Jx wr,Jx c.hm,Jx c.am,Ks a1 m1 p1,Jx c.hn,Jx c.an,Ks a2 m2 p2,Jx c.hs,IF IR c.si,Jx c.hu,IF IR c.ul,Jx LL,ID ⟨#[]⟩,IF IR 0,ID ⟨body.toArray⟩] 75 (0,0)):=by rw[hX];exact(LI _ _ (by simp)).trans (K0 _ _)
 have hZ:X.heap[w.heap.size+1]?=IH (I3 #[IF L5 0,IF IR 0,ID ⟨#[]⟩,IF IR 0,ID ⟨#[]⟩] 108 (0,0)):=by rw[hX];have:=K0 (w.alloc (I3 #[IF IR (m:Int),IF IR (t.kind:Int),ID ⟨t.key.toArray⟩,IF IR (t.num:Int),Jx wr,Jx c.hm,Jx c.am,Ks a1 m1 p1,Jx c.hn,Jx c.an,Ks a2 m2 p2,Jx c.hs,IF IR c.si,Jx c.hu,IF IR c.ul,Jx LL,ID ⟨#[]⟩,IF IR 0,ID ⟨body.toArray⟩] 75)) (I3 #[IF L5 0,IF IR 0,ID ⟨#[]⟩,IF IR 0,ID ⟨#[]⟩] 108);simpa using this
 clear hX;generalize (MT #[IF IR (m:Int),IF IR (t.kind:Int),ID ⟨t.key.toArray⟩,IF IR (t.num:Int),Jx wr,Jx c.hm,Jx c.am,Ks a1 m1 p1,Jx c.hn,Jx c.an,Ks a2 m2 p2,Jx c.hs,IF IR c.si,Jx c.hu,IF IR c.ul,Jx LL,ID ⟨#[]⟩,IF IR 0,ID ⟨body.toArray⟩])=Qv;have hE:=HE.out.below A2;have k0:X.cell? ⟨p,0,J0⟩=IH (ID ⟨E.key.toArray⟩):=hE.c0;have A3:X.cell? ⟨w.heap.size,18,J0⟩=IH (ID ⟨body.toArray⟩):=by simp[J1,hQ]
 have q3:X.cell? ⟨w.heap.size,3,J0⟩=IH (IF IR (t.num:Int)):=by simp[J1,hQ]
 obtain⟨z0,z1,z2,z3,z4⟩:=Ku hZ;have A6:=Je hZ 0;have A9:=Je hZ 1;have A7:=Je hZ 2;have A5:=Je hZ 3;have A8:=Je hZ 4;have A1:p≠w.heap.size+1:=by have:=HE.out.lt;omega
 have A0:w.heap.size≠w.heap.size+1:=by omega
 have A4:Hid (ay X.drew p E vs):=⟨hE.blk,hE.row⟩;have HZ:=IA hZ;have HL:=IA A2;clear hE hQ hZ A2;refine LS (S:=(λy=>y.cell? ⟨p,0,J0⟩=IH (ID ⟨E.key.toArray⟩)/\y.cell? ⟨w.heap.size,18,J0⟩=IH (ID ⟨body.toArray⟩))) (by kernel_rfl) ⟨k0,A3⟩ (λhHeld=>?_);refine IJ 0 hHeld ?_;try simp only[Kf]
 refine IJ 1 hHeld ?_;try simp only[Kf]
 refine IJ 2 hHeld ?_;try simp only[Kf]
 refine IJ 3 hHeld ?_;try simp only[Kf]
 refine IJ 4 hHeld ?_;try simp only[Kf]
 refine I6 5 (λK hK=>?_);go_simp;refine(uu p E vs X.drew A4.out hl).mono ?_;rintro e w1 ⟨rfl,rfl⟩;try go_wp2_with fail
 refine hK.out _ _ hHeld (λI5=>?_);clear hK K;try simp only[Kf]
 refine IJ 6 I5 ?_;try simp only[Kf]
 refine I6 7 (λK hK=>?_);go_simp;refine hK.out _ _ ?_ (λI8=>?_)
 ·constructor
  ·rw[fB,ah A1,ah A1,ah A1,ah A1,ah A1];exact k0
  ·rw[fB,ah A0,ah A0,ah A0,ah A0,ah A0];exact A3
 clear hK K;try simp only[Kf]
 refine Mu (by kernel_rfl) ?_ _;go_wp2;have hs:=heap_set (i:=4) (v:=ID ⟨#[]⟩) (heap_set (i:=3) (v:=IF IR ((E.last+1:Nat):Int)) (heap_set (i:=2) (v:=ID ⟨E.key.toArray⟩) (heap_set (i:=1) (v:=IF IR 0) (heap_set (i:=0) (v:=IF L5 2) (HZ.out)))));exact Ln (v:=ev 2 0 E.key (E.last+1) []) (aK results70 _ _ (w.heap.size+1) 108 _ (0,0) _ rfl hs Mp rfl Bu) rfl ⟨rfl,(((((HL.out.setCell (p:=⟨w.heap.size+1,0,J0⟩) (K1 _) _).setCell (p:=⟨w.heap.size+1,1,J0⟩) (K1 _) _).setCell (p:=⟨w.heap.size+1,2,J0⟩) (K1 _) _).setCell (p:=⟨w.heap.size+1,3,J0⟩) (K1 _) _).setCell (p:=⟨w.heap.size+1,4,J0⟩) (K1 _) _).drew⟩
end Go.Proofs.YtmehkneofinmiabGreatDoor

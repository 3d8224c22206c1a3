/-part 3-/
import Derived.Test.YtmehkneofinmiabGreatDoorP02
import Derived.Laws.CopyOwn
import Derived.Conc.RwLone
import Derived.Deep.AppendLies
import Derived.Deep.RegionHeld
open Go.Proofs.Tryz
open Go.Value renaming bool->ID,string->IF,int->IH,slice->Jx,pointer->Ln,oneCell'->LR,tuple->L5,agg->PP
open Go.IntKind renaming i64->IR
open Bool renaming false->I3,true->K2,and_eq_true->N2
open Option renaming none->J0,some->J1
open Go.Proofs.Tryz renaming prog->Kf,underlying75->LI,underlying147->Mp,underlying127->Nx,zeroValue127->NX,sizeOf127->N5,isAgg127->OS,underlying21->Pu,underlying3->Q1,zeroValue21->Q2,zeroValue3->Rg,sizeOf21->RE,sizeOf3->R0,isAgg21->R1,isAgg3->R2
open Go.Lib renaming hasPrefix->Ks,cut->Kx,decDigits->K0,trimPrefix->Lo,index->MD,trimS->PF
open Nat renaming le_refl->K1,le_trans->Nm,lt_of_lt_of_le->Pa
open Go.Ending renaming returned->Lq
open Go renaming Value->Lw,World->Lz,heap_alloc_last->LL,wpList_store_row->LO,bodyPost_ret->L2,wpList_load_row->Mb,Calls->Mz,TypeId->MA,run_loadVar_row->N4,leaves_cons->Of,results_tmp->Ok,heap_alloc_new->On,undef->ON,heap_alloc_old->Rr,Program->RR
open Go.Obj renaming cells->Ly
open Go.World renaming size_alloc->LN,cell?_setCell_other->LS,cell?_setCell_same->L3,cell?->M1,frozen?->N0,setRow_alloc_new->N3,setCell->O2
open List renaming getElem?_eq_some_iff->L1,getElem?_eq_getElem->L4,findIdx?_eq_some_iff_getElem->Mu,cons_append->MT,isPrefixOf->Nd,append_assoc->NO,all_eq_true->N1,mem_singleton->Pi,flatMap_cons->PC,mem_append->Rd
open Go.Builtin renaming append_->Mn
open Array renaming getElem_setIfInBounds_ne->MY,getElem_modify->N6,ext->RK
set_option maxRecDepth 100000
set_option maxHeartbeats 4000000
namespace Go.Proofs.YtmehkneofinmiabGreatDoor
open Go.RowKit
variable {line mt rest tt:List UInt8}{w x y:Lz}{us vs:Array Lw}{g:Nat}{c:I7}{a h:Bool}{o:Option (Bool×eC)}
noncomputable def bL (l:List UInt8):Option (Nat×Jg×I9×List UInt8) :=
 if(Kx l [13,10]).2.2 then
  (if(Kx (Kx l [13,10]).1 [32]).2.2 then
    (match eR (Kx (Kx l [13,10]).1 [32]).1 with
    | none=>J0
    | some m=>match bM (Kx (Kx l [13,10]).1 [32]).2.1 with
      | none=>J0
      | some t=>match cg ((Kx l [13,10]).2.1.length+1) k0 (Kx l [13,10]).2.1 with
        | none=>J0
        | some (k,body)=>J1 (m,t,k,body)) else J0) else J0
theorem pf1 {l:List UInt8}(h1:Kx l [13,10]=(line,rest,I3)):bL l=J0:=by simp[bL,h1]
theorem pf2 {l:List UInt8}(h1:Kx l [13,10]=(line,rest,K2))(h2:Kx line [32]=(mt,tt,I3)):bL l=J0:=by simp[bL,h1,h2]
theorem pf3 {l:List UInt8}(h1:Kx l [13,10]=(line,rest,K2))(h2:Kx line [32]=(mt,tt,K2))(h3:eR mt=J0):bL l=J0:=by simp[bL,h1,h2,h3]
theorem pf4 {l:List UInt8}{m:Nat}(h1:Kx l [13,10]=(line,rest,K2))(h2:Kx line [32]=(mt,tt,K2))(h3:eR mt=J1 m)(h4:bM tt=J0):bL l=J0:=by simp[bL,h1,h2,h3,h4]
theorem pf5 {l:List UInt8}{m:Nat}{t:Jg}(h1:Kx l [13,10]=(line,rest,K2))(h2:Kx line [32]=(mt,tt,K2))(h3:eR mt=J1 m)(h4:bM tt=J1 t)(h5:cg (rest.length+1) k0 rest=J0):bL l=J0:=by simp[bL,h1,h2,h3,h4,h5]
theorem QE {l body:List UInt8}{m:Nat}{t:Jg}{k:I9}(h1:Kx l [13,10]=(line,rest,K2))(h2:Kx line [32]=(mt,tt,K2))(h3:eR mt=J1 m)(h4:bM tt=J1 t)(h5:cg (rest.length+1) k0 rest=J1 (k,body)):bL l=J1 (m,t,k,body):=by simp[bL,h1,h2,h3,h4,h5]
def zq:Nat->Lw
 | 0=>IH IR 0
 | 1=>IH IR 0
 | 2=>IF ⟨#[]⟩
 | 3=>IH IR 0
 | 4=>ID I3
 | 5=>ID I3
 | 6=>ID I3
 | 7=>Jx J0 0 0
 | 8=>ID I3
 | 9=>ID I3
 | 10=>Jx J0 0 0
 | 11=>ID I3
 | 12=>IH IR 0
 | 13=>ID I3
 | 14=>IH IR 0
 | 15=>ID I3
 | 16=>IF ⟨#[]⟩
 | 17=>IH IR 0
 | 18=>IF ⟨#[]⟩
 | _=>ID I3
def eY (m:Nat)(t:Jg)(wr:Bool)(c:I7)(body:List UInt8):Lw :=
 PP #[IH IR (m:Int),IH IR (t.kind:Int),IF ⟨t.key.toArray⟩,IH IR (t.num:Int),ID wr,ID c.hm,ID c.am,c.lm,ID c.hn,ID c.an,c.ln,ID c.hs,IH IR c.si,ID c.hu,IH IR c.ul,ID I3,IF ⟨#[]⟩,IH IR 0,IF ⟨body.toArray⟩]
structure Pz (w x:Lz)(vs:Array Lw):Prop where
 b:Below w.heap.size w x
 blk:x.heap[w.heap.size]?=J1 (Ly vs 75 (0,0))
theorem Pz.lt (h:Pz w x vs):w.heap.size<x.heap.size:=(gL h.blk)
theorem Pz.made (w:Lz):Pz w (w.alloc (Ly #[IH IR 0,IH IR 0,IF ⟨#[]⟩,IH IR 0,ID I3,ID I3,ID I3,Jx J0 0 0,ID I3,ID I3,Jx J0 0 0,ID I3,IH IR 0,ID I3,IH IR 0,ID I3,IF ⟨#[]⟩,IH IR 0,IF ⟨#[]⟩] 75)) #[IH IR 0,IH IR 0,IF ⟨#[]⟩,IH IR 0,ID I3,ID I3,ID I3,Jx J0 0 0,ID I3,ID I3,Jx J0 0 0,ID I3,IH IR 0,ID I3,IH IR 0,ID I3,IF ⟨#[]⟩,IH IR 0,IF ⟨#[]⟩]:=⟨(Below.refl _ _).alloc (K1 _) _,LL _ _⟩
theorem Pz.below (h:Pz w x vs)(hb:Below x.heap.size x y):Pz w y vs :=
 ⟨h.b.trans (hb.mono (Nat.le_of_lt h.lt)),(hb.block _ h.lt).trans h.blk⟩
theorem Pz.row (h:Pz w x vs)(us:Array Lw):Pz w (x.setRow w.heap.size us) us :=
 ⟨below_setRow h.b (K1 _) us,setRow_heap x _ _ us 75 (0,0) h.blk⟩
theorem gj:(prog.info? 75).map (·.size)=J1 19:=by kernel_rfl
theorem iO (tmps:Array Lw)(x:Lz)(g:Nat)(vs:Array Lw)(hp:tmps.getD 2 ON=Ln (J1 ⟨g,0,J0⟩))(hg:x.heap[g]?=J1 (Ly vs 75 (0,0)))(hs:vs.size=19) :
 (results f47 tmps).run Kf x=.ok (L5 #[PP vs,tmps.getD 3 ON]) x:=by
 have A0:tmps[2]?.getD ON=Ln (J1 ⟨g,0,J0⟩):=by simpa using hp
 have hr:=N4 (P:=Kf) x g 75 75 vs (0,0) _ hg LI rfl (by rw[hs];exact gj);simp[results,results47,A0,asAddr,hr]
theorem CM (s:List UInt8)(w:Lz):Mz Kf 82 #[IF ⟨s.toArray⟩] w λe w'=>e=Lq (lI (eR s))/\w'=w:=nv ⟨s.toArray⟩ w
structure Rq (x:Lz)(g:Nat)(c:I7)(k:I9):Prop where
 m:Rl x g c.hm c.am c.lm c.s0 k.m
 n:Rl x g c.hn c.an c.ln c.s1 k.n
 s:OG c.hs c.si c.s2 k.s
 u:OG c.hu c.ul c.s3 k.u
theorem Rq.below {k:I9}(h:Rq x g c k)(hg:g<=x.heap.size)(hb:Below x.heap.size x y):Rq y g c k :=
 ⟨h.m.kept (Kp.of_below hg hb),h.n.kept (Kp.of_below hg hb),h.s,h.u⟩
theorem Rq.set {b i:Nat}{v:Lw}{k:I9}(h:Rq x g c k)(hb:b<g+1):Rq (x.setCell ⟨b,i,J0⟩ v) g c k:=⟨h.m.set hb,h.n.set hb,h.s,h.u⟩
theorem Rl.mono {g':Nat}{l:Lw}{s:Bool}(r:Rl x g h a l s o)(hg:g'<=g):Rl x g' h a l s o:=by
 obtain⟨r1,r2,r3⟩:=r;refine⟨r1,r2,?_⟩;cases o with
 | none=>exact r3
 | some p=>exact⟨r3.1,gD r3.2 (by omega)⟩
theorem Rl.row {b:Nat}{l:Lw}{s:Bool}(r:Rl x g h a l s o)(hb:b<g+1):Rl (x.setRow b us) g h a l s o:=by
 obtain⟨r1,r2,r3⟩:=r;refine⟨r1,r2,?_⟩;cases o with
 | none=>exact r3
 | some p =>
   refine⟨r3.1,r3.2.1,?_⟩;rcases r3.2.2 with h0|⟨q,A1,A0,hv,hg,hh,rr⟩
   ·exact Or.inl h0
   ·exact Or.inr ⟨q,A1,A0,hv,hg,by rw[setRow_other x b q us (by omega)];exact hh,rr⟩
theorem Rq.row {b:Nat}{k:I9}(h:Rq x g c k)(hb:b<g+1):Rq (x.setRow b us) g c k:=⟨h.m.row hb,h.n.row hb,h.s,h.u⟩
def Jb (m:Nat):Bool:=m==2||m==3
theorem yF (hA:uG)(l:List UInt8)(w:Lz)(hM:bu w)(hl:l.length<=4000)(hok:∃m t k' body,bL l=J1 (m,t,k',body)/\k'.s=J0/\k'.u=J0) :
 Mz Kf 47 #[IF ⟨l.toArray⟩] w λe w'=>Below w.heap.size w w' /\
  ∃m t k body c g,bL l=J1 (m,t,k,body)/\e=Lq (L5 #[eY m t (Jb m) c body,ID K2])/\w.heap.size<g/\g<=w'.heap.size/\Rq w' g c k:=by
 have HN:Hid (bL l≠J0):=by obtain⟨m,t,k',b,h,_⟩:=hok;show _≠_;rw[h];simp
 have Au:=IA hok;clear hok;have pz:=Pz.made w;have As:=oP l [13,10];go_enter func47,ntmps47;go_wp2_with fail;refine(kB l [13,10] _ (hM.below pz.b) (by omega)).mono ?_;rintro e w1 ⟨rfl,Ar⟩;have A7:=pz.below Ar;clear pz Ar;have pz:=A7;clear A7;obtain⟨⟨A8,A2,ok⟩,hc⟩:∃t',Kx l [13,10]=t':=⟨_,rfl⟩;rw[hc] at As ⊢;simp only at As ⊢;have A4:=IA hc;clear hc;cases ok with
 | false=>exact absurd (pf1 A4.out) HN.out
 | true =>
   have Ac:=oP A8 [32];go_wp2_with fail;refine(kB A8 [32] _ (hM.below pz.b) (by omega)).mono ?_;rintro e w2 ⟨rfl,Aq⟩;have A7:=pz.below Aq;clear pz Aq;have pz:=A7;clear A7;obtain⟨⟨mt,tt,ok⟩,hc⟩:∃t',Kx A8 [32]=t':=⟨_,rfl⟩;rw[hc] at Ac ⊢;simp only at Ac ⊢;have A6:=IA hc;clear hc;cases ok with
   | false=>exact absurd (pf2 A4.out A6.out) HN.out
   | true =>
     go_wp2_with fail;refine(CM mt _).mono ?_;rintro e w3 ⟨rfl,rfl⟩;cases hm:eR mt with
     | none=>exact absurd (pf3 A4.out A6.out hm) HN.out
     | some m =>
       have Aa:=IA hm;clear hm;simp only[lI];go_wp2_with fail;refine(nk tt _ (hM.below pz.b) (by omega)).mono ?_;rintro e w4 ⟨An,⟨t,ht,rfl⟩|⟨hn,k5,n5,s5,rfl⟩⟩
       ·have Ae:=IA ht;obtain⟨tk,A0,tn⟩:=t;simp only[QN];have A7:=(pz.below An).below ((Below.refl _ _).alloc (K1 _) (Ly #[IH IR (tk:Int),IF ⟨A0.toArray⟩,IH IR (tn:Int)] 68));have At:=(pz.below An).lt;clear pz An ht;have pz:=A7;clear A7;go_wp2_with fail;have Ap:∃k' body,cg (A2.length+1) k0 A2=J1 (k',body)/\k'.s=J0/\k'.u=J0:=by
         cases h5:cg (A2.length+1) k0 A2 with
         | none=>exact absurd (pf5 A4.out A6.out Aa.out Ae.out h5) HN.out
         | some p =>obtain⟨k',b'⟩:=p;obtain⟨_,_,_,_,h,hs,hu⟩:=Au.out;rw[QE A4.out A6.out Aa.out Ae.out h5] at h;cases h;exact⟨_,_,rfl,hs,hu⟩
        refine(nG hA A2 _ (hM.below pz.b) (by omega) Ap).mono ?_;rintro e w5 ⟨Ab,k,c,body,hf,rfl,rm,rn,rs,ru⟩;clear Ap
        ·obtain⟨b1,n1,p1,e1⟩:=rm.slice;obtain⟨b2,n2,p2,e2⟩:=rn.slice;simp only[FE];rw[e1,e2];have Aj:=IA hf;have Ak:=IA e1;have Al:=IA e2;have Ao:=Ab.size;rw[LN] at Ao rm rn;have Ay:=(Ab.cell (p:=⟨w4.heap.size,0,J0⟩) (by simp)).trans (show _=J1 (IH IR (tk:Int)) by simp);have Aw:=(Ab.cell (p:=⟨w4.heap.size,1,J0⟩) (by simp)).trans (show _=J1 (IF ⟨A0.toArray⟩) by simp);have Av:=(Ab.cell (p:=⟨w4.heap.size,2,J0⟩) (by simp)).trans (show _=J1 (IH IR (tn:Int)) by simp);(have Ax:w4.heap.size<w5.heap.size:=by omega);have Ai:=pz.below Ab;have Ah:Rq w5 (w4.heap.size+1) c k:=⟨rm.mono (by omega),rn.mono (by omega),rs,ru⟩;have A9:∀o,Below w5.heap.size w5 (w5.alloc o):=λo=>(Below.refl _ _).alloc (K1 _) o;have Am:w4.heap.size+1<=w5.heap.size:=Ao;clear hf e1 e2 Ab pz rm rn rs ru;by_cases hm2:m=2
         ·subst hm2;have A5:=Ai.below (A9 (Ly #[ID K2,ID c.hm,ID c.am,Jx b1 n1 p1,ID c.hn,ID c.an,Jx b2 n2 p2,ID c.hs,IH IR c.si,ID c.hu,IH IR c.ul,ID I3,IF ⟨#[]⟩,IH IR 0] 73));have Ag:=Ah.below Am (A9 (Ly #[ID K2,ID c.hm,ID c.am,Jx b1 n1 p1,ID c.hn,ID c.an,Jx b2 n2 p2,ID c.hs,IH IR c.si,ID c.hu,IH IR c.ul,ID I3,IF ⟨#[]⟩,IH IR 0] 73));go_wp2_with (refine LO rfl 75 (.tmp 2) (.tmp 67) rfl w.heap.size #[IH IR 2,IH IR (tk:Int),IF ⟨A0.toArray⟩,IH IR (tn:Int),ID K2,ID c.hm,ID c.am,Jx b1 n1 p1,ID c.hn,ID c.an,Jx b2 n2 p2,ID c.hs,IH IR c.si,ID c.hu,IH IR c.ul,ID I3,IF ⟨#[]⟩,IH IR 0,IF ⟨body.toArray⟩] rfl rfl 75 #[IH IR 0,IH IR 0,IF ⟨#[]⟩,IH IR 0,ID I3,ID I3,ID I3,Jx J0 0 0,ID I3,ID I3,Jx J0 0 0,ID I3,IH IR 0,ID I3,IH IR 0,ID I3,IF ⟨#[]⟩,IH IR 0,IF ⟨#[]⟩] A5.blk gj rfl (by simp[LR]) ?_);have A3:=A5.row #[IH IR 2,IH IR (tk:Int),IF ⟨A0.toArray⟩,IH IR (tn:Int),ID K2,ID c.hm,ID c.am,Jx b1 n1 p1,ID c.hn,ID c.an,Jx b2 n2 p2,ID c.hs,IH IR c.si,ID c.hu,IH IR c.ul,ID I3,IF ⟨#[]⟩,IH IR 0,IF ⟨body.toArray⟩];obtain⟨x',A1⟩:=exj ((w5.alloc (Ly #[ID K2,ID c.hm,ID c.am,Jx b1 n1 p1,ID c.hn,ID c.an,Jx b2 n2 p2,ID c.hs,IH IR c.si,ID c.hu,IH IR c.ul,ID I3,IF ⟨#[]⟩,IH IR 0] 73)).setRow w.heap.size #[IH IR 2,IH IR (tk:Int),IF ⟨A0.toArray⟩,IH IR (tn:Int),ID K2,ID c.hm,ID c.am,Jx b1 n1 p1,ID c.hn,ID c.an,Jx b2 n2 p2,ID c.hs,IH IR c.si,ID c.hu,IH IR c.ul,ID I3,IF ⟨#[]⟩,IH IR 0,IF ⟨body.toArray⟩]);(have Af:Rq x' (w4.heap.size+1) c k:=by rw[A1];exact Ag.row (by omega));(have Ad:w4.heap.size+1<=x'.heap.size:=by rw[A1,setRow_size,LN];omega);rw[<-A1] at A3 ⊢;clear A1;refine L2 (v:=L5 #[PP #[IH IR 2,IH IR (tk:Int),IF ⟨A0.toArray⟩,IH IR (tn:Int),ID K2,ID c.hm,ID c.am,Jx b1 n1 p1,ID c.hn,ID c.an,Jx b2 n2 p2,ID c.hs,IH IR c.si,ID c.hu,IH IR c.ul,ID I3,IF ⟨#[]⟩,IH IR 0,IF ⟨body.toArray⟩],ID K2]) (iO _ x' w.heap.size _ rfl A3.blk rfl) rfl ⟨A3.b,2,⟨tk,A0,tn⟩,k,body,c,w4.heap.size+1,QE A4.out A6.out Aa.out Ae.out Aj.out,?_,by omega,Ad,Af⟩;rw[eY,Ak.out,Al.out];rfl
         ·by_cases Vr:m=3
          ·subst Vr;have A5:=Ai.below (A9 (Ly #[ID K2,ID c.hm,ID c.am,Jx b1 n1 p1,ID c.hn,ID c.an,Jx b2 n2 p2,ID c.hs,IH IR c.si,ID c.hu,IH IR c.ul,ID I3,IF ⟨#[]⟩,IH IR 0] 73));have Ag:=Ah.below Am (A9 (Ly #[ID K2,ID c.hm,ID c.am,Jx b1 n1 p1,ID c.hn,ID c.an,Jx b2 n2 p2,ID c.hs,IH IR c.si,ID c.hu,IH IR c.ul,ID I3,IF ⟨#[]⟩,IH IR 0] 73));go_wp2_with (refine LO rfl 75 (.tmp 2) (.tmp 67) rfl w.heap.size #[IH IR 3,IH IR (tk:Int),IF ⟨A0.toArray⟩,IH IR (tn:Int),ID K2,ID c.hm,ID c.am,Jx b1 n1 p1,ID c.hn,ID c.an,Jx b2 n2 p2,ID c.hs,IH IR c.si,ID c.hu,IH IR c.ul,ID I3,IF ⟨#[]⟩,IH IR 0,IF ⟨body.toArray⟩] rfl rfl 75 #[IH IR 0,IH IR 0,IF ⟨#[]⟩,IH IR 0,ID I3,ID I3,ID I3,Jx J0 0 0,ID I3,ID I3,Jx J0 0 0,ID I3,IH IR 0,ID I3,IH IR 0,ID I3,IF ⟨#[]⟩,IH IR 0,IF ⟨#[]⟩] A5.blk gj rfl (by simp[LR]) ?_);have A3:=A5.row #[IH IR 3,IH IR (tk:Int),IF ⟨A0.toArray⟩,IH IR (tn:Int),ID K2,ID c.hm,ID c.am,Jx b1 n1 p1,ID c.hn,ID c.an,Jx b2 n2 p2,ID c.hs,IH IR c.si,ID c.hu,IH IR c.ul,ID I3,IF ⟨#[]⟩,IH IR 0,IF ⟨body.toArray⟩];obtain⟨x',A1⟩:=exj ((w5.alloc (Ly #[ID K2,ID c.hm,ID c.am,Jx b1 n1 p1,ID c.hn,ID c.an,Jx b2 n2 p2,ID c.hs,IH IR c.si,ID c.hu,IH IR c.ul,ID I3,IF ⟨#[]⟩,IH IR 0] 73)).setRow w.heap.size #[IH IR 3,IH IR (tk:Int),IF ⟨A0.toArray⟩,IH IR (tn:Int),ID K2,ID c.hm,ID c.am,Jx b1 n1 p1,ID c.hn,ID c.an,Jx b2 n2 p2,ID c.hs,IH IR c.si,ID c.hu,IH IR c.ul,ID I3,IF ⟨#[]⟩,IH IR 0,IF ⟨body.toArray⟩]);(have Af:Rq x' (w4.heap.size+1) c k:=by rw[A1];exact Ag.row (by omega));(have Ad:w4.heap.size+1<=x'.heap.size:=by rw[A1,setRow_size,LN];omega);rw[<-A1] at A3 ⊢;clear A1;refine L2 (v:=L5 #[PP #[IH IR 3,IH IR (tk:Int),IF ⟨A0.toArray⟩,IH IR (tn:Int),ID K2,ID c.hm,ID c.am,Jx b1 n1 p1,ID c.hn,ID c.an,Jx b2 n2 p2,ID c.hs,IH IR c.si,ID c.hu,IH IR c.ul,ID I3,IF ⟨#[]⟩,IH IR 0,IF ⟨body.toArray⟩],ID K2]) (iO _ x' w.heap.size _ rfl A3.blk rfl) rfl ⟨A3.b,3,⟨tk,A0,tn⟩,k,body,c,w4.heap.size+1,QE A4.out A6.out Aa.out Ae.out Aj.out,?_,by omega,Ad,Af⟩;rw[eY,Ak.out,Al.out];rfl
          ·(have m2:((m:Int)==2)=I3:=by simp;omega);(have m3:((m:Int)==3)=I3:=by simp;omega);(have HW:Hid (Jb m=I3):=by show _=_;simp[Jb,hm2,Vr]);have A5:=Ai.below (A9 (Ly #[ID I3,ID c.hm,ID c.am,Jx b1 n1 p1,ID c.hn,ID c.an,Jx b2 n2 p2,ID c.hs,IH IR c.si,ID c.hu,IH IR c.ul,ID I3,IF ⟨#[]⟩,IH IR 0] 73));have Ag:=Ah.below Am (A9 (Ly #[ID I3,ID c.hm,ID c.am,Jx b1 n1 p1,ID c.hn,ID c.an,Jx b2 n2 p2,ID c.hs,IH IR c.si,ID c.hu,IH IR c.ul,ID I3,IF ⟨#[]⟩,IH IR 0] 73));go_wp2_with (refine LO rfl 75 (.tmp 2) (.tmp 67) rfl w.heap.size #[IH IR (m:Int),IH IR (tk:Int),IF ⟨A0.toArray⟩,IH IR (tn:Int),ID I3,ID c.hm,ID c.am,Jx b1 n1 p1,ID c.hn,ID c.an,Jx b2 n2 p2,ID c.hs,IH IR c.si,ID c.hu,IH IR c.ul,ID I3,IF ⟨#[]⟩,IH IR 0,IF ⟨body.toArray⟩] rfl rfl 75 #[IH IR 0,IH IR 0,IF ⟨#[]⟩,IH IR 0,ID I3,ID I3,ID I3,Jx J0 0 0,ID I3,ID I3,Jx J0 0 0,ID I3,IH IR 0,ID I3,IH IR 0,ID I3,IF ⟨#[]⟩,IH IR 0,IF ⟨#[]⟩] A5.blk gj rfl (by simp[LR]) ?_);have A3:=A5.row #[IH IR (m:Int),IH IR (tk:Int),IF ⟨A0.toArray⟩,IH IR (tn:Int),ID I3,ID c.hm,ID c.am,Jx b1 n1 p1,ID c.hn,ID c.an,Jx b2 n2 p2,ID c.hs,IH IR c.si,ID c.hu,IH IR c.ul,ID I3,IF ⟨#[]⟩,IH IR 0,IF ⟨body.toArray⟩];obtain⟨x',A1⟩:=exj ((w5.alloc (Ly #[ID I3,ID c.hm,ID c.am,Jx b1 n1 p1,ID c.hn,ID c.an,Jx b2 n2 p2,ID c.hs,IH IR c.si,ID c.hu,IH IR c.ul,ID I3,IF ⟨#[]⟩,IH IR 0] 73)).setRow w.heap.size #[IH IR (m:Int),IH IR (tk:Int),IF ⟨A0.toArray⟩,IH IR (tn:Int),ID I3,ID c.hm,ID c.am,Jx b1 n1 p1,ID c.hn,ID c.an,Jx b2 n2 p2,ID c.hs,IH IR c.si,ID c.hu,IH IR c.ul,ID I3,IF ⟨#[]⟩,IH IR 0,IF ⟨body.toArray⟩]);(have Af:Rq x' (w4.heap.size+1) c k:=by rw[A1];exact Ag.row (by omega));(have Ad:w4.heap.size+1<=x'.heap.size:=by rw[A1,setRow_size,LN];omega);rw[<-A1] at A3 ⊢;clear A1;refine L2 (v:=L5 #[PP #[IH IR (m:Int),IH IR (tk:Int),IF ⟨A0.toArray⟩,IH IR (tn:Int),ID I3,ID c.hm,ID c.am,Jx b1 n1 p1,ID c.hn,ID c.an,Jx b2 n2 p2,ID c.hs,IH IR c.si,ID c.hu,IH IR c.ul,ID I3,IF ⟨#[]⟩,IH IR 0,IF ⟨body.toArray⟩],ID K2]) (iO _ x' w.heap.size _ rfl A3.blk rfl) rfl ⟨A3.b,m,⟨tk,A0,tn⟩,k,body,c,w4.heap.size+1,QE A4.out A6.out Aa.out Ae.out Aj.out,?_,by omega,Ad,Af⟩;rw[eY,Ak.out,Al.out,HW.out]
       ·exact absurd (pf4 A4.out A6.out Aa.out hn) HN.out
theorem mj (m tk:Nat)(key:ByteArray)(tn:Nat)(wr hm am:Bool)(b1:Option Addr)(n1 p1:Nat)(hn an:Bool)(b2:Option Addr)(n2 p2:Nat)(hs:Bool)(si:Int)(hu:Bool)(ul:Int)(body:ByteArray)(w:Lz) :
 Mz Kf 48 #[PP #[IH IR (m:Int),IH IR (tk:Int),IF key,IH IR (tn:Int),ID wr,ID hm,ID am,Jx b1 n1 p1,ID hn,ID an,Jx b2 n2 p2,ID hs,IH IR si,ID hu,IH IR ul,ID I3,IF ⟨#[]⟩,IH IR 0,IF body]] w λe w'=>e=Lq (ID (m==2&&tk==1))/\Below w.heap.size w w':=by
 have A0:∀o,Below w.heap.size w (w.alloc o):=λo=>(Below.refl _ _).alloc (K1 _) o;by_cases h2:m=2
 ·subst h2;by_cases h1:tk=1
  ·subst h1;go_enter func48,ntmps48;go_wp2_with fail;go_ret;exact⟨rfl,A0 _⟩
  ·(have m1:((tk:Int)==1)=I3:=by simp;omega);(have HW:Hid ((tk==1)=I3):=by show _=_;simp[h1]);go_enter func48,ntmps48;go_wp2_with fail;go_ret;exact⟨by rw[HW.out];rfl,A0 _⟩
 ·(have m2:((m:Int)==2)=I3:=by simp;omega);(have HW:Hid ((m==2)=I3):=by show _=_;simp[h2]);go_enter func48,ntmps48;go_wp2_with fail;go_ret;exact⟨by rw[HW.out];rfl,A0 _⟩
def fO (m tk:Nat):Bool:=if m=0 then K2 else if m=2 then tk==1 else tk==1||tk==2
theorem iY (m tk:Nat)(key:ByteArray)(tn:Nat)(wr hm am:Bool)(b1:Option Addr)(n1 p1:Nat)(hn an:Bool)(b2:Option Addr)(n2 p2:Nat)(hs:Bool)(si:Int)(hu:Bool)(ul:Int)(body:ByteArray)(w:Lz) :
 Mz Kf 49 #[PP #[IH IR (m:Int),IH IR (tk:Int),IF key,IH IR (tn:Int),ID wr,ID hm,ID am,Jx b1 n1 p1,ID hn,ID an,Jx b2 n2 p2,ID hs,IH IR si,ID hu,IH IR ul,ID I3,IF ⟨#[]⟩,IH IR 0,IF body]] w λe w'=>e=Lq (ID (fO m tk))/\Below w.heap.size w w':=by
 have A0:∀o,Below w.heap.size w (w.alloc o):=λo=>(Below.refl _ _).alloc (K1 _) o;by_cases h0:m=0
 ·subst h0;go_enter func49,ntmps49;go_wp2_with fail;go_ret;exact⟨rfl,A0 _⟩
 ·(have m0:((m:Int)==0)=I3:=by simp;omega);by_cases h2:m=2
  ·(have m2:((m:Int)==2)=K2:=by simp;omega);(have HF:Hid (fO m tk=(m==2&&tk==1)):=by show _=_;simp[fO,h2]);clear h0 h2;go_enter func49,ntmps49;go_wp2_with (refine Mb rfl 75 (.tmp 1) rfl w.heap.size rfl 75 #[IH IR (m:Int),IH IR (tk:Int),IF key,IH IR (tn:Int),ID wr,ID hm,ID am,Jx b1 n1 p1,ID hn,ID an,Jx b2 n2 p2,ID hs,IH IR si,ID hu,IH IR ul,ID I3,IF ⟨#[]⟩,IH IR 0,IF body] (0,0) _ (LL _ _) LI rfl gj ?_);refine(mj m tk key tn wr hm am b1 n1 p1 hn an b2 n2 p2 hs si hu ul body _).mono ?_;rintro e w1 ⟨rfl,hb⟩;have A1:=(A0 _).trans (hb.mono (by rw[LN];omega));clear hb;rw[<-HF.out];go_wp2_with fail;go_ret;exact⟨rfl,A1⟩
  ·(have m2:((m:Int)==2)=I3:=by simp;omega);by_cases h1:tk=1
   ·subst h1;(have HF:Hid (fO m 1=K2):=by show _=_;simp[fO,h0,h2]);clear h0 h2;go_enter func49,ntmps49;go_wp2_with fail;go_ret;exact⟨by rw[HF.out];rfl,A0 _⟩
   ·(have t1:((tk:Int)==1)=I3:=by simp;omega);by_cases h3:tk=2
    ·subst h3;(have HF:Hid (fO m 2=K2):=by show _=_;simp[fO,h0,h2]);clear h0 h2;go_enter func49,ntmps49;go_wp2_with fail;go_ret;exact⟨by rw[HF.out];rfl,A0 _⟩
    ·(have t2:((tk:Int)==2)=I3:=by simp;omega);(have HF:Hid (fO m tk=I3):=by show _=_;simp[fO,h0,h2,h1,h3]);clear h0 h2 h1 h3;go_enter func49,ntmps49;go_wp2_with fail;go_ret;exact⟨by rw[HF.out];rfl,A0 _⟩
noncomputable def aZ (l:List UInt8):Except Nat (Nat×Jg×I9×List UInt8) :=
 if 2000<l.length then .error 413 else
  match bL l with
  | none=>.error 400
  | some (m,t,k,body) =>
    if body≠[]/\(m==2&&t.kind==1)=I3 then .error 400
    else if 400<body.length then .error 413
    else if fO m t.kind then .ok (m,t,k,body) else .error 405
theorem Vh {l:List UInt8}(h:2000<l.length):aZ l=.error 413:=by simp[aZ,h]
theorem rf2 {l:List UInt8}(h:¬ 2000<l.length)(hp:bL l=J0):aZ l=.error 400:=by simp[aZ,h,hp]
theorem Vg {l:List UInt8}{m t k body}(h:¬ 2000<l.length)(hp:bL l=J1 (m,t,k,body))(hb:body≠[])(hk:(m==2&&t.kind==1)=I3):aZ l=.error 400:=by
 unfold aZ;rw[if_neg h,hp];simp only;rw[if_pos ⟨hb,hk⟩]
theorem Vf {l:List UInt8}{m t k body}(h:¬ 2000<l.length)(hp:bL l=J1 (m,t,k,body))(hk:¬ (body≠[]/\(m==2&&t.kind==1)=I3))(h4:400<body.length):aZ l=.error 413:=by
 unfold aZ;rw[if_neg h,hp];simp only;rw[if_neg hk,if_pos h4]
theorem TQ {l:List UInt8}{m t k body}(h:¬ 2000<l.length)(hp:bL l=J1 (m,t,k,body))(hk:¬ (body≠[]/\(m==2&&t.kind==1)=I3))(h4:¬ 400<body.length)(hf:fO m t.kind=I3):aZ l=.error 405:=by
 unfold aZ;rw[if_neg h,hp];simp only;rw[if_neg hk,if_neg h4,if_neg (by rw[hf];exact Bool.false_ne_true)]
theorem Ov {l:List UInt8}{m t k body}(h:¬ 2000<l.length)(hp:bL l=J1 (m,t,k,body))(hk:¬ (body≠[]/\(m==2&&t.kind==1)=I3))(h4:¬ 400<body.length)(hf:fO m t.kind=K2):aZ l=.ok (m,t,k,body):=by
 unfold aZ;rw[if_neg h,hp];simp only;rw[if_neg hk,if_neg h4,if_pos hf]
def jX (l:List UInt8):Prop:=∃m t k' body,aZ l=.ok (m,t,k',body)/\t.kind≠0/\t.kind≠3/\k'.s=J0/\k'.u=J0
theorem jX.parse {l:List UInt8}(h:jX l):∃m t k' body,bL l=J1 (m,t,k',body)/\k'.s=J0/\k'.u=J0:=by
 obtain⟨m,t,k,body,h,_,_,hs,hu⟩:=h;unfold aZ at h;split at h
 ·cases h
 ·split at h
  ·cases h
  ·rename_i hp;split at h
   ·cases h
   ·split at h
    ·cases h
    ·split at h
     ·cases h;exact⟨_,_,_,_,hp,hs,hu⟩
     ·cases h
theorem jX.no {l:List UInt8}(h:jX l)(n:Nat):aZ l≠.error n:=by
 obtain⟨m,t,k,body,h,_⟩:=h;rw[h];intro e;cases e
theorem results_read (tmps:Array Lw)(x:Lz)(g:Nat)(vs:Array Lw)(hp:tmps.getD 2 ON=Ln (J1 ⟨g,0,J0⟩))(hg:x.heap[g]?=J1 (Ly vs 75 (0,0)))(hs:vs.size=19) :
 (results f29 tmps).run Kf x=.ok (L5 #[PP vs,tmps.getD 3 ON]) x:=by
 have A0:tmps[2]?.getD ON=Ln (J1 ⟨g,0,J0⟩):=by simpa using hp
 have hr:=N4 (P:=Kf) x g 75 75 vs (0,0) _ hg LI rfl (by rw[hs];exact gj);simp[results,results29,A0,asAddr,hr]
theorem kq {P:RR}{ops:Array Oper}{rest:List Oper}{o:Oper}{a:Act}{Q:Exit->Act->Lz->Prop}(hw:Region.wanted o (yielded ops a.tmps)=K2)(ty:MA)(x:Operand)(ho:o.op=.load ty x)
 (g:Nat)(hx:a.eval x=Ln (J1 ⟨g,0,J0⟩))(t:MA)(cs:Array Lw)(fr:Nat×Nat)(d:TypeDesc)(hg:w.heap[g]?=J1 (Ly cs t fr))
 (hu:P.underlying ty=J1 d)(hd:(match d with|.struct _|.array _ _=>K2|_=>I3)=K2)(hi:(P.info? ty).map (·.size)=J1 cs.size)
 (h:wpList P ops Q rest (a.put o.dst (PP cs)) w):wpList P ops Q (o::rest) a w :=
 wpList_step λK hK=>by rw[if_pos hw];exact wp_load_row ty x ho g hx t cs fr d hg hu hd hi (hK _ _ h)
theorem uF (hA:uG)(l:List UInt8)(w:Lz)(hM:bu w)(_:l.length<=9223372036854775807)(hok:jX l) :
 Mz Kf 29 #[IF ⟨l.toArray⟩] w λe w'=>Below w.heap.size w w' /\
  ∃m t k body c g,aZ l=.ok (m,t,k,body)/\e=Lq (L5 #[eY m t (Jb m) c body,IH IR 0])/\w.heap.size<g/\g<=w'.heap.size/\Rq w' g c k:=by
 have HN:Hid (∀n,aZ l≠.error n):=hok.no;have Ak:=hok.parse;clear hok;have pz:=Pz.made w;by_cases h2:2000<l.length
 ·exact absurd (Vh h2) (HN.out _)
 ·go_enter func29,ntmps29;go_wp2_with fail;refine(yF hA l _ (hM.below pz.b) (by omega) Ak).mono ?_;rintro e w1 ⟨An,m,t,k,body,c,g,hp,rfl,Aq,A8,rq⟩;clear Ak
  ·obtain⟨b1,n1,p1,e1⟩:=rq.m.slice;obtain⟨b2,n2,p2,e2⟩:=rq.n.slice;simp only[eY];rw[e1,e2];have Aj:=IA e1;have Al:=IA e2;have HP:=IA hp;have Am:=pz.below An;rw[LN] at Aq;clear e1 e2 hp pz An;by_cases hb:body=[]
   ·subst hb;have kk:¬ (([]:List UInt8)≠[]/\(m==2&&t.kind==1)=I3):=λh=>h.1 rfl;have HK:=IA kk;clear kk;have A1:Below w1.heap.size w1 (w1.alloc (Ly #[IH IR (m:Int),IH IR (t.kind:Int),IF ⟨t.key.toArray⟩,IH IR (t.num:Int),ID (Jb m),ID c.hm,ID c.am,Jx b1 n1 p1,ID c.hn,ID c.an,Jx b2 n2 p2,ID c.hs,IH IR c.si,ID c.hu,IH IR c.ul,ID I3,IF ⟨#[]⟩,IH IR 0,IF ⟨#[]⟩] 75)):=(Below.refl _ _).alloc (K1 _) _;have Ah:=Am.below A1;have Ag:=rq.below A8 A1;have A7:=Nm A8 A1.size;(have Aa:w1.heap.size<(w1.alloc (Ly #[IH IR (m:Int),IH IR (t.kind:Int),IF ⟨t.key.toArray⟩,IH IR (t.num:Int),ID (Jb m),ID c.hm,ID c.am,Jx b1 n1 p1,ID c.hn,ID c.an,Jx b2 n2 p2,ID c.hs,IH IR c.si,ID c.hu,IH IR c.ul,ID I3,IF ⟨#[]⟩,IH IR 0,IF ⟨#[]⟩] 75)).heap.size:=by rw[LN];omega);clear A1 rq;go_wp2_with (first|(refine LO rfl 75 (.tmp 4) (.tmp 13) rfl w1.heap.size #[IH IR (m:Int),IH IR (t.kind:Int),IF ⟨t.key.toArray⟩,IH IR (t.num:Int),ID (Jb m),ID c.hm,ID c.am,Jx b1 n1 p1,ID c.hn,ID c.an,Jx b2 n2 p2,ID c.hs,IH IR c.si,ID c.hu,IH IR c.ul,ID I3,IF ⟨#[]⟩,IH IR 0,IF ⟨#[]⟩] rfl rfl 75 #[IH IR 0,IH IR 0,IF ⟨#[]⟩,IH IR 0,ID I3,ID I3,ID I3,Jx J0 0 0,ID I3,ID I3,Jx J0 0 0,ID I3,IH IR 0,ID I3,IH IR 0,ID I3,IF ⟨#[]⟩,IH IR 0,IF ⟨#[]⟩] (LL _ _) gj rfl (by simp[LR]) ?_;rw[N3])|(refine Mb rfl 75 (.tmp 4) rfl w1.heap.size rfl 75 #[IH IR (m:Int),IH IR (t.kind:Int),IF ⟨t.key.toArray⟩,IH IR (t.num:Int),ID (Jb m),ID c.hm,ID c.am,Jx b1 n1 p1,ID c.hn,ID c.an,Jx b2 n2 p2,ID c.hs,IH IR c.si,ID c.hu,IH IR c.ul,ID I3,IF ⟨#[]⟩,IH IR 0,IF ⟨#[]⟩] (0,0) _ (LL _ _) LI rfl gj ?_));refine(iY m t.kind ⟨t.key.toArray⟩ t.num (Jb m) c.hm c.am b1 n1 p1 c.hn c.an b2 n2 p2 c.hs c.si c.hu c.ul ⟨#[]⟩ _).mono ?_;rintro e w3 ⟨rfl,A0⟩;have A6:=Ah.below A0;have Ab:=Ag.below A7 A0;have Ac:=Nm A7 A0.size;have A9:w3.heap[w1.heap.size]?=J1 (Ly #[IH IR (m:Int),IH IR (t.kind:Int),IF ⟨t.key.toArray⟩,IH IR (t.num:Int),ID (Jb m),ID c.hm,ID c.am,Jx b1 n1 p1,ID c.hn,ID c.an,Jx b2 n2 p2,ID c.hs,IH IR c.si,ID c.hu,IH IR c.ul,ID I3,IF ⟨#[]⟩,IH IR 0,IF ⟨#[]⟩] 75 (0,0)):=(A0.block _ Aa).trans (LL _ _);clear A0;cases hf:fO m t.kind with
    | false=>exact absurd (TQ h2 HP.out HK.out (by simp) hf) (HN.out _)
    | true =>have HR:=IA (Ov h2 HP.out HK.out (by simp) hf);clear hf;go_wp2_with (first|(refine Mb rfl 75 (.tmp 4) rfl w1.heap.size rfl 75 #[IH IR (m:Int),IH IR (t.kind:Int),IF ⟨t.key.toArray⟩,IH IR (t.num:Int),ID (Jb m),ID c.hm,ID c.am,Jx b1 n1 p1,ID c.hn,ID c.an,Jx b2 n2 p2,ID c.hs,IH IR c.si,ID c.hu,IH IR c.ul,ID I3,IF ⟨#[]⟩,IH IR 0,IF ⟨#[]⟩] (0,0) _ A9 LI rfl gj ?_)|(refine LO rfl 75 (.tmp 2) (.tmp 37) rfl w.heap.size #[IH IR (m:Int),IH IR (t.kind:Int),IF ⟨t.key.toArray⟩,IH IR (t.num:Int),ID (Jb m),ID c.hm,ID c.am,Jx b1 n1 p1,ID c.hn,ID c.an,Jx b2 n2 p2,ID c.hs,IH IR c.si,ID c.hu,IH IR c.ul,ID I3,IF ⟨#[]⟩,IH IR 0,IF ⟨#[]⟩] rfl rfl 75 #[IH IR 0,IH IR 0,IF ⟨#[]⟩,IH IR 0,ID I3,ID I3,ID I3,Jx J0 0 0,ID I3,ID I3,Jx J0 0 0,ID I3,IH IR 0,ID I3,IH IR 0,ID I3,IF ⟨#[]⟩,IH IR 0,IF ⟨#[]⟩] A6.blk gj rfl (by simp[LR]) ?_));have A5:=A6.row #[IH IR (m:Int),IH IR (t.kind:Int),IF ⟨t.key.toArray⟩,IH IR (t.num:Int),ID (Jb m),ID c.hm,ID c.am,Jx b1 n1 p1,ID c.hn,ID c.an,Jx b2 n2 p2,ID c.hs,IH IR c.si,ID c.hu,IH IR c.ul,ID I3,IF ⟨#[]⟩,IH IR 0,IF ⟨#[]⟩];have Ae:=Ab.row (b:=w.heap.size) (us:=#[IH IR (m:Int),IH IR (t.kind:Int),IF ⟨t.key.toArray⟩,IH IR (t.num:Int),ID (Jb m),ID c.hm,ID c.am,Jx b1 n1 p1,ID c.hn,ID c.an,Jx b2 n2 p2,ID c.hs,IH IR c.si,ID c.hu,IH IR c.ul,ID I3,IF ⟨#[]⟩,IH IR 0,IF ⟨#[]⟩]) (by omega);refine L2 (v:=L5 #[PP #[IH IR (m:Int),IH IR (t.kind:Int),IF ⟨t.key.toArray⟩,IH IR (t.num:Int),ID (Jb m),ID c.hm,ID c.am,Jx b1 n1 p1,ID c.hn,ID c.an,Jx b2 n2 p2,ID c.hs,IH IR c.si,ID c.hu,IH IR c.ul,ID I3,IF ⟨#[]⟩,IH IR 0,IF ⟨#[]⟩],IH IR 0]) (results_read _ _ w.heap.size _ rfl A5.blk rfl) rfl ⟨A5.b,m,t,k,[],c,g,HR.out,?_,by omega,by rw[setRow_size];exact Ac,Ae⟩;rw[eY,Aj.out,Al.out]
   ·obtain⟨Ap,Af⟩:(body==[])=I3/\body.isEmpty=I3:=by cases body with
     | nil=>exact absurd rfl hb
     | cons a r=>exact⟨rfl,rfl⟩
    have A1:Below w1.heap.size w1 (w1.alloc (Ly #[IH IR (m:Int),IH IR (t.kind:Int),IF ⟨t.key.toArray⟩,IH IR (t.num:Int),ID (Jb m),ID c.hm,ID c.am,Jx b1 n1 p1,ID c.hn,ID c.an,Jx b2 n2 p2,ID c.hs,IH IR c.si,ID c.hu,IH IR c.ul,ID I3,IF ⟨#[]⟩,IH IR 0,IF ⟨body.toArray⟩] 75)):=(Below.refl _ _).alloc (K1 _) _;have Ao:=Am.below A1;have Ai:=rq.below A8 A1;have A2:=Nm A8 A1.size;(have A3:w1.heap.size<(w1.alloc (Ly #[IH IR (m:Int),IH IR (t.kind:Int),IF ⟨t.key.toArray⟩,IH IR (t.num:Int),ID (Jb m),ID c.hm,ID c.am,Jx b1 n1 p1,ID c.hn,ID c.an,Jx b2 n2 p2,ID c.hs,IH IR c.si,ID c.hu,IH IR c.ul,ID I3,IF ⟨#[]⟩,IH IR 0,IF ⟨body.toArray⟩] 75)).heap.size:=by rw[LN];omega);have HB:Hid (body≠[]):=hb;clear A1 rq hb;go_wp2_with (first|(refine LO rfl 75 (.tmp 4) (.tmp 13) rfl w1.heap.size #[IH IR (m:Int),IH IR (t.kind:Int),IF ⟨t.key.toArray⟩,IH IR (t.num:Int),ID (Jb m),ID c.hm,ID c.am,Jx b1 n1 p1,ID c.hn,ID c.an,Jx b2 n2 p2,ID c.hs,IH IR c.si,ID c.hu,IH IR c.ul,ID I3,IF ⟨#[]⟩,IH IR 0,IF ⟨body.toArray⟩] rfl rfl 75 #[IH IR 0,IH IR 0,IF ⟨#[]⟩,IH IR 0,ID I3,ID I3,ID I3,Jx J0 0 0,ID I3,ID I3,Jx J0 0 0,ID I3,IH IR 0,ID I3,IH IR 0,ID I3,IF ⟨#[]⟩,IH IR 0,IF ⟨#[]⟩] (LL _ _) gj rfl (by simp[LR]) ?_;rw[N3])|(refine kq rfl 75 (.tmp 4) rfl w1.heap.size rfl 75 #[IH IR (m:Int),IH IR (t.kind:Int),IF ⟨t.key.toArray⟩,IH IR (t.num:Int),ID (Jb m),ID c.hm,ID c.am,Jx b1 n1 p1,ID c.hn,ID c.an,Jx b2 n2 p2,ID c.hs,IH IR c.si,ID c.hu,IH IR c.ul,ID I3,IF ⟨#[]⟩,IH IR 0,IF ⟨body.toArray⟩] (0,0) _ (LL _ _) LI rfl gj ?_));refine(mj m t.kind ⟨t.key.toArray⟩ t.num (Jb m) c.hm c.am b1 n1 p1 c.hn c.an b2 n2 p2 c.hs c.si c.hu c.ul ⟨body.toArray⟩ _).mono ?_;rintro e x ⟨rfl,A4⟩;have Ah:=Ao.below A4;have Ag:=Ai.below A2 A4;have A7:=Nm A2 A4.size;have Ad:x.heap[w1.heap.size]?=J1 (Ly #[IH IR (m:Int),IH IR (t.kind:Int),IF ⟨t.key.toArray⟩,IH IR (t.num:Int),ID (Jb m),ID c.hm,ID c.am,Jx b1 n1 p1,ID c.hn,ID c.an,Jx b2 n2 p2,ID c.hs,IH IR c.si,ID c.hu,IH IR c.ul,ID I3,IF ⟨#[]⟩,IH IR 0,IF ⟨body.toArray⟩] 75 (0,0)):=(A4.block _ A3).trans (LL _ _);have Aa:=Pa A3 A4.size;(have Ar:x.cell? ⟨w1.heap.size,18,J0⟩=J1 (IF ⟨body.toArray⟩):=by simp[M1,Ad]);clear A4 Ao Ai A2 A3 Ap Af;cases hk:(m==2&&t.kind==1) with
    | false=>exact absurd (Vg h2 HP.out HB.out hk) (HN.out _)
    | true =>
      (have HK:Hid (¬ (body≠[]/\(m==2&&t.kind==1)=I3)):=λh=>by rw[hk] at h;exact absurd h.2 (by decide));clear hk;by_cases h4:400<body.length
      ·exact absurd (Vf h2 HP.out HK.out h4) (HN.out _)
      ·skip;go_wp2_with (first|fail|(refine Mb rfl 75 (.tmp 4) rfl w1.heap.size rfl 75 #[IH IR (m:Int),IH IR (t.kind:Int),IF ⟨t.key.toArray⟩,IH IR (t.num:Int),ID (Jb m),ID c.hm,ID c.am,Jx b1 n1 p1,ID c.hn,ID c.an,Jx b2 n2 p2,ID c.hs,IH IR c.si,ID c.hu,IH IR c.ul,ID I3,IF ⟨#[]⟩,IH IR 0,IF ⟨body.toArray⟩] (0,0) _ Ad LI rfl gj ?_));refine(iY m t.kind ⟨t.key.toArray⟩ t.num (Jb m) c.hm c.am b1 n1 p1 c.hn c.an b2 n2 p2 c.hs c.si c.hu c.ul ⟨body.toArray⟩ _).mono ?_;rintro e w3 ⟨rfl,A0⟩;have A6:=Ah.below A0;have Ab:=Ag.below A7 A0;have Ac:=Nm A7 A0.size;have A9:w3.heap[w1.heap.size]?=J1 (Ly #[IH IR (m:Int),IH IR (t.kind:Int),IF ⟨t.key.toArray⟩,IH IR (t.num:Int),ID (Jb m),ID c.hm,ID c.am,Jx b1 n1 p1,ID c.hn,ID c.an,Jx b2 n2 p2,ID c.hs,IH IR c.si,ID c.hu,IH IR c.ul,ID I3,IF ⟨#[]⟩,IH IR 0,IF ⟨body.toArray⟩] 75 (0,0)):=(A0.block _ Aa).trans Ad;clear A0;cases hf:fO m t.kind with
       | false=>exact absurd (TQ h2 HP.out HK.out h4 hf) (HN.out _)
       | true =>have HR:=IA (Ov h2 HP.out HK.out h4 hf);clear hf;go_wp2_with (first|(refine Mb rfl 75 (.tmp 4) rfl w1.heap.size rfl 75 #[IH IR (m:Int),IH IR (t.kind:Int),IF ⟨t.key.toArray⟩,IH IR (t.num:Int),ID (Jb m),ID c.hm,ID c.am,Jx b1 n1 p1,ID c.hn,ID c.an,Jx b2 n2 p2,ID c.hs,IH IR c.si,ID c.hu,IH IR c.ul,ID I3,IF ⟨#[]⟩,IH IR 0,IF ⟨body.toArray⟩] (0,0) _ A9 LI rfl gj ?_)|(refine LO rfl 75 (.tmp 2) (.tmp 37) rfl w.heap.size #[IH IR (m:Int),IH IR (t.kind:Int),IF ⟨t.key.toArray⟩,IH IR (t.num:Int),ID (Jb m),ID c.hm,ID c.am,Jx b1 n1 p1,ID c.hn,ID c.an,Jx b2 n2 p2,ID c.hs,IH IR c.si,ID c.hu,IH IR c.ul,ID I3,IF ⟨#[]⟩,IH IR 0,IF ⟨body.toArray⟩] rfl rfl 75 #[IH IR 0,IH IR 0,IF ⟨#[]⟩,IH IR 0,ID I3,ID I3,ID I3,Jx J0 0 0,ID I3,ID I3,Jx J0 0 0,ID I3,IH IR 0,ID I3,IH IR 0,ID I3,IF ⟨#[]⟩,IH IR 0,IF ⟨#[]⟩] A6.blk gj rfl (by simp[LR]) ?_));have A5:=A6.row #[IH IR (m:Int),IH IR (t.kind:Int),IF ⟨t.key.toArray⟩,IH IR (t.num:Int),ID (Jb m),ID c.hm,ID c.am,Jx b1 n1 p1,ID c.hn,ID c.an,Jx b2 n2 p2,ID c.hs,IH IR c.si,ID c.hu,IH IR c.ul,ID I3,IF ⟨#[]⟩,IH IR 0,IF ⟨body.toArray⟩];have Ae:=Ab.row (b:=w.heap.size) (us:=#[IH IR (m:Int),IH IR (t.kind:Int),IF ⟨t.key.toArray⟩,IH IR (t.num:Int),ID (Jb m),ID c.hm,ID c.am,Jx b1 n1 p1,ID c.hn,ID c.an,Jx b2 n2 p2,ID c.hs,IH IR c.si,ID c.hu,IH IR c.ul,ID I3,IF ⟨#[]⟩,IH IR 0,IF ⟨body.toArray⟩]) (by omega);refine L2 (v:=L5 #[PP #[IH IR (m:Int),IH IR (t.kind:Int),IF ⟨t.key.toArray⟩,IH IR (t.num:Int),ID (Jb m),ID c.hm,ID c.am,Jx b1 n1 p1,ID c.hn,ID c.an,Jx b2 n2 p2,ID c.hs,IH IR c.si,ID c.hu,IH IR c.ul,ID I3,IF ⟨#[]⟩,IH IR 0,IF ⟨body.toArray⟩],IH IR 0]) (results_read _ _ w.heap.size _ rfl A5.blk rfl) rfl ⟨A5.b,m,t,k,body,c,g,HR.out,?_,by omega,by rw[setRow_size];exact Ac,Ae⟩;rw[eY,Aj.out,Al.out]
theorem Dh {l:List UInt8}{n:Nat}(h:jy l=J1 n):n<1000000000:=by
 unfold jy at h;split at h
 ·cases h
 ·rename_i hc;cases h;simp only[Bool.or_eq_true,not_or,decide_eq_true_eq,Bool.not_eq_true',Bool.not_eq_true] at hc;obtain⟨_,h9,_,hd⟩:=hc;(have A0:l.all gM=K2:=by simpa using hd);have h1:=qO l A0;have h2:10 ^ l.length<=10 ^ 9:=Nat.pow_le_pow_right (by omega) (by omega);omega
theorem yG {l:List UInt8}{t:Jg}(h:bM l=J1 t):(t.kind≠0->aW t.key=K2)/\t.key.length<=40/\t.num<1000000000:=by
 have kl:∀{k:List UInt8},aW k=K2->k.length<=40:=by intro k hk;unfold aW at hk;simp at hk;exact hk.2.1
 unfold bM at h;split at h
 ·unfold pL at h;split at h
  ·cases h;simp
  ·split at h
   ·split at h
    ·rename_i hk;cases h;exact⟨λh=>absurd rfl h,kl hk,by simp⟩
    ·cases h
   ·split at h
    ·rename_i hk;split at h
     ·unfold gd at h;split at h
      ·cases h;exact⟨λ_=>hk,kl hk,by simp⟩
      ·split at h
       ·obtain⟨n,hn,rfl⟩:=Option.map_eq_some_iff.1 h;exact⟨λ_=>hk,kl hk,Dh hn⟩
       ·cases h
     ·cases h;exact⟨λ_=>hk,kl hk,by simp⟩
    ·cases h
 ·cases h
theorem Dm {l:List UInt8}{m:Nat}{t:Jg}{k:I9}{body:List UInt8}(h:bL l=J1 (m,t,k,body)):∃mt tt,eR mt=J1 m/\bM tt=J1 t:=by
 unfold bL at h;split at h
 ·split at h
  ·split at h
   ·cases h
   ·rename_i m' hm;split at h
    ·cases h
    ·rename_i t' ht;split at h
     ·cases h
     ·cases h;exact⟨_,_,hm,ht⟩
  ·cases h
 ·cases h
theorem xX {l:List UInt8}{m:Nat}{t:Jg}{k:I9}{body:List UInt8}(h:aZ l=.ok (m,t,k,body)):(t.kind≠0->aW t.key=K2)/\t.key.length<=40/\t.num<1000000000/\body.length<=400:=by
 unfold aZ at h;split at h
 ·cases h
 ·split at h
  ·cases h
  ·rename_i m' t' k' b' hp;split at h
   ·cases h
   ·split at h
    ·cases h
    ·rename_i hb;split at h
     ·injection h with h;injection h with h1 h2;injection h2 with h2 h3;injection h3 with h3 h4;subst h2;subst h4;obtain⟨mt,tt,_,ht⟩:=Dm hp;have:=yG ht;exact⟨this.1,this.2.1,this.2.2,by omega⟩
     ·cases h
theorem C8 {l:List UInt8}{n:Nat}(h:aZ l=.error n):n<1000:=by
 unfold aZ at h;repeat' split at h
 all_goals(cases h)
 all_goals omega
def mk (wk:Bool)(t:List UInt8):List UInt8:=(if wk then[87,47] else[])++[34]++t++[34]
theorem u6 (t rest:List UInt8)(h:∀c∈t,c≠34):MD (t++34::rest) [34]=t.length:=by
 induction t with
 | nil=>simp[MD]
 | cons c t ih =>have hc:c≠34:=h c (by simp);have A1:=ih (λx hx=>h x (by simp[hx]));(have A0:((34:UInt8)==c)=I3:=by simp;exact λe=>hc e.symm);simp only[MT,MD,Nd,A0,Bool.false_and];rw[A1];simp
theorem Ay (t rest:List UInt8)(h:∀c∈t,c≠34):Kx (t++34::rest) [34]=(t,rest,K2):=by
 unfold Kx;rw[u6 t rest h,if_pos (by omega)];simp
theorem C5 {t:List UInt8}(h:dT t=K2):∀c∈t,c≠34:=by
 intro c hc e;subst e;have:=N1.1 h _ hc;exact absurd this (by decide)
theorem DR (wk:Bool)(t rest:List UInt8)(h:dT t=K2):pJ (mk wk t++rest)=J1 (wk,t,rest):=by
 rw[ov];have hc:=Ay t rest (C5 h);cases wk with
 | true =>(have e1:Lo (mk K2 t++rest) [87,47]=34::(t++34::rest):=by simp[mk,Lo,Ks]);(have e2:Ks (mk K2 t++rest) [87,47]=K2:=by simp[mk,Ks]);(have e3:Lo (34::(t++34::rest)) [34]=t++34::rest:=by simp[Lo,Ks]);(have e4:Ks (34::(t++34::rest)) [34]=K2:=by simp[Ks]);rw[e1,e2,e3,e4,hc];simp[h]
 | false =>(have e2:Ks (mk I3 t++rest) [87,47]=I3:=by simp only[mk,Ks];rfl);(have e1:Lo (mk I3 t++rest) [87,47]=34::(t++34::rest):=by unfold Lo;rw[e2];simp[mk]);(have e3:Lo (34::(t++34::rest)) [34]=t++34::rest:=by simp[Lo,Ks]);(have e4:Ks (34::(t++34::rest)) [34]=K2:=by simp[Ks]);rw[e1,e2,e3,e4,hc];simp[h]
def body:List (Bool×List UInt8×List UInt8)->List UInt8->List UInt8
 | [],fin=>fin
 | [(wk,t,_)],fin=>mk wk t++fin
 | (wk,t,g)::(wk',t',g')::r,fin=>mk wk t++(g++(44::(g'++body ((wk',t',g')::r) fin)))
theorem rW (t rest p:List UInt8)(b:UInt8)(h:∀c∈t,c≠b):MD (t++(b::p)++rest) (b::p)=t.length:=by
 induction t with
 | nil=>simp[MD]
 | cons c t ih =>have hc:c≠b:=h c (by simp);have A0:=ih (λx hx=>h x (by simp[hx]));(have A1:(b==c)=I3:=by simp;exact λe=>hc e.symm);simp only[MT,MD,Nd,A1,Bool.false_and];rw[NO,MT] at A0;rw[NO,MT];simp only[A0];simp
theorem dF (t rest p:List UInt8)(b:UInt8)(h:∀c∈t,c≠b):Kx (t++(b::p)++rest) (b::p)=(t,rest,K2):=by
 unfold Kx;rw[rW t rest p b h,if_pos (by omega)];simp
theorem yZ (t p:List UInt8)(b:UInt8)(h:∀c∈t,c≠b):MD t (b::p) = -1:=by
 induction t with
 | nil=>rfl
 | cons c t ih =>(have A0:(b==c)=I3:=by simp;exact λe=>h c (by simp) e.symm);simp only[MD,Nd,A0,Bool.false_and];rw[ih (λx hx=>h x (by simp[hx]))];simp
theorem Df (t p:List UInt8)(b:UInt8)(h:∀c∈t,c≠b):Kx t (b::p)=(t,[],I3):=by
 unfold Kx;rw[yZ t p b h,if_neg (by omega)]
theorem gU {body:List UInt8}{m:Nat}{t:Jg}(hm:eR mt=J1 m)(h32:∀c∈mt,c≠32/\c≠13)(Q3:∀c∈tt,c≠13)(ht:bM tt=J1 t):bL (bp mt tt [] body)=J1 (m,t,k0,body):=by
 have h1:Kx (bp mt tt [] body) [13,10]=(mt++[32]++tt,[13,10]++body,K2):=by
  have:=dF (mt++[32]++tt) ([13,10]++body) [10] 13 (by
   intro c hc;simp only[Rd,Pi] at hc;rcases hc with(hc|hc)|hc
   ·exact(h32 c hc).2
   ·rw[hc];decide
   ·exact Q3 c hc)
  simpa [bp,fS] using this
 have h2:Kx (mt++[32]++tt) [32]=(mt,tt,K2):=dF mt tt [] 32 (λc hc=>(h32 c hc).1);refine QE h1 h2 hm ht ?_;have h3:Kx ([13,10]++body) [13,10]=([],body,K2):=dF [] body [10] 13 (by simp);unfold cg;rw[h3];simp
theorem wu {body:List UInt8}{m:Nat}{t:Jg}{k:I9}(hm:eR mt=J1 m)(h32:∀c∈mt,c≠32/\c≠13)(Q3:∀c∈tt,c≠13)(ht:bM tt=J1 t)(hl:line≠[])(UL:∀c∈line,c≠13)(hk:fe k0 line=J1 k):bL (bp mt tt (line++fS) body)=J1 (m,t,k,body):=by
 have h1:Kx (bp mt tt (line++fS) body) [13,10]=(mt++[32]++tt,line++[13,10]++([13,10]++body),K2):=by
  have:=dF (mt++[32]++tt) (line++[13,10]++([13,10]++body)) [10] 13 (by
   intro c hc;simp only[Rd,Pi] at hc;rcases hc with(hc|hc)|hc
   ·exact(h32 c hc).2
   ·rw[hc];decide
   ·exact Q3 c hc)
  simpa [bp,fS] using this
 have h2:Kx (mt++[32]++tt) [32]=(mt,tt,K2):=dF mt tt [] 32 (λc hc=>(h32 c hc).1);refine QE h1 h2 hm ht ?_;have h3:Kx (line++[13,10]++([13,10]++body)) [13,10]=(line,[13,10]++body,K2):=dF line _ [10] 13 UL;have h4:Kx ([13,10]++body) [13,10]=([],body,K2):=dF [] body [10] 13 (by simp);obtain⟨f,hf⟩:∃f,(line++[13,10]++([13,10]++body)).length+1=f+1+1:=⟨line.length+body.length+3,by simp;omega⟩;rw[hf];unfold cg;rw[h3];simp only;rw[if_pos trivial,if_neg hl,hk];simp only;unfold cg;rw[h4];simp
theorem da {key:List UInt8}(h:aW key=K2):key≠[]/\key.length<=40/\∀c∈key,c≠13/\c≠63/\c≠32/\c≠47/\c≠10:=by
 unfold aW at h;simp only[N2,decide_eq_true_eq,N1] at h;obtain⟨h1,h2,h3⟩:=h;refine⟨by intro e;rw[e] at h1;simp at h1,h2,λc hc=>?_⟩;have:=h3 c hc;refine⟨?_,?_,?_,?_,?_⟩<;>(intro e;rw[e] at this;revert this;decide)
theorem xA {key:List UInt8}(rest:List UInt8)(hne:key≠[])(h:∀c∈key,c≠63):Ks (key++rest) eZ=I3:=by
 cases key with
 | nil=>exact absurd rfl hne
 | cons a k =>have:a≠63:=h a (by simp);(have h2:((63:UInt8)==a)=I3:=by simp;exact λe=>this e.symm);simp[Ks,eZ,Nd,h2]
theorem gP (p:List UInt8):Ks (47::p) [47]=K2/\Lo (47::p) [47]=p:=by simp[Ks,Lo]
theorem iB {key:List UInt8}(h:aW key=K2):bM (47::key)=J1 ⟨1,key,0⟩:=by
 obtain⟨A0,_,hc⟩:=da h;have hp:=xA [] A0 (λc hx=>(hc c hx).2.1);rw[List.append_nil] at hp;unfold bM pL;rw[(gP _).1,(gP _).2,if_pos rfl,if_neg A0,hp,Df key [] 63 (λc hx=>(hc c hx).2.1)];simp[h]
theorem rj {key q:List UInt8}(h:aW key=K2):bM (47::(key++[63]++q))=gd key q:=by
 obtain⟨A0,_,hc⟩:=da h;have hp:=xA ([63]++q) A0 (λc hx=>(hc c hx).2.1);rw[<-NO] at hp;unfold bM pL;rw[(gP _).1,(gP _).2,if_pos rfl,if_neg (by simp),hp,dF key q [] 63 (λc hx=>(hc c hx).2.1)];simp[h]
theorem sJ (d:Nat)(h:d<10):gM (UInt8.ofNat (48+d))=K2/\(UInt8.ofNat (48+d)).toNat-48=d:=by
 have:d=0\/d=1\/d=2\/d=3\/d=4\/d=5\/d=6\/d=7\/d=8\/d=9:=by omega
 rcases this with rfl|rfl|rfl|rfl|rfl|rfl|rfl|rfl|rfl|rfl<;>decide
theorem mY (n:Nat):(K0 n).all gM=K2/\gV (K0 n)=n/\K0 n≠[]:=by
 induction n using Nat.strongRecOn with
 | _ n ih =>
   rw[K0];split
   ·rename_i h;have:=sJ n h;refine⟨by rw[List.all_cons,this.1];rfl,?_,by simp⟩;have e:=jo [] (UInt8.ofNat (48+n));rw[List.nil_append] at e;rw[e,this.2];simp[gV]
   ·rename_i h;have i1:=ih (n/10) (by omega);have:=sJ (n%10) (by omega);refine⟨by rw[List.all_append,i1.1,List.all_cons,this.1];rfl,?_,by simp⟩;rw[jo,i1.2.1,this.2];omega
theorem Ba (n:Nat)(h:0<n):((K0 n).head?==J1 48)=I3:=by
 induction n using Nat.strongRecOn with
 | _ n ih =>
   rw[K0];split
   ·rename_i h10;(have:n=1\/n=2\/n=3\/n=4\/n=5\/n=6\/n=7\/n=8\/n=9:=by omega);rcases this with rfl|rfl|rfl|rfl|rfl|rfl|rfl|rfl|rfl<;>decide
   ·rename_i h10;have i1:=ih (n/10) (by omega) (by omega);have A0:=(mY (n/10)).2.2;cases hd:K0 (n/10) with
    | nil=>exact absurd hd A0
    | cons a l=>rw[hd] at i1;simpa using i1
theorem ec {n k:Nat}(h:n<10 ^ k)(hk:0<k):(K0 n).length<=k:=by
 induction k generalizing n with
 | zero=>omega
 | succ k ih =>
   rw[K0];split
   ·simp
   ·rename_i h10;rw[Nat.pow_succ] at h;cases k with
    | zero=>simp at h;omega
    | succ k =>have:=ih (n:=n/10) (by omega) (by omega);simp;omega
theorem Al (n:Nat)(h0:0<n)(h:n<1000000000):jy (K0 n)=J1 n:=by
 have h1:=mY n;have h2:=Ba n h0;have h3:=ec (n:=n) (k:=9) (by omega) (by omega);unfold jy;rw[if_neg]
 ·rw[h1.2.1]
 ·(have:(K0 n).isEmpty=I3:=by simpa using h1.2.2);rw[this,h2,h1.1];simp;omega
theorem AG {key:List UInt8}(h:aW key=K2)(n:Nat)(h0:0<n)(hn:n<1000000000):bM (47::(key++[63]++([118,61]++K0 n)))=J1 ⟨2,key,n⟩:=by
 rw[rj h];unfold gd;have e1:Ks ([118,61]++K0 n) [118,61]=K2:=by simp[Ks]
 have e2:Lo ([118,61]++K0 n) [118,61]=K0 n:=by unfold Lo;rw[if_pos e1];rfl
 rw[if_neg (by simp),e1,e2,Al n h0 hn];rfl
theorem lY (n:Nat):∀c∈K0 n,c≠13/\c≠10/\c≠32:=by
 intro c hc;have:=N1.1 (mY n).1 c hc;refine⟨?_,?_,?_⟩<;>(intro e;rw[e] at this;revert this;decide)
theorem xT:eR [80,85,84]=J1 2/\(∀c∈([80,85,84]:List UInt8),c≠32/\c≠13):=by decide
theorem BC:eR [71,69,84]=J1 0/\(∀c∈([71,69,84]:List UInt8),c≠32/\c≠13):=by decide
theorem xy:eR [68,69,76,69,84,69]=J1 3/\(∀c∈([68,69,76,69,84,69]:List UInt8),c≠32/\c≠13):=by decide
theorem cQ (a b c d:List UInt8):(bp a b c d).length=a.length+b.length+c.length+d.length+5:=by simp[bp,fS];omega
theorem AO (t:List UInt8):PF (34::t++[34]) [32,9]=34::t++[34]/\PF (32::(34::t++[34])) [32,9]=34::t++[34]:=by
 constructor<;>simp[PF,Lib.trimLeftS,Lib.trimRightS,List.dropWhile]
theorem As {t:List UInt8}(h:dT t=K2):bI (34::t++[34])=(I3,K2,[(I3,t)]):=by
 unfold bI;rw[(AO t).1];unfold Bd;rw[if_neg (by simp)];have:=DR I3 t [] h;simp only[mk] at this;have e:eE ((34::t++[34]).length+1) (34::t++[34])=J1 [(I3,t)]:=by unfold eE;rw[show(34::t++[34]:List UInt8)=(if I3=K2 then[87,47] else[])++[34]++t++[34]++[] by simp,this];simp
 rw[e]
theorem vO {t:List UInt8}(h:dT t=K2)(h2:∀c∈t,c≠13/\c≠10):fe k0 ([73,102,45,77,97,116,99,104,58,32]++(34::t++[34]))=J1 ⟨J1 (I3,[(I3,t)]),J0,J0,J0⟩:=by
 have hc:Kx ([73,102,45,77,97,116,99,104,58,32]++(34::t++[34])) [58]=([73,102,45,77,97,116,99,104],32::(34::t++[34]),K2):=dF [73,102,45,77,97,116,99,104] (32::(34::t++[34])) [] 58 (by decide);have hn:(32::(34::t++[34]):List UInt8).any cU=I3:=by
  rw[List.any_eq_false];intro c A0;simp at A0;rcases A0 with rfl|rfl|A0|rfl
  ·decide
  ·decide
  ·have:=h2 c A0;simp[cU,this]
  ·decide
 unfold fe;rw[hc];simp only;rw[hn,(AO t).2,if_pos (by decide)];unfold dP;rw[if_pos (by decide),As h];rfl
theorem zK:fe k0 [73,102,45,78,111,110,101,45,77,97,116,99,104,58,32,42]=J1 ⟨J0,J1 (K2,[]),J0,J0⟩:=by
 have hc:Kx [73,102,45,78,111,110,101,45,77,97,116,99,104,58,32,42] [58]=([73,102,45,78,111,110,101,45,77,97,116,99,104],[32,42],K2):=by decide
 unfold fe;rw[hc];simp only;rw[if_pos (by decide),show PF [32,42] [32,9]=[42] by decide];unfold dP;rw[if_neg (by decide),if_pos (by decide),show bI [42]=(K2,K2,[]) by decide];rfl
end Go.Proofs.YtmehkneofinmiabGreatDoor
namespace Go.Proofs
open Go.Shelf
def Tryz.JY:Go.Shelf.Ren:=⟨fun|166=>50|240=>85|276=>133|n=>n,fun|70=>116|72=>118|0=>0|3=>3|4=>4|5=>5|9=>9|20=>20|37=>95|75=>120|80=>53|164=>127|n=>n,fun|n=>n⟩
theorem Tryz.NV:Go.Proofs.Lays.n166 Kf Tryz.JY:={
 mixed:=by kernel_rfl
 f166:=func50.trans (congrArg J1 (by kernel_rfl))
 f240:=func85.trans (congrArg J1 (by kernel_rfl))
 f276:=func133.trans (congrArg J1 (by kernel_rfl))
 t0:=underlying0
 a0:=isAgg0
 z0:=sizeOf0
 v0:=zeroValue0
 t3:=Q1
 a3:=R2
 z3:=R0
 v3:=Rg
 t4:=underlying4
 a4:=isAgg4
 z4:=sizeOf4
 v4:=zeroValue4
 t9:=underlying9
 a9:=isAgg9
 z9:=sizeOf9
 v9:=zeroValue9
 t20:=underlying20
 a20:=isAgg20
 z20:=sizeOf20
 v20:=zeroValue20
 t37:=underlying95
 a37:=isAgg95
 z37:=sizeOf95
 v37:=zeroValue95
 t70:=underlying116
 a70:=isAgg116
 z70:=sizeOf116
 v70:=zeroValue116
 t72:=underlying118
 a72:=isAgg118
 z72:=sizeOf118
 v72:=zeroValue118
 t75:=underlying120
 a75:=isAgg120
 z75:=sizeOf120
 v75:=zeroValue120
 t164:=Nx
 a164:=OS
 z164:=N5
 v164:=NX }
theorem Tryz.JN:Builder.Extra Kf Tryz.JY:={
 sizeBuilder:=by kernel_rfl
 liesBuilder:=by kernel_rfl
 t5:=underlying5
 a5:=isAgg5
 z5:=sizeOf5
 v5:=zeroValue5
 infoByte:=by kernel_rfl
 cellsByte:=by kernel_rfl
 sizeByte:=by kernel_rfl
 neB5:=by decide }
open Go.RowKit in
theorem Tryz.Builder_WriteString (B b:Nat)(bs:List Lw)(s:ByteArray)(w:Lz)(h:Lib.IsBuilder 118 5 B b bs w)(hlen:bs.length+s.size<=140737488355328)(hBw:B<=w.heap.size) :
 Mz Kf 50 #[Ln (J1 ⟨b,0,J0⟩),IF s] w λe w'=>e=Lq (L5 #[IH IR s.size,.nilIface])/\(Lib.BuilderAt 118 5 B b (Ln (J1 ⟨b,0,J0⟩)) (bs++Lib.strCells s) w'/\Below B w w'):=Any.Builder_WriteString Tryz.NV Tryz.JN B b bs s w h hlen hBw
end Go.Proofs
namespace Go.Proofs
abbrev Tryz.Qh:Go.Conc.Locks.MuLink:={ lock:=60,unlock:=61,ilock:=89,iunlock:=90,lockSlow:=135,unlockSlow:=136,disable:=53,enable:=56,acquire:=57,relMerge:=58,cas32:=134,add32:=86,tMutex:=88,tIMutex:=86,tPMutex:=128,tPIMutex:=227,tPI32:=172,tUP:=127,tNoCopy:=83,tU32:=84 }
theorem Tryz.Ja:Go.Conc.Locks.MuLib Kf Tryz.Qh :=
 ⟨func60,func61,func89,func90,func53,func56,func57,func58,func134,func86,underlying86,runUnderlying86,sizeOf86,isAgg86,zeroValue86,underlying88,runUnderlying88,sizeOf88,isAgg88,zeroValue88,underlying128,runUnderlying128,sizeOf128,isAgg128,zeroValue128,underlying227,runUnderlying227,sizeOf227,isAgg227,zeroValue227,underlying172,runUnderlying172,sizeOf172,isAgg172,zeroValue172,Nx,runUnderlying127,N5,OS,NX,underlying83,runUnderlying83,sizeOf83,isAgg83,zeroValue83,Pu,runUnderlying21,RE,R1,Q2,(by kernel_rfl)⟩
abbrev Tryz.Li:Go.Conc.Locks.RwLink:={ lock:=60,unlock:=61,ilock:=89,iunlock:=90,lockSlow:=135,unlockSlow:=136,disable:=53,enable:=56,acquire:=57,relMerge:=58,cas32:=134,add32:=86,tMutex:=88,tIMutex:=86,tPMutex:=128,tPIMutex:=227,tPI32:=172,tUP:=127,tNoCopy:=83,tU32:=84,rlock:=32,runlock:=33,wlock:=73,wunlock:=74,i32add:=54,raceRead:=52,release:=113,rUnlockSlow:=59,semacqR:=55,semacqW:=112,semrel:=88,sfatal:=87,tRW:=93,tPRW:=125,tAI32:=91,tPAI32:=170,tPU32:=131,tANoCopy:=89 }
theorem Tryz.Ms:Go.Conc.Locks.RwCore Kf Tryz.Li :=
 ⟨func54,func52,func53,func56,func57,func58,func86,underlying93,runUnderlying93,sizeOf93,isAgg93,zeroValue93,underlying91,runUnderlying91,sizeOf91,isAgg91,zeroValue91,underlying125,runUnderlying125,sizeOf125,isAgg125,zeroValue125,underlying170,runUnderlying170,sizeOf170,isAgg170,zeroValue170,underlying131,runUnderlying131,sizeOf131,isAgg131,zeroValue131,underlying89,runUnderlying89,sizeOf89,isAgg89,zeroValue89,underlying84,runUnderlying84,sizeOf84,isAgg84,zeroValue84,underlying88,runUnderlying88,sizeOf88,isAgg88,zeroValue88,underlying128,runUnderlying128,sizeOf128,isAgg128,zeroValue128,underlying172,runUnderlying172,sizeOf172,isAgg172,zeroValue172,Nx,runUnderlying127,N5,OS,NX,Pu,runUnderlying21,RE,R1,Q2,(by kernel_rfl),(by kernel_rfl)⟩
theorem Tryz.KG:Go.Conc.Locks.RwRLib Kf Tryz.Li:=⟨Tryz.Ms,func32,func33⟩
theorem Tryz.Mr:Go.Conc.Locks.RwWLib Kf Tryz.Li:=⟨Tryz.Ms,Tryz.Ja,func73,func74,func113,Q1,runUnderlying3,R0,R2,Rg⟩
end Go.Proofs
namespace Go.Proofs.YtmehkneofinmiabGreatDoor
open Go.RowKit Go.MuLone
variable {w x:Lz}{a:Act}{v vs:Lw}{fuel i p:Nat}{P:RR}{ty:MA}{ops:Array Oper}{Q:Exit->Act->Lz->Prop}{md:Region.Mode}{S:Lz->Prop}{oi:Oper}{listed:Array Bool}
theorem fh {a:Addr}(h:w.cell? a=J1 v)(x:Lw):(w.setCell a x).setCell a v=w:=by
 cases w with|mk heap tape drawn os output =>
 simp only[O2,World.mk.injEq,and_true];apply RK
 ·simp
 ·intro i h1 h2;simp only[N6];split
  ·rename_i e;subst e;simp only[M1] at h;rw[Array.getElem?_eq_getElem h2] at h;revert h;cases heap[a.block] with
   | cells c t f =>
     intro h;simp only at h;cases hs:a.spot with
     | some _=>rw[hs] at h;simp at h
     | none =>
       rw[hs] at h;simp only[Option.isSome_none,Bool.false_eq_true,if_false] at h ⊢;have A0:a.off<c.size:=(gL h);have hv:c[a.off]=v:=(Array.getElem?_eq_some_iff.1 h).2;congr 1;apply RK
       ·simp
       ·intro j j1 j2;by_cases hj:a.off=j
        ·subst hj;simp[hv]
        ·rw[MY (by simpa using j2) hj,MY j2 hj]
   | _=>simp
  ·rfl
theorem kS (w:Lz){a b:Addr}(h:a≠b)(x y:Lw):(w.setCell a x).setCell b y=(w.setCell b y).setCell a x:=by
 cases w with|mk heap tape drawn os output =>
 simp only[O2,World.mk.injEq,and_true];apply RK
 ·simp
 ·intro i h1 h2;simp only[N6];by_cases ha:a.block=i<;>by_cases hb:b.block=i<;>simp only[ha,hb,if_true,if_false];generalize heap[i]'(by simpa using h1)=o;cases o with
  | cells c t f =>simp only;congr 1;cases hsa:a.spot<;>cases hsb:b.spot<;>simp;(have A0:a.off≠b.off:=by intro e;apply h;cases a;cases b;simp_all);exact Array.setIfInBounds_comm _ _ A0
  | _=>rfl
structure MO (w:Lz)(b off:Nat)(t k:Int):Prop where
 l:w.cell? ⟨b,off,J0⟩=J1 (IH .i32 0)
 t:w.cell? ⟨b,off+2,J0⟩=J1 (IH IR t)
 k:w.cell? ⟨b,off+3,J0⟩=J1 (IH IR k)
 f:∀j,w.frozen? ⟨b,j,J0⟩=I3
theorem Ed (b off:Nat)(t k:Int)(w:Lz)(h:MO w b off t k) :
 Mz Kf 45 #[Ln (J1 ⟨b,off,J0⟩)] w λe w'=>e=Lq (IH IR t)/\w'=w:=by
 have h0:=h.l;have h2:=h.t;have f0:=h.f off;have f2:=h.f (off+2);go_enter_defers func45,ntmps45;go_wp2_with (go_at_call 60;refine(lock_free Tryz.Ja ⟨b,off,J0⟩ _ h0 f0).mono ?_;rintro e w' ⟨rfl,rfl⟩);refine Of (f:=61) (args:=#[Ln (J1 ⟨b,off,J0⟩)]) (by simp) (by simp[go_sem]) ?_;refine(unlock_deferred Tryz.Ja ⟨b,off,J0⟩ .returning _ ?_ ?_).mono ?_
 ·exact L3 w ⟨b,off,J0⟩ (IH .i32 1) h0
 ·simp[f0]
 rintro e u' A0 ⟨rfl,rfl,rfl⟩;exact⟨_,Ok rfl _ _ _,rfl,fh h0 _⟩
theorem qh (b off:Nat)(t k:Int)(w:Lz)(h:MO w b off t k)(hk0:0<=k)(hk:k<60) :
 Mz Kf 117 #[Ln (J1 ⟨b,off,J0⟩)] w λe w'=>e=Lq (ID K2)/\w'=w.setCell ⟨b,off+3,J0⟩ (IH IR (k+1)):=by
 have h0:=h.l;have h2:=h.k;have f0:=h.f off;have f2:=h.f (off+3);have A0:(k==60)=I3:=beq_eq_false_iff_ne.2 (by omega);go_enter_defers func117,ntmps117;go_wp2_with (go_at_call 60;refine(lock_free Tryz.Ja ⟨b,off,J0⟩ _ h0 f0).mono ?_;rintro e w' ⟨rfl,rfl⟩);refine Of (f:=61) (args:=#[Ln (J1 ⟨b,off,J0⟩)]) (by simp) (by simp[go_sem]) ?_;refine(unlock_deferred Tryz.Ja ⟨b,off,J0⟩ .returning _ ?_ ?_).mono ?_
 ·exact(LS _ ⟨b,off+3,J0⟩ ⟨b,off,J0⟩ _ (by simp)).trans (L3 w ⟨b,off,J0⟩ (IH .i32 1) h0)
 ·simp[f0]
 rintro e u' A1 ⟨rfl,rfl,rfl⟩;refine⟨_,Ok rfl _ _ _,rfl,?_⟩;rw[kS w (by simp),fh];rw[LS _ _ _ _ (by simp)];exact h0
theorem B3 (b off:Nat)(t:Int)(w:Lz)(h:MO w b off t 60) :
 Mz Kf 117 #[Ln (J1 ⟨b,off,J0⟩)] w λe w'=>e=Lq (ID I3)/\w'=w:=by
 have h0:=h.l;have h2:=h.k;have f0:=h.f off;have f2:=h.f (off+3);go_enter_defers func117,ntmps117;go_wp2_with (go_at_call 60;refine(lock_free Tryz.Ja ⟨b,off,J0⟩ _ h0 f0).mono ?_;rintro e w' ⟨rfl,rfl⟩);refine Of (f:=61) (args:=#[Ln (J1 ⟨b,off,J0⟩)]) (by simp) (by simp[go_sem]) ?_;refine(unlock_deferred Tryz.Ja ⟨b,off,J0⟩ .returning _ ?_ ?_).mono ?_
 ·exact L3 w ⟨b,off,J0⟩ (IH .i32 1) h0
 ·simp[f0]
 rintro e u' A0 ⟨rfl,rfl,rfl⟩;exact⟨_,Ok rfl _ _ _,rfl,fh h0 _⟩
theorem Bz (b off:Nat)(t k s:Int)(w:Lz)(h:MO w b off t k)(ht0:0<=t)(ht:t<=253402300799)(hs0:0<=s)(hs:s<=253402300799-t) :
 Mz Kf 46 #[Ln (J1 ⟨b,off,J0⟩),IH IR s] w λe w'=>e=Lq (IH IR 0)/\w'=w.setCell ⟨b,off+2,J0⟩ (IH IR (t+s)):=by
 have h0:=h.l;have h2:=h.t;have f0:=h.f off;have f2:=h.f (off+2);go_enter_defers func46,ntmps46;go_wp2_with (go_at_call 60;refine(lock_free Tryz.Ja ⟨b,off,J0⟩ _ h0 f0).mono ?_;rintro e w' ⟨rfl,rfl⟩);refine Of (f:=61) (args:=#[Ln (J1 ⟨b,off,J0⟩)]) (by simp) (by simp[go_sem]) ?_;refine(unlock_deferred Tryz.Ja ⟨b,off,J0⟩ .returning _ ?_ ?_).mono ?_
 ·exact(LS _ ⟨b,off+2,J0⟩ ⟨b,off,J0⟩ _ (by simp)).trans (L3 w ⟨b,off,J0⟩ (IH .i32 1) h0)
 ·simp[f0]
 rintro e u' A0 ⟨rfl,rfl,rfl⟩;refine⟨_,Ok rfl _ _ _,rfl,?_⟩;rw[kS w (by simp),fh];rw[LS _ _ _ _ (by simp)];exact h0
open Go.RowKit
structure IZ where
 num:Nat
 time:Nat
 mark:Bool
 body:List UInt8
structure IP where
 key:List UInt8
 last:Nat
 IB:List IZ
def dR (v:IZ):List Lw:=[IH IR v.num,IH IR v.time,ID v.mark,IF ⟨v.body.toArray⟩]
def bq (v:IZ):Lw:=PP #[IH IR v.num,IH IR v.time,ID v.mark,IF ⟨v.body.toArray⟩]
def mV:Lw:=PP #[IH IR 0,IH IR 0,ID I3,IF ⟨#[]⟩]
def rowOf (l:List IZ):List Lw:=l.flatMap dR
theorem dM (l:List IZ):(rowOf l).length=l.length*4:=by
 induction l with
 | nil=>rfl
 | cons a l ih=>simp only[rowOf,PC,List.length_append] at ih ⊢;rw[ih];simp[dR];omega
theorem zF (l:List IZ)(i:Nat)(v:IZ)(h:l[i]?=J1 v)(j:Nat)(hj:j<4):(rowOf l)[i*4+j]?=(dR v)[j]?:=by
 induction l generalizing i with
 | nil=>simp at h
 | cons a l ih =>
   simp only[rowOf,PC];cases i with
   | zero =>simp at h;subst h;rw[List.getElem?_append_left (by simp[dR];omega)];simp
   | succ i =>rw[List.getElem?_append_right (by simp[dR];omega)];(have e:(i+1)*4+j-(dR a).length=i*4+j:=by simp[dR];omega);rw[e];exact ih i (by simpa using h)
structure ay (w:Lz)(p:Nat)(E:IP)(vs:Lw):Prop where
 blk:w.heap[p]?=J1 (Ly #[IF ⟨E.key.toArray⟩,IH IR E.last,vs] 183 (0,0))
 row:w.ownsRow 0 147 4 vs E.IB.length (rowOf E.IB)
theorem ay.c0 {E:IP}(h:ay w p E vs):w.cell? ⟨p,0,J0⟩=J1 (IF ⟨E.key.toArray⟩):=by simp[M1,h.blk]
theorem ay.c1 {E:IP}(h:ay w p E vs):w.cell? ⟨p,1,J0⟩=J1 (IH IR E.last):=by simp[M1,h.blk]
theorem ay.c2 {E:IP}(h:ay w p E vs):w.cell? ⟨p,2,J0⟩=J1 vs:=by simp[M1,h.blk]
theorem ay.fz {E:IP}(h:ay w p E vs)(j:Nat):w.frozen? ⟨p,j,J0⟩=I3:=by simp[N0,h.blk]
theorem ay.lt {E:IP}(h:ay w p E vs):p<w.heap.size:=(gL h.blk)
theorem ft {l:List IZ}(h:w.ownsRow 0 147 4 vs l.length (rowOf l))(i:Nat)(v:IZ)(hi:l[i]?=J1 v) :
 ∃g cap,vs=Jx (J1 ⟨g,0,J0⟩) l.length cap/\l.length<=cap/\cap<=maxLen/\g<w.heap.size/\w.frozen? ⟨g,0,J0⟩=I3/\(∀j,w.frozen? ⟨g,j,J0⟩=I3) /\
  w.cell? ⟨g,i*4,J0⟩=J1 (IH IR v.num)/\w.cell? ⟨g,i*4+1,J0⟩=J1 (IH IR v.time)/\w.cell? ⟨g,i*4+2,J0⟩=J1 (ID v.mark)/\w.cell? ⟨g,i*4+3,J0⟩=J1 (IF ⟨v.body.toArray⟩):=by
 have A3:i<l.length:=(L1.1 hi).1;rcases h.2 with⟨_,h0⟩|⟨g,cap,A2,hv,_,hg,hn,hm,hs,A1⟩
 ·omega
 ·refine⟨g,cap,hv,hn,hm,(gL hg),by simp[N0,hg],λj=>by simp[N0,hg],?_⟩;(have A0:∀j,j<4->w.cell? ⟨g,i*4+j,J0⟩=(dR v)[j]?:=by intro j hj;rw[<-zF l i v hi j hj,<-A1,List.getElem?_take_of_lt (by omega)];simp[M1,hg]);exact⟨A0 0 (by omega),A0 1 (by omega),A0 2 (by omega),A0 3 (by omega)⟩
theorem gT (p:Nat)(E:IP)(vs:Lw)(w:Lz)(h:ay w p E vs) :
 Mz Kf 199 #[Ln (J1 ⟨p,0,J0⟩)] w λe w'=>e=Lq (ID (decide (20<=(E.IB.length:Int))))/\w'=w:=by
 have h2:=h.c2;rcases h.row.2 with⟨rfl,h0⟩|⟨g,A2,A1,rfl,_,hg,hn,hm,hs,A0⟩
 ·rw[h0];go_enter func199,ntmps199;go_wp2;go_ret;exact⟨rfl,rfl⟩
 ·clear A0 hs;go_enter func199,ntmps199;go_wp2;go_ret;exact⟨rfl,rfl⟩
theorem cz (p:Nat)(E:IP)(vs:Lw)(w:Lz)(h:ay w p E vs) :
 Mz Kf 150 #[Ln (J1 ⟨p,0,J0⟩)] w λe w'=>e=Lq (ID (decide (0<E.last)))/\w'=w:=by
 have h2:=h.c1;go_enter func150,ntmps150;go_wp2;go_ret;exact⟨rfl,rfl⟩
theorem bm {fn:Func}{p u:Tmp}(h:fn.results=#[.cell p ty,.tmp u])(tmps:Array Lw)(w:Lz)(g:Nat)(t:MA)(cs:Array Lw)(fr:Nat×Nat)(d:TypeDesc)
 (hp:tmps.getD p ON=Ln (J1 ⟨g,0,J0⟩))(hg:w.heap[g]?=J1 (Ly cs t fr))
 (hu:P.underlying ty=J1 d)(hd:(match d with|.struct _|.array _ _=>K2|_=>I3)=K2)(hi:(P.info? ty).map (·.size)=J1 cs.size) :
 (results fn tmps).run P w=.ok (L5 #[PP cs,tmps.getD u ON]) w:=by
 have A0:tmps[p]?.getD ON=Ln (J1 ⟨g,0,J0⟩):=by simpa using hp
 simp[results,h,A0,asAddr,N4 w g t ty cs fr d hg hu hd hi]
theorem kT:(prog.info? 147).map (·.size)=J1 4:=by kernel_rfl
theorem qD (p:Nat)(E:IP)(vs:Lw)(w:Lz)(h:ay w p E vs)(h0:E.IB=[]) :
 Mz Kf 94 #[Ln (J1 ⟨p,0,J0⟩)] w λe w'=>e=Lq (L5 #[mV,ID I3])/\Below w.heap.size w w':=by
 have h2:=h.c2;have A2:=h.lt;have hr:=h.row;rw[h0] at hr;have A0:∃a c,vs=Jx a 0 c:=by
  rcases hr.2 with⟨rfl,_⟩|⟨g,A3,A1,rfl,_⟩
  ·exact⟨_,_,rfl⟩
  ·exact⟨_,_,rfl⟩
 obtain⟨a,c,rfl⟩:=A0;clear hr h;go_enter func94,ntmps94;go_wp2;exact L2 (v:=L5 #[mV,ID I3]) (bm results94 _ _ w.heap.size _ _ _ _ rfl (LL _ _) Mp rfl kT) rfl ⟨rfl,(Below.refl _ _).alloc (K1 _) _⟩
theorem B2 (w:Lz)(a b:Obj):((w.alloc a).alloc b).drew.drew.heap[w.heap.size]?=J1 a :=
 (Rr (w.alloc a) b (by simp)).trans (On w a)
theorem zo (w:Lz)(a b:Obj):Below w.heap.size w ((w.alloc a).alloc b).drew.drew:=by
 have h:=((Below.refl w.heap.size w).alloc (K1 _) a).alloc (by simp) b;exact⟨h.os,h.tape,h.output,h.size,h.block⟩
theorem qF (p:Nat)(E:IP)(vs:Lw)(w:Lz)(h:ay w p E vs)(v:IZ)(i:Nat)(hi:E.IB.length=i+1)(hv:E.IB[i]?=J1 v)(hb:i<1000) :
 Mz Kf 94 #[Ln (J1 ⟨p,0,J0⟩)] w λe w'=>e=Lq (L5 #[bq v,ID (!v.mark)])/\Below w.heap.size w w':=by
 have h2:=h.c2;have A1:=h.lt;obtain⟨g,A2,rfl,hn,hm,hg,_,hf,c0,c1,c2,c3⟩:=ft h.row i v hv;rw[hi] at h2 hn;have A0:((i+1:Nat):Int)-1=(i:Int):=by omega
 clear h hv;go_enter func94,ntmps94;go_wp2;go_region;go_wp2;go_region;go_wp2;exact L2 (v:=L5 #[bq v,ID (!v.mark)]) (bm results94 _ _ w.heap.size _ _ _ _ rfl (B2 _ _ _) Mp rfl kT) rfl ⟨rfl,zo _ _ _⟩
theorem vz (b:Nat)(n:Int)(v:IZ)(w:Lz)(hb:w.cell? ⟨b,0,J0⟩=J1 (IH IR n))(hlt:b<w.heap.size) :
 Mz Kf 193 #[bq v,Ln (J1 ⟨b,0,J0⟩)] w λe w'=>e=Lq (ID ((v.num:Int)==n))/\Below w.heap.size w w':=by
 unfold bq;go_enter func193,ntmps193;go_wp2;go_ret;exact⟨rfl,(Below.refl _ _).alloc (K1 _) _⟩
def eu (l:List IZ)(n:Int):Option Nat:=l.findIdx? (λv=>(v.num:Int)==n)
def pT (l:List IZ)(n:Int):Int:=match eu l n with|some i=>i|none => -1
theorem il {l:List IZ}{n:Int}(h:eu l n=J1 i):pT l n=i:=by simp[pT,h]
theorem kh {l:List IZ}{n:Int}(h:eu l n=J0):pT l n = -1:=by simp[pT,h]
def kV (l:List IZ)(n:Int)(i:Nat):Prop:=∀j v,j<i->l[j]?=J1 v->(v.num:Int)≠n
theorem kV.zero (l:List IZ)(n:Int):kV l n 0:=λ_ _ h=>by omega
theorem kV.succ {l:List IZ}{n:Int}{v:IZ}(h:kV l n i)(hv:l[i]?=J1 v)(hn:((v.num:Int)==n)=I3):kV l n (i+1):=by
 intro j u hj hu;by_cases e:j=i
 ·subst e;rw[hv] at hu;cases hu;exact beq_eq_false_iff_ne.1 hn
 ·exact h j u (by omega) hu
theorem Bj {l:List IZ}{n:Int}{v:IZ}(h:kV l n i)(hv:l[i]?=J1 v)(hn:((v.num:Int)==n)=K2):eu l n=J1 i:=by
 have A0:i<l.length:=(L1.1 hv).1;have hg:l[i]=v:=(L1.1 hv).2;unfold eu;rw[Mu];refine⟨A0,by rw[hg];exact hn,?_⟩;intro j hj;have:=h j (l[j]'(by omega)) hj (L4 (by omega));simpa using this
theorem AP {l:List IZ}{n:Int}(h:kV l n l.length):eu l n=J0:=by
 unfold eu;rw[List.findIdx?_eq_none_iff];intro v hv;obtain⟨j,hj,e⟩:=List.getElem_of_mem hv;have:=h j v hj (by rw[L4 hj,e]);simpa using this
theorem dH {base:Nat}{e:MA}{k:Nat}{n:Nat}{xs:List Lw}(h:w.ownsRow base e k v n xs)(hb:Below w.heap.size w x):x.ownsRow base e k v n xs:=by
 refine⟨h.1,?_⟩;rcases h.2 with h0|⟨g,A1,A0,hv,h1,hg,h2⟩
 ·exact Or.inl h0
 ·exact Or.inr ⟨g,A1,A0,hv,h1,(hb.block _ (gL hg)).trans hg,h2⟩
theorem ay.below {E:IP}(h:ay w p E vs)(hb:Below w.heap.size w x):ay x p E vs:=⟨(hb.block _ h.lt).trans h.blk,dH h.row hb⟩
theorem pd (vs:Lw)(l:List IZ)(b:Nat)(n:Int)(w:Lz)(h:w.ownsRow 0 147 4 vs l.length (rowOf l))(hb:w.cell? ⟨b,0,J0⟩=J1 (IH IR n))(hlt:b<w.heap.size)(hl:l.length<1000000) :
 Mz Kf 192 #[vs,.func (.func 193) #[] #[Ln (J1 ⟨b,0,J0⟩)]] w λe w'=>e=Lq (IH IR (pT l n))/\Below w.heap.size w w':=by
 have A1:∃a c,vs=Jx a l.length c:=by
  rcases h.2 with⟨rfl,h0⟩|⟨g,A5,A8,rfl,_⟩
  ·rw[h0];exact⟨_,_,rfl⟩
  ·exact⟨_,_,rfl⟩
 have HR:Hid (w.ownsRow 0 147 4 vs l.length (rowOf l)):=h;clear h;obtain⟨a,c,A4⟩:=A1;rw[A4];go_enter func192,ntmps192;go_wp2;go_loopw [8] (λx wx=>∃i:Nat,i<=l.length/\x=IH IR i/\Hid (Below w.heap.size w wx)/\Hid (kV l n i)) (λx _=>l.length-(intOf x).toNat);case atStart=>exact⟨0,by omega,rfl,Below.refl _ _,kV.zero _ _⟩
 case round =>
  obtain⟨i,hi,rfl,HB,HN⟩:=hrel;by_cases hlt2:i<l.length
  ·obtain⟨v,hv⟩:∃v,l[i]?=J1 v:=⟨l[i],L4 hlt2⟩;obtain⟨g,A5,e1,hn,hm,hg,_,hf,c0,c1,c2,c3⟩:=ft (dH HR.out HB.out) i v hv;rw[A4] at e1;cases e1;have A7:=(HB.out.cell (p:=⟨b,0,J0⟩) hlt).trans hb;have A0:b<wr.heap.size:=Pa hlt HB.out.size;have HV:Hid (l[i]?=J1 v):=hv;(have A6:(i:Int)<(l.length:Int):=by omega);clear hv;go_wp2_with fail;refine(vz b n v _ A7 A0).mono ?_;rintro e w2 ⟨rfl,A3⟩;have A2:Hid (Below w.heap.size w w2):=HB.out.trans (A3.mono HB.out.size);clear A3 HB;cases hq:((v.num:Int)==n) with
   | true =>have HQ:Hid (((v.num:Int)==n)=K2):=hq;clear hq;go_wp2;go_ret;exact⟨by rw[il (Bj HN.out HV.out HQ.out)];rfl,A2.out⟩
   | false =>have HQ:Hid (((v.num:Int)==n)=I3):=hq;clear hq;go_wp2;refine⟨⟨i+1,by omega,rfl,A2,HN.out.succ HV.out HQ.out⟩,?_⟩;simp[intOf];omega
  ·(obtain rfl:i=l.length:=by omega);clear hlt2;go_wp2;go_ret;exact⟨by rw[kh (AP HN.out)];rfl,HB.out⟩
theorem jw (p:Nat)(E:IP)(vs:Lw)(n:Int)(w:Lz)(h:ay w p E vs)(hl:E.IB.length<1000000) :
 Mz Kf 144 #[Ln (J1 ⟨p,0,J0⟩),IH IR n] w λe w'=>e=Lq (IH IR (pT E.IB n))/\Below w.heap.size w w':=by
 have h2:=h.c2;have A2:=h.lt;have A0:Below w.heap.size w (w.alloc (Ly #[IH IR n] 3)):=(Below.refl _ _).alloc (K1 _) _;have hr:=dH h.row A0;clear h;go_enter func144,ntmps144;go_wp2_with fail;refine(pd vs E.IB w.heap.size n _ hr (by simp) (by simp) hl).mono ?_;rintro e w2 ⟨rfl,A1⟩;go_wp2;go_ret;exact⟨rfl,A0.trans (A1.mono (by simp))⟩
theorem pC (p:Nat)(E:IP)(vs:Lw)(n:Int)(w:Lz)(h:ay w p E vs)(hl:E.IB.length<1000000)(hn:eu E.IB n=J0) :
 Mz Kf 99 #[Ln (J1 ⟨p,0,J0⟩),IH IR n] w λe w'=>e=Lq (L5 #[mV,ID I3])/\Below w.heap.size w w':=by
 have A1:Below w.heap.size w (w.alloc (Ly #[IH IR 0,IH IR 0,ID I3,IF ⟨#[]⟩] 147)):=(Below.refl _ _).alloc (K1 _) _;have h1:=h.below A1;clear h;go_enter func99,ntmps99;go_wp2_with fail;refine(jw p E vs n _ h1 hl).mono ?_;rintro e w2 ⟨rfl,A0⟩;have hB:=A1.trans (A0.mono (by simp));have hz:w2.heap[w.heap.size]?=J1 (Ly #[IH IR 0,IH IR 0,ID I3,IF ⟨#[]⟩] 147 (0,0)):=(A0.block _ (by simp)).trans (On _ _);have A2:=(gL hz);rw[kh hn];clear h1 A1 A0;go_wp2_with (refine LO rfl 147 (.tmp 4) (.tmp 13) rfl w.heap.size #[IH IR 0,IH IR 0,ID I3,IF ⟨#[]⟩] rfl rfl 147 #[IH IR 0,IH IR 0,ID I3,IF ⟨#[]⟩] hz kT rfl (by simp[LR]) ?_);exact L2 (v:=L5 #[mV,ID I3]) (bm results99 _ _ w.heap.size _ _ _ _ rfl (setRow_heap _ _ _ _ _ _ hz) Mp rfl kT) rfl ⟨rfl,below_setRow hB (K1 _) _⟩
theorem heap_set {g:Nat}{cs:Array Lw}{t:MA}{fr:Nat×Nat}(h:w.heap[g]?=J1 (Ly cs t fr)):(w.setCell ⟨g,i,J0⟩ v).heap[g]?=J1 (Ly (cs.setIfInBounds i v) t fr):=by
 simp[O2,Array.getElem?_modify,h]
theorem ku {l:List IZ}{n:Int}(h:eu l n=J1 i):∃v,l[i]?=J1 v/\(v.num:Int)=n:=by
 unfold eu at h;rw[Mu] at h;obtain⟨A0,hp,_⟩:=h;exact⟨l[i],L4 A0,by simpa using hp⟩
theorem pq (p:Nat)(E:IP)(vs:Lw)(n:Int)(w:Lz)(h:ay w p E vs)(hl:E.IB.length<1000000)(i:Nat)(v:IZ)(hn:eu E.IB n=J1 i)(hv:E.IB[i]?=J1 v) :
 Mz Kf 99 #[Ln (J1 ⟨p,0,J0⟩),IH IR n] w λe w'=>e=Lq (L5 #[bq v,ID (!v.mark)])/\Below w.heap.size w w':=by
 have A1:Below w.heap.size w (w.alloc (Ly #[IH IR 0,IH IR 0,ID I3,IF ⟨#[]⟩] 147)):=(Below.refl _ _).alloc (K1 _) _;have h1:=h.below A1;clear h;go_enter func99,ntmps99;go_wp2_with fail;refine(jw p E vs n _ h1 hl).mono ?_;rintro e w2 ⟨rfl,A0⟩;have hB:=A1.trans (A0.mono (by simp));have hz:w2.heap[w.heap.size]?=J1 (Ly #[IH IR 0,IH IR 0,ID I3,IF ⟨#[]⟩] 147 (0,0)):=(A0.block _ (by simp)).trans (On _ _);have A3:=(gL hz);have h2:=h1.below A0;rw[il hn];have A4:i<E.IB.length:=(L1.1 hv).1;obtain⟨g,A7,rfl,Aa,hm,hg,_,hf,c0,c1,c2,c3⟩:=ft h2.row i v hv;have e2:=h2.c2;have A6:=h2.lt;have HZ:=IA hz;have A5:=IA hB;obtain⟨k0,k1,k2,k3⟩:=MM hz;have kf:∀j,w2.frozen? ⟨w.heap.size,j,J0⟩=I3:=λj=>by simp[N0,hz]
 have A8:=kf 0;have Ab:=kf 1;have A9:=kf 2;have Ac:=kf 3;clear h1 A1 A0 h2 hv hn hz hB kf;go_wp2;go_region;go_wp2;have hs:=heap_set (i:=3) (v:=IF ⟨v.body.toArray⟩) (heap_set (i:=2) (v:=ID v.mark) (heap_set (i:=1) (v:=IH IR v.time) (heap_set (i:=0) (v:=IH IR v.num) HZ.out)));have A2:=((((A5.out.setCell (p:=⟨w.heap.size,0,J0⟩) (K1 _) (IH IR v.num)).setCell (p:=⟨w.heap.size,1,J0⟩) (K1 _) (IH IR v.time)).setCell (p:=⟨w.heap.size,2,J0⟩) (K1 _) (ID v.mark)).setCell (p:=⟨w.heap.size,3,J0⟩) (K1 _) (IF ⟨v.body.toArray⟩));exact L2 (v:=L5 #[bq v,ID (!v.mark)]) (bm results99 _ _ w.heap.size _ _ _ _ rfl ((Rr _ _ (by simpa using A3)).trans hs) Mp rfl kT) rfl ⟨rfl,(A2.alloc A2.size _).drew⟩
def AZ (ts:Array MA)(ty:MA)(args:Array Lw):Sem Lw:=Mn ts ty args
theorem eP (ts:Array MA)(ty:MA)(args:Array Lw):Mn ts ty args=AZ ts ty args:=rfl
noncomputable def lG (P:RR)(t ty:MA)(w:Lz)(s x:Lw):Lw×Lz :=
 match (Mn #[t,t] ty #[s,x]).run P w with
 | .ok v w'=>(v,w')
 | _=>(ON,w)
def tN (P:RR)(t ty:MA)(w:Lz)(s x:Lw):Prop:=∃v w',(Mn #[t,t] ty #[s,x]).run P w=.ok v w'
theorem ff {t:MA}{s x:Lw}(h:tN P t ty w s x) :
 (AZ #[t,t] ty #[s,x]).run P w=.ok (lG P t ty w s x).1 (lG P t ty w s x).2:=by
 obtain⟨v,w',h⟩:=h;simp only[lG,AZ,h]
theorem nI {t:MA}{w':Lz}{s x:Lw}(h:(Mn #[t,t] ty #[s,x]).run P w=.ok v w') :
 tN P t ty w s x/\(lG P t ty w s x).1=v/\(lG P t ty w s x).2=w':=⟨⟨v,w',h⟩,by simp only[lG,h],by simp only[lG,h]⟩
theorem Ky (i:Nat)(hi:ops[i]?=J1 oi)
 (hk:(Region.noSelect ops&&(Region.free md ops listed i&&(Region.ready md ops listed).contains i))=K2)
 (hQ:∀c a w,Q (.panic c) (a.put oi.dst v) w->Q (.panic c) a w)(hy:YieldsIf P ops S oi v a)(hS:S w)
 (h:wpAnyH P md ops Q S fuel (listed.setIfInBounds i K2) (a.put oi.dst v) w):wpAnyH P md ops Q S (fuel+1) listed a w:=by
 rw[N2,N2] at hk;exact wpAnyH_take hi hk.1 hk.2.1 hk.2.2 hQ hy hS h
theorem IJ (i:Nat)(hS:S w)
 (h:wpAnyH P md ops Q S fuel (listed.setIfInBounds i K2) (a.put oi.dst v) w)(hi:ops[i]?=J1 oi:=by rfl)
 (hk:(Region.noSelect ops&&(Region.free md ops listed i&&(Region.ready md ops listed).contains i))=K2:=by kernel_rfl)
 (hQ:∀c a w,Q (.panic c) (a.put oi.dst v) w->Q (.panic c) a w:=by exact λ_ _ _ h=>h)(hy:YieldsIf P ops S oi v a:=by exact Or.inl ⟨by rfl,λy hSw=>by go_simp;try with_reducible rfl⟩):wpAnyH P md ops Q S (fuel+1) listed a w:=Ky i hi hk hQ hy hS h
theorem I6 {o:Oper}(i:Nat)
 (h:∀K':Act->Lz->Prop,Shut (∀a w,S w->(S w->wpAnyH P md ops Q S fuel (listed.setIfInBounds i K2) a w)->K' a w)->if Region.wanted o (yielded ops a.tmps)=K2 then Oper.wp P o a w K' Q else K' (a.put o.dst ON) w)
 (hr:Region.ready md ops listed=[i]:=by kernel_rfl)(ho:ops[i]?=J1 o:=by rfl):wpAnyH P md ops Q S (fuel+1) listed a w:=wpAnyH_ready hr (by simp) (AllReadyH.cons ho h AllReadyH.nil)
end Go.Proofs.YtmehkneofinmiabGreatDoor

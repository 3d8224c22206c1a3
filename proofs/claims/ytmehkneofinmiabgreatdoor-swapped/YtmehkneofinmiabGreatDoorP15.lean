/-part 15-/
import Derived.Test.YtmehkneofinmiabGreatDoorP14
import Derived.Conc.FxGenDone
import Derived.Conc.FxGenWait
open Go renaming undef->ID,Goroutine->IR,World->I3,Frame->Jx,Trace->K1,Program->Lo,execOp->Ly,Value->LI,FuncId->LN,stepG->LO,yielded->L3,CallKind->L4,TypeId->Mb,Event->MA,Oper->MT,PanicEntry->Nd,runNT->Nx,unwind->NO,loadVar->NX,lone->N0
open Nat renaming lt_of_lt_of_le->IF,le_trans->K2,not_lt->Lz,le_refl->LS,le_of_eq->MD
open Go.MemOp renaming ofEvents->IH
open Array renaming append_assoc->J0,mem_map->Lw,getElem?_eq_getElem->L5,getElem?_eq_none->Mn,getElem?_push_lt->Mp,mem_of_getElem?->Mz,replicate->MY
open Go.MemAct renaming ofEvent->J1,touch?->Lq
open Bool renaming true->Kf,false->Kx
open Go.Frame renaming enter->Ks,catches->LR,finish_at->M1
open Go.Region renaming wanted->K0
open Option renaming some->Ln,none->LL
open Go.stepG renaming apply->L1
open List renaming nil_append->L2
open Go.Instr renaming loadAt->Mu,storeAt->Nm
set_option maxRecDepth 100000
namespace Go.Proofs.Rn
open Go Go.Conc Go.ConcX
variable {X fr:Jx}{P:Lo}{a' g g':IR}{w':I3}{d:Nat}{es:Array MA}
variable [Payload]
omit [Payload] in
theorem A8 {q q':Bool}{fr':Jx}{IC IL cl:List Jx}(h:stat q (Gr fr (IC++cl))=stat q' (Gr fr' (IL++cl))):q=q'/\fr=fr'/\IC=IL:=by
 cases q<;>cases q'<;>simp[stat,Gr] at h<;>simp[h]
omit [Payload] in
theorem Cy {h h' o:IR}{w:I3}(e:g.frame=h.frame)(e':g'.status=h'.status):woken P g g' w o=woken P h h' w o:=by
 unfold Go.Conc.woken mayWake;rw[e,e']
omit [Payload] in
theorem jh {m:Bool}{c:Jx}{cs:List Jx}{ch:List Nd}{fn:Func}(hfn:P.funcs[fr.fn]?=Ln fn)(h1:fr.mode=.panicking ch)(h2:fr.defers=[])(w:I3):LO P m (Gr fr (c::cs)) w=.go (Gr (c.raise ch) cs) w #[]:=by
 have c1:LR P fr=Kx:=by unfold LR;rw[hfn]
 unfold LO;simp only[Gr,h1];unfold NO;simp only[h2,h1,c1,Bool.false_eq_true,if_false]
omit [Payload] in
theorem zW {g:Nat}{w x y:I3}(hx:nE g w x)(hy:nE g w y)(h:x.heap[g]?=y.heap[g]?)(hd:x.drawn=y.drawn):x=y:=by
 obtain⟨a1,a2,a3,a4,a5⟩:=x;obtain⟨b1,b2,b3,b4,b5⟩:=y;have e1:a1=b1:=by
  apply Array.ext_getElem?;intro i;by_cases hi:i=g
  ·rw[hi];exact h
  ·exact(hx.keep i hi).trans (hy.keep i hi).symm
 have e2:a2=b2:=hx.tape.trans hy.tape.symm;have e4:a4=b4:=hx.os.trans hy.os.symm;have e5:a5=b5:=hx.out.trans hy.out.symm;simp only at hd;rw[e1,e2,hd,e4,e5]
omit [Payload] in
theorem ET {g:Nat}{e:MA}(h:e.mute=Kf):kC g e:=by
 obtain⟨l,a,b⟩:=e;unfold kC;cases l with
 | mark m=>cases m<;>first|exact .mark .disable|exact .mark .enable|(simp[Event.mute] at h)
 | _=>simp[Event.mute] at h
def MI (E:Env)(bA:LN->L4->Prop)(Wg:Nat)(cW c:Jx)(cs:List Jx)(a A:IR):Prop:=∃fr IC q,Self E bA Wg fr IC/\a=stat q (Gr fr (IC++[cW]))/\A=stat q (Gr fr (IC++c::cs))
section
variable {E:Env} [IY E] {ty:Mb} {Wg C Low:Nat} [Shy Wg C] {aM:List LI} {AnchW:IR->I3->Prop} {cW dZ c0:Jx} {CB DZ:List Jx} {bA bB:LN->L4->Prop} {a b A:IR} {w W:I3} {s':K1} {μ:Nat×Nat×Nat×Nat} {c:Jx} {cs:List Jx}
def Gd (E:Env)(ty:Mb)(Wg C Low:Nat) [Shy Wg C] (aM:List LI)(AnchW:IR->I3->Prop)(a g:IR)(w:I3)(s':K1):Prop:=(∃μ,JI E ty Wg C Low aM AnchW μ a g w s')\/∃k d,QuitsD E.P k d g
def WI (E:Env)(ty:Mb)(Wg C Low:Nat) [Shy Wg C] (aM:List LI)(AnchW:IR->I3->Prop)(bB:LN->L4->Prop)(dZ c0:Jx)(CB DZ:List Jx)(a b:IR)(w:I3)(s':K1):Prop :=
 (∃fr IC,Self E bB Wg fr IC/\b=Gr fr (IC++c0::CB)/\Gd E ty Wg C Low aM AnchW a (Gr fr (IC++dZ::DZ)) w s')\/∃q d,QuitsD E.P q d b
omit [IY E] in
theorem DS (S:iz E ty Wg C Low aM AnchW cW dZ c0 CB DZ bA bB)(hd:∀w,∃o w' es,LO E.P Kf (Gr X []) w=.ended o w' es)(h:AQ E ty Wg C Low aM (Gr X []) b w s'):X=cW.finish (.tuple #[]):=by
 obtain⟨a1,b1,w1,A0,p,d1,k,mp,r,vs,e,hB,hG,hA,hq⟩:=h;obtain⟨rfl,rfl,rfl,-⟩:=duo_inj e;rcases hG.cases with hG|⟨n,_,hG⟩
 ·have:=S.stop _ _ (hG w (AtRel.refl w)).2;simpa [Gr] using this
 ·obtain⟨g',w',es,e1,_⟩:=hG w (AtRel.refl w);obtain⟨o,w2,e2,e3⟩:=hd w;rw[e1] at e3;cases e3
omit [IY E] in
theorem xk (S:iz E ty Wg C Low aM AnchW cW dZ c0 CB DZ bA bB)(hd:∀w,∃o w' es,LO E.P Kf (Gr X []) w=.ended o w' es)(h:JI E ty Wg C Low aM AnchW μ (Gr X []) b w s'):AQ E ty Wg C Low aM (Gr X []) b w s':=by
 apply Classical.byContradiction;intro hn;obtain⟨a',w',es,μ',e1,_⟩:=UG S h hn rfl w.drawn;obtain⟨o,w2,e2,e3⟩:=hd (w.at w.drawn);rw[e1] at e3;cases e3
omit [IY E] in
theorem oe (S:iz E ty Wg C Low aM AnchW cW dZ c0 CB DZ bA bB)(h:JI E ty Wg C Low aM AnchW μ a b w s'):woken E.P g g' w' b=b:=by
 rcases(jq S.hAr h).2 with hb|⟨q,d,hq⟩
 ·exact woken_run hb
 ·exact woken_quitsD hq
theorem qp (S:iz E ty Wg C Low aM AnchW cW dZ c0 CB DZ bA bB)(h:JI E ty Wg C Low aM AnchW μ a b w s')(hn:¬ AQ E ty Wg C Low aM a b w s')(hp:kM Wg Low w W)(hm:MI E bA Wg cW c cs a A)(hr:A.status=.running)(d:Nat) :
 ∃a' w' es μ' A' W',LO E.P Kf a (w.at d)=.go a' w' es/\LO E.P Kf A (W.at d)=.go A' W' es/\Lt4 μ' μ/\JI E ty Wg C Low aM AnchW μ' a' b w' (s'++IH 0 A.frame.fn A.frame.place es)/\kM Wg Low w' W'/\nE Wg (W.at d) W'/\(∀e∈es,kC Wg e) /\
  a.status=.running/\A.frame=a.frame/\(MI E bA Wg cW c cs a' A'\/(A'=Gr (c.finish (.tuple #[])) cs/\AQ E ty Wg C Low aM a' b w' (s'++IH 0 A.frame.fn A.frame.place es))):=by
 obtain⟨fr,A6,q,hs,rfl,rfl⟩:=hm;cases q with
 | false=>cases hr
 | true =>
 have e1:∀g,stat Kf g=g:=λ_=>rfl;rw[e1] at h hn ⊢;rw[e1];obtain⟨a',w',es,μ',A0,A4,hJ⟩:=UG S h hn rfl d;rw[oe S h] at hJ;by_cases hend:AtEnd fr A6
 ·obtain⟨m1,m2,rfl⟩:=hend;obtain⟨fn,Ab⟩:=hs.Tu.has;cases hmode:fr.mode with
  | run=>exact absurd hmode m1
  | panicking ch =>exfalso;have e2:=jh (m:=Kf) (c:=cW) (cs:=[]) Ab hmode m2 (w.at d);rw[L2,e2] at A0;cases A0;exact S.OE ch (DS S (S.ML ch) (xk S (S.ML ch) hJ))
  | returning =>obtain⟨hk,Ac,A1,A2⟩:=S.Q7 _ _ (hs.bot.1 fr rfl).2;have e2:=ni (m:=Kf) (c:=cW) (cs:=[]) A1 A2 hmode m2 hk (w.at d);have e3:=ni (m:=Kf) (c:=c) (cs:=cs) A1 A2 hmode m2 hk (W.at d);rw[L2,e2] at A0;cases A0;refine⟨_,_,#[],μ',_,_,e2,e3,A4,hJ,⟨hp.same,hp.env,hp.tape,hp.sz,hp.big⟩,⟨rfl,λ_ _=>rfl,rfl,rfl,rfl⟩,λe he=>by simp at he,rfl,rfl,.inr ⟨rfl,xk S (S.Q6 _) hJ⟩⟩
 ·obtain⟨⟨st,sm,Aa⟩,_⟩:=fw h;have A8:=(pZ S.hAn h hn hp.sz d).1 a' w' es rfl A0;have A5:=(jq S.hAr hJ).1;have A7:=(E4 S hJ).1;obtain⟨W',A9,A3,q',k1,k2,k3,k4,k5,k6,k7,k8,k9⟩:=tie (cs:=c::cs) S.hE S.lv S.G hs S.O hend (hp.LD Aa d) hp.tape rfl A0 A8 (by rcases A5 with x|x<;>rw[x]<;>simp) (λhf=>A7 ⟨hf.1,A5⟩);refine⟨a',w',es,μ',_,W',A0,k2,A4,hJ,⟨k4,k9,k5.tape.trans (hp.tape.trans k8.tape.symm),?_,?_⟩,k5,k7,rfl,rfl,.inl ⟨A9,A3,q',k3,k1,rfl⟩⟩
  ·rw[k8.size];exact hp.sz
  ·rw[k8.size,k5.size];exact hp.big
omit [IY E] in
theorem xG (S:iz E ty Wg C Low aM AnchW cW dZ c0 CB DZ bA bB)(hg:g.status=.running)(hG:Gd E ty Wg C Low aM AnchW a g w s')(ha:a.status=.running)(hs:LO E.P Kf a (w.at d)=.go a' w' es) :
 Gd E ty Wg C Low aM AnchW a' g w' (s'++IH 0 a.frame.fn a.frame.place es):=by
 rcases hG with⟨μ,h⟩|hq
 ·by_cases hn:AQ E ty Wg C Low aM a g w s'
  ·obtain⟨a1,b1,w1,A0,p,d1,k,mp,r,vs,e,hB,hG,hA,hq⟩:=hn;obtain⟨rfl,rfl,rfl,-⟩:=duo_inj e;exact .inr ⟨_,_,hq⟩
  ·obtain⟨a2,w2,A1,μ',h1,h2,h3⟩:=UG S h hn ha d;rw[hs] at h1;cases h1;rw[woken_run hg] at h3;exact .inl ⟨μ',h3⟩
 ·exact .inr hq
omit [IY E] in
theorem WI.main (S:iz E ty Wg C Low aM AnchW cW dZ c0 CB DZ bA bB)(hw:WI E ty Wg C Low aM AnchW bB dZ c0 CB DZ a b w s')(ha:a.status=.running)(hs:LO E.P Kf a (w.at d)=.go a' w' es) :
 WI E ty Wg C Low aM AnchW bB dZ c0 CB DZ a' b w' (s'++IH 0 a.frame.fn a.frame.place es):=by
 rcases hw with⟨fr,A0,h1,h2,h3⟩|hq
 ·exact .inl ⟨fr,A0,h1,h2,xG S rfl h3 ha hs⟩
 ·exact .inr hq
theorem qn (S:iz E ty Wg C Low aM AnchW cW dZ c0 CB DZ bA bB)(h:JI E ty Wg C Low aM AnchW μ a b w s')(hn:¬ AQ E ty Wg C Low aM a b w s')(hp:kM Wg Low w W)(hw:WI E ty Wg C Low aM AnchW bB dZ c0 CB DZ a b w s')(hr:b.status=.running)(d:Nat) :
 ∃b' w' es μ' W',LO E.P Kx b (w.at d)=.go b' w' es/\LO E.P Kx b (W.at d)=.go b' W' es/\Lt4 μ' μ/\JI E ty Wg C Low aM AnchW μ' (woken E.P b b' w' a) b' w' (s'++IH 1 b.frame.fn b.frame.place es)/\kM Wg Low w' W'/\nE Wg (W.at d) W'/\(∀e∈es,kC Wg e) /\
  WI E ty Wg C Low aM AnchW bB dZ c0 CB DZ (woken E.P b b' w' a) b' w' (s'++IH 1 b.frame.fn b.frame.place es):=by
 obtain⟨b',w',es,μ',A3,Ac,hJ⟩:=Tf S h hn hr d;have A2:∀{W:I3},nE Wg W W:=λ{W}=>⟨rfl,λ_ _=>rfl,rfl,rfl,rfl⟩;rcases hw with⟨fr,Aa,hs,rfl,hG⟩|⟨q,d1,hq⟩
 ·by_cases hend:AtEnd fr Aa
  ·obtain⟨m1,m2,rfl⟩:=hend;obtain⟨fn,Am⟩:=hs.Tu.has;cases hmode:fr.mode with
   | run=>exact absurd hmode m1
   | panicking ch =>
     exfalso;have e2:=jh (P:=E.P) (m:=Kx) (c:=dZ) (cs:=DZ) Am hmode m2;obtain⟨n,hD⟩:=S.Q5 ch;have Ai:u9 E.P (n+1) (Gr fr ([]++dZ::DZ)):=⟨rfl,_,e2,hD⟩;rcases hG with⟨μ₁,h₁⟩|⟨k,d1,hq⟩
     ·exact EE S Ai h₁
     ·exact nq Ai hq
   | returning =>obtain⟨hk,Aq,Ad,Ae⟩:=S.U9 _ _ (hs.bot.1 fr rfl).2;have e2:=ni (m:=Kx) (c:=c0) (cs:=CB) Ad Ae hmode m2 hk;rw[L2,e2 (w.at d)] at A3;cases A3;obtain⟨q,hq⟩:=S.quit;exact⟨_,_,#[],μ',_,e2 (w.at d),e2 (W.at d),Ac,hJ,⟨hp.same,hp.env,hp.tape,hp.sz,hp.big⟩,A2,λe he=>by simp at he,.inr ⟨_,_,hq⟩⟩
  ·obtain⟨⟨st,sm,Ag⟩,_⟩:=fw h;have Af:=(pZ S.hAn h hn hp.sz d).2 b' w' es rfl A3;have A1:=(jq S.hAr hJ).2;have A4:b'.status=.running\/b'.status=.finished:=by
    rcases A1 with x|⟨q,d1,x⟩
    ·exact .inl x
    ·exact x.status
   have Al:=(E4 S hJ).2;have Ab:∀{A5:Jx} {A0:List Jx} {q':Bool},b'=stat q' (Gr A5 (A0++c0::CB))->q'=Kf:=by
    intro A5 A0 q' e;cases q' with
    | true=>rfl
    | false=>rw[e] at A4;rcases A4 with x|x<;>cases x
   have A7:¬ (Fatal b'/\b'.status=.running):=λhf=>Al ⟨hf.1,.inl hf.2⟩;(have Ah:b'.status≠.waiting:=by rcases A4 with x|x<;>rw[x]<;>simp);obtain⟨W',A5,A0,q',k1,k2,k3,k4,k5,k6,k7,k8,k9⟩:=tie (cs:=c0::CB) S.hE S.lv S.G hs S.O hend (hp.LD Ag d) hp.tape rfl A3 Af Ah A7;obtain rfl:=Ab k1;have e1:∀g,stat Kf g=g:=λ_=>rfl;rw[e1] at k1 k2;subst k1;have A9:kM Wg Low w w:=⟨rfl,rfl,rfl,hp.sz,⟨hp.big.1,hp.big.1⟩⟩;obtain⟨w2,An,Ak,q2,j1,j2,j3,j4,j5,j6,j7,j8,j9⟩:=tie (cs:=dZ::DZ) S.hE S.lv S.G hs S.O hend (A9.LD Ag d) rfl rfl A3 Af Ah A7;obtain⟨rfl,rfl,rfl⟩:=A8 (q:=Kf) (show stat Kf (Gr A5 (A0++c0::CB))=_ from j1);rw[e1] at j2;have ew:w2=w':=zW j5 j8 j4 j6;subst ew;refine⟨_,w2,es,μ',W',A3,k2,Ac,hJ,⟨k4,k9,k5.tape.trans (hp.tape.trans k8.tape.symm),?_,?_⟩,k5,k7,.inl ⟨A5,A0,k3,rfl,?_⟩⟩
   ·rw[k8.size];exact hp.sz
   ·rw[k8.size,k5.size];exact hp.big
   ·rcases hG with⟨μ₁,h₁⟩|⟨k,d1,hq⟩
    ·by_cases hn₁:AQ E ty Wg C Low aM a (Gr fr (Aa++dZ::DZ)) w s'
     ·obtain⟨a1,b1,w1,Ao,p,d1,k,mp,r,vs,e,hB,hG,hA,hq⟩:=hn₁;obtain⟨rfl,rfl,rfl,-⟩:=duo_inj e;cases k with
      | zero=>cases hq.1
      | succ k =>
        rcases hq with⟨hf,_⟩|⟨_,g',e',_,A1,A6⟩
        ·cases hf
        ·rw[A1 (w.at d)] at j2;cases j2;exact .inr ⟨_,_,A6⟩
     ·obtain⟨b3,w3,Ap,μ3,h3,_,h4⟩:=Tf S h₁ hn₁ rfl d;rw[j2] at h3;cases h3;refine .inl ⟨μ3,?_⟩;have Aj:woken E.P (Gr fr (Aa++c0::CB)) (Gr A5 (A0++c0::CB)) w2 a=woken E.P (Gr fr (Aa++dZ::DZ)) (Gr A5 (A0++dZ::DZ)) w2 a:=Cy rfl rfl;rw[Aj];exact h4
    ·cases k with
     | zero=>cases hq.1
     | succ k =>
       rcases hq with⟨hf,_⟩|⟨_,g',e',_,A1,A6⟩
       ·cases hf
       ·rw[A1 (w.at d)] at j2;cases j2;exact .inr ⟨_,_,A6⟩
 ·cases q with
  | zero=>rw[hq.1] at hr;cases hr
  | succ q =>
    rcases hq with⟨hf,_⟩|⟨_,g',e',hm,A1,A6⟩
    ·rw[hf] at hr;cases hr
    ·rw[A1 (w.at d)] at A3;cases A3;exact⟨_,_,_,μ',_,A1 (w.at d),A1 (W.at d),Ac,hJ,⟨hp.same,hp.env,hp.tape,hp.sz,hp.big⟩,A2,λe he=>ET (hm e he),.inr ⟨_,_,A6⟩⟩
end
end Go.Proofs.Rn
namespace Go.Proofs.Rn
open Go Go.Conc Go.ConcX
variable {e:MA}{B g k:Nat}{P:Lo}{A a b:IR}{c:Jx}{cs:List Jx}{t₀:K1}
variable [Payload]
section
variable {S S':aD} {Wg hi:Nat} {Pm:aD}
omit [Payload] in
theorem gY (h:nF S e){x:Touch}(hx:(J1 e).touch?=Ln x)(hm:x.loc.isMemory=Kf):Kq S x.loc:=by
 obtain⟨l,a,b⟩:=e;cases l with
 | cell y=>have:x.loc=.cell y:=by cases a<;>cases b<;>simp[J1,Lq] at hx<;>rw[<-hx]
           rw[this];exact h
 | obj y=>have:x.loc=.obj y:=by cases a<;>cases b<;>simp[J1,Lq] at hx<;>rw[<-hx]
          rw[this];exact h
 | output=>exfalso;have:x.loc=.output:=by cases a<;>cases b<;>simp[J1,Lq] at hx<;>rw[<-hx]
           rw[this] at hm;cases hm
 | goroutines=>exfalso;have:x.loc=.goroutines:=by cases a<;>cases b<;>simp[J1,Lq] at hx<;>rw[<-hx]
               rw[this] at hm;cases hm
 | mark m =>
   cases m with
   | read y=>simp[J1,Lq] at hx;rw[<-hx];exact h
   | write y=>simp[J1,Lq] at hx;rw[<-hx];exact h
   | _=>simp[J1,Lq] at hx
omit [Payload] in
theorem tP (h:nF S e)(hl:∀b,S b->b<hi):(J1 e).low hi:=by
 obtain⟨l,a,b⟩:=e;cases l with
 | cell y=>cases a<;>cases b<;>exact hl _ h
 | obj y=>cases a<;>cases b<;>exact hl _ h
 | output=>cases a<;>cases b<;>trivial
 | goroutines=>cases a<;>cases b<;>trivial
 | mark m=>cases m<;>first|exact hl _ h|trivial
omit [Payload] in
theorem sD (h:nF S e)(hw:¬ S Wg):J1 e≠.mark (.release (stA Wg)):=by
 intro he;have:=Go.ConcX.loc_of_ofEvent he;obtain⟨l,a,b⟩:=e;simp only at this;subst this;exact hw h
omit [Payload] in
theorem qy {l:Loc}(hs:∀b,S b->¬ S' b)(h:Kq S l):¬ Kq S' l:=by
 intro h';cases l with
 | cell a=>exact hs _ h h'
 | obj b=>exact hs _ h h'
 | _=>exact h
end
structure Kp (W₀:I3)(S₀:aD)(W:I3):Prop where
 size:W₀.heap.size<=W.heap.size
 keep:∀b,b<W₀.heap.size->¬ S₀ b->W.heap[b]?=W₀.heap[b]?
 tape:W.tape=W₀.tape
 out:W.output=W₀.output
structure Cm (W₀:I3)(S₀:aD)(Wg Low:Nat)(Sm Sw:aD)(w W:I3)(s:K1):Prop where
 kp:Kp W₀ S₀ W
 gr:∀b,b<W₀.heap.size->(Sm b\/Sw b\/b=Wg)->S₀ b
 pair:kM Wg Low w W
 tl:TL Wg Sm W.heap.size s
 J5:∀b,Sm b->¬ Sw b
 mW:¬ Sm Wg
 wW:¬ Sw Wg
 QG:∀b,Sm b->b<W.heap.size
 Qi:∀b,Sw b->b<W.heap.size
 Ma:Wg<W.heap.size
section
variable {W₀:I3} {S₀:aD} {Wg Low:Nat} {Sm Sw S':aD} {w W W':I3} {s:K1} {fn:LN} {pos:String} {es:Array MA} {d:Nat}
omit [Payload] in
theorem kM.at (h:kM Wg Low w W)(d:Nat):kM Wg Low w (W.at d):=⟨h.same,h.env,h.tape,h.sz,h.big⟩
omit [Payload] in
theorem Cm.work (h:Cm W₀ S₀ Wg Low Sm Sw w W s)(hg:Ch Kx Sw S' (W.at d) W' es):Cm W₀ S₀ Wg Low Sm S' w W' (s++IH 1 fn pos es):=by
 have hd:∀b,S' b->¬ Sm b:=λb hb hm=>by
  rcases hg.old b hb with x|x
  ·exact h.J5 b hm x
  ·exact absurd (h.QG b hm) (Lz.2 x)
 have hw:¬ S' Wg:=λhb=>by
  rcases hg.old _ hb with x|x
  ·exact h.wW x
  ·exact absurd h.Ma (Lz.2 x)
 refine⟨⟨K2 h.kp.size hg.size,λb hb hn=>(hg.keep b (IF hb h.kp.size) λx=>hn (h.gr b hb (.inr (.inl x)))).trans (h.kp.keep b hb hn),hg.tape.trans h.kp.tape,hg.out.trans h.kp.out⟩,λb hb hx=>?_,⟨(hg.keep Wg h.Ma h.wW).trans h.pair.same,hg.env.trans h.pair.env,hg.tape.trans h.pair.tape,h.pair.sz,h.pair.big.1,K2 h.pair.big.2 hg.size⟩,?_,λb hm hb=>hd b hb hm,h.mW,hw,λb hb=>IF (h.QG b hb) hg.size,hg.low,IF h.Ma hg.size⟩
 ·rcases hx with x|x|x
  ·exact h.gr b hb (.inl x)
  ·rcases hg.old b x with y|y
   ·exact h.gr b hb (.inr (.inl y))
   ·exact absurd (IF hb h.kp.size) (Lz.2 y)
  ·exact h.gr b hb (.inr (.inr x))
 refine h.tl.app1 hg.size (λop hop=>⟨cT op hop,?_⟩) (λop hop=>?_)
 ·rw[ofEvents_eq] at hop;obtain⟨e,he,rfl⟩:=Lw.1 hop;have ha:=hg.evs e he;exact⟨λx hx hm=>.inl ⟨qy hd (gY ha hx hm),qy (λb hb e=>by subst e;exact hw hb) (gY ha hx hm)⟩,sD ha hw,λk=>ofEvent_ne_go e k⟩
 ·rw[ofEvents_eq] at hop;obtain⟨e,he,rfl⟩:=Lw.1 hop;exact tP (hg.evs e he) hg.low
omit [Payload] in
theorem Cm.win (h:Cm W₀ S₀ Wg Low Sm Sw w W s)(hg:Ch Kf Sm S' (W.at d) W' es):Cm W₀ S₀ Wg Low S' Sw w W' (s++IH 0 fn pos es):=by
 have hd:∀b,S' b->¬ Sw b:=λb hb hm=>by
  rcases hg.old b hb with x|x
  ·exact h.J5 b x hm
  ·exact absurd (h.Qi b hm) (Lz.2 x)
 have hw:¬ S' Wg:=λhb=>by
  rcases hg.old _ hb with x|x
  ·exact h.mW x
  ·exact absurd h.Ma (Lz.2 x)
 refine⟨⟨K2 h.kp.size hg.size,λb hb hn=>(hg.keep b (IF hb h.kp.size) λx=>hn (h.gr b hb (.inl x))).trans (h.kp.keep b hb hn),hg.tape.trans h.kp.tape,hg.out.trans h.kp.out⟩,λb hb hx=>?_,⟨(hg.keep Wg h.Ma h.mW).trans h.pair.same,hg.env.trans h.pair.env,hg.tape.trans h.pair.tape,h.pair.sz,h.pair.big.1,K2 h.pair.big.2 hg.size⟩,?_,hd,hw,h.wW,hg.low,λb hb=>IF (h.Qi b hb) hg.size,IF h.Ma hg.size⟩
 ·rcases hx with x|x|x
  ·rcases hg.old b x with y|y
   ·exact h.gr b hb (.inl y)
   ·exact absurd (IF hb h.kp.size) (Lz.2 y)
  ·exact h.gr b hb (.inr (.inl x))
  ·exact h.gr b hb (.inr (.inr x))
 refine(h.tl.grow hg.sub hg.old hw).app0 hg.size (λop hop=>⟨cT op hop,?_⟩) (λop hop=>?_)
 ·rw[ofEvents_eq] at hop;obtain⟨e,he,rfl⟩:=Lw.1 hop;have ha:=hg.evs e he;exact⟨λx hx hm=>.inl (gY ha hx hm),sD ha hw,λk=>ofEvent_ne_go e k⟩
 ·rw[ofEvents_eq] at hop;obtain⟨e,he,rfl⟩:=Lw.1 hop;exact tP (hg.evs e he) hg.low
omit [Payload] in
theorem Cm.wg (h:Cm W₀ S₀ Wg Low Sm Sw w W s){w':I3}(hp:kM Wg Low w' W')(ho:nE Wg (W.at d) W')(hg:g=0\/g=1)(hops:∀op∈IH g fn pos es,(∀x,op.act.touch?=Ln x->x.loc.isMemory=Kf->(OfWg Wg x.loc/\x.kind≠.plain/\(g=1->x.kind=.atomic))\/(x.loc=.obj Wg/\x.write=Kx))/\op.act≠.mark (.release (stA Wg))/\(∀k,op.act≠.go k)/\op.act.low W.heap.size) :
 Cm W₀ S₀ Wg Low Sm Sw w' W' (s++IH g fn pos es):=by
 have hs:W'.heap.size=W.heap.size:=ho.size;refine⟨⟨by rw[hs];exact h.kp.size,λb hb hn=>(ho.keep b λe=>hn (h.gr b hb (.inr (.inr e)))).trans (h.kp.keep b hb hn),ho.tape.trans h.kp.tape,ho.out.trans h.kp.out⟩,h.gr,hp,?_,h.J5,h.mW,h.wW,by rw[hs];exact h.QG,by rw[hs];exact h.Qi,by rw[hs];exact h.Ma⟩;rw[hs];rcases hg with rfl|rfl
 ·refine h.tl.app0 (LS _) (λop hop=>⟨cT op hop,λx hx hm=>?_,(hops op hop).2.1,(hops op hop).2.2.1⟩) λop hop=>(hops op hop).2.2.2;exact .inr (((hops op hop).1 x hx hm).imp (λy=>⟨y.1,y.2.1⟩) id)
 ·refine h.tl.app1 (LS _) (λop hop=>⟨cT op hop,λx hx hm=>?_,(hops op hop).2.1,(hops op hop).2.2.1⟩) λop hop=>(hops op hop).2.2.2;exact .inr (((hops op hop).1 x hx hm).imp (λy=>⟨y.1,y.2.2 rfl⟩) id)
end
section
variable {W₀:I3} {S₀:aD}
variable {E:Env} [IY E] {ty:Mb} {Wg C Low:Nat} [Shy Wg C] {aM:List LI} {AnchW:IR->I3->Prop} {cW dZ c0:Jx} {CB DZ:List Jx} {bA bB:LN->L4->Prop}
def GA (E:Env)(W₀:I3)(S₀:aD)(Wg:Nat)(KA:Jx->List Jx->Prop)(KB:I3->Prop)(M:Machine)(T:K1):Prop :=
 ∃c cs b W sl k B,M=duo (Gr (c.finish (.tuple #[])) cs) b W sl/\KA c cs/\KB W/\Kp W₀ S₀ W/\QuitsD E.P k (Deaf T 1) b/\Past (λl=>False\/Kq (·=Wg) l) B T
def Comes (E:Env)(W₀:I3)(S₀:aD)(Wg:Nat)(KA:Jx->List Jx->Prop)(KB:I3->Prop)(M:Machine)(T:K1):Prop:=∃N M' T',Nx E.P N M T=(.next M',T')/\GA E W₀ S₀ Wg KA KB M' T'
variable {KA:Jx->List Jx->Prop} {KB:I3->Prop}
omit [Payload] in
omit [IY E] in
theorem Comes.step {M M':Machine}{T:K1}{ops:Array MemOp}(h:stepT E.P M=(.next M',ops))(hc:Comes E W₀ S₀ Wg KA KB M' (T++ops)):Comes E W₀ S₀ Wg KA KB M T:=by
 obtain⟨N,M2,T2,h1,h2⟩:=hc;exact⟨N+1,M2,T2,by simp only[Nx,h];exact h1,h2⟩
omit [Payload] in
theorem duo_pick {B:IR}{W:I3}{sl:Option (Nat×Nat)}(hA:A.status=.running\/A.status=.blocked)(hB:B.status=.running\/B.status=.finished)(h:A.status=.running\/B.status=.running) :
 ∃d sl',(A.status=.running/\stepT P (duo A B W sl)=runT P (duo A B (W.at d) sl') 0)\/(B.status=.running/\stepT P (duo A B W sl)=runT P (duo A B (W.at d) sl') 1):=by
 have A1:∀g∈#[A,B],awake g:=by
  intro g hg;simp at hg;rcases hg with rfl|rfl
  ·exact awake_of (hA.imp id .inl)
  ·exact awake_of (hB.imp id .inr)
 obtain⟨i,g,d,sl',hi,hg,A0⟩:=crowd_pick (P:=P) (w:=W) (sl:=sl) A1 (h.elim (λx=>⟨0,A,rfl,x⟩) (λx=>⟨1,B,rfl,x⟩));refine⟨d,sl',?_⟩
 match i with
 | 0=>simp at hi;subst hi;exact .inl ⟨hg,A0⟩
 | 1=>simp at hi;subst hi;exact .inr ⟨hg,A0⟩
 | i+2=>simp at hi
omit [Payload] in
omit [IY E] in
theorem MI.stat (h:MI E bA Wg cW c cs a A):A.status=a.status/\A.frame=a.frame:=by
 obtain⟨fr,A0,q,_,rfl,rfl⟩:=h;cases q<;>exact⟨rfl,rfl⟩
omit [Payload] in
omit [IY E] in
theorem MI.woken {g g':IR}{w W:I3}(h:MI E bA Wg cW c cs a A):MI E bA Wg cW c cs (woken P g g' w a) (woken P g g' W A):=by
 obtain⟨fr,A0,q,hs,rfl,rfl⟩:=h;unfold Go.Conc.woken;split
 ·cases q with
  | true=>exact⟨fr,A0,Kf,hs,rfl,rfl⟩
  | false=>exact⟨fr,A0,Kf,hs,rfl,rfl⟩
 ·exact⟨fr,A0,q,hs,rfl,rfl⟩
omit [Payload] in
omit [IY E] in
theorem Eh (hstop:∀g w,Shy.stop Wg C g w->g.dying=LL):∀{mp:Nat} {a:IR} {w:I3},Goes E.P Kf AtRel (DPj LF Wg C Low) (AtRetJ E.P Wg C LF QF) mp a w->¬ L8 a:=by
 intro mp;induction mp with
 | zero=>intro a w hG hf;obtain⟨⟨d,h1,_⟩,_⟩:=hf;have:=hstop _ _ (hG w (AtRel.refl w)).2;rw[this] at h1;cases h1
 | succ n ih =>
   intro a w hG hf;rcases hG with hG|⟨_,hG⟩
   ·obtain⟨⟨d,h1,_⟩,_⟩:=hf;have:=hstop _ _ (hG w (AtRel.refl w)).2;rw[this] at h1;cases h1
   ·have hs:=hG w (AtRel.refl w);rcases eQ (P:=E.P) (m:=Kf) (w:=w) hf.1 with⟨g2,w2,e2,h1,h2⟩|⟨o,w2,e2,h1⟩
    ·rw[h1,goes_go] at hs;exact ih hs.2 h2
    ·rw[h1] at hs;exact hs
structure Af (E:Env)(Wg:Nat)(t₀ s:K1)(k:Nat)(b:IR):Prop where
 aq:Aq Wg s
 d0:Deaf s 0=0
 quit:QuitsD E.P k (Deaf s 1) b
omit [Payload] in
omit [IY E] in
theorem GL {s:K1}{hi:Nat}{Sm:aD}(ht:Past (λ_=>False) B t₀)(h1:Deaf t₀ 1=0)(htl:TL Wg Sm hi s)(hf:Af E Wg t₀ s k b)(OC:KA c cs){W:I3}(Mg:KB W)(hkp:Kp W₀ S₀ W)(sl:Option (Nat×Nat)) :
 GA E W₀ S₀ Wg KA KB (duo (Gr (c.finish (.tuple #[])) cs) b W sl) (t₀++s):=by
 obtain⟨hP,hd⟩:=htl.past hf.aq hf.d0 ht h1;exact⟨c,cs,b,W,sl,k,_,rfl,OC,Mg,hkp,by rw[hd];exact hf.quit,hP⟩
omit [Payload] in
omit [IY E] in
theorem Af.own {s:K1}(h:Af E Wg t₀ s k b){fn:LN}{pos:String}{es:Array MA}(hes:∀e∈es,e.loc≠.mark .disable/\e.loc≠.mark .enable):Af E Wg t₀ (s++IH 0 fn pos es) k b :=
 ⟨h.aq.app λ_ hr=>hr.app0 cT,by rw[Deaf_own,deafBehind_still hes];exact h.d0,by rw[Deaf_other s (by decide) _ cT];exact h.quit⟩
omit [Payload] in
theorem kW {fn:LN}{pos:String}{es:Array MA}(hm:∀e∈es,e.mute=Kf):∀op∈IH g fn pos es,op.act.touch?=LL/\(∀hi,op.act.low hi)/\op.act≠.mark (.release (stA Wg))/\∀k,op.act≠.go k:=by
 intro op A0;rw[ofEvents_eq] at A0;obtain⟨e,he,rfl⟩:=Lw.1 A0;refine⟨touch_mute (hm e he),low_mute (hm e he),λx=>?_,λk=>ofEvent_ne_go e k⟩;rcases act_mute (hm e he) with y|y<;>rw[show J1 e=_ from x] at y<;>cases y
omit [Payload] in
omit [IY E] in
theorem Af.slip {s:K1}{b':IR}(h:Af E Wg t₀ s (k+1) b){fn:LN}{pos:String}{es:Array MA}(hm:∀e∈es,e.mute=Kf)(hq:QuitsD E.P k (deafBehind (Deaf s 1) es) b'):Af E Wg t₀ (s++IH 1 fn pos es) k b':=by
 refine⟨h.aq.app λ_ hr=>hr.app (λi hi hg hc=>?_) (λop hop _ x hx=>by rw[(kW (Wg:=Wg) hm op hop).1] at hx;cases hx),by rw[Deaf_other s (by decide) _ cT];exact h.d0,by rw[Deaf_own];exact hq⟩;obtain⟨x,hx,_⟩:=hc;obtain⟨op,ho,A0⟩:=touch_of hx;rcases getElem?_append_cases ho with⟨y,_⟩|⟨_,y⟩
 ·omega
 ·rw[(kW (Wg:=Wg) hm op y).1] at A0;cases A0
omit [Payload] in
theorem Cm.slip {Sm Sw:aD}{w W:I3}{s:K1}(h:Cm W₀ S₀ Wg Low Sm Sw w W s)(d:Nat){fn:LN}{pos:String}{es:Array MA}(hm:∀e∈es,e.mute=Kf):Cm W₀ S₀ Wg Low Sm Sw w (W.at d) (s++IH 1 fn pos es) :=
 h.wg (h.pair.at d) ⟨rfl,λ_ _=>rfl,rfl,rfl,rfl⟩ (.inr rfl) λop hop=>let x:=kW (Wg:=Wg) hm op hop;⟨λy hy=>by(rw[x.1] at hy;cases hy),x.2.2.1,x.2.2.2,x.2.1 _⟩
theorem yS (S:iz E ty Wg C Low aM AnchW cW dZ c0 CB DZ bA bB)(ht:Past (λ_=>False) B t₀)(ht1:Deaf t₀ 1=0)(OC:KA c cs){Sm Sw:aD}{We:I3}(Mg:∀W₁,bQ Kx Sw We W₁->KB W₁) :
 ∀(M mp k:Nat) (a b A:IR) (w W:I3) (sl:Option (Nat×Nat)) (s:K1),mp+k<=M->Goes E.P Kf AtRel (DPj LF Wg C Low) (AtRetJ E.P Wg C LF QF) mp a w->(∃st sm,WgAt ty Wg w st sm)->MI E bA Wg cW c cs a A->Cm W₀ S₀ Wg Low Sm Sw w W s->bQ Kx Sw We W->Af E Wg t₀ s k b ->
  Comes E W₀ S₀ Wg KA KB (duo A b W sl) (t₀++s):=by
 intro M;induction M with
 | zero =>intro mp k a b A w W sl s hM hG A8 hm hp A2 hf;(obtain⟨rfl,rfl⟩:mp=0/\k=0:=by omega);exfalso;have:=S.stop _ _ (hG w (AtRel.refl w)).2;obtain⟨fr,A5,q,_,rfl,_⟩:=hm;have:=congrArg Goroutine.callers this;cases q<;>simp[stat,Gr] at this
 | succ M ih =>
   intro mp k a b A w W sl s hM hG A8 hm hp A2 hf;(have A7:∀w₁,¬ Shy.stop Wg C a w₁:=by intro w₁ A6;have:=S.stop _ _ A6;obtain⟨fr,A5,q,_,rfl,_⟩:=hm;have:=congrArg Goroutine.callers this;cases q<;>simp[stat,Gr] at this);have Am:a.status=.running:=Goes.running (λ_ _ x=>x.1) w (AtRel.refl w) hG;have Al:A.status=.running:=hm.stat.1.trans Am;obtain⟨d,A9,Ac⟩:=duo_pick (P:=E.P) (W:=W) (sl:=sl) (.inl Al) hf.quit.status (.inl Al);rcases Ac with⟨_,A6⟩|⟨hb,A6⟩
   ·-- goroutine 0
    rcases hG.cases with hG|⟨n,hn,Aw⟩
    ·exact absurd (hG w (AtRel.refl w)).2 (A7 w)
    subst hn;obtain⟨a',w',es,Ad,hD,A3⟩:=Aw (w.at d) ⟨d,rfl⟩;have As:∀e∈es,e.loc≠.mark .disable/\e.loc≠.mark .enable:=λe he=>⟨(hD.2 e he).2.1,(hD.2 e he).2.2⟩;obtain⟨fr,A5,q,hs,rfl,rfl⟩:=hm;cases q with
    | false=>cases Am
    | true =>
    have e1:∀g,stat Kf g=g:=λ_=>rfl;rw[e1] at Ad A6;rw[e1];by_cases hend:AtEnd fr A5
    ·obtain⟨m1,m2,rfl⟩:=hend;obtain⟨fn,Ay⟩:=hs.Tu.has;cases hmode:fr.mode with
     | run=>exact absurd hmode m1
     | panicking ch =>
       exfalso;have e2:=jh (m:=Kf) (c:=cW) (cs:=[]) Ay hmode m2 (w.at d);rw[L2,e2] at Ad;cases Ad;rcases A3.cases with A3|⟨n',_,A3⟩
       ·have:=S.stop _ _ (A3 (w.at d) (AtRel.refl _)).2;exact S.OE ch (by simpa [Gr] using this)
       ·obtain⟨g3,w3,e3,h3,_⟩:=A3 (w.at d) (AtRel.refl _);obtain⟨o,w4,e4,h4⟩:=S.ML ch (w.at d);rw[h3] at h4;cases h4
     | returning =>obtain⟨hk,B0,Ag,Ai⟩:=S.Q7 _ _ (hs.bot.1 fr rfl).2;have e3:=ni (m:=Kf) (c:=c) (cs:=cs) Ag Ai hmode m2 hk (W.at d);have A0:=runT_duo0 (b:=b) (sl:=A9) e3;refine Comes.step (A6.trans A0) ?_;rw[woken_quitsD hf.quit];(have An:Cm W₀ S₀ Wg Low Sm Sw w (W.at d) (s++IH 0 (Gr fr (c::cs)).frame.fn (Gr fr (c::cs)).frame.place #[]):=by have:=hp.wg (fn:=fr.fn) (pos:=fr.place) (es:=#[]) (d:=d) (hp.pair.at d) ⟨rfl,λ_ _=>rfl,rfl,rfl,rfl⟩ (.inl rfl) (λop Ab=>by simp[IH] at Ab);exact this);rw[J0];exact⟨0,_,_,rfl,GL ht ht1 An.tl (hf.own (by simp)) OC (Mg _ (A2.trans (bQ.at d))) An.kp A9⟩
    ·obtain⟨st,sm,A8⟩:=A8;have Aq:w'.heap.size<=w.heap.size:=sL (w:=w.at d) hp.pair.sz hD.1;have Aj:a'.status=.running:=Goes.running (λ_ _ x=>x.1) w' (AtRel.refl w') A3;have At:=Eh (λg w hg=>by rw[S.stop g w hg];rfl) A3;obtain⟨W',Az,Ae,q',k1,k2,k3,k4,k5,k6,k7,k8,k9⟩:=tie (cs:=c::cs) S.hE S.lv S.G hs S.O hend (hp.pair.LD A8 d) hp.pair.tape rfl Ad Aq (by rw[Aj];simp) (λhf=>At ⟨hf.1,.inl hf.2⟩);have A0:=runT_duo0 (b:=b) (sl:=A9) k2;refine Comes.step (A6.trans A0) ?_;rw[woken_quitsD hf.quit];have Aa:kM Wg Low w' W':=⟨k4,k9,k5.tape.trans (hp.pair.tape.trans k8.tape.symm),by rw[k8.size];exact hp.pair.sz,by rw[k8.size,k5.size];exact hp.pair.big⟩;have Ah:∀op∈IH 0 (Gr fr (A5++c::cs)).frame.fn (Gr fr (A5++c::cs)).frame.place es,(∀x,op.act.touch?=Ln x->x.loc.isMemory=Kf->(OfWg Wg x.loc/\x.kind≠.plain/\(0=1->x.kind=.atomic))\/(x.loc=.obj Wg/\x.write=Kx))/\op.act≠.mark (.release (stA Wg))/\(∀k,op.act≠.go k)/\op.act.low W.heap.size:=by
      intro op Ab;have A1:=xV k7 op Ab;rw[ofEvents_eq] at Ab;obtain⟨e,he,rfl⟩:=Lw.1 Ab;obtain⟨h1,_,_⟩:=hD.2 e he;obtain⟨_,Ar,Av,_⟩:=h1 (Gr fr (A5++c::cs)).frame.fn (Gr fr (A5++c::cs)).frame.place;refine⟨λx hx hm=>?_,Av,λk=>ofEvent_ne_go e k,?_⟩
      ·obtain⟨f1,f2,f3⟩:=Ar x hx;have A1:=A1 x hx hm;cases hloc:x.loc with
       | cell y =>rw[hloc] at A1;exact .inl ⟨⟨y,rfl,A1⟩,f2 (.inl ⟨y,hloc,A1⟩),λx=>by cases x⟩
       | obj y =>
         rw[hloc] at A1;have A1:y=Wg:=A1;subst A1;refine .inr ⟨rfl,?_⟩;rcases f1 with h|⟨_,h⟩|⟨h,_⟩
         ·exfalso;rcases h with(⟨z,h,_⟩|h)|⟨z,h,_⟩
          ·rw[hloc] at h;cases h
          ·rw[hloc] at h;cases h;exact S.hCW rfl
          ·rw[hloc] at h;cases h
         ·cases hwr:x.write with
          | false=>rfl
          | true=>exact(h hwr).elim
         ·cases h
       | _=>rw[hloc] at A1;exact A1.elim
      ·have A1:=k7 e he;obtain⟨l,x,y⟩:=e;unfold kC at A1;simp only at A1;have A4:=hp.Ma;have Au:∀l',L6 (only Wg) l l'->(J1 ⟨l,x,y⟩).low W.heap.size:=by
        intro l' h;cases h with
        | cell ha=>cases x<;>cases y<;>(show _<_;rw[ha.1.1];exact A4)
        | obj hb=>cases x<;>cases y<;>(show _<_;rw[hb.1];exact A4)
        | output=>cases x<;>cases y<;>trivial
        | goroutines=>cases x<;>cases y<;>trivial
        | mark hk =>
          cases hk with
          | acquire ha=>show _<_;rw[ha.1.1];exact A4
          | release ha=>show _<_;rw[ha.1.1];exact A4
          | releaseMerge ha=>show _<_;rw[ha.1.1];exact A4
          | read ha=>show _<_;rw[ha.1.1];exact A4
          | write ha=>show _<_;rw[ha.1.1];exact A4
          | _=>trivial
       exact Au l A1
     rw[J0];refine ih n k a' b _ w' W' A9 _ (by omega) A3 ?_ ⟨Az,Ae,q',k3,k1,rfl⟩ (hp.wg Aa k5 (.inl rfl) Ah) (A2.trans ⟨MD k5.size.symm,λx hx=>k5.keep x λe=>hp.wW (e ▸ hx),λ_=>k5.os⟩) (hf.own As);have hb:=hD.1 Wg S.hW;exact⟨st,sm,hb.trans A8⟩
   ·-- a leaver slips
    cases k with
    | zero=>rw[hf.quit.1] at hb;cases hb
    | succ k =>
      have hq:=hf.quit;rcases hq with⟨Ap,_⟩|⟨_,g',es,Ao,Ak,Ax⟩
      ·rw[Ap] at hb;cases hb
      have A0:=runT_duo1 (a:=A) (sl:=A9) (Ak (W.at d));refine Comes.step (A6.trans A0) ?_;rw[woken_run Al,J0];exact ih mp k a g' A w (W.at d) A9 _ (by omega) hG A8 hm (hp.slip d Ao) (A2.trans (bQ.at d)) (hf.slip Ao Ax)
end
end Go.Proofs.Rn
namespace Go.Proofs.Rn
open Go Go.Conc Go.ConcX
variable {s' t₀:K1}{a b g:IR}{We W₀ w:I3}{Sm Sw:aD}{μ:Nat×Nat×Nat×Nat}{B n:Nat}{c LM LK:Jx}{cs:List Jx}
variable [Payload]
section
variable {Wz:I3} {Sz:aD}
variable {E:Env} [IY E] {ty:Mb} {Wg C Low:Nat} [Shy Wg C] {aM:List LI} {AnchW:IR->I3->Prop} {cW dZ c0:Jx} {CB DZ:List Jx} {bA bB:LN->L4->Prop}
variable {KA:Jx->List Jx->Prop} {KB:I3->Prop}
omit [IY E] in
theorem E7 {s:K1}(h:AQ E ty Wg C Low aM a b w s')(hc:MX Wg s' s) :
 ∃mp k,Goes E.P Kf AtRel (DPj LF Wg C Low) (AtRetJ E.P Wg C LF QF) mp a w/\(∃st sm,WgAt ty Wg w st sm)/\Af E Wg t₀ s k b:=by
 obtain⟨a1,b1,w1,A0,p,d1,k,mp,r,vs,e,hB,hG,hA,hq⟩:=h;obtain⟨rfl,rfl,rfl,-⟩:=duo_inj e;exact⟨mp,k,hG,⟨_,_,hB.wg⟩,hc.aq hA,hc.d0.trans hB.deaf0,by rw[hc.d1,hB.deaf1];exact hq⟩
omit [Payload] in
theorem ky {m:Bool}{W W':I3}{d:Nat}(hw:¬ Sw Wg)(ho:nE Wg (W.at d) W'):bQ m Sw W W' :=
 (bQ.at d).trans ⟨MD ho.size.symm,λx hx=>ho.keep x λe=>hw (e ▸ hx),λ_=>ho.os⟩
omit [IY E] in
theorem vy (S:iz E ty Wg C Low aM AnchW cW dZ c0 CB DZ bA bB)(hJ:JI E ty Wg C Low aM AnchW μ a b w s') :
 (a.status=.running\/a.status=.blocked)/\(b.status=.running\/b.status=.finished)/\(a.status=.running\/b.status=.running):=by
 have A1:=jq S.hAr hJ;obtain⟨a1,b1,w1,A2,e,_,_,A0,_⟩:=hJ.shape S.hAr;obtain⟨rfl,rfl,rfl,-⟩:=duo_inj e;exact⟨A1.1,A1.2.elim .inl (λ⟨_,_,x⟩=>x.status),A0⟩
theorem sb (S:iz E ty Wg C Low aM AnchW cW dZ c0 CB DZ bA bB)(ht:Past (λ_=>False) B t₀)(ht1:Deaf t₀ 1=0)(OC:KA c cs)(Mg:∀W₁,bQ Kx Sw We W₁->KB W₁) :
 ∀(μ:Nat×Nat×Nat×Nat) (a b A:IR) (w W:I3) (sl:Option (Nat×Nat)) (s' s:K1),JI E ty Wg C Low aM AnchW μ a b w s'->MI E bA Wg cW c cs a A->WI E ty Wg C Low aM AnchW bB dZ c0 CB DZ a b w s'->Cm Wz Sz Wg Low Sm Sw w W s->bQ Kx Sw We W->MX Wg s' s ->
  Comes E Wz Sz Wg KA KB (duo A b W sl) (t₀++s):=by
 intro μ;induction μ using lt4_wf.induction with
 | _ μ ih =>
   intro a b A w W sl s' s hJ hm hw hp A1 hc;by_cases hq:AQ E ty Wg C Low aM a b w s'
   ·obtain⟨mp,k,h1,h2,h3⟩:=E7 (t₀:=t₀) hq hc;exact yS S ht ht1 OC Mg (mp+k) mp k a b A w W sl s (LS _) h1 h2 hm hp A1 h3
   ·have A4:=vy S hJ;rw[<-hm.stat.1] at A4;obtain⟨d,A7,A2⟩:=duo_pick (P:=E.P) (W:=W) (sl:=sl) A4.1 A4.2.1 A4.2.2;rcases A2 with⟨hA,hs⟩|⟨hb,hs⟩
    ·obtain⟨a',w',es,μ',A',W',k1,k2,k3,k4,k5,k6,k7,k8,k9,A3⟩:=qp S hJ hq hp.pair hm hA d;refine Comes.step (hs.trans (runT_duo0 k2)) ?_;rw[oe S hJ,J0];obtain⟨_,p,A6⟩:=fw k4;have A5:=hp.wg k5 k6 (.inl rfl) (nj A6 (.inl rfl) k7 S.hCW hp.Ma);have A9:=hc.both (fn:=A.frame.fn) (pos:=A.frame.place) (.inl rfl) k7;have A0:=A1.trans (ky hp.wW k6);rcases A3 with A3|⟨rfl,A3⟩
     ·have A8:=hw.main S k8 k1;rw[<-k9] at A8;exact ih μ' k3 a' b A' w' W' A7 _ _ k4 A3 A8 A5 A0 A9
     ·obtain⟨mp,k,h1,h2,h3⟩:=E7 (t₀:=t₀) A3 A9;exact⟨0,_,_,rfl,GL ht ht1 A5.tl h3 OC (Mg _ A0) A5.kp A7⟩
    ·obtain⟨b',w',es,μ',W',k1,k2,k3,k4,k5,k6,k7,k8⟩:=qn S hJ hq hp.pair hw hb d;refine Comes.step (hs.trans (runT_duo1 k2)) ?_;rw[J0];obtain⟨_,p,A6⟩:=fw k4;exact ih μ' k3 _ b' _ w' W' A7 _ _ k4 hm.woken k8 (hp.wg k5 k6 (.inr rfl) (nj A6 (.inr rfl) k7 S.hCW hp.Ma)) (A1.trans (ky hp.wW k6)) (hc.both (.inr rfl) k7)
def Dv (LK c0:Jx)(CB:List Jx)(KB:I3->Prop)(_:aD)(n:Nat)(g:IR)(W:I3):Prop:=n=0/\g=Gr LK (c0::CB)/\KB W
def EB (LM:Jx)(KA:Jx->List Jx->Prop)(_:aD)(n:Nat)(g:IR)(_:I3):Prop:=n=0/\∃c cs,KA c cs/\g=Gr LM (c::cs)
omit [IY E] in
theorem Gd.woken (S:iz E ty Wg C Low aM AnchW cW dZ c0 CB DZ bA bB){x:IR}(hx:x.status=.running)(h:Gd E ty Wg C Low aM AnchW a x w s')(g g':IR):Gd E ty Wg C Low aM AnchW (woken E.P g g' w a) x w s':=by
 rcases h with⟨μ,h⟩|h
 ·obtain⟨a1,b1,w1,A0,e,μ',h'⟩:=h.woken S.hAr g g';obtain⟨rfl,rfl,rfl,rfl⟩:=duo_inj e;rw[woken_run hx] at h';exact .inl ⟨μ',h'⟩
 ·exact .inr h
theorem Ak (S:iz E ty Wg C Low aM AnchW cW dZ c0 CB DZ bA bB)(ht:Past (λ_=>False) B t₀)(ht1:Deaf t₀ 1=0)(OC:KA c cs)(hB:Self E bB Wg LK [])
 (hW:Wk E.P Kx (Dv LK c0 CB KB) Sw n g W₀) :
 ∀(μ:Nat×Nat×Nat×Nat) (a A:IR) (w W:I3) (sl:Option (Nat×Nat)) (s' s:K1),JI E ty Wg C Low aM AnchW μ a (Gr LK (c0::CB)) w s'->MI E bA Wg cW c cs a A->Gd E ty Wg C Low aM AnchW a (Gr LK (dZ::DZ)) w s'->Cm Wz Sz Wg Low Sm Sw w W s->bQ Kx Sw W₀ W->lN s' s n ->
  Comes E Wz Sz Wg KA KB (duo A g W sl) (t₀++s):=by
 induction hW with
 | @stop Sw n g W₀ h0 hfin =>intro μ a A w W sl s' s hJ hm hG hp A0 hc;obtain⟨rfl,rfl,_⟩:=hfin W A0;exact sb S ht ht1 OC (λW₁ h₁=>(hfin W₁ h₁).2.2) μ a _ A w W sl s' s hJ hm (.inl ⟨LK,[],hB,rfl,hG⟩) hp A0 hc.U7
 | @step Sw n g W₀ G N X T K h0 h1 h2 ih =>
   intro μ;induction μ using lt4_wf.induction with
   | _ μ UH =>
     intro a A w W sl s' s hJ hm hG hp A0 hc;have A5:=vy S hJ;rw[<-hm.stat.1] at A5;(have hq:¬ AQ E ty Wg C Low aM a (Gr LK (c0::CB)) w s':=by rintro⟨a1,b1,w1,A9,p,d1,k,mp,r,vs,e,hB,hG,hA,hq⟩;obtain⟨q,r,hr,_⟩:=hA;exact hc.norel r hr);obtain⟨d,Aa,A2⟩:=duo_pick (P:=E.P) (W:=W) (sl:=sl) A5.1 (.inl h0) (.inr h0);rcases A2 with⟨hA,hs⟩|⟨hb,hs⟩
     ·obtain⟨a',w',es,μ',A',W',k1,k2,k3,k4,k5,k6,k7,k8,k9,A3⟩:=qp S hJ hq hp.pair hm hA d;refine Comes.step (hs.trans (runT_duo0 k2)) ?_;rw[woken_run h0,J0];obtain⟨_,p,Ac⟩:=fw k4;have Ab:=hp.wg k5 k6 (.inl rfl) (nj Ac (.inl rfl) k7 S.hCW hp.Ma);have A6:=hc.main (fn:=A.frame.fn) (pos:=A.frame.place) (es:=es);have A1:=A0.trans (ky hp.wW k6);rcases A3 with A3|⟨rfl,A3⟩
      ·have A7:=xG S rfl hG k8 k1;rw[<-k9] at A7;exact UH μ' k3 a' A' w' W' Aa _ _ k4 A3 A7 Ab A1 A6
      ·exfalso;obtain⟨a1,b1,w1,A9,p,d1,k,mp,r,vs,e,hB,hG,⟨q,r,hr,_⟩,hq⟩:=A3;exact A6.norel r hr
     ·have A8:bQ Kx Sw W₀ (W.at d):=A0.trans (bQ.at d);obtain⟨j1,j2,j3⟩:=h1 (W.at d) A8;refine Comes.step (hs.trans (runT_duo1 j1)) ?_;rw[J0];obtain⟨a1,b1,w1,A9,e,μ',A4⟩:=hJ.woken S.hAr g (G (W.at d));obtain⟨rfl,rfl,rfl,rfl⟩:=duo_inj e;rw[woken_run (b:=Gr LK (c0::CB)) rfl] at A4;exact ih (W.at d) A8 μ' _ _ w (N (W.at d)) Aa s' _ A4 hm.woken (hG.woken S rfl _ _) (hp.work j2) .rfl (hc.work j3)
theorem EI (S:iz E ty Wg C Low aM AnchW cW dZ c0 CB DZ bA bB)(ht:Past (λ_=>False) B t₀)(ht1:Deaf t₀ 1=0)(Mg:∀W₁,bQ Kx Sw We W₁->KB W₁)(hA:Self E bA Wg LM [])
 (hW:Wk E.P Kf (EB LM KA) Sm n g W₀) :
 ∀(μ:Nat×Nat×Nat×Nat) (b:IR) (w W:I3) (sl:Option (Nat×Nat)) (s' s:K1),JI E ty Wg C Low aM AnchW μ (Gr LM [cW]) b w s'->WI E ty Wg C Low aM AnchW bB dZ c0 CB DZ (Gr LM [cW]) b w s'->Cm Wz Sz Wg Low Sm Sw w W s->bQ Kf Sm W₀ W->bQ Kx Sw We W->mO Wg s' s n ->
  Comes E Wz Sz Wg KA KB (duo g b W sl) (t₀++s):=by
 induction hW with
 | @stop Sm n g W₀ h0 hfin =>intro μ b w W sl s' s hJ hw hp A1 A0 hc;obtain⟨rfl,c,cs,A8,rfl⟩:=hfin W A1;exact sb S ht ht1 A8 Mg μ _ b _ w W sl s' s hJ ⟨LM,[],Kf,hA,rfl,rfl⟩ hw hp A0 hc.U7
 | @step Sm n g W₀ G N X T K h0 h1 h2 ih =>
   intro μ;induction μ using lt4_wf.induction with
   | _ μ UH =>
     intro b w W sl s' s hJ hw hp A1 A0 hc;have A7:=vy S hJ;(have hq:¬ AQ E ty Wg C Low aM (Gr LM [cW]) b w s':=by rintro⟨a1,b1,w1,A9,p,d1,k,mp,r,vs,e,hB,hG,hA,hq⟩;exact hc.noacq hA);obtain⟨d,A4,A2⟩:=duo_pick (P:=E.P) (A:=g) (W:=W) (sl:=sl) (.inl h0) A7.2.1 (.inl h0);rcases A2 with⟨hA,hs⟩|⟨hb,hs⟩
     ·have A3:bQ Kf Sm W₀ (W.at d):=A1.trans (bQ.at d);obtain⟨j1,j2,j3⟩:=h1 (W.at d) A3;refine Comes.step (hs.trans (runT_duo0 j1)) ?_;rw[oe S hJ,J0];have A5:bQ Kx Sw (W.at d) (N (W.at d)):=⟨j2.size,λx hx=>j2.keep x (hp.Qi x hx) λy=>hp.J5 x y hx,λ_=>j2.os rfl⟩;exact ih (W.at d) A3 μ b w (N (W.at d)) A4 s' _ hJ hw (hp.win j2) .rfl ((A0.trans (bQ.at d)).trans A5) (hc.win j3)
     ·obtain⟨b',w',es,μ',W',k1,k2,k3,k4,k5,k6,k7,k8⟩:=qn S hJ hq hp.pair hw hb d;refine Comes.step (hs.trans (runT_duo1 k2)) ?_;rw[woken_run h0,J0];rw[woken_run (b:=Gr LM [cW]) rfl] at k4 k8;obtain⟨_,p,A6⟩:=fw k4;exact UH μ' k3 b' w' W' A4 _ _ k4 k8 (hp.wg k5 k6 (.inr rfl) (nj A6 (.inr rfl) k7 S.hCW hp.Ma)) (A1.trans (ky hp.mW k6)) (A0.trans (ky hp.wW k6)) (hc.both k7)
theorem BT (S:iz E ty Wg C Low aM AnchW cW dZ c0 CB DZ bA bB)(ht:Past (λ_=>False) B t₀)(ht1:Deaf t₀ 1=0)(hA:Self E bA Wg LM [])(hB:Self E bB Wg LK [])(hJ:JI E ty Wg C Low aM AnchW μ (Gr LM [cW]) (Gr LK (c0::CB)) w s')(hG:Gd E ty Wg C Low aM AnchW (Gr LM [cW]) (Gr LK (dZ::DZ)) w s')
 {Wb:I3}(hWb:Wk E.P Kx (Dv LK c0 CB KB) Sw n b Wb) :
 ∀{Sm:aD} {m:Nat} {a:IR} {Wa:I3},Wk E.P Kf (EB LM KA) Sm m a Wa->∀(W:I3) (sl:Option (Nat×Nat)) (s:K1),Cm Wz Sz Wg Low Sm Sw w W s->bQ Kf Sm Wa W->bQ Kx Sw Wb W->mN Wg s' s m n ->
  Comes E Wz Sz Wg KA KB (duo a b W sl) (t₀++s):=by
 induction hWb with
 | @stop Sw n b Wb h0 hfin =>intro Sm m a Wa A6 W sl s hp A3 A2 hc;obtain⟨rfl,rfl,_⟩:=hfin W A2;exact EI S ht ht1 (λW₁ h₁=>(hfin W₁ h₁).2.2) hA A6 μ _ w W sl s' s hJ (.inl ⟨LK,[],hB,rfl,hG⟩) hp A3 A2 hc.U6
 | @step Sw n b Wb G N X T K h0 h1 h2 ih =>
   intro Sm m a Wa A6;induction A6 with
   | @stop Sm m a Wa g0 U0 =>intro W sl s hp A3 A2 hc;obtain⟨rfl,c,cs,A8,rfl⟩:=U0 W A3;exact Ak S ht ht1 A8 hB (.step G N X T K h0 h1 h2) μ _ _ w W sl s' s hJ ⟨LM,[],Kf,hA,rfl,rfl⟩ hG hp A2 hc.U5
   | @step Sm m a Wa G' N' X' T' K' g0 g1 g2 ih' =>
     intro W sl s hp A3 A2 hc;obtain⟨d,A7,A4⟩:=duo_pick (P:=E.P) (A:=a) (B:=b) (W:=W) (sl:=sl) (.inl g0) (.inl h0) (.inl g0);have A0:=A3.trans (bQ.at (m:=Kf) (S:=Sm) d);have A1:=A2.trans (bQ.at (m:=Kx) (S:=Sw) d);rcases A4 with⟨_,hs⟩|⟨_,hs⟩
     ·obtain⟨j1,j2,j3⟩:=g1 (W.at d) A0;refine Comes.step (hs.trans (runT_duo0 j1)) ?_;rw[woken_run h0,J0];have A5:bQ Kx Sw (W.at d) (N' (W.at d)):=⟨j2.size,λx hx=>j2.keep x (hp.Qi x hx) λy=>hp.J5 x y hx,λ_=>j2.os rfl⟩;exact ih' (W.at d) A0 (N' (W.at d)) A7 _ (hp.win j2) .rfl (A1.trans A5) (hc.win j3)
     ·obtain⟨j1,j2,j3⟩:=h1 (W.at d) A1;refine Comes.step (hs.trans (runT_duo1 j1)) ?_;rw[woken_run g0,J0];have A5:bQ Kf Sm (W.at d) (N (W.at d)):=⟨j2.size,λx hx=>j2.keep x (hp.QG x hx) λy=>hp.J5 x hx y,λe=>by(cases e)⟩;exact ih (W.at d) A1 (Wk.step G' N' X' T' K' g0 g1 g2) (N (W.at d)) A7 _ (hp.work j2) (A0.trans A5) .rfl (hc.work j3)
end
end Go.Proofs.Rn
namespace Go.Proofs.Rn
open Go Go.Conc Go.ConcX Go.RowKit Go.Conc.Lib Go.ConcX.Gen
variable {b₀:Jx}{a₀:Act}{ops₀:Array MT}{B i i₀:Nat}{rest rest₀:List Nat}{k₀:List Item}{x:Operand}{y:MemOp}{r:Rel}{f:LN}{fn:Func}{args:Array LI}{o:MT}{v:LI}{t':Mb}{M:Machine}
abbrev pay:Payload:=⟨0⟩
abbrev Ap : MT := { dst := LL, op := .pick (.const (.int .i64 0)) (.const (.int .i64 0)) (.const (.int .i64 0)), type := 0, pos := "", after := #[], guard := LL }
abbrev cW (P:Lo):Jx:=(base P.funcs.size).at ⟨#[],[{ target:=.nil,args:=#[] }]⟩ (.inRegion #[Ap] (0::[0])::[])
abbrev U3 (L:WgLink):Jx:=(baseD L.done).at ⟨#[],[]⟩ (.inRegion #[] (0::[])::[])
def LW (P : Lo) : Jx := { fn := P.funcs.size, tmps := #[ID], todo := [.call { target := .nil, args := #[] } Kx "fmt's door" #[]], defers := [], mode := .returning, kind := .normal }
abbrev shy (P:Lo) (Wg C:Nat):Shy Wg C where
 ok _:=True
 atomicWg _ _ _:=trivial
 readWg _ _:=trivial
 writeWg _ _:=trivial
 theirs _ _ _:=trivial
 disable:=trivial
 enable:=trivial
 relMerge:=trivial
 acquire:=trivial
 go1:=trivial
 start:=trivial
 stop g _:=g=Gr ((cW P).finish (.tuple #[])) []
abbrev bW (L:WgLink):LN->L4->Prop:=λf k=>f=L.wait/\k=.normal
abbrev bD (L:WgLink):LN->L4->Prop:=λf k=>f=L.add/\k=.normal
abbrev VH (P:Lo) (L:WgLink) (Wg N:Nat):IR->I3->Prop:=@AnchW7 pay L (λ_=>True) Wg N (shy P Wg N) [] (cW P) []
section
variable {E:Env} [IY E] {L:WgLink} {Wg N:Nat} {c0:Jx} {CB:List Jx}
theorem xq (P:Lo):P.funcs[P.funcs.size]?=LL:=Mn (LS _)
omit [IY E] in
theorem FA (H:WgLib E.P L)(ch:List Nd):u9 E.P 1 (Gr ((U3 L).raise ch) [LW E.P]):=by
 refine⟨rfl,_,λw=>jh (c:=LW E.P) (cs:=[]) (fn:=doneFn L) H.f_done rfl rfl w,rfl,λw=>?_⟩;have hc:LR E.P ((LW E.P).raise ch)=Kf:=by unfold LR;have:E.P.funcs[((LW E.P).raise ch).fn]?=LL:=xq E.P;rw[this];show "fmt's door".startsWith "fmt's door" = Kf;simp
 have:LO E.P Kx (Gr ((LW E.P).raise ch) []) w=NO E.P Kx ((LW E.P).raise ch) [] LL w:=rfl;rw[this];unfold NO;show ∃o w' es,(if LR E.P ((LW E.P).raise ch)=Kf then _ else _)=GStep.ended o w' es;rw[if_pos hc];exact⟨_,_,_,rfl⟩
theorem Ex (P:Lo)(v:LI)(w:I3):∃o w' es,LO P Kf (Gr ((cW P).finish v) []) w=.ended o w' es:=by
 have:LO P Kf (Gr ((cW P).finish v) []) w=_:=stepG_oper (b:=base P.funcs.size) (a:=⟨#[],[{ target:=.nil,args:=#[] }]⟩) (k:=[]) (cs:=[]) (ops:=#[Ap]) (i:=0) (rest:=[]) rfl rfl;rw[this];simp[L1,Ly,asBool,go_sem];exact⟨_,_,_,rfl⟩
theorem Be (P:Lo)(ch:List Nd)(w:I3):∃o w' es,LO P Kf (Gr ((cW P).raise ch) []) w=.ended o w' es:=⟨_,_,_,rfl⟩
omit [IY E] in
theorem Ie (hE:aS E)(hlv:¬ E.lv)(hG:∀i,¬ E.G i)(hO:∀c,¬ E.Op c)(H:WgLib E.P L)(hW:Wg<N)(hq:∃q,QuitsD E.P q 0 (Gr (c0.finish (.tuple #[])) CB)) :
 @iz pay E L.tWg Wg N (N+2) (shy E.P Wg N) [] (VH E.P L Wg N) (cW E.P) (U3 L) c0 CB [LW E.P] (bW L) (bD L):=by
 letI:=pay
 letI:=shy E.P Wg N
 refine⟨hE,hlv,hG,hO,by omega,by omega,by omega,?_,?_,?_,Ex E.P,Be E.P,?_,λch=>⟨1,FA H ch⟩,hq,?_,?_⟩
 ·rintro g w ⟨T,rfl,_⟩;rfl
 ·intro g w h;exact waitRound (mT:=0) H (by omega) (λ_ _ _ h=>h) (λw _ _ _ w₁ _=>⟨rfl,rfl⟩) g w h
 ·intro g w h;exact h
 ·intro ch h;have:=congrArg Frame.mode h;cases this
 ·rintro f k ⟨rfl,rfl⟩;exact⟨rfl,_,H.f_wait,rfl⟩
 ·rintro f k ⟨rfl,rfl⟩;exact⟨rfl,_,H.f_add,rfl⟩
abbrev pW (Wg:Nat):LI:=.pointer (Ln ⟨Wg,0,LL⟩)
abbrev Tv (P:Lo) (L:WgLink) (Wg:Nat):Jx:=Ks P L.wait #[pW Wg] .normal
abbrev TC (P:Lo) (L:WgLink) (Wg:Nat):Jx:=Ks P L.add #[pW Wg,.int .i64 (-1)] .normal
theorem GO (v:LI):#[v]++MY 83 ID=#[v,ID,ID,ID,ID,ID,ID,ID,ID,ID,ID,ID,ID,ID,ID,ID,ID,ID,ID,ID,ID,ID,ID,ID,ID,ID,ID,ID,ID,ID,ID,ID,ID,ID,ID,ID,ID,ID,ID,ID,ID,ID,ID,ID,ID,ID,ID,ID,ID,ID,ID,ID,ID,ID,ID,ID,ID,ID,ID,ID,ID,ID,ID,ID,ID,ID,ID,ID,ID,ID,ID,ID,ID,ID,ID,ID,ID,ID,ID,ID,ID,ID,ID,ID]:=by kernel_rfl
theorem AB (v u:LI):#[v,u]++MY 115 ID=#[v,u,ID,ID,ID,ID,ID,ID,ID,ID,ID,ID,ID,ID,ID,ID,ID,ID,ID,ID,ID,ID,ID,ID,ID,ID,ID,ID,ID,ID,ID,ID,ID,ID,ID,ID,ID,ID,ID,ID,ID,ID,ID,ID,ID,ID,ID,ID,ID,ID,ID,ID,ID,ID,ID,ID,ID,ID,ID,ID,ID,ID,ID,ID,ID,ID,ID,ID,ID,ID,ID,ID,ID,ID,ID,ID,ID,ID,ID,ID,ID,ID,ID,ID,ID,ID,ID,ID,ID,ID,ID,ID,ID,ID,ID,ID,ID,ID,ID,ID,ID,ID,ID,ID,ID,ID,ID,ID,ID,ID,ID,ID,ID,ID,ID,ID,ID]:=by kernel_rfl
theorem finish_at (b:Jx)(a:Act)(ops:Array MT)(i:Nat)(rest:List Nat)(k:List Item)(v:LI):(b.at a (.inRegion ops (i::rest)::k)).finish v=b.at (a.put ((ops[i]?).bind (·.dst)) v) (.inRegion ops rest::k):=by
 unfold Frame.finish Act.put;simp only[Frame.at];cases(ops[i]?).bind (·.dst)<;>rfl
omit [IY E] in
theorem FS (H:WgLib E.P L):Tv E.P L Wg=(base L.wait).at { tmps:=#[pW Wg,ID,ID,ID,ID,ID,ID,ID,ID,ID,ID,ID,ID,ID,ID,ID,ID,ID,ID,ID,ID,ID,ID,ID,ID,ID,ID,ID,ID,ID,ID,ID,ID,ID,ID,ID,ID,ID,ID,ID,ID,ID,ID,ID,ID,ID,ID,ID,ID,ID,ID,ID,ID,ID,ID,ID,ID,ID,ID,ID,ID,ID,ID,ID,ID,ID,ID,ID,ID,ID,ID,ID,ID,ID,ID,ID,ID,ID,ID,ID,ID,ID,ID,ID],defers:=[] } [.code (body_wait L)]:=by
 have h:(waitFn L).body=Ln (body_wait L):=rfl;have h2:(waitFn L).ntmps=84:=rfl;have:=enter_at (P:=E.P) #[pW Wg] H.f_wait h;rw[h2] at this;exact this.trans (congrArg (λt=>(base L.wait).at { tmps:=t,defers:=[] } [.code (body_wait L)]) (GO _))
omit [IY E] in
theorem FX (H:WgLib E.P L):TC E.P L Wg=(base L.add).at { tmps:=#[pW Wg,.int .i64 (-1),ID,ID,ID,ID,ID,ID,ID,ID,ID,ID,ID,ID,ID,ID,ID,ID,ID,ID,ID,ID,ID,ID,ID,ID,ID,ID,ID,ID,ID,ID,ID,ID,ID,ID,ID,ID,ID,ID,ID,ID,ID,ID,ID,ID,ID,ID,ID,ID,ID,ID,ID,ID,ID,ID,ID,ID,ID,ID,ID,ID,ID,ID,ID,ID,ID,ID,ID,ID,ID,ID,ID,ID,ID,ID,ID,ID,ID,ID,ID,ID,ID,ID,ID,ID,ID,ID,ID,ID,ID,ID,ID,ID,ID,ID,ID,ID,ID,ID,ID,ID,ID,ID,ID,ID,ID,ID,ID,ID,ID,ID,ID,ID,ID,ID,ID],defers:=[] } [.code (body_add L)]:=by
 have h:(addFn L).body=Ln (body_add L):=rfl;have h2:(addFn L).ntmps=117:=rfl;have:=enter_at (P:=E.P) #[pW Wg,.int .i64 (-1)] H.f_add h;rw[h2] at this;exact this.trans (congrArg (λt=>(base L.add).at { tmps:=t,defers:=[] } [.code (body_add L)]) (AB _ _))
omit [IY E] in
theorem sx (H:WgLib E.P L)(hW:Wg<N){w:I3}(hw:@WgAt L.tWg Wg w KK 0)(hf:w.heap[N]?=Ln (.cells #[] 0))
 (hq:∃q,QuitsD E.P q 0 (Gr ((b₀.at a₀ (.inRegion ops₀ (i₀::rest₀)::k₀)).finish (.tuple #[])) CB)){x:MemOp}(hx:x.g=0/\x.act=.go 1)(hy:y.g=1/\y.act=.start) :
 ∃μ,@JI pay E L.tWg Wg N (N+2) (shy E.P Wg N) [] (VH E.P L Wg N) μ (Gr (Tv E.P L Wg) [cW E.P]) (Gr (TC E.P L Wg) (b₀.at a₀ (.inRegion ops₀ (i₀::rest₀)::k₀)::CB)) w #[x,y]:=by
 letI:=pay
 letI:=shy E.P Wg N
 obtain⟨q,hq⟩:=hq;rw[finish_at] at hq;have A0:Full N [] w:=λ_=>hf;obtain⟨j1,j2,j3,j4⟩:=JT.init (Mine:=LF) (Wg:=Wg) (C:=N) ST.nil hx hy;have eA:=FS (Wg:=Wg) H;have eD:=FX (Wg:=Wg) H;rw[eA,eD];refine⟨_,JInv.a _ _ w LL _ 0 0 0 _ _ _ _ Kx Kx [] [] rfl ⟨hw,λe=>(by cases e),j1,j2,j3,λ_=>j4,λe=>(by cases e)⟩ (.kd (m:=3) ?_) (.r0 (m:=20) ?_)⟩
 ·exact waitStart (Mine:=LF) (Low:=N+2) H (λ_ _ _ h=>h) w ⟨trivial,.inl hw⟩
 ·exact addNeg (Mine:=LF) H (by omega) (by omega) (by omega) (qt:=q) (b₀:=b₀) (a₀:=a₀) (ops₀:=ops₀) (i₀:=i₀) (rest₀:=rest₀) (k₀:=k₀) hq w ⟨.inl hw,A0⟩
omit [IY E] in
theorem Du (H:WgLib E.P L):QuitsD E.P 4 0 (Gr ((U3 L).finish (.tuple #[])) [LW E.P]):=by
 rw[finish_at];refine .ctl rfl (λw=>stepG_region_end) (.ctl rfl (λw=>stepG_end) (QuitsD.leaveD (fn:=doneFn L) rfl rfl H.f_done rfl rfl (.ctl (n:=0) (g':={ frame:=LW E.P,callers:=[],status:=.finished,dying:=LL }) rfl (λw=>?_) ⟨rfl,rfl⟩)));have:LO E.P Kx (G (LW E.P) []) w=NO E.P Kx (LW E.P) [] LL w:=rfl;rw[this];unfold NO;show(match E.P.funcs[E.P.funcs.size]? with|none=>_|some fn=>_)=_;rw[xq];rfl
omit [IY E] in
theorem kQ {x:Array LI}(h:∀v∈x,VR E r v v):AR E r x x:=⟨rfl,λi v V h1 h2=>by rw[h1] at h2;cases h2;exact h v (Mz h1)⟩
omit [IY E] in
theorem oQ (hE:aS E)(hf:E.F f)(hfn:E.P.funcs[f]?=Ln fn)(hb:fn.body.isSome)(ha:∀r:Rel,r Wg Wg->AR E r args args){bt:LN->L4->Prop}(hbt:bt f .normal):Self E bt Wg (Ks E.P f args .normal) []:=by
 refine⟨fu hE hf (ha _ ⟨rfl,rfl⟩) (.inl rfl) (λfn' h=>by rw[hfn] at h;cases h;exact hb),⟨0,.nil⟩,λx hx=>?_,trivial⟩;simp at hx;subst hx;exact⟨rfl,hbt⟩
theorem Dt (hE:aS E)(hlv:¬ E.lv)(hG:∀i,¬ E.G i)(hO:∀c,¬ E.Op c)(H:WgLib E.P L)(QZ:E.F L.wait)(Q0:E.F L.add){W:I3}(hwg:@WgAt L.tWg Wg W KK 0)(hbig:gN<=W.heap.size)
       (hq:∃q,QuitsD E.P q 0 (Gr ((b₀.at a₀ (.inRegion ops₀ (i₀::rest₀)::k₀)).finish (.tuple #[])) CB))
 {t₀:K1}  (ht:Past (λ_=>False) B t₀) (ht1:Deaf t₀ 1=0) {x:MemOp} (hx:x.g=0/\x.act=.go 1) (hy:y.g=1/\y.act=.start)
 {Sm Sw:aD}(J5:∀b,Sm b->¬ Sw b)(mW:¬ Sm Wg)(wW:¬ Sw Wg)(QG:∀b,Sm b->b<W.heap.size)(Qi:∀b,Sw b->b<W.heap.size)
 {KA:Jx->List Jx->Prop}{KB:I3->Prop}{a b:IR}(hA:Wk E.P Kf (EB (Tv E.P L Wg) KA) Sm 0 a W)(hB:Wk E.P Kx (Dv (TC E.P L Wg) (b₀.at a₀ (.inRegion ops₀ (i₀::rest₀)::k₀)) CB KB) Sw 0 b W)(sl:Option (Nat×Nat)) :
 Comes E W (λb=>Sm b\/Sw b\/b=Wg) Wg KA KB (duo a b W sl) (t₀++#[x,y]):=by
 letI:=pay
 letI:=shy E.P Wg W.heap.size
 have A1:Wg<W.heap.size:=by apply Classical.byContradiction;intro hn;have:W.heap[Wg]?=LL:=Mn (by omega);rw[show W.heap[Wg]?=_ from hwg] at this;cases this
 let w:I3:={ W with heap:=W.heap.push (.cells #[] 0) };have A3:w.heap[Wg]?=W.heap[Wg]?:=by show(W.heap.push _)[Wg]?=_;rw[Mp A1,L5 A1]
 have A0:w.heap[W.heap.size]?=Ln (.cells #[] 0):=by show(W.heap.push _)[W.heap.size]?=_;simp
 have A4:WgAt L.tWg Wg w KK 0:=A3.trans hwg;have S:=Ie (L:=L) (Wg:=Wg) (N:=W.heap.size) hE hlv hG hO H A1 hq;obtain⟨μ,hJ⟩:=sx (E:=E) H A1 A4 A0 hq hx hy;obtain⟨μ',A6⟩:=sx (E:=E) (CB:=[LW E.P]) (b₀:=baseD L.done) (a₀:=⟨#[],[]⟩) (ops₀:=#[]) (i₀:=0) (rest₀:=[]) (k₀:=[]) H A1 A4 A0 ⟨_,Du H⟩ hx hy;have A2:=TL.init (Pm:=Sm) (Wg:=Wg) hx hy mW W.heap.size;have hp:kM Wg (W.heap.size+2) w W:=⟨A3.symm,rfl,rfl,by show(W.heap.push _).size<_;simp,by show gN<=(W.heap.push _).size;simp;omega,hbig⟩;have A5:Cm W (λb=>Sm b\/Sw b\/b=Wg) Wg (W.heap.size+2) Sm Sw w W #[x,y]:=⟨⟨LS _,λ_ _ _=>rfl,rfl,rfl⟩,λ_ _ h=>h,hp,A2.1,J5,mW,wW,QG,Qi,A1⟩;have two:∀(i:Nat) (op:MemOp),(#[x,y]:K1)[i]?=Ln op->op=x\/op=y:=by intro i op h;have:=Mz h;simpa using this
 have na:∀(i:Nat) (op:MemOp),(#[x,y]:K1)[i]?=Ln op->op.g=0->op.act≠.mark (.acquire (stA Wg)):=by
  intro i op h hg;rcases two i op h with e|e
  ·rw[e,hx.2];simp
  ·rw[e,hy.1] at hg;cases hg
 have w0:∀(i:Nat) (op:MemOp),(#[x,y]:K1)[i]?=Ln op->op.g=1->op.act=.start:=by
  intro i op h hg;rcases two i op h with e|e
  ·rw[e,hx.1] at hg;cases hg
  ·rw[e,hy.2]
 have hc:mN Wg #[x,y] #[x,y] 0 0:=⟨A2.2.1,A2.2.1,A2.2.2,A2.2.2,na,w0⟩;have ptr:∀r:Rel,r Wg Wg->VR E r (pW Wg) (pW Wg):=λr h=>.ptr ⟨h,rfl,rfl⟩;exact BT S ht ht1 (oQ hE QZ H.f_wait rfl (λr h=>kQ λv hv=>by simp at hv;subst hv;exact ptr r h) ⟨rfl,rfl⟩) (oQ hE Q0 H.f_add rfl (λr h=>kQ λv hv=>by simp at hv;rcases hv with rfl|rfl;exact ptr r h;exact .int _ _) ⟨rfl,rfl⟩) hJ (.inl ⟨μ',A6⟩) hB hA W sl _ A5 .rfl .rfl hc
end
open Go Go.Conc Go.ConcX
section
variable {P:Lo} {m:Bool} {Fin Fin':aD->Nat->IR->I3->Prop} {S:aD} {n:Nat} {g g':IR} {W W₁:I3}
theorem Wk.mono (h:Wk P m Fin S n g W)(hf:∀S n g W,Fin S n g W->Fin' S n g W):Wk P m Fin' S n g W:=by
 induction h with
 | stop h0 h=>exact .stop h0 λW₁ hr=>hf _ _ _ _ (h W₁ hr)
 | step G N X T K h0 h1 _ ih=>exact .step G N X T K h0 h1 ih
theorem Wk.bind (h:Wk P m Fin S n g W)(hf:∀S n g W,Fin S n g W->g.status=.running->Wk P m Fin' S n g W):Wk P m Fin' S n g W:=by
 induction h with
 | @stop S n g W h0 h=>exact hf _ _ _ _ (h W .rfl) h0
 | step G N X T K h0 h1 _ ih=>exact .step G N X T K h0 h1 ih
theorem nF.mono {S S':aD}{e:MA}(h:nF S e)(hs:∀b,S b->S' b):nF S' e:=by
 obtain⟨l,a,b⟩:=e;cases l with
 | cell y=>exact hs _ h
 | obj y=>exact hs _ h
 | output=>trivial
 | goroutines=>trivial
 | mark k=>cases k<;>first|exact hs _ h|trivial
theorem Wk.frame {F:aD}(h:Wk P m Fin S n g W)(hF:∀b,F b->b<W.heap.size)(hd:∀b,F b->¬ S b) :
 Wk P m (λS' n g W'=>∃S₀,S'=(λb=>S₀ b\/F b)/\Fin S₀ n g W'/\(∀b,F b->W'.heap[b]?=W.heap[b]?/\¬ S₀ b)/\W.heap.size<=W'.heap.size) (λb=>S b\/F b) n g W:=by
 induction h with
 | @stop S n g W h0 h=>exact .stop h0 λW₁ hr=>⟨S,rfl,h W₁ ⟨hr.size,λb hb=>hr.keep b (.inl hb),hr.os⟩,λb hb=>⟨hr.keep b (.inr hb),hd b hb⟩,hr.size⟩
 | @step S n g W G N X T K h0 h1 h2 ih =>
   have rl:∀{W₁},bQ m (λb=>S b\/F b) W W₁->bQ m S W W₁:=λhr=>⟨hr.size,λb hb=>hr.keep b (.inl hb),hr.os⟩;refine .step G N X (λW₁ b=>T W₁ b\/F b) K h0 (λW₁ hr=>?_) (λW₁ hr=>?_)
   ·obtain⟨a1,a2,a3⟩:=h1 W₁ (rl hr);refine⟨a1,⟨a2.size,λb hb hn=>a2.keep b hb λx=>hn (.inl x),a2.tape,a2.out,a2.os,a2.env,λb hb=>hb.imp (a2.sub b) id,λb hb=>?_,λb hb=>?_,λe he=>(a2.evs e he).mono λb=>.inl⟩,a3⟩
    ·rcases hb with hb|hb
     ·exact(a2.old b hb).imp .inl id
     ·exact .inl (.inr hb)
    ·rcases hb with hb|hb
     ·exact a2.low b hb
     ·exact IF (IF (hF b hb) hr.size) a2.size
   ·obtain⟨a1,a2,a3⟩:=h1 W₁ (rl hr);refine(ih W₁ (rl hr) (λb hb=>IF (IF (hF b hb) hr.size) a2.size) λb hb hx=>?_).mono ?_
    ·rcases a2.old b hx with y|y
     ·exact hd b hb y
     ·exact absurd (IF (hF b hb) hr.size) (Lz.2 y)
    ·rintro S' n' g' W' ⟨S₀,e,A0,hk,A1⟩;refine⟨S₀,e,A0,λb hb=>⟨?_,(hk b hb).2⟩,K2 hr.size (K2 a2.size A1)⟩;exact(hk b hb).1.trans ((a2.keep b (IF (hF b hb) hr.size) (hd b hb)).trans (hr.keep b (.inr hb)))
theorem Wk.still {es:I3->Array MA}(hS:∀b,S b->b<W.heap.size)(h0:g.status=.running)(h:∀W₁,bQ m S W W₁->LO P m g W₁=.go g' W₁ (es W₁))
 (he:∀W₁,bQ m S W W₁->∀e∈es W₁,nF S e/\e.loc≠.mark .disable/\e.loc≠.mark .enable)(hq:Wk P m Fin S n g' W):Wk P m Fin S n g W :=
 .mk h0 λW₁ hr=>⟨g',W₁,es W₁,S,n,h W₁ hr,⟨LS _,λ_ _ _=>rfl,rfl,rfl,λ_=>rfl,rfl,λ_ h=>h,λ_ h=>.inl h,λb hb=>IF (hS b hb) hr.size,λe h=>(he W₁ hr e h).1⟩,
  λ_=>deafBehind_still (λe h=>(he W₁ hr e h).2) _,hq.rely hr⟩
theorem Wk.ctl (hS:∀b,S b->b<W.heap.size)(h0:g.status=.running)(h:∀W₁,LO P m g W₁=.go g' W₁ #[])(hq:Wk P m Fin S n g' W):Wk P m Fin S n g W :=
 .still (es:=λ_=>#[]) hS h0 (λW₁ _=>h W₁) (λ_ _ e he=>by simp at he) hq
variable {b:Jx} {a:Act} {k:List Item} {cs:List Jx}
theorem Wk.value {ops:Array MT}(v:LI)(hS:∀b,S b->b<W.heap.size)(ho:ops[i]?=Ln o)(hw:K0 o (L3 ops a.tmps)=Kf)(hk:b.kind≠.early)
 (hr:∀W₁,bQ m S W W₁->(Ly a.eval o).run P W₁=.ok (.value v) W₁)(he:∀W₁,bQ m S W W₁->∀e∈listed P b.fn a o W₁,nF S e/\e.loc≠.mark .disable/\e.loc≠.mark .enable)
 (hq:Wk P m Fin S n (G (b.at (a.put o.dst v) (.inRegion ops rest::k)) cs) W):Wk P m Fin S n (G (b.at a (.inRegion ops (i::rest)::k)) cs) W :=
 .still (es:=λW₁=>listed P b.fn a o W₁) hS rfl (λW₁ h₁=>stepG_value ho hw hk (hr W₁ h₁)) he hq
theorem Wk.pure {ops:Array MT}(v:LI)(hS:∀b,S b->b<W.heap.size)(ho:ops[i]?=Ln o)(hw:K0 o (L3 ops a.tmps)=Kf)(hk:b.kind≠.early)
 (hr:∀w,(Ly a.eval o).run P w=.ok (.value v) w)(he:∀w,(Ly a.eval o).events P w #[]=#[])
 (hq:Wk P m Fin S n (G (b.at (a.put o.dst v) (.inRegion ops rest::k)) cs) W):Wk P m Fin S n (G (b.at a (.inRegion ops (i::rest)::k)) cs) W :=
 .value v hS ho hw hk (λW₁ _=>hr W₁) (λW₁ _ e h=>by unfold listed at h;rw[he W₁,seen_none] at h;simp at h) hq
theorem Wk.load {ops:Array MT}{t:Mb}{ad:Addr}(hS:∀b,S b->b<W.heap.size)(ho:ops[i]?=Ln o)(hw:K0 o (L3 ops a.tmps)=Kf)(hk:b.kind≠.early)
 (_:o.op=.load t x)(_:a.eval x=.pointer (Ln ad))(hown:S ad.block)(hrun:∀W₁,W₁.heap[ad.block]?=W.heap[ad.block]?->(Ly a.eval o).run P W₁=.ok (.value v) W₁)
 (hev:∀W₁,W₁.heap[ad.block]?=W.heap[ad.block]?->∀e∈(Ly a.eval o).events P W₁ #[],∃a',e.loc=.cell a'/\a'.block=ad.block)
 (hq:Wk P m Fin S n (G (b.at (a.put o.dst v) (.inRegion ops rest::k)) cs) W):Wk P m Fin S n (G (b.at a (.inRegion ops (i::rest)::k)) cs) W:=by
 refine .value v hS ho hw hk (λW₁ h₁=>hrun W₁ (h₁.keep _ hown)) (λW₁ h₁ e he=>?_) hq;obtain⟨a',h1,h2⟩:=hev W₁ (h₁.keep _ hown) e (mem_listed he);refine⟨?_,by rw[h1];simp,by rw[h1];simp⟩;obtain⟨l,y,z⟩:=e;simp only at h1;subst h1;show S a'.block;rw[h2];exact hown
theorem Wk.Kb {ops:Array MT}{t:Mb}(hS:∀b,S b->b<W.heap.size)(ho:ops[i]?=Ln o)(hw:K0 o (L3 ops a.tmps)=Kf)(hk:b.kind≠.early)
 (hop:o.op=.load t x)(hx:a.eval x=.pointer (Ln ⟨B,0,LL⟩))(hown:S B)(hagg:∀w,(isAgg t).run P w=.ok Kx w)(hc:W.heap[B]?=Ln (.cells #[v] t'))
 (hq:Wk P m Fin S n (G (b.at (a.put o.dst v) (.inRegion ops rest::k)) cs) W):Wk P m Fin S n (G (b.at a (.inRegion ops (i::rest)::k)) cs) W:=by
 have A0:∀W₁:I3,W₁.heap[B]?=W.heap[B]?->W₁.cell? ⟨B,0,LL⟩=Ln v:=λW₁ h₁=>by rw[hc] at h₁;simp[World.cell?,h₁]
 refine .load (ad:=⟨B,0,LL⟩) hS ho hw hk hop hx hown (λW₁ h₁=>?_) (λW₁ h₁ e he=>?_) hq
 ·have:=A0 W₁ h₁;unfold Ly;simp only[hop,hx];simp[Mu,NX,hagg,this,go_sem]
 ·have:=A0 W₁ h₁;unfold Ly at he;simp only[hop,hx] at he;simp[Mu,NX,hagg,this,go_sem] at he;subst he;exact⟨_,rfl,rfl⟩
theorem Wk.QR {ops:Array MT}{t:Mb}{j:Nat}{c:Array LI}{fz:Nat×Nat}(hS:∀b,S b->b<W.heap.size)(ho:ops[i]?=Ln o)(hw:K0 o (L3 ops a.tmps)=Kf)(hk:b.kind≠.early)
 (hop:o.op=.load t x)(hx:a.eval x=.pointer (Ln ⟨B,j,LL⟩))(hown:S B)(hagg:∀w,(isAgg t).run P w=.ok Kx w)(hc:W.heap[B]?=Ln (.cells c t' fz))(hv:c[j]?=Ln v)
 (hq:Wk P m Fin S n (G (b.at (a.put o.dst v) (.inRegion ops rest::k)) cs) W):Wk P m Fin S n (G (b.at a (.inRegion ops (i::rest)::k)) cs) W:=by
 have A0:∀W₁:I3,W₁.heap[B]?=W.heap[B]?->W₁.cell? ⟨B,j,LL⟩=Ln v:=λW₁ h₁=>by rw[hc] at h₁;simp[World.cell?,h₁,hv]
 refine .load (ad:=⟨B,j,LL⟩) hS ho hw hk hop hx hown (λW₁ h₁=>?_) (λW₁ h₁ e he=>?_) hq
 ·have:=A0 W₁ h₁;unfold Ly;simp only[hop,hx];simp[Mu,NX,hagg,this,go_sem]
 ·have:=A0 W₁ h₁;unfold Ly at he;simp only[hop,hx] at he;simp[Mu,NX,hagg,this,go_sem] at he;subst he;exact⟨_,rfl,rfl⟩
theorem Wk.Qx {ops:Array MT}{t:Mb}{z:LI}(hS:∀b,S b->b<W.heap.size)(ho:ops[i]?=Ln o)(hw:K0 o (L3 ops a.tmps)=Kf)(hk:b.kind≠.early)
 (hop:o.op=.alloc t)(hz:∀w,(zeroValue t).run P w=.ok z w)(hz1:z.cells=#[z])
 (hq:∀W₁,bQ m S W W₁->Wk P m Fin (λb=>S b\/b=W₁.heap.size) n (G (b.at (a.put o.dst (.pointer (Ln ⟨W₁.heap.size,0,LL⟩))) (.inRegion ops rest::k)) cs) { W₁ with heap:=W₁.heap.push (.cells #[z] t) }):Wk P m Fin S n (G (b.at a (.inRegion ops (i::rest)::k)) cs) W:=by
 refine .mk rfl λW₁ hr=>⟨_,_,listed P b.fn a o W₁,_,n,stepG_value (v:=.pointer (Ln ⟨W₁.heap.size,0,LL⟩)) ho hw hk ?_,?_,?_,hq W₁ hr⟩
 ·unfold Ly;simp only[hop];simp[Instr.alloc,newVar,newRow,hz,go_sem];exact congrArg (λc=>W₁.alloc (.cells c t)) hz1
 ·(have A0:∀e∈listed P b.fn a o W₁,False:=λe he=>by have:=mem_listed he;unfold Ly at this;simp only[hop] at this;simp[Instr.alloc,newVar,newRow,hz,go_sem] at this);refine⟨by simp,λx hx _=>?_,rfl,rfl,λ_=>rfl,rfl,λ_ h=>.inl h,λx hx=>hx.imp id λe=>by omega,λx hx=>?_,λe he=>(A0 e he).elim⟩
  ·show(W₁.heap.push _)[x]?=_;rw[Mp hx,L5 hx]
  ·show x<(W₁.heap.push _).size;rw[Array.size_push];rcases hx with hx|hx
   ·have:=hS x hx;have:=hr.size;omega
   ·omega
 ·intro d;(have A0:∀e∈listed P b.fn a o W₁,False:=λe he=>by have:=mem_listed he;unfold Ly at this;simp only[hop] at this;simp[Instr.alloc,newVar,newRow,hz,go_sem] at this);exact deafBehind_still (λe he=>(A0 e he).elim) _
theorem Wk.OZ {ops:Array MT}{t:Mb}{y:Operand}{u:LI}(hS:∀b,S b->b<W.heap.size)(ho:ops[i]?=Ln o)(hw:K0 o (L3 ops a.tmps)=Kf)(hk:b.kind≠.early)
 (hop:o.op=.store t x y)(hx:a.eval x=.pointer (Ln ⟨B,0,LL⟩))(hy:a.eval y=v)(hv:v.cells=#[v])(h1c:v.oneCell'=Kf)(hsz:∀w,(sizeOf t).run P w=.ok 1 w)(hown:S B)(hc:W.heap[B]?=Ln (.cells #[u] t'))
 (hq:∀W₁,bQ m S W W₁->Wk P m Fin S n (G (b.at (a.put o.dst ID) (.inRegion ops rest::k)) cs) (W₁.setCell ⟨B,0,LL⟩ v)):Wk P m Fin S n (G (b.at a (.inRegion ops (i::rest)::k)) cs) W:=by
 have A0:∀W₁:I3,W₁.heap[B]?=W.heap[B]?->(Ly a.eval o).run P W₁=.ok .skip (W₁.setCell ⟨B,0,LL⟩ v)/\∀e∈(Ly a.eval o).events P W₁ #[],e.loc=.cell ⟨B,0,LL⟩:=by
  intro W₁ h₁;rw[hc] at h₁;(have e1:W₁.cell? ⟨B,0,LL⟩=Ln u:=by simp[World.cell?,h₁]);(have e2:W₁.frozen? ⟨B,0,LL⟩=Kx:=by simp[World.frozen?,h₁]);have r1:=run_store P W₁ ⟨B,0,LL⟩ v .plain h1c;have r2:=events_store (P:=P) (w:=W₁) (es:=#[]) ⟨B,0,LL⟩ v .plain h1c;rw[e1] at r1 r2;simp only[e2] at r1 r2;unfold Ly;simp only[hop,hx,hy];constructor
  ·simp only[Nm,storeVar,hv];simp[hsz,storeCells,go_sem,r1]
  ·intro e he;simp only[Nm,storeVar,hv] at he;simp[hsz,storeCells,go_sem,r2] at he;rw[he]
 have A1:∀(W₁:I3) (j:Nat),j≠B->(W₁.setCell ⟨B,0,LL⟩ v).heap[j]?=W₁.heap[j]?:=λW₁ j hj=>by unfold World.setCell;simp only;rw[Array.getElem?_modify];simp[Ne.symm hj]
 have A2:∀W₁,bQ m S W W₁->∀e∈listed P b.fn a o W₁,e.loc=.cell ⟨B,0,LL⟩:=λW₁ hr e he=>(A0 W₁ (hr.keep B hown)).2 e (mem_listed he);refine .mk rfl λW₁ hr=>⟨_,_,listed P b.fn a o W₁,S,n,stepG_none ho hw hk (A0 W₁ (hr.keep B hown)).1,?_,λd=>deafBehind_still (λe he=>?_) _,hq W₁ hr⟩
 ·refine⟨MD (ep _ _ _).symm,λx _ hx=>A1 W₁ x λe=>hx (e ▸ hown),rfl,rfl,λ_=>rfl,rfl,λ_ h=>h,λ_ h=>.inl h,λx hx=>?_,λe he=>?_⟩
  ·rw[ep];exact IF (hS x hx) hr.size
  ·have:=A2 W₁ hr e he;obtain⟨l,y,z⟩:=e;simp only at this;subst this;exact hown
 ·have:=A2 W₁ hr e he;rw[this];simp
theorem Wk.enter {ops:Array MT}(hS:∀b,S b->b<W.heap.size)(ho:ops[i]?=Ln o)(hw:K0 o (L3 ops a.tmps)=Kf)(hk:b.kind≠.early)
 (hr:∀w,(Ly a.eval o).run P w=.ok (.enter f args) w)(he:∀w,(Ly a.eval o).events P w #[]=#[])
 (hq:Wk P m Fin S n (G (Ks P f args .normal) (b.at a (.inRegion ops (i::rest)::k)::cs)) W):Wk P m Fin S n (G (b.at a (.inRegion ops (i::rest)::k)) cs) W :=
 .ctl hS rfl (λW₁=>by rw[stepG_enter ho hw hk (hr W₁)];unfold listed;rw[he W₁,seen_none]) hq
end
def Ha (E:Env)(N:Nat)(r:Rel)(f:LN)(R:Ending->I3->Prop)(cs:List Jx)(S:aD)(n:Nat)(g:IR)(W':I3):Prop :=
 n=0/\∃fr w r' FR,S=ran r'/\Sub r r'/\(∀b B,r' b B->r b B\/N<=B)/\N<=W'.heap.size/\Left E R fr w/\fr.fn=f/\g=Gr FR cs/\FR.mode=.returning/\FR.defers=[]/\FR.kind=.normal/\FR.fn=f/\WR E r' w W'
section
variable {E:Env}
theorem sA (hE:aS E)(hS:aS E.self)(hO:Mm E)(hl:E.lv){w W:I3}(hW:WR E r w W)(hf:E.F f)(hfn:E.P.funcs[f]?=Ln fn)(hb:fn.body.isSome){ARGS:Array LI}(ha:AR E r args ARGS)
 {R:Ending->I3->Prop}(hR:∀e w',R e w'->∃v,e=.returned v)(h:∀t,Calls E.P f args (az w t) R)(cs:List Jx) :
 Wk E.P Kx (Ha E W.heap.size r f R cs) (ran r) 0 (Gr (Ks E.P f ARGS .normal) cs) W:=by
 have A4:bb E r Kx 0 (Ks E.P f args .normal) (Ks E.P f ARGS .normal):=fu hE hf ha (.inl rfl) λfn' e=>by rw[hfn] at e;cases e;exact hb
 have A2:bb E.self (dg r) Kx 0 (Ks E.P f args .normal) (Ks E.P f args .normal):=fu hS hf ha.dom (.inl rfl) λfn' e=>by have e:E.P.funcs[f]?=Ln fn':=e;rw[hfn] at e;cases e;exact hb
 have A1:JF rY [Ks E.P f args .normal]:=⟨λx hx=>by simp at hx;subst hx;exact⟨rfl,trivial⟩,trivial⟩;have A0:Fit E.self 0 (Ks E.P f args .normal) [] w:=⟨dg r,0,0,nz,A2,.nil,hW.dom,A1,rfl⟩;refine Az hE hS hl (sY hS hO hR h A0) A0 ⟨⟨_,[],0,0,rfl,A4,.nil,rfl⟩,A1,hW⟩ λfr' w' r' G' W' hs hold hsz hQ hm hde hk=>?_;refine .stop (dY hk) λW₁ hr=>?_;have hk₁:=hk.rely (hr.os rfl) (K2 hk.wr.big.2 hr.size) λb B hb=>hr.keep B ⟨b,hb⟩;obtain⟨FR,A5,p,ls,e1,e2,e3,e4⟩:=hk₁.ex;have A3:A5=[]:=by cases e3;rfl
 subst A3;obtain⟨⟨t,v,fn',q1,q2,q3,q4⟩,q5⟩:=hQ;refine⟨rfl,fr',w',r',FR,rfl,hs,hold,K2 hsz hr.size,⟨t,v,fn',q1,q2,q3,q4⟩,q5,e1,?_,?_,e2.kind.trans q2,e2.fn.trans q5,hk₁.wr⟩
 ·have:=e2.mode;rw[hm] at this;generalize FR.mode=x at this;cases this;rfl
 ·have:=e2.defers;rw[hde] at this;generalize FR.defers=x at this;cases this;rfl
end
open Go Go.Conc
def Reach (P:Lo)(T:Jx->List Jx->I3->Prop)(fr:Jx)(IC:List Jx)(w:I3):Prop:=∀cs,∃fr' IL w',Steps P (N0 fr (IC++cs) w) (N0 fr' (IL++cs) w')/\T fr' IL w'
section
variable {P:Lo} {T:Jx->List Jx->I3->Prop} {fr fr':Jx} {IC IL:List Jx} {w w':I3}
theorem Reach.here (h:T fr IC w):Reach P T fr IC w:=λ_=>⟨fr,IC,w,.refl _ _,h⟩
theorem Reach.step (h:∀cs,Go.step P (N0 fr (IC++cs) w)=.next (N0 fr' (IL++cs) w'))(hr:Reach P T fr' IL w'):Reach P T fr IC w:=λcs =>
 let ⟨f,s,w2,h1,h2⟩:=hr cs
 ⟨f,s,w2,.head (h cs) h1,h2⟩
theorem Reach.go {es:List Jx->Array MA}(h:∀cs,LO P Kf (G fr (IC++cs)) w=.go (G fr' (IL++cs)) w' (es cs))(hr:Reach P T fr' IL w'):Reach P T fr IC w :=
 .step (λcs=>step_lone_go (by rw[show({ frame:=fr,callers:=IC++cs,status:=.running,dying:=LL }:IR)=G fr (IC++cs) from rfl,h cs];rfl)) hr
theorem Reach.ctl (h:∀cs,LO P Kf (G fr (IC++cs)) w=.go (G fr' (IL++cs)) w')(hr:Reach P T fr' IL w'):Reach P T fr IC w:=.go (es:=λ_=>#[]) h hr
variable {b:Jx} {a:Act} {k:List Item} {ops:Array MT}
theorem Reach.code {x:Code}(h:x.wp P (λe a' w'=>e=.normal/\Reach P T (b.at a' k) IC w') a w):Reach P T (b.at a (.code x::k)) IC w:=λcs=>by
 obtain⟨e,a',w',⟨rfl,hr⟩,harr⟩:=h b k (IC++cs)
 obtain⟨f,s,w2,h1,h2⟩:=hr cs
 exact⟨f,s,w2,harr.trans h1,h2⟩
theorem Reach.seq {x y:Code}(h:∀K:Act->I3->Prop,(∀a w,Reach P T (b.at a (.code y::k)) IC w->K a w)->x.wp P (Exit.then K λ_ _ _=>False) a w):Reach P T (b.at a (.code (.seq x y)::k)) IC w:=by
 refine .ctl (λcs=>stepG_seq) (.code ?_);refine wp_mono (h _ λ_ _ h=>h) λe a w hq=>?_;cases e<;>first|exact⟨rfl,hq⟩|exact hq.elim
theorem Reach.op (ho:ops[i]?=Ln o)(hw:K0 o (L3 ops a.tmps)=Kf)(h:o.wp P a w (λa' w'=>Reach P T (b.at a' (.inRegion ops rest::k)) IC w') λ_ _ _=>False):Reach P T (b.at a (.inRegion ops (i::rest)::k)) IC w:=by
 intro cs;simp only[Oper.wp,Oper.upon] at h;have hg:=stepG_op (P:=P) (b:=b) (k:=k) (cs:=IC++cs) (w:=w) (rest:=rest) ho hw;have A2:∀v,(b.at a (.inRegion ops (i::rest)::k)).finish v=b.at (a.put o.dst v) (.inRegion ops rest::k):=by intro v;rw[M1,ho];rfl
 split at h
 ·rename_i v w' hr;obtain⟨f,s,w2,h1,h2⟩:=h cs;refine⟨f,s,w2,.head (step_lone_go ?_) h1,h2⟩;rw[hg,<-A2];simp[L1,hr]
 ·rename_i w' hr;obtain⟨f,s,w2,h1,h2⟩:=h cs;refine⟨f,s,w2,.head (step_lone_go ?_) h1,h2⟩;rw[hg,<-A2];simp[L1,hr]
 ·rename_i d w' hr;obtain⟨f,s,w2,h1,h2⟩:=h cs;refine⟨f,s,w2,.head (step_lone_go ?_) h1,h2⟩;have:({ b.at a (.inRegion ops (i::rest)::k) with defers:=d::a.defers }:Jx).finish ID =
   b.at ({ a with defers:=d::a.defers }.put o.dst ID) (.inRegion ops rest::k):=by
   have:=M1 b { a with defers:=d::a.defers } ops i rest k ID;rw[ho] at this;exact this
  rw[hg];simp only[L1,Sem.runT_eq,hr,GStep.bare_after];exact congrArg (λfr=>GStep.go { frame:=fr,callers:=IC++cs,status:=.running,dying:=LL } w') this
 ·rename_i g args w' hr;obtain⟨e,A4,fr,hR,A0,_,A3⟩:=h (b.at a (.inRegion ops (i::rest)::k)::(IC++cs));have A1:Go.step P (N0 (b.at a (.inRegion ops (i::rest)::k)) (IC++cs) w) =
   .next (N0 (Ks P g args .normal) (b.at a (.inRegion ops (i::rest)::k)::(IC++cs)) w') :=
   step_lone_go (by rw[hg];simp[L1,hr,Frame.at])
  cases e with
  | returned v =>obtain⟨f,s,w2,h1,h2⟩:=hR cs;refine⟨f,s,w2,.head A1 (Steps.trans A0 (.head ?_ h1)),h2⟩;rw[<-A2];exact step_leave_returned A3
  | panicked chain=>exact hR.elim
  | outgrown=>obtain⟨a₀,w₀,hq⟩:=hR;exact hq.elim
 ·rename_i row args w' hr;obtain⟨v,A4,hR,A0⟩:=h (b.at a (.inRegion ops (i::rest)::k)) (IC++cs);have A1:Go.step P (N0 (b.at a (.inRegion ops (i::rest)::k)) (IC++cs) w) =
   .next (N0 (Frame.ofRow P row args .normal) (b.at a (.inRegion ops (i::rest)::k)::(IC++cs)) w') :=
   step_lone_go (by rw[hg];simp[L1,hr,Frame.at])
  obtain⟨f,s,w2,h1,h2⟩:=hR cs;refine⟨f,s,w2,.head A1 (Steps.trans ?_ h1),h2⟩;rw[<-A2];exact A0
 ·exact h.elim
 ·exact h.elim
theorem Reach.enter (ho:ops[i]?=Ln o)(hw:K0 o (L3 ops a.tmps)=Kf)(hk:b.kind≠.early)(hr:(Ly a.eval o).run P w=.ok (.enter f args) w')
 (h:Reach P T (Ks P f args .normal) (b.at a (.inRegion ops (i::rest)::k)::IC) w'):Reach P T (b.at a (.inRegion ops (i::rest)::k)) IC w :=
 .go (λ_=>stepG_enter ho hw hk hr) h
end
structure jz (Wg:Nat)(t:K1):Prop where
 clean:∀said,¬ Race said t
 known:∀i a,touchAt t i=Ln a->a.loc.isMemory=Kf->Knows t 0 i\/(Kq (·=Wg) a.loc/\a.kind=.atomic)
 over:t.HandedOver
def iL (P:Lo)(R:LI->I3->Prop)(M:Machine)(T:K1):Prop:=∃N last o w' t',Nx P (N+1) M T=(.ended o w',t')/\runN P N M=.next last/\step P last=.ended o w'/\Conc.Good P R last o w' t'
section
variable {P:Lo} {Wg:Nat} {t u:K1}
theorem jz.app0 (h:jz Wg t)(hu:∀op∈u,op.g=0)(hs:∀op∈u,∀b,op.act.touch?=Ln b->b.loc.isMemory=Kf->¬ Kq (·=Wg) b.loc):jz Wg (t++u):=by
 refine⟨λsaid=>noRace_append (g:=0) (h.clean said) hu λi a ha op hop b hb hc=>?_,λi a ha hm=>?_,handedOver_app h.over λop ho=>.inl (hu op ho)⟩
 ·obtain⟨c1,c2,c3,c4⟩:=hc;rcases h.known i a ha c2 with hk|⟨hx,_⟩
  ·exact hk
  ·exact absurd (c1 ▸ hx) (hs op hop b hb (c1 ▸ c2))
 ·obtain⟨x,hx,A4⟩:=touch_of ha;rcases getElem?_append_cases hx with⟨A1,A0⟩|⟨A3,A0⟩
  ·(have A2:touchAt t i=Ln a:=by unfold touchAt at ha ⊢;rw[act?_old A1] at ha;exact ha);rcases h.known i a A2 hm with hk|hk
   ·exact .inl (Knows.app _ hk)
   ·exact .inr hk
  ·have:=knows_own hx;rw[hu x A0] at this;exact .inl this
theorem jz.mute (h:jz Wg t){fn:LN}{pos:String}{es:Array MA}(hm:∀e∈es,e.mute=Kf):jz Wg (t++IH 1 fn pos es):=by
 have hn:∀op∈IH 1 fn pos es,op.act.touch?=LL:=λop hop=>(kW (Wg:=Wg) hm op hop).1;refine⟨λsaid=>noRace_append (g:=1) (h.clean said) cT λi a ha op hop b hb hc=>(by(rw[hn op hop] at hb;cases hb)),λi a ha hm=>?_,handedOver_app h.over λop ho=>.inr (hn op ho)⟩;obtain⟨x,hx,A1⟩:=touch_of ha;rcases getElem?_append_cases hx with⟨A2,A0⟩|⟨A4,A0⟩
 ·(have A3:touchAt t i=Ln a:=by unfold touchAt at ha ⊢;rw[act?_old A2] at ha;exact ha);rcases h.known i a A3 hm with hk|hk
  ·exact .inl (Knows.app _ hk)
  ·exact .inr hk
 ·rw[hn x A0] at A1;cases A1
theorem iL.step {R:LI->I3->Prop}{M':Machine}{T:K1}{ops:Array MemOp}(h:stepT P M=(.next M',ops))(hc:iL P R M' (T++ops)):iL P R M T:=by
 obtain⟨N,A0,o,w',t',h1,h2,h3,h4⟩:=hc;refine⟨N+1,A0,o,w',t',by simp only[Nx,h];exact h1,?_,h3,h4⟩;have e:(Nx P 1 M T).1=.next M':=by simp only[Nx,h]
 rw[runNT_fst] at e;have hs:Go.step P M=.next M':=by simp only[runN] at e;(split at e<;>first|exact e|cases e);assumption
 simp only[runN,hs];exact h2
end
section
variable {E:Env} {Wg:Nat} {R:LI->I3->Prop} {Wz:I3} {Sz:aD}
theorem Kp.at {W:I3}(h:Kp Wz Sz W)(d:Nat):Kp Wz Sz (W.at d):=⟨h.size,h.keep,h.tape,h.out⟩
theorem nP {T:K1}{o:Outcome}{w:I3}{ops:Array MemOp}(h:stepT E.P M=(.ended o w,ops))(hg:Conc.Good E.P R M o w (T++ops)):iL E.P R M T:=by
 refine⟨0,M,o,w,T++ops,by simp only[Nx,h],rfl,?_,hg⟩;show(stepT E.P M).1=_;rw[h]
theorem Lt.at {n:Nat}{cs:List Jx}{fr:Jx}{IC:List Jx}{w:I3}{G:IR}{W:I3}(hk:Lt E n r cs fr IC w G W)(d:Nat):Lt E n r cs fr IC w G (W.at d):=hk.rely rfl hk.wr.big.2 λ_ _ _=>rfl
theorem F8 (hw:¬ ran r Wg){l:Loc}(h:Kq (ran r) l):¬ Kq (·=Wg) l:=qy (λ_ hb e=>hw (e ▸ hb)) h
def Ends (E:Env)(R:LI->I3->Prop)(Wz:I3)(Sz:aD)(r:Rel)(Q:Jx->I3->Prop):Prop :=
 ∀fr w r' FR W,Sub r r'->Kp Wz Sz W->Q fr w->fr.mode=.returning->fr.defers=[]->bb E r' Kx 0 fr FR->WR E r' w W->∃v,LO E.P Kf (Gr FR []) W=.ended (.done v) W #[]/\R v W
theorem At (hE:aS E)(hS:aS E.self)(hl:E.lv){Q:Jx->I3->Prop}{fr:Jx}{IC:List Jx}{w:I3}(h:Ev E.self Q fr IC w) :
 ∀{nf n:Nat} {r:Rel} {A:IR} {W:I3},Fit E.self nf fr IC w->Lt E n r [] fr IC w A W->¬ ran r Wg->Wg<W.heap.size->Kp Wz Sz W->(∀b,b<Wz.heap.size->ran r b->Sz b)->Ends E R Wz Sz r Q ->
  ∀(k:Nat) (b:IR) (sl:Option (Nat×Nat)) (T:K1),QuitsD E.P k (Deaf T 1) b->jz Wg T->Deaf T 0=n->iL E.P R (duo A b W sl) T:=by
 induction h with
 | @stop fr w h1 h2 h3 =>
   intro nf n r A W Aa hk hw A7 A1 Ad A2 k;induction k generalizing W with
   | zero =>
     intro b sl T hq hp hd;have hA:=dY hk;obtain⟨d,A5,A0⟩:=duo_pick (P:=E.P) (W:=W) (sl:=sl) (.inl hA) hq.status (.inl hA);rcases A0 with⟨_,A4⟩|⟨hb,_⟩
     ·obtain⟨FR,Ac,p,ls,e1,e2,e3,e4⟩:=(hk.at d).ex;(have A9:Ac=[]:=by cases e3;rfl);(have Ae:p=0:=by rw[e2.off (by rw[h1];simp),h2];rfl);subst A9 Ae e1;obtain⟨v,A8,hR⟩:=A2 fr w r FR (W.at d) .rfl (A1.at d) h3 h1 h2 e2 (hk.at d).wr;have A6:=runT_duo0_ended (P:=E.P) (b:=b) (sl:=A5) A8;refine nP (A4.trans A6) ⟨v,rfl,hR,?_⟩;(have e0:T++IH 0 (Gr FR []).frame.fn (Gr FR []).frame.place #[]=T:=by simp[IH]);rw[e0];refine⟨hp.clean,hp.over,⟨λx hx=>?_,rfl⟩,λj x hx hj=>?_⟩
      ·simp[duo] at hx;subst hx;exact⟨_,hq.leaves⟩
      ·match j with
       | 0=>exact absurd rfl hj
       | 1 =>simp[duo] at hx;subst hx;exact⟨_,hq.hears _⟩
       | j+2=>simp[duo] at hx
     ·rw[hq.1] at hb;cases hb
   | succ k ihk =>
     intro b sl T hq hp hd;have hA:=dY hk;obtain⟨d,A5,A0⟩:=duo_pick (P:=E.P) (W:=W) (sl:=sl) (.inl hA) hq.status (.inl hA);rcases A0 with⟨_,A4⟩|⟨hb,A4⟩
     ·obtain⟨FR,Ac,p,ls,e1,e2,e3,e4⟩:=(hk.at d).ex;(have A9:Ac=[]:=by cases e3;rfl);(have Ae:p=0:=by rw[e2.off (by rw[h1];simp),h2];rfl);subst A9 Ae e1;obtain⟨v,A8,hR⟩:=A2 fr w r FR (W.at d) .rfl (A1.at d) h3 h1 h2 e2 (hk.at d).wr;have A6:=runT_duo0_ended (P:=E.P) (b:=b) (sl:=A5) A8;refine nP (A4.trans A6) ⟨v,rfl,hR,?_⟩;(have e0:T++IH 0 (Gr FR []).frame.fn (Gr FR []).frame.place #[]=T:=by simp[IH]);rw[e0];refine⟨hp.clean,hp.over,⟨λx hx=>?_,rfl⟩,λj x hx hj=>?_⟩
      ·simp[duo] at hx;subst hx;exact⟨_,hq.leaves⟩
      ·match j with
       | 0=>exact absurd rfl hj
       | 1 =>simp[duo] at hx;subst hx;exact⟨_,hq.hears _⟩
       | j+2=>simp[duo] at hx
     ·rcases hq with⟨hf,_⟩|⟨_,g',es,hm,A3,Af⟩
      ·rw[hf] at hb;cases hb
      refine iL.step (A4.trans (runT_duo1 (A3 (W.at d)))) ?_;rw[woken_run hA];exact ihk (W:=W.at d) (hk.at d) A7 (A1.at d) g' A5 _ (by rw[Deaf_own];exact Af) (hp.mute hm) (by rw[Deaf_other T (by decide) _ cT];exact hd)
 | @step fr IC w F S N X hne hop hs hev ih =>
   intro nf n r A W Aa hk hw A7 A1 Ad A2 k;have own:∀(W:I3) (hk:Lt E n r [] fr IC w A W) (A7:Wg<W.heap.size) (A1:Kp Wz Sz W) (k:Nat) (b:IR) (sl A5:Option (Nat×Nat)) (T:K1) (d:Nat),QuitsD E.P k (Deaf T 1) b->jz Wg T->Deaf T 0=n->stepT E.P (duo A b W sl)=runT E.P (duo A b (W.at d) A5) 0->iL E.P R (duo A b W sl) T:=by
    intro W hk A7 A1 k b sl A5 T d hq hp hd A4;have hk₁:=hk.at d;have A3:=hs λn q=>(W.at d).tape ((W.at d).drawn+(n-w.drawn)) q;obtain⟨r',A',W',ES,n',s1,s2,s3,s4,s5⟩:=sI (m:=Kf) hE hk₁ hne hop A3;obtain⟨Aj,Ah,Ai,e1,e2,-⟩:=gH hS (Aa.tape _) hne hop A3 (eL _ _) (t:=λn q=>(W.at d).tape ((W.at d).drawn+(n-w.drawn)) q) (λ_ _ _ _=>rfl);simp only[Gr,Goroutine.mk.injEq,and_true] at e1;have y2:=List.append_cancel_right e1.2;rw[<-e1.1,<-y2] at e2;have Ab:=x8 hS (hev _) e2;have Ag:¬ ran r' Wg:=by
     rintro⟨b,hb⟩;rcases s3.old b Wg hb with x|x
     ·exact hw ⟨b,x⟩
     ·exact absurd A7 (Lz.2 x.2.1)
    refine iL.step (A4.trans (runT_duo0 s1)) ?_;rw[woken_quitsD hq];refine ih _ e2 s2 Ag (IF A7 s3.size) ⟨K2 A1.size s3.size,λb hb hn=>(s3.keep b (IF hb A1.size) λc hc=>hn (Ad b hb ⟨c,hc⟩)).trans (A1.keep b hb hn),s3.tape.trans A1.tape,s3.out.1.trans A1.out⟩ (λb hb ⟨c,hc⟩=>(s3.old c b hc).elim (λx=>Ad b hb ⟨c,x⟩) λx=>absurd (IF hb A1.size) (Lz.2 x.2.1)) (λfr w Td FR W hsub=>A2 fr w Td FR W (s3.sub.trans hsub)) k b A5 _ (by rw[Deaf_other T (by decide) _ cT];exact hq) (hp.app0 cT λop hop x hx hm=>?_) (by rw[Deaf_own,hd];simpa using(s5.2.resolve_left Ab) hl 0);rw[ofEvents_eq] at hop;obtain⟨e,he,rfl⟩:=Lw.1 hop;exact F8 Ag (gY (yc s4 e he) hx hm)
   induction k generalizing W with
   | zero =>
     intro b sl T hq hp hd;have hA:=dY hk;obtain⟨d,A5,A0⟩:=duo_pick (P:=E.P) (W:=W) (sl:=sl) (.inl hA) hq.status (.inl hA);rcases A0 with⟨_,A4⟩|⟨hb,_⟩
     ·exact own W hk A7 A1 0 b sl A5 T d hq hp hd A4
     ·rw[hq.1] at hb;cases hb
   | succ k ihk =>
     intro b sl T hq hp hd;have hA:=dY hk;obtain⟨d,A5,A0⟩:=duo_pick (P:=E.P) (W:=W) (sl:=sl) (.inl hA) hq.status (.inl hA);rcases A0 with⟨_,A4⟩|⟨hb,A4⟩
     ·exact own W hk A7 A1 (k+1) b sl A5 T d hq hp hd A4
     ·rcases hq with⟨hf,_⟩|⟨_,g',es,hm,A3,Af⟩
      ·rw[hf] at hb;cases hb
      refine iL.step (A4.trans (runT_duo1 (A3 (W.at d)))) ?_;rw[woken_run hA];exact ihk (W:=W.at d) (hk.at d) A7 (A1.at d) g' A5 _ (by rw[Deaf_own];exact Af) (hp.mute hm) (by rw[Deaf_other T (by decide) _ cT];exact hd)
end
end Go.Proofs.Rn

/-part 14-/
import Derived.Test.YtmehkneofinmiabGreatDoorP13
import Derived.Conc.FxEnd
open Go.MemOp renaming ofEvents->ID
open Go renaming Goroutine->IF,World->I3,Frame->J1,stepG->Kf,Trace->Lo,deafBehind->Lz,Value->LO,execOp->L1,Event->L2,lone->Mp,Program->Mz,runN->MY,resolve->M1,FuncId->Nd,Deferred->Nx,callFunc->N0,TypeId->N1,Item->N4,runNT->N6
open Option renaming map_eq_some_iff->IH,some->K1,none->Lq,isNone_iff_eq_none->L5,isNone_none->MA
open Nat renaming le_refl->IR,le_trans->LI,lt_succ_self->LS,le_of_lt->N2,le_of_eq->N3
open Bool renaming false->Jx,true->K0,and_eq_true->Ln,false_eq_true->MD
open Go.MemAct renaming touch?->J0,ofEvent->Ks
open Go.Conc renaming woken->Kx
open Go.Frame renaming finish->K2,eval->NX
open Array renaming mem_iff_getElem->Lw,getElem?_eq_some_iff->Ly,getElem?_eq_getElem->LN,mem_map->Mn,append_assoc->MT,mem_append->Nm
open Classical renaming choose->LL,choose_spec->Mu
open Go.stepG renaming apply->LR,exec->NO,oper->N5
open List renaming range->L3,append_cancel_right->Mb
open Go.Goroutine.mk renaming injEq->L4
namespace Go.Proofs.Rn
open Go
variable {fr fr':J1}{cs cs' IC:List J1}{w w':I3}{V v:LO}{c:Call}{A a:List Nx}{q:Bool}{l:Loc}{hi' i j m' n':Nat}{op:MemOp}{μ:Nat×Nat×Nat×Nat}{b:IF}{sl:Option (Nat×Nat)}
def Tt:Code->Bool
 | .region _ ops Jx=>ops.size==2&&(match ops[0]?,ops[1]? with
   | some a,K1 b=>a.guard.isNone&&b.guard.isNone&&(match a.op with|.makeFunc (.func _) _ _=>K0|_=>Jx)&&(match b.op with|.go _=>K0|_=>Jx)
   | _,_=>Jx)
 | _=>Jx
def Db (JK die:List Nd):Code->Bool
 | .seq (.region _ x Jx) (.region _ y Jx)=>x.size==1&&y.size==1&&(match x[0]?,y[0]? with
   | some a,K1 b=>a.guard.isNone&&b.guard.isNone &&
     (match a.op with|.call c=>(match c.callee with|.value (.func f)=>JK.contains f&&c.args.size==0|_=>Jx)|_=>Jx) &&
     (match b.op with|.call c=>(match c.callee with|.value (.func f)=>die.contains f&&c.args.size==1|_=>Jx)|_=>Jx)
   | _,_=>Jx)
 | _=>Jx
section
variable {P:Mz}
theorem zS {n:Nat}{m m':Machine}(h:MY P n m=.next m'):m.gs.size<=m'.gs.size:=by
 have e:(N6 P n m #[]).1=.next m':=by rw[runNT_fst,h]
 exact runNT_size P n m m' #[] (N6 P n m #[]).2 (Prod.ext e rfl)
theorem im {n:Nat}{es:Array L2}(hs:Kf P K0 (Gr fr cs) w=.go (Gr fr' cs') w' es)(m:Stepped)(h:MY P (n+1) (Mp fr cs w)=m):MY P n (Mp fr' cs' w')=m:=by
 have:step P (one (Gr fr cs) w)=.next (one (Gr fr' cs') w'):=cy rfl hs;change MY P (n+1) (one (Gr fr cs) w)=m at h;simp only[MY,this] at h;exact h
theorem sC {n:Nat}(hs:(∃g w1 es,Kf P K0 (Gr fr cs) w=.go g w1 es/\jL g)\/(∃o w1 es,Kf P K0 (Gr fr cs) w=.ended o w1 es)\/∃a b w1 es,Kf P K0 (Gr fr cs) w=.spawn a b w1 es) :
 MY P (n+1) (Mp fr cs w)≠.next (Mp fr' cs' w'):=by
 intro h;change MY P (n+1) (one (Gr fr cs) w)=_ at h;rcases hs with⟨g,w1,es,h1,h2⟩|⟨o,w1,es,h1⟩|⟨a,b,w1,es,h1⟩
 ·simp only[MY,cy (show(Gr fr cs).status=.running from rfl) h1] at h;exact iw h2 n _ _ _ h
 ·simp only[MY,bK (show(Gr fr cs).status=.running from rfl) h1] at h;cases h
 ·(have A0:step P (one (Gr fr cs) w)=.next { world:=w1,gs:=#[a,b],rest:={ timers:=#[],alone:=Lq,slice:=Lq } }:=by rw[step,stepT,km (show(Gr fr cs).status=.running from rfl)];simp[runT,one,h1]);simp only[MY,A0] at h;have:=zS h;simp[Mp] at this
theorem step_seq (fr:J1)(a b:Code)(k:List N4)(cs:List J1)(w:I3)(hm:fr.mode=.run)(ht:fr.todo=.code (.seq a b)::k):Kf P K0 (Gr fr cs) w=.go (Gr { fr with todo:=.code a::.code b::k } cs) w:=by
 unfold Kf NO;simp only[Gr,hm,ht]
theorem step_region (fr:J1)(id:Nat)(x:Array Oper)(k:List N4)(cs:List J1)(w:I3)(hm:fr.mode=.run)(ht:fr.todo=.code (.region id x Jx)::k):Kf P K0 (Gr fr cs) w=.go (Gr { fr with todo:=.inRegion x (L3 x.size)::k } cs) w:=by
 unfold Kf NO;simp only[Gr,hm,ht];rfl
theorem tZ (fr:J1)(x:Array Oper)(k:List N4)(cs:List J1)(w:I3)(hm:fr.mode=.run)(ht:fr.todo=.inRegion x []::k):Kf P K0 (Gr fr cs) w=.go (Gr { fr with todo:=k } cs) w:=by
 unfold Kf NO;simp only[Gr,hm,ht]
theorem jc (fr:J1)(x:Array Oper)(i:Nat)(l:List Nat)(k:List N4)(cs:List J1)(w:I3){o:Oper}(hm:fr.mode=.run)(ht:fr.todo=.inRegion x (i::l)::k)(ho:x[i]?=K1 o)(hg:o.guard=Lq)(hd:∀c,o.op≠.defer c) :
 Kf P K0 (Gr fr cs) w=LR P K0 fr cs Lq (L1 fr.eval o) w:=by
 obtain⟨fn,A1,todo,A0,mode,A2,ro⟩:=fr;simp only at hm ht;subst hm ht;have e1:Kf P K0 (Gr ⟨fn,A1,.inRegion x (i::l)::k,A0,.run,A2,ro⟩ cs) w=if((x[i]?).map (Region.wanted · (yielded x A1))).getD Jx=K0 then N5 P K0 ⟨fn,A1,.inRegion x (i::l)::k,A0,.run,A2,ro⟩ cs Lq w
  else .go { frame:=K2 ⟨fn,A1,.inRegion x (i::l)::k,A0,.run,A2,ro⟩ undef,callers:=cs,status:=.running,dying:=Lq } w:=rfl
 rw[e1,if_pos (by rw[ho];simp[Region.wanted,hg])];unfold N5;simp only[Frame.oper?,ho];cases ro with
 | none=>rfl
 | some l=>cases hop:o.op<;>first|rfl|exact absurd hop (hd _)
def ou (x:GStep):Prop:=(∃g w1 es,x=.go g w1 es/\jL g)\/(∃o w1 es,x=.ended o w1 es)\/∃a b w1 es,x=.spawn a b w1 es
theorem ou.after {x:GStep}(h:ou x)(es:Array L2):ou (x.after es):=by
 rcases h with⟨g,w1,e,rfl,h2⟩|⟨o,w1,e,rfl⟩|⟨a,b,w1,e,rfl⟩
 ·exact .inl ⟨_,_,_,rfl,h2⟩
 ·exact .inr (.inl ⟨_,_,_,rfl⟩)
 ·exact .inr (.inr ⟨_,_,_,_,rfl⟩)
theorem ma (fr:J1)(cs:List J1)(s:Sem Next)(w w1:I3)(es:Array L2){h:Halt}(hs:s.runT P w #[]=(.halt h w1,es))(hh:(∃m,h=.fatal m)\/(∃m,h=.stuck m)\/∃u,h=.unsupported (.extern u)):ou (LR P K0 fr cs Lq s w):=by
 unfold LR;simp only[hs,if_true];refine ou.after ?_ _;rcases hh with⟨m,rfl⟩|⟨m,rfl⟩|⟨u,rfl⟩
 ·simp only[endFatal];split
  ·exact .inl ⟨_,_,_,rfl,.inr (.inr ⟨_,rfl,rfl,rfl,rfl⟩)⟩
  ·exact .inr (.inl ⟨_,_,_,rfl⟩)
  ·exact .inr (.inl ⟨_,_,_,rfl⟩)
 ·exact .inr (.inl ⟨_,_,_,rfl⟩)
 ·exact .inr (.inl ⟨_,_,_,rfl⟩)
theorem tU (fr:J1)(cs:List J1)(s:Sem Next)(w w1:I3)(es:Array L2){d:Nx}(hs:s.runT P w #[]=(.ok (.spawn d) w1,es)):ou (LR P K0 fr cs Lq s w):=by
 unfold LR;simp only[hs,if_true];refine ou.after ?_ _;repeat' split
 all_goals first
  | exact .inl ⟨_,_,_,rfl,.inr (.inr ⟨_,rfl,rfl,rfl,rfl⟩)⟩
  | exact .inr (.inr ⟨_,_,_,_,rfl⟩)
theorem l7 (fr:J1)(cs:List J1)(s:Sem Next)(w w1:I3)(es:Array L2)(hs:s.runT P w #[]=(.ok (.value v) w1,es)):∃es',LR P K0 fr cs Lq s w=.go (Gr (fr.finish v) cs) w1 es':=by
 unfold LR;simp only[hs,if_true];exact⟨_,rfl⟩
end
theorem Gw {E:Env}{JK die:List Nd}(hop:∀c,E.Op c->Tt c=K0\/Db JK die c=K0)
 (h6 : ∀f ∈ JK, ∃fn, E.P.funcs[f]? = K1 fn /\ fn.name ≠ "runtime.NumGoroutine" /\ fn.body = Lq /\ Extern.findNext fn = Lq /\ Extern.find fn = K1 λ_ => do mark .enable; pure (.tuple #[]))
 (h7 : ∀f ∈ die, ∃fn, E.P.funcs[f]? = K1 fn /\ fn.name ≠ "runtime.NumGoroutine" /\ fn.body = Lq /\ Extern.findNext fn = Lq /\ Extern.find fn = K1 (Extern.Sync.die .fatal)) : Mm E := by
 intro c hc fr k cs w hm ht n A3 A6 w' A5;have A0:∀{a b:J1} {x y:List J1} {u v:I3},(Stepped.next (Mp a x u):Stepped)=.next (Mp b y v)->a=b/\x=y:=by intro a b x y u v h;simp only[Stepped.next.injEq,Mp,Machine.mk.injEq] at h;have:=h.2.1;simp only[Array.mk.injEq,List.cons.injEq,L4,and_true] at this;exact this
 rcases hop c hc with h|h
 ·-- the go statement
  unfold Tt at h;split at h
  ·rename_i id ops;simp only[Ln,beq_iff_eq] at h;obtain⟨h1,h2⟩:=h;split at h2
   ·rename_i a b ha hb;simp only[Ln,L5] at h2;obtain⟨⟨⟨g1,g2⟩,o1⟩,o2⟩:=h2;have r1:=im (step_region fr id ops k cs w hm ht) _ A5;(have A9:L3 ops.size=[0,1]:=by rw[h1];rfl);rw[A9] at r1;(have A2:∀A1:J1,A1.mode=.run->A1.fn=fr.fn->(∃l,A1.todo=.inRegion ops l::k)->(Stepped.next (Mp A1 cs w):Stepped)=.next (Mp A3 A6 w')->A3.mode=.run/\A3.fn=fr.fn/\A6=cs/\pP A3.todo:=by rintro A1 q1 q2 ⟨l,q3⟩ e;obtain⟨rfl,rfl⟩:=A0 e;exact⟨q1,q2,rfl,.inl ⟨_,_,_,q3⟩⟩);cases n with
    | zero=>exact A2 { fr with todo:=.inRegion ops [0,1]::k } hm rfl ⟨_,rfl⟩ r1
    | succ n =>
      have A4:∃v es,Kf E.P K0 (Gr { fr with todo:=.inRegion ops [0,1]::k } cs) w=.go (Gr (K2 { fr with todo:=.inRegion ops [0,1]::k } v) cs) w es:=by
       split at o1
       ·rename_i f y z hop;rw[jc { fr with todo:=.inRegion ops [0,1]::k } ops 0 [1] k cs w (o:=a) hm rfl ha g1 (by rw[hop];simp)];(have hr:∃v,(L1 (NX { fr with todo:=.inRegion ops [0,1]::k }) a).runT E.P w #[]=(.ok (.value v) w,#[]):=by unfold L1;rw[hop];exact⟨_,rfl⟩);obtain⟨v,hr⟩:=hr;exact⟨v,l7 _ _ _ _ _ _ hr⟩
       ·cases o1
      obtain⟨v,es,hv⟩:=A4;have r2:=im hv _ r1;(have hf:K2 { fr with todo:=.inRegion ops [0,1]::k } v={ (K2 { fr with todo:=.inRegion ops [0,1]::k } v) with mode:=.run,todo:=.inRegion ops [1]::k,fn:=fr.fn }:=by simp only[K2];split<;>simp[hm]);generalize K2 { fr with todo:=.inRegion ops [0,1]::k } v=Ol at r2 hf;(have m3:Ol.mode=.run:=by rw[hf]);(have t3:Ol.todo=.inRegion ops [1]::k:=by rw[hf]);(have f3:Ol.fn=fr.fn:=by rw[hf]);cases n with
      | zero=>exact A2 _ m3 f3 ⟨_,t3⟩ r2
      | succ n =>
        exfalso;refine sC ?_ r2;rw[jc Ol ops 1 [] k cs w (o:=b) m3 t3 hb g2 (by intro c hc;rw[hc] at o2;cases o2)];split at o2
        ·rename_i cl hop;have hr:(∃d,(L1 Ol.eval b).runT E.P w #[]=(.ok (.spawn d) w,#[]))\/∃m,(L1 Ol.eval b).runT E.P w #[]=(.halt (.stuck m) w,#[]):=by
          (have e0:L1 Ol.eval b=(do pure (.spawn (<-M1 Ol.eval cl b.type))):=by unfold L1;rw[hop]);rw[e0];unfold M1;cases hcl:cl.callee with
          | builtin bi=>exact .inl ⟨_,rfl⟩
          | invoke x nm=>exact .inl ⟨_,rfl⟩
          | value f =>
            dsimp only;generalize Ol.eval f=vv;cases vv with
            | func a b c=>exact .inl ⟨_,rfl⟩
            | nilFunc=>exact .inl ⟨_,rfl⟩
            | _=>exact .inr ⟨_,rfl⟩
         rcases hr with⟨d,hr⟩|⟨m,hr⟩
         ·exact tU _ _ _ _ _ _ hr
         ·exact ma _ _ _ _ _ _ hr (.inr (.inl ⟨_,rfl⟩))
        ·cases o2
   ·cases h2
  ·cases h
 ·-- a fatal error
  unfold Db at h;split at h
  ·rename_i i1 x i2 y;simp only[Ln,beq_iff_eq] at h;obtain⟨⟨hx,hy⟩,h2⟩:=h;split at h2
   ·rename_i a b ha hb;simp only[Ln,L5] at h2;obtain⟨⟨⟨g1,g2⟩,o1⟩,o2⟩:=h2;(have rx:L3 x.size=[0]:=by rw[hx];rfl);(have ry:L3 y.size=[0]:=by rw[hy];rfl);(have A2:∀A1:J1,A1.mode=.run->A1.fn=fr.fn->pP A1.todo->(Stepped.next (Mp A1 cs w):Stepped)=.next (Mp A3 A6 w')->A3.mode=.run/\A3.fn=fr.fn/\A6=cs/\pP A3.todo:=by rintro A1 q1 q2 q3 e;obtain⟨rfl,rfl⟩:=A0 e;exact⟨q1,q2,rfl,q3⟩);have r1:=im (step_seq fr _ _ k cs w hm ht) _ A5;cases n with
    | zero=>exact A2 { fr with todo:=.code (.region i1 x Jx)::.code (.region i2 y Jx)::k } hm rfl (.inr ⟨_,_,_,_,rfl,hx⟩) r1
    | succ n =>
    have r2:=im (step_region { fr with todo:=.code (.region i1 x Jx)::.code (.region i2 y Jx)::k } i1 x _ cs w hm rfl) _ r1;cases n with
    | zero=>exact A2 { fr with todo:=.inRegion x (L3 x.size)::.code (.region i2 y Jx)::k } hm rfl (.inl ⟨_,_,_,rfl⟩) r2
    | succ n =>
    rw[rx] at r2;have A4:∃v es,Kf E.P K0 (Gr { fr with todo:=.inRegion x [0]::.code (.region i2 y Jx)::k } cs) w=.go (Gr (K2 { fr with todo:=.inRegion x [0]::.code (.region i2 y Jx)::k } v) cs) w es:=by
     split at o1
     ·rename_i cl hop;split at o1
      ·rename_i f hcl;simp only[Ln,beq_iff_eq,List.contains_iff_mem] at o1;obtain⟨fn,x1,x2,x3,x4,x5⟩:=h6 f o1.1;(have A7 : (fn.name == "runtime.NumGoroutine") = Jx := by simpa using x2);have Aa:cl.args=#[]:=Array.eq_empty_of_size_eq_zero o1.2;rw[jc { fr with todo:=.inRegion x [0]::.code (.region i2 y Jx)::k } x 0 [] (.code (.region i2 y Jx)::k) cs w (o:=a) hm rfl ha g1 (by rw[hop];simp)];(have hr:(L1 (NX { fr with todo:=.inRegion x [0]::.code (.region i2 y Jx)::k }) a).runT E.P w #[]=(.ok (.value (.tuple #[])) w,(#[].push ⟨.mark (.extern f),Jx,K0⟩).push ⟨.mark .enable,Jx,K0⟩):=by(have e0:∀ρ:Operand->LO,L1 ρ a=(do let d <-M1 ρ cl a.type;invoke d.target d.args):=by intro ρ;unfold L1;rw[hop]);rw[e0];unfold M1;rw[hcl,Aa];show(N0 f _).runT E.P w #[]=_;unfold N0;simp only[program,bind,Sem.bind,Sem.runT,x1,A7,x3,x4,x5,MA,MD,if_false,if_true];rfl);exact⟨_,l7 _ _ _ _ _ _ hr⟩
      ·cases o1
     ·cases o1
    obtain⟨v,es,hv⟩:=A4;have r3:=im hv _ r2;(have hf:∃t,K2 { fr with todo:=.inRegion x [0]::.code (.region i2 y Jx)::k } v={ fr with todo:=.inRegion x []::.code (.region i2 y Jx)::k,tmps:=t }:=by simp only[K2];split<;>exact⟨_,rfl⟩);obtain⟨t,hf⟩:=hf;rw[hf] at r3;cases n with
    | zero=>exact A2 { fr with todo:=.inRegion x []::.code (.region i2 y Jx)::k,tmps:=t } hm rfl (.inl ⟨_,_,_,rfl⟩) r3
    | succ n =>
    have r4:=im (tZ { fr with todo:=.inRegion x []::.code (.region i2 y Jx)::k,tmps:=t } x _ cs w hm rfl) _ r3;cases n with
    | zero=>exact A2 { fr with todo:=.code (.region i2 y Jx)::k,tmps:=t } hm rfl (.inr ⟨_,_,_,_,rfl,hy⟩) r4
    | succ n =>
    have r5:=im (step_region { fr with todo:=.code (.region i2 y Jx)::k,tmps:=t } i2 y _ cs w hm rfl) _ r4;cases n with
    | zero=>exact A2 { fr with todo:=.inRegion y (L3 y.size)::k,tmps:=t } hm rfl (.inl ⟨_,_,_,rfl⟩) r5
    | succ n =>
    rw[ry] at r5;exfalso;refine sC ?_ r5;rw[jc { fr with todo:=.inRegion y [0]::k,tmps:=t } y 0 [] k cs w (o:=b) hm rfl hb g2 (by intro c hc;rw[hc] at o2;cases o2)];split at o2
    ·rename_i cl hop;split at o2
     ·rename_i f hcl;simp only[Ln,beq_iff_eq,List.contains_iff_mem] at o2;obtain⟨fn,x1,x2,x3,x4,x5⟩:=h7 f o2.1;(have A7 : (fn.name == "runtime.NumGoroutine") = Jx := by simpa using x2);obtain⟨z,hz⟩:=Array.size_eq_one_iff.1 o2.2;have hr:∀ρ:Operand->LO,ρ (.func f)=.func (.func f) #[] #[]->∃h es,(L1 ρ b).runT E.P w #[]=(.halt h w,es)/\((∃m,h=.fatal m)\/(∃m,h=.stuck m)\/∃u,h=.unsupported (.extern u)):=by
       intro ρ hρ;(have e0:L1 ρ b=(do let d <-M1 ρ cl b.type;invoke d.target d.args):=by unfold L1;rw[hop]);rw[e0];unfold M1;rw[hcl,hz];simp only[hρ,Deferred.ofValue];show ∃h es,(N0 f _).runT E.P w #[]=_/\_;unfold N0;simp only[program,bind,Sem.bind,Sem.runT,x1,A7,x3,x4,x5,MA,MD,if_false,if_true];have Ab:∀v:LO,∃h,Extern.Sync.die .fatal #[v]=.halt h/\((∃m,h=.fatal m)\/(∃m,h=.stuck m)\/∃u,h=.unsupported (.extern u)):=by
        intro v;cases v with
        | string st =>
          have A8 : ∀o : Option String, ∃h : Halt, (match o with | some m => (Sem.halt (.fatal (m.replace "\n" "\n\t")) : Sem LO) | none => (unsupported (.extern "throw, fatal: a message that is not UTF-8") : Sem LO)) = Sem.halt h /\ ((∃m, h = .fatal m) \/ (∃m, h = .stuck m) \/ ∃u, h = .unsupported (.extern u)) := by
           intro o;cases o with
           | some m=>exact⟨_,rfl,.inl ⟨_,rfl⟩⟩
           | none=>exact⟨_,rfl,.inr (.inr ⟨_,rfl⟩)⟩
          exact A8 (String.fromUTF8? st)
        | _=>exact⟨_,rfl,.inr (.inl ⟨_,rfl⟩)⟩
       obtain⟨h,e1,e2⟩:=Ab (ρ z);refine⟨h,#[].push ⟨.mark (.extern f),Jx,K0⟩,?_,e2⟩;(have e3:(#[]++Array.map ρ #[z]++#[]:Array LO)=#[ρ z]:=by simp);rw[e3,e1];rfl
      obtain⟨hh,Ac,e1,e2⟩:=hr (NX { fr with todo:=.inRegion y [0]::k,tmps:=t }) rfl;exact ma _ _ _ _ _ _ e1 e2
     ·cases o2
    ·cases o2
   ·cases h2
  ·cases h
def dg (r:Rel):Rel:=λa b=>a=b/\∃B,r a B
section
variable {E:Env} {r:Rel}
theorem nz:cP (dg r):=λ_ _ h=>h.1
theorem Gq:(dg r).OK:=⟨λx y=>x.1.symm.trans y.1,λx y=>x.1.trans y.1.symm,λx=>by rw[x.1]⟩
theorem IX.dom {a A:Addr}(h:IX r a A):IX (dg r) a a:=⟨⟨rfl,_,h.1⟩,rfl,rfl⟩
theorem KQ.dom {a A:Fn}(h:KQ E r a A):KQ E.self (dg r) a a:=by
 cases h with
 | func h=>exact .func h
 | yield h=>exact .yield ⟨rfl,_,h⟩
theorem VR.dom (h:VR E r v V):VR E.self (dg r) v v:=by
 have A0:∀{x X:Array LO},x.size=X.size->(∀(i:Nat) v V,x[i]?=K1 v->X[i]?=K1 V->VR E.self (dg r) v v)->∀(i:Nat) v V,x[i]?=K1 v->x[i]?=K1 V->VR E.self (dg r) v V:=by intro x X hs h i v V h1 h2;rw[h1] at h2;cases h2;(have A1:i<X.size:=by rw[<-hs];exact(Ly.1 h1).1);exact h i v X[i] h1 (by simp[A1])
 induction h with
 | bool b=>exact .bool b
 | int k n=>exact .int k n
 | string s=>exact .string s
 | Ji=>exact .Ji
 | ptr h=>exact .ptr h.dom
 | IU l c=>exact .IU l c
 | slice l c h=>exact .slice l c h.dom
 | KT=>exact .KT
 | Ki=>exact .Ki
 | func h h1 _ h2 _ i1 i2=>exact .func h.dom rfl (A0 h1 i1) rfl (A0 h2 i2)
 | nilFunc=>exact .nilFunc
 | iface h _ ih=>exact .iface h ih
 | nilIface=>exact .nilIface
 | agg h _ ih=>exact .agg rfl (A0 h ih)
 | tuple h _ ih=>exact .tuple rfl (A0 h ih)
 | jf _ _=>exact .jf rfl (λh=>h)
theorem VR.wide {r':Rel}(s:∀a b,r a b->r' a b)(h:VR E r v V):VR E r' v V:=by
 induction h with
 | ptr h=>exact .ptr ⟨s _ _ h.1,h.2⟩
 | slice l c h=>exact .slice l c ⟨s _ _ h.1,h.2⟩
 | func hf h1 _ h3 _ ih1 ih2 =>
   refine .func ?_ h1 ih1 h3 ih2;cases hf with
   | func h=>exact .func h
   | yield h=>exact .yield (s _ _ h)
 | iface ht _ ih=>exact .iface ht ih
 | agg h1 _ ih=>exact .agg h1 ih
 | tuple h1 _ ih=>exact .tuple h1 ih
 | jf a b=>exact .jf a b
 | _=>constructor
theorem aQ.self {x:Operand}(h:aQ E x):aQ E.self x:=by
 cases x with
 | const v=>exact λr=>(VR.dom (h λ_ _=>False)).wide λa b h=>by obtain⟨_,_,h⟩:=h;cases h
 | _=>exact h
theorem iF.self (h:iF E c):iF E.self c:=by
 refine⟨λx hx=>(h.1 x hx).self,?_⟩;have h2:=h.2;revert h2;cases c.callee with
 | value f=>exact λh=>aQ.self h
 | invoke x n=>exact λh=>aQ.self h
 | builtin b=>exact λh=>h
theorem oV.self {o:Op}(h:oV E o):oV E.self o:=by
 cases o with
 | pick c a b=>exact⟨h.1.self,h.2.1.self,h.2.2.self⟩
 | alloc _=>trivial
 | build t ps=>exact λp hp=>(h p hp).self
 | buildSlice t n ps=>exact λp hp=>(h p hp).self
 | store t a x=>exact⟨h.1.self,h.2.self⟩
 | makeSlice t a x=>exact⟨h.1.self,h.2.self⟩
 | indexAddr t a x=>exact⟨h.1.self,h.2.self⟩
 | index t a x=>exact⟨h.1.self,h.2.self⟩
 | binOp op t x y u=>exact⟨h.1.self,h.2.1.self,h.2.2⟩
 | makeInterface t x=>exact⟨h.1.self,h.2⟩
 | convert s t x=>exact⟨h.1.self,h.2⟩
 | makeFunc f x y =>
   cases f with
   | func f=>exact⟨h.1,λa ha=>(h.2.1 a ha).self,λa ha=>(h.2.2 a ha).self⟩
   | _=>exact h.elim
 | slice t x l g m=>exact⟨h.1.self,λy hy=>(h.2.1 y hy).self,λy hy=>(h.2.2.1 y hy).self,λy hy=>(h.2.2.2 y hy).self⟩
 | call c=>exact iF.self h
 | defer c=>exact⟨iF.self h.1,h.2⟩
 | range t x=>exact⟨h.1.self,h.2⟩
 | next x q=>exact⟨h.1.self,h.2⟩
 | _=>first|exact aQ.self h|exact h.elim
theorem aU.self:∀{c:Code},aU E c->aU E.self c
 | .region _ _ _,h=>λo ho=>(h o ho).self
 | .seq _ _,h=>⟨aU.self h.1,aU.self h.2⟩
 | .cond _ _ _,h=>⟨h.1.self,aU.self h.2.1,aU.self h.2.2⟩
 | .block _ b,h=>aU.self (c:=b) h
 | .loop b,h=>aU.self (c:=b) h
 | .scope b,h=>aU.self (c:=b) h
 | .rangeFunc _ _ _ _,h=>⟨h.1.self,aU.self h.2.1,aU.self h.2.2⟩
 | .skip,_=>trivial
 | .ret,_=>trivial
 | .exit _,_=>trivial
 | .label _,_=>trivial
 | .goto _,_=>trivial
 | .refuse _,_=>trivial
theorem AR.dom {x X:Array LO}(h:AR E r x X):AR E.self (dg r) x x:=by
 refine⟨rfl,λi v V h1 h2=>?_⟩;rw[h1] at h2;cases h2;have A0:i<X.size:=by rw[<-h.1];exact(Ly.1 h1).1
 exact(h.2 i v X[i] h1 (by simp[A0])).dom
theorem Kl.dom {a A:Target}(h:Kl E r a A):Kl E.self (dg r) a a:=by
 cases h with
 | fn h h'=>exact .fn h.dom h'.dom
 | method=>exact .method
 | nil=>exact .nil
 | builtin h=>exact .builtin h
 | collected h=>exact .collected ⟨rfl,_,h⟩
theorem Lu.dom {a A:Nx}(h:Lu E r a A):Lu E.self (dg r) a a:=⟨h.1.dom,h.2.dom⟩
theorem KE.dom (h:KE E r a A):KE E.self (dg r) a a:=by
 induction h with
 | nil=>exact .nil
 | cons h _ ih=>exact .cons h.dom ih
theorem Mo.dom {l L:Loop}(h:Mo E r l L):Mo E.self (dg r) l l:=⟨rfl,rfl,λc hc=>(h.QO c hc).self,rfl,h.has,h.tmps.dom,rfl,rfl,h.TE.self,rfl,h.TD.self,⟨rfl,_,h.defers⟩⟩
theorem OR.dom {o O:Obj}(h:OR E r o O):OR E.self (dg r) o o:=by
 cases h with
 | cells h=>exact .cells h.dom
 | view h=>exact .view h.dom
 | number h=>exact .number h.dom
 | loop h=>exact .loop h.dom
 | JH=>exact .JH
 | Jz=>exact .Jz
 | Jr h=>exact .Jr h.dom
theorem WR.dom {W:I3}(h:WR E r w W):WR E.self (dg r) w w:=by
 refine⟨λb B hb=>?_,λ_=>rfl,λg hg=>⟨rfl,_,h.base g hg⟩,Gq,rfl,h.big.1,h.big.1⟩;obtain⟨rfl,C,hC⟩:=hb;obtain⟨o,O,e1,e2,e3⟩:=h.heap b C hC;exact⟨o,o,e1,e1,e3.dom⟩
theorem Ml.self {n m:Nat}(h:Ml E c n m):Ml E.self c n m:=by
 cases h with
 | J5 a b=>exact .J5 a b
 | JK a b=>exact .JK a b
 | deep a b d=>exact .deep a b λx hx=>(d x hx).self
theorem RT.self {ops:Array Oper}{l:List Nat}{n m:Nat}(h:RT E ops l n m):RT E.self ops l n m:=by
 induction h with
 | nil=>exact .nil
 | op a b _ ih=>exact .op a b.self ih
 | sp a b d e _ ih=>exact .sp a b d e.self ih
 | df a b d e f g _ ih=>exact .df a b d e f g ih
theorem CT.self {ex:Nat->Option Nat}{c:Code}{n m:Nat}(h:CT E ex c n m):CT E.self ex c n m:=by
 induction h with
 | skip=>exact .skip
 | seq _ _ i j=>exact .seq i j
 | cond a _ _ i j=>exact .cond a.self i j
 | yes _ i=>exact .yes i
 | block _ i=>exact .block i
 | loop _ i=>exact .loop i
 | exit a=>exact .exit a
 | ret=>exact .ret
 | op a=>exact .op a
 | region a=>exact .region a.self
theorem IT.self {ex:Nat->Option Nat}{k:List N4}{n:Nat}(h:IT E ex k n):IT E.self ex k n:=by
 induction h with
 | nil=>exact .nil
 | code a _ ih=>exact .code a.self ih
 | inBlock _ ih=>exact .inBlock ih
 | inLoop a _ ih=>exact .inLoop a.self ih
 | inRegion a _ ih=>exact .inRegion a.self ih
theorem xC (l:List Nx):en E.self l=en E l:=by
 induction l with
 | nil=>rfl
 | cons d l ih=>simp only[en,ih];rfl
theorem La.dom {a A:N4}(h:La E r a A):La E.self (dg r) a a:=by
 cases h with
 | code h=>exact .code h.self
 | inBlock=>exact .inBlock
 | inLoop h=>exact .inLoop h.self
 | inScope h=>exact .inScope h.self
 | inRegion h=>exact .inRegion λo ho=>(h o ho).self
 | inRangeFunc h=>exact .inRangeFunc ⟨rfl,_,h⟩
 | endRangeFunc h=>exact .endRangeFunc ⟨rfl,_,h⟩
 | beginRound=>exact .beginRound
theorem Ko.dom {a A:List N4}(h:Ko E r a A):Ko E.self (dg r) a a:=by
 induction h with
 | nil=>exact .nil
 | cons h _ ih=>exact .cons h.dom ih
theorem Lh.dom {fn:Nd}{o:Option Nat}{l e:Nat}{a A:List N4}(h:Lh E r fn q o l e a A):Lh E.self (dg r) fn q o l e a a:=by
 cases h with
 | plain h0 h=>exact .plain h0 h.dom
 | typed h0 h=>exact .typed h0 h.self
 | wait h0 h=>exact .wait h0 h.self
theorem KD.dom {a A:List PanicEntry}(h:KD E r a A):KD E.self (dg r) a a:=by
 induction h with
 | nil=>exact .nil
 | cons h _ ih=>exact .cons h.dom ih
theorem LZ.dom {a A:FrameMode}(h:LZ E r a A):LZ E.self (dg r) a a:=by
 cases h with
 | run=>exact .run
 | returning=>exact .returning
 | panicking h=>exact .panicking h.dom
theorem Lr.dom {a A:Option Nat}(h:Lr r a A):Lr (dg r) a a:=by
 cases h with
 | none=>exact .none
 | some h=>exact .some ⟨rfl,_,h⟩
theorem Lb.dom (h:Lb E r a A):Lb E.self (dg r) a a:=by
 induction h with
 | nil=>exact .nil
 | cons h _ ih=>exact .cons h.dom ih
 | JK h _ ih=>exact .JK h ih
theorem bb.dom {l:Nat}{f F:J1}(h:bb E r q l f F):bb E.self (dg r) q l f f :=
 ⟨rfl,h.has,h.tmps.dom,let ⟨p,m,x,y⟩:=h.todo;⟨p,m,by rw[xC];exact x.dom,y⟩,λx=>by rw[xC];exact h.off x,h.defers.dom,h.mode.dom,rfl,h.Kc,h.round.dom⟩
theorem Jy.dom {n:Nat}{f F:List J1}(h:Jy E r n f F):Jy E.self (dg r) n f f:=by
 induction h with
 | nil=>exact .nil
 | cons h _ ih=>exact .cons h.dom ih
end
open Go Go.Conc
structure Tw (E:Env)(q:Nat)(r:Rel)(fr:J1)(IC:List J1)(w:I3)(FR:J1)(I1:List J1)(W:I3):Prop where
 ex:∃p ls,bb E r Jx p fr FR/\Jy E r ls IC I1/\q=p+ls
 wr:WR E r w W
 bot:JF rY (fr::IC)
 diag:cP r
 size:w.heap.size=W.heap.size
 tape:W.tape=w.tape
 drawn:W.drawn=w.drawn
section
variable {E:Env}
theorem Tw.fit {q:Nat}{r:Rel}{FR:J1}{I1:List J1}{W:I3}(h:Tw E q r fr IC w FR I1 W):Fit E.self q fr IC w:=by
 obtain⟨p,ls,h1,h2,h3⟩:=h.ex;exact⟨dg r,p,ls,nz,h1.dom,h2.dom,h.wr.dom,h.bot,h3⟩
theorem follow (hE:aS E)(hO:Mm E)(hl:E.lv){Mh:J1}{LV:List J1}{w2:I3}(h2:Mh.mode=.run)(hin:¬ pP Mh.todo)(hns:¬ bY (Mh::LV))(cs:List J1) :
 ∀(n q:Nat) (r:Rel) (fr:J1) (IC:List J1) (w:I3) (FR:J1) (I1:List J1) (W:I3) (T:Lo),Tw E q r fr IC w FR I1 W->MY E.P n (Mp fr (IC++[aP]) w)=.next (Mp Mh (LV++[aP]) w2) ->
  ¬ bY (fr::IC)/\∃U q2 r2 Rm LY W2,N6 E.P n (Mp FR (I1++cs) W) T=(.next (Mp Rm (LY++cs) W2),T++U)/\(∀op∈U,op.g=0)/\Tw E q2 r2 Mh LV w2 Rm LY W2/\(∀d,Deaf T 0=d+q->Deaf (T++U) 0=d+q2)/\Fr E r r2 w w2 W W2:=by
 intro n;induction n with
 | zero =>intro q r fr IC w FR I1 W T A3 A0;simp only[MY,Stepped.next.injEq,Mp,Machine.mk.injEq] at A0;obtain⟨e0,e,-⟩:=A0;simp only[Array.mk.injEq,List.cons.injEq,L4,and_true] at e;obtain⟨e1,e2⟩:=e;have e2:=Mb e2;subst e1 e0 e2;exact⟨hns,#[],q,r,FR,I1,W,by simp[N6],by simp,A3,λd h=>by simpa using h,.rfl⟩
 | succ n ih =>
   intro q r fr IC w FR I1 W T A1 A0;have A3:=A1.fit;(have Ad:¬ AtEnd fr IC:=by intro he;have hs:=he.2.2;subst hs;exact zB (E:=E.self) A3 he.1 he.2.1 A0);(have A6:¬ mH E fr:=by rintro⟨o1,c,k,o2,o3⟩;exact hin (hO c o3 fr k _ w o1 o2 n _ _ _ A0).2.2.2);have Ac:(Gr fr (IC++[aP])).status=.running:=rfl;obtain⟨p,ls,g2,g3,g6⟩:=A1.ex;subst g6;(have Ai:∀b,TA b w W:=λb i q _=>by rw[A1.tape,A1.drawn]);have hm:=iN (m0:=K0) (cl:=[aP]) (cs:=cs) (m:=K0) hE g2 g3 A1.wr (Ai _) A1.bot A6 (λa b c=>Ad ⟨a,b,c⟩) (IR _);change MY E.P (n+1) (one (Gr fr (IC++[aP])) w)=_ at A0;generalize hs:Kf E.P K0 (Gr fr (IC++[aP])) w=x at hm;cases x with
   | go g w1 es =>
     simp only[MY,cy Ac hs] at A0;have Ah:¬ jL g:=λhd=>iw hd n _ _ _ A0;rcases hm with⟨r1,Aa,A4,A9,A2,W1,ES,l1,A8,rfl,e2,e3,e4,e5,e6,e7,e8,e9,Af⟩|hm
     rotate_left
     ·exact absurd hm.1 Ah
     (have Ag:w1.heap.size=W1.heap.size:=by have:=e6.grow;have:=e6.size;have:=e6.Jw;have:=A1.size;omega);have A7:Tw E (l1+A8) r1 Aa A4 w1 A9 A2 W1:=⟨⟨l1,A8,e3,e4,rfl⟩,e5,e8,e6.diag A1.diag A1.size,Ag,by rw[e6.tape,e6.KC,A1.tape],by
      obtain⟨d,y1,y2⟩:=e6.drawn
      rw[y1,y2,A1.drawn]⟩
     obtain⟨Ab,U,q2,r2,Rm,LY,W2,a1,a2,a3,a4,a5⟩:=ih (l1+A8) r1 Aa A4 w1 A9 A2 W1 (T++ID 0 FR.fn FR.place ES) A7 A0;(have A5:stepT E.P (Mp FR (I1++cs) W)=(.next (Mp A9 (A2++cs) W1),ID 0 FR.fn FR.place ES):=by have Ae:move E.P (one (Gr FR (I1++cs)) W)=.goroutine (one (Gr FR (I1++cs)) W) 0:=km rfl;change stepT E.P (one (Gr FR (I1++cs)) W)=_;rw[stepT,Ae];simp[runT,one,e2,GStep.es];exact⟨rfl,rfl⟩);refine⟨λhk=>Ab (e9 hk),ID 0 FR.fn FR.place ES++U,q2,r2,Rm,LY,W2,?_,?_,a3,?_,e6.trans a5⟩
     ·simp only[N6,A5];rw[a1,MT]
     ·intro op A6;rcases Nm.1 A6 with h|h
      ·rw[ofEvents_eq] at h;obtain⟨e,-,rfl⟩:=Mn.1 h;rfl
      ·exact a2 op h
     ·intro d hd;rw[<-MT];refine a4 d ?_;rw[Deaf_own,hd,e7.deaf];exact(Af.resolve_left Ab) hl d
   | ended o w1 es =>simp only[MY,bK Ac hs] at A0;cases A0
   | _=>exact hm.elim
end
abbrev aD:=Nat->Prop
def ran (r:Rel):aD:=λB=>∃b,r b B
structure bQ (m:Bool)(S:aD)(W W₁:I3):Prop where
 size:W.heap.size<=W₁.heap.size
 keep:∀b,S b->W₁.heap[b]?=W.heap[b]?
 os:m=Jx->W₁.os=W.os
def nF (S:aD)(e:L2):Prop:=match e.loc with
 | .cell a=>S a.block
 | .obj b=>S b
 | .mark (.acquire a)|.mark (.release a)|.mark (.releaseMerge a)|.mark (.read a)|.mark (.write a)=>S a.block
 | _=>True
structure Ch (m:Bool)(S S':aD)(W W':I3)(es:Array L2):Prop where
 size:W.heap.size<=W'.heap.size
 keep:∀b,b<W.heap.size->¬ S b->W'.heap[b]?=W.heap[b]?
 tape:W'.tape=W.tape
 out:W'.output=W.output
 os:m=K0->W'.os=W.os
 env:W'.os.env=W.os.env
 sub:∀b,S b->S' b
 old:∀b,S' b->S b\/W.heap.size<=b
 low:∀b,S' b->b<W'.heap.size
 evs:∀e∈es,nF S' e
inductive Wk (P:Mz) (m:Bool) (Fin:aD->Nat->IF->I3->Prop):aD->Nat->IF->I3->Prop
 | stop {S n g W}:g.status=.running->(∀W₁,bQ m S W W₁->Fin S n g W₁)->Wk P m Fin S n g W
 | step {S n g W} (G:I3->IF) (N:I3->I3) (X:I3->Array L2) (T:I3->aD) (K:I3->Nat):g.status=.running ->
    (∀W₁,bQ m S W W₁->Kf P m g W₁=.go (G W₁) (N W₁) (X W₁)/\Ch m S (T W₁) W₁ (N W₁) (X W₁)/\∀d,Lz (d+n) (X W₁)=d+K W₁) ->
    (∀W₁,bQ m S W W₁->Wk P m Fin (T W₁) (K W₁) (G W₁) (N W₁))->Wk P m Fin S n g W
section
variable {P:Mz} {m:Bool} {Fin:aD->Nat->IF->I3->Prop} {S:aD} {n:Nat} {g:IF} {W W₁ W₂:I3}
theorem bQ.rfl:bQ m S W W:=⟨IR _,λ_ _=>Eq.refl _,λ_=>Eq.refl _⟩
theorem bQ.trans (h:bQ m S W W₁)(h':bQ m S W₁ W₂):bQ m S W W₂:=⟨LI h.size h'.size,λb hb=>(h'.keep b hb).trans (h.keep b hb),λe=>(h'.os e).trans (h.os e)⟩
theorem bQ.at (d:Nat):bQ m S W (W.at d):=⟨IR _,λ_ _=>Eq.refl _,λ_=>Eq.refl _⟩
theorem Wk.rely (h:Wk P m Fin S n g W)(hr:bQ m S W W₁):Wk P m Fin S n g W₁:=by
 cases h with
 | stop h0 h=>exact .stop h0 λW₂ h₂=>h W₂ (hr.trans h₂)
 | step G N X T K h0 h1 h2=>exact .step G N X T K h0 (λW₂ h₂=>h1 W₂ (hr.trans h₂)) (λW₂ h₂=>h2 W₂ (hr.trans h₂))
theorem Wk.mk (h0:g.status=.running)(h:∀W₁,bQ m S W W₁->∃g' W' es S' n',Kf P m g W₁=.go g' W' es/\Ch m S S' W₁ W' es/\(∀d,Lz (d+n) es=d+n')/\Wk P m Fin S' n' g' W'):Wk P m Fin S n g W:=by
 have h':∀W₁,∃x:IF×I3×Array L2×aD×Nat,bQ m S W W₁->Kf P m g W₁=.go x.1 x.2.1 x.2.2.1/\Ch m S x.2.2.2.1 W₁ x.2.1 x.2.2.1/\(∀d,Lz (d+n) x.2.2.1=d+x.2.2.2.2)/\Wk P m Fin x.2.2.2.1 x.2.2.2.2 x.1 x.2.1:=by
  intro W₁;by_cases hr:bQ m S W W₁
  ·obtain⟨a,b,c,d,e,f⟩:=h W₁ hr;exact⟨(a,b,c,d,e),λ_=>f⟩
  ·exact⟨(g,W,#[],S,n),λx=>absurd x hr⟩
 exact .step (λW₁=>(LL (h' W₁)).1) (λW₁=>(LL (h' W₁)).2.1) (λW₁=>(LL (h' W₁)).2.2.1) (λW₁=>(LL (h' W₁)).2.2.2.1) (λW₁=>(LL (h' W₁)).2.2.2.2) h0
  (λW₁ hr=>let x:=Mu (h' W₁) hr;⟨x.1,x.2.1,x.2.2.1⟩) (λW₁ hr=>(Mu (h' W₁) hr).2.2.2)
theorem yc {r:Rel}{x X:Array L2}(h:Jo r x X):∀e∈X,nF (ran r) e:=by
 intro e he;obtain⟨i,hi⟩:=Array.getElem?_of_mem he;have A0:i<x.size:=by rw[h.1];exact(Ly.1 hi).1
 have hx:x[i]?=K1 x[i]:=by simp[A0]
 have:=(h.2 i _ _ hx hi).loc;revert this;generalize x[i].loc=l;obtain⟨L,a,b⟩:=e;intro hl;simp only[nF];simp only at hl;cases hl with
 | cell ha=>exact⟨_,ha.1⟩
 | obj hb=>exact⟨_,hb⟩
 | output=>trivial
 | goroutines=>trivial
 | mark hm =>
   cases hm with
   | acquire ha=>exact⟨_,ha.1⟩
   | release ha=>exact⟨_,ha.1⟩
   | releaseMerge ha=>exact⟨_,ha.1⟩
   | read ha=>exact⟨_,ha.1⟩
   | write ha=>exact⟨_,ha.1⟩
   | _=>trivial
end
section
variable {E:Env} {Fin:aD->Nat->IF->I3->Prop}
theorem Az (hE:aS E)(hS:aS E.self)(hl:E.lv){Q:J1->I3->Prop}(h:Ev E.self Q fr IC w) :
 ∀{nf n:Nat} {r:Rel} {cs:List J1} {G:IF} {W:I3},Fit E.self nf fr IC w->Lt E n r cs fr IC w G W ->
  (∀fr' w' r' G' W',Sub r r'->(∀b B,r' b B->r b B\/W.heap.size<=B)->W.heap.size<=W'.heap.size->Q fr' w'->fr'.mode=.returning->fr'.defers=[]->Lt E 0 r' cs fr' [] w' G' W'->Wk E.P Jx Fin (ran r') 0 G' W')->Wk E.P Jx Fin (ran r) n G W:=by
 induction h with
 | @stop fr w h1 h2 h3 =>intro nf n r cs G W _ hk A0;obtain⟨FR,A5,p,ls,e1,e2,e3,e4⟩:=id hk.ex;(have hp:p=0:=by rw[e2.off (by rw[h1];simp),h2];rfl);(have A4:ls=0:=by cases e3;rfl);subst hp A4;subst e4;exact A0 fr w r G W .rfl (λ_ _ h=>.inl h) (IR _) h3 h1 h2 hk
 | @step fr IC w F S N X hne hop hs hev ih =>
   intro nf n r cs G W A1 hk A0;refine .mk (dY hk) λW₁ hr=>?_;have hk₁:=hk.rely (hr.os rfl) (LI hk.wr.big.2 hr.size) λb B hb=>hr.keep B ⟨b,hb⟩;have A2:=hs λn q=>W₁.tape (W₁.drawn+(n-w.drawn)) q;obtain⟨r',G',W',ES,n',s1,s2,s3,s4,s5⟩:=sI (m:=Jx) hE hk₁ hne hop A2;obtain⟨fr',A3,A6,e1,e2,-⟩:=gH hS (A1.tape _) hne hop A2 (eL _ _) (t:=λn q=>W₁.tape (W₁.drawn+(n-w.drawn)) q) (λ_ _ _ _=>rfl);simp only[Gr,L4,and_true] at e1;have y2:=Mb e1.2;rw[<-e1.1,<-y2] at e2;have hw:=x8 hS (hev _) e2;refine⟨G',W',ES,ran r',n',s1,?_,(s5.2.resolve_left hw) hl,ih _ e2 s2 λMh w2 r2 G2 W2 hsub hold hsz=>A0 Mh w2 r2 G2 W2 (s3.sub.trans hsub) (λb B hb=>(hold b B hb).elim (λx=>(s3.old b B x).imp id λy=>LI hr.size y.2.1) λx=>.inr (LI (LI hr.size s3.size) x)) (LI (LI hr.size s3.size) hsz)⟩
   exact⟨s3.size,λb hb hn=>s3.keep b hb λc hc=>hn ⟨c,hc⟩,s3.tape,s3.out.1,λe=>by(cases e),s3.Qu,λB ⟨b,hb⟩=>⟨b,s3.sub.1 _ _ hb⟩,
    λB ⟨b,hb⟩=>(s3.old b B hb).imp (λx=>⟨b,x⟩) (λx=>x.2.1),λB ⟨b,hb⟩=>(s2.wr.low hb).2,yc s4⟩
end
open Go.ConcX (stA smA OfWg)
def Kq (S:aD):Loc->Prop
 | .cell a=>S a.block
 | .obj b=>S b
 | _=>False
def Ok0 (Wg:Nat)(Pm:aD)(act:MemAct):Prop:=(∀x,act.touch?=K1 x->x.loc.isMemory=K0->Kq Pm x.loc\/(OfWg Wg x.loc/\x.kind≠.plain)\/(x.loc=.obj Wg/\x.write=Jx))/\act≠.mark (.release (stA Wg))/\∀k,act≠.go k
def TG (Wg:Nat)(Pm:aD)(act:MemAct):Prop:=(∀x,act.touch?=K1 x->x.loc.isMemory=K0->(¬ Kq Pm x.loc/\¬ Kq (·=Wg) x.loc)\/(OfWg Wg x.loc/\x.kind=.atomic)\/(x.loc=.obj Wg/\x.write=Jx))/\act≠.mark (.release (stA Wg))/\∀k,act≠.go k
structure TL (Wg:Nat)(Pm:aD)(hi:Nat)(s:Lo):Prop where
 go:∃op,s[0]?=K1 op/\op.g=0/\op.act=.go 1
 start:∃op,s[1]?=K1 op/\op.g=1/\op.act=.start
 hgo:s.heard 0
 hstart:s.heard 1
 ok:∀i op,s[i]?=K1 op->1<i->(op.g=0/\Ok0 Wg Pm op.act)\/(op.g=1/\TG Wg Pm op.act)
 pw:¬ Pm Wg
 nr:∀said,¬ Race said s
 low:∀op∈s,op.act.low hi
section
variable {Wg:Nat} {Pm:aD} {hi:Nat} {s u:Lo}
theorem xn (h:OfWg Wg l):Kq (·=Wg) l:=by obtain⟨a,rfl,h⟩:=h;exact h
theorem rM (h:OfWg Wg l):l≠.obj Wg:=by obtain⟨a,rfl,h⟩:=h;simp
theorem qw (hw:¬ Pm Wg)(h:Kq Pm l):¬ Kq (·=Wg) l:=by
 intro h';cases l with
 | cell a=>have h':a.block=Wg:=h';rw[<-h'] at hw;exact hw h
 | obj b=>have h':b=Wg:=h';rw[<-h'] at hw;exact hw h
 | _=>exact h
theorem TL.two (h:TL Wg Pm hi s)(hi:s[i]?=K1 op):op.g=0\/op.g=1:=by
 match i with
 | 0=>obtain⟨x,h1,h2,_⟩:=h.go;rw[h1] at hi;cases hi;exact .inl h2
 | 1=>obtain⟨x,h1,h2,_⟩:=h.start;rw[h1] at hi;cases hi;exact .inr h2
 | i+2=>exact(h.ok _ op hi (by omega)).imp (·.1) (·.1)
theorem TL.at (h:TL Wg Pm hi s){x:Touch}(hi:s[i]?=K1 op)(hx:op.act.touch?=K1 x):(op.g=0/\Ok0 Wg Pm op.act)\/(op.g=1/\TG Wg Pm op.act):=by
 match i with
 | 0=>obtain⟨y,h1,_,h2⟩:=h.go;rw[h1] at hi;cases hi;rw[h2] at hx;cases hx
 | 1=>obtain⟨y,h1,_,h2⟩:=h.start;rw[h1] at hi;cases hi;rw[h2] at hx;cases hx
 | i+2=>exact h.ok _ op hi (by omega)
theorem TL.grown (h:TL Wg Pm hi s)(hle:hi<=hi')(hu:∀i op,(s++u)[i]?=K1 op->s.size<=i->(op.g=0/\Ok0 Wg Pm op.act)\/(op.g=1/\TG Wg Pm op.act))(nr:∀said,¬ Race said (s++u))(hl:∀op∈u,op.act.low hi'):TL Wg Pm hi' (s++u):=by
 obtain⟨x,hx,A3,A0⟩:=h.go;obtain⟨y,hy,A1,A2⟩:=h.start;have l0:=lt_size_of_getElem? hx;have l1:=lt_size_of_getElem? hy;refine⟨⟨x,by rw[getElem?_append_old l0];exact hx,A3,A0⟩,⟨y,by rw[getElem?_append_old l1];exact hy,A1,A2⟩,(heard_old l0).2 h.hgo,(heard_old l1).2 h.hstart,λi op hi h1=>?_,h.pw,nr,λop hop=>(Nm.1 hop).elim (λx=>MemAct.low_mono hle (h.low op x)) (hl op)⟩;by_cases hlt:i<s.size
 ·exact h.ok i op (by rw[<-getElem?_append_old (u:=u) hlt];exact hi) h1
 ·exact hu i op hi (by omega)
theorem TL.app0 (h:TL Wg Pm hi s)(hle:hi<=hi')(hu:∀op∈u,op.g=0/\Ok0 Wg Pm op.act)(hl:∀op∈u,op.act.low hi'):TL Wg Pm hi' (s++u):=by
 refine h.grown hle (λi op hi hlt=>?_) (λsaid=>noRace_append (g:=0) (h.nr said) (λop hop=>(hu op hop).1) λi a ha op hop b hb hc=>?_) hl
 ·rcases getElem?_append_cases hi with⟨x,_⟩|⟨_,x⟩
  ·omega
  ·exact .inl (hu op x)
 ·obtain⟨x,hx,A0⟩:=touch_of ha;rcases h.at hx A0 with⟨e,_⟩|⟨e,h1⟩
  ·have:=knows_own hx;rwa [e] at this
  ·exfalso;obtain⟨c1,c2,c3,c4⟩:=hc;have hm:=c2;have b1:=(hu op hop).2.1 b hb (by rw[<-c1];exact hm);rcases h1.1 a A0 hm with⟨n1,n2⟩|⟨w1,k1⟩|⟨w1,k1⟩
   ·rcases b1 with b1|⟨b1,_⟩|⟨b1,_⟩
    ·exact n1 (by rw[c1];exact b1)
    ·exact n2 (by rw[c1];exact xn b1)
    ·exact n2 (by rw[c1,b1];rfl)
   ·rcases b1 with b1|⟨_,b2⟩|⟨b1,_⟩
    ·exact qw h.pw b1 (by rw[<-c1];exact xn w1)
    ·rw[k1] at c4;rcases c4 with c4|c4|⟨_,c4,_⟩
     ·cases c4
     ·exact b2 c4
     ·cases c4
    ·exact rM w1 (c1.trans b1)
   ·rcases b1 with b1|⟨b1,_⟩|⟨_,b2⟩
    ·exact qw h.pw b1 (by rw[<-c1,w1];rfl)
    ·exact rM b1 (c1.symm.trans w1)
    ·rcases c3 with c3|c3
     ·rw[k1] at c3;cases c3
     ·rw[b2] at c3;cases c3
theorem TL.app1 (h:TL Wg Pm hi s)(hle:hi<=hi')(hu:∀op∈u,op.g=1/\TG Wg Pm op.act)(hl:∀op∈u,op.act.low hi'):TL Wg Pm hi' (s++u):=by
 refine h.grown hle (λi op hi hlt=>?_) (λsaid=>noRace_append (g:=1) (h.nr said) (λop hop=>(hu op hop).1) λi a ha op hop b hb hc=>?_) hl
 ·rcases getElem?_append_cases hi with⟨x,_⟩|⟨_,x⟩
  ·omega
  ·exact .inr (hu op x)
 ·obtain⟨x,hx,A0⟩:=touch_of ha;rcases h.at hx A0 with⟨e,h0⟩|⟨e,_⟩
  ·exfalso;obtain⟨c1,c2,c3,c4⟩:=hc;have hm:=c2;have a1:=h0.1 a A0 hm;rcases(hu op hop).2.1 b hb (by rw[<-c1];exact hm) with⟨n1,n2⟩|⟨w1,k1⟩|⟨w1,k1⟩
   ·rcases a1 with a1|⟨a1,_⟩|⟨a1,_⟩
    ·exact n1 (by rw[<-c1];exact a1)
    ·exact n2 (by rw[<-c1];exact xn a1)
    ·exact n2 (by rw[<-c1,a1];rfl)
   ·rcases a1 with a1|⟨_,a2⟩|⟨a1,_⟩
    ·exact qw h.pw a1 (by rw[c1];exact xn w1)
    ·rw[k1] at c4;rcases c4 with c4|c4|⟨_,_,c4⟩
     ·exact a2 c4
     ·cases c4
     ·cases c4
    ·exact rM w1 (c1.symm.trans a1)
   ·rcases a1 with a1|⟨a1,_⟩|⟨_,a2⟩
    ·exact qw h.pw a1 (by rw[c1,w1];rfl)
    ·exact rM a1 (c1.trans w1)
    ·rcases c3 with c3|c3
     ·rw[a2] at c3;cases c3
     ·rw[k1] at c3;cases c3
  ·have:=knows_own hx;rwa [e] at this
theorem AU {act:MemAct}{x:Touch}(hl:act.low hi)(hx:act.touch?=K1 x){Q:aD}(hq:Kq Q x.loc):∃b,Q b/\b<hi/\∀Q':aD,Kq Q' x.loc ↔ Q' b:=by
 cases act with
 | access e =>
   simp only[J0,Option.some.injEq] at hx;subst hx;obtain⟨l,w,y⟩:=e;cases l with
   | cell a=>exact⟨a.block,hq,hl,λ_=>Iff.rfl⟩
   | obj b=>exact⟨b,hq,hl,λ_=>Iff.rfl⟩
   | _=>exact hq.elim
 | mark m =>
   cases m with
   | read a=>simp[J0] at hx;subst hx;exact⟨a.block,hq,hl,λ_=>Iff.rfl⟩
   | write a=>simp[J0] at hx;subst hx;exact⟨a.block,hq,hl,λ_=>Iff.rfl⟩
   | _=>simp[J0] at hx
 | _=>simp[J0] at hx
theorem TL.grow (h:TL Wg Pm hi s){Rk:aD}(h1:∀b,Pm b->Rk b)(h2:∀b,Rk b->Pm b\/hi<=b)(h3:¬ Rk Wg):TL Wg Rk hi s:=by
 refine⟨h.go,h.start,h.hgo,h.hstart,λi op hi hlt=>?_,h3,h.nr,h.low⟩;rcases h.ok i op hi hlt with⟨e,a,b⟩|⟨e,a,b⟩
 ·refine .inl ⟨e,λx hx hm=>(a x hx hm).imp (λy=>?_) id,b⟩;obtain⟨c,c1,_,c2⟩:=AU (h.low op (mem_of_getElem? hi)) hx y;exact(c2 Rk).2 (h1 c c1)
 ·refine .inr ⟨e,λx hx hm=>(a x hx hm).imp (λy=>⟨λz=>?_,y.2⟩) id,b⟩;obtain⟨c,c1,c3,c2⟩:=AU (h.low op (mem_of_getElem? hi)) hx z;rcases h2 c c1 with c1|c1
  ·exact y.1 ((c2 Pm).2 c1)
  ·omega
theorem TL.init {x y:MemOp}(hx:x.g=0/\x.act=.go 1)(hy:y.g=1/\y.act=.start)(hw:¬ Pm Wg)(hi:Nat):TL Wg Pm hi #[x,y]/\Deaf #[x,y] 0=0/\Deaf #[x,y] 1=0:=by
 have d0:Deaf #[x,y] 0=0:=by have:=Go.ConcX.Deaf_keep #[] 0 #[x,y] (λop ho=>by simp at ho;rcases ho with rfl|rfl;rw[hx.2];simp;rw[hy.2];simp);exact(show Deaf #[x,y] 0=Deaf #[] 0 by simpa using this).trans rfl
 have d1:Deaf #[x,y] 1=0:=by have:=Go.ConcX.Deaf_keep #[] 1 #[x,y] (λop ho=>by simp at ho;rcases ho with rfl|rfl;rw[hx.2];simp;rw[hy.2];simp);exact(show Deaf #[x,y] 1=Deaf #[] 1 by simpa using this).trans rfl
 refine⟨⟨⟨x,rfl,hx⟩,⟨y,rfl,hy⟩,⟨0,by simp[Trace.g?,hx.1],rfl⟩,⟨1,by simp[Trace.g?,hy.1],?_⟩,λi op hi hlt=>?_,hw,λsaid=>?_,λop ho=>?_⟩,d0,d1⟩
 ·have e:(#[x,y]:Lo)=#[x]++#[y]:=rfl;have:=deaf_old (t:=#[x]) (u:=#[y]) (g:=1) (i:=1) (by simp);rw[e,this];have:=Go.ConcX.Deaf_keep #[] 1 #[x] (λop ho=>by simp at ho;subst ho;rw[hx.2];simp);exact(show Deaf #[x] 1=Deaf #[] 1 by simpa using this).trans rfl
 ·have:=lt_size_of_getElem? hi;simp at this;omega
 ·rintro⟨i,j,_,⟨a,b,ha,_⟩,_⟩;obtain⟨z,hz,A0⟩:=touch_of ha;have:=mem_of_getElem? hz;simp at this;rcases this with rfl|rfl
  ·rw[hx.2] at A0;cases A0
  ·rw[hy.2] at A0;cases A0
 ·simp at ho;rcases ho with rfl|rfl
  ·rw[hx.2];trivial
  ·rw[hy.2];trivial
def Rl (Wg:Nat)(s:Lo)(r:Nat):Prop:=Released (stA Wg) s r/\∀i op x,r<i->s[i]?=K1 op->op.g=1->op.act.touch?=K1 x->x.loc.isMemory=K0->Kq (·=Wg) x.loc
def Aq (Wg:Nat)(s:Lo):Prop:=∃q r,Rl Wg s r/\s.act? q=K1 (.mark (.acquire (stA Wg)))/\s.g? q=K1 0/\s.heard q/\r<q
theorem TL.past (h:TL Wg Pm hi s)(hA:Aq Wg s)(hd:Deaf s 0=0){t₀:Lo}{B:Nat}(hP:Past (λ_=>False) B t₀)(h1:Deaf t₀ 1=0):Past (λl=>False\/Kq (·=Wg) l) (max B hi) (t₀++s)/\Deaf (t₀++s) 1=Deaf s 1:=by
 obtain⟨q,r,⟨hr,Af⟩,hq,Aa,Ad,A9⟩:=hA;have r1:1<r:=by
  have A2:=hr.act;rcases Nat.lt_or_ge 1 r with x|x
  ·exact x
  ·obtain⟨a,ha,_,A3⟩:=h.go;obtain⟨b,hb,_,Al⟩:=h.start
   match r,x with
   | 0,_=>rw[act?_of ha,A3] at A2;cases A2
   | 1,_=>rw[act?_of hb,Al] at A2;cases A2
 have A4:∀k,s.act? k≠K1 (.mark (.release (stA Wg))):=by
  intro k hk;obtain⟨op,ho,A5⟩:=IH.1 hk
  match k with
  | 0=>obtain⟨a,ha,_,A3⟩:=h.go;rw[ha] at ho;cases ho;rw[A3] at A5;cases A5
  | 1=>obtain⟨a,ha,_,A3⟩:=h.start;rw[ha] at ho;cases ho;rw[A3] at A5;cases A5
  | k+2 =>
    rcases h.ok _ op ho (by omega) with⟨_,_,x,_⟩|⟨_,_,x,_⟩
    ·exact x A5
    ·exact x A5
 have two:∀i g,s.g? i=K1 g->g=0\/g=1:=by intro i g hg;obtain⟨op,ho,rfl⟩:=IH.1 hg;exact h.two ho
 have Ac:∀op∈s,∀k,op.act=.go k->k=1:=by
  intro op A0 k hk;obtain⟨i,hi,rfl⟩:=Lw.1 A0;have ho:s[i]?=K1 s[i]:=LN hi
  match i with
  | 0=>obtain⟨a,ha,_,A3⟩:=h.go;rw[ha] at ho;have:=Option.some.inj ho;rw[<-this,A3] at hk;cases hk;rfl
  | 1=>obtain⟨a,ha,_,A3⟩:=h.start;rw[ha] at ho;have:=Option.some.inj ho;rw[<-this,A3] at hk;cases hk
  | i+2 =>
    rcases h.ok _ _ ho (by omega) with⟨_,_,_,x⟩|⟨_,_,_,x⟩
    ·exact absurd hk (x k)
    ·exact absurd hk (x k)
 have A1:HappensBefore s r q:=.single (.inr ⟨.marked A9 (.inr hr.act) hq (λk _ _=>A4 k),hr.heard,Ad⟩);have A7:∀op∈s.toList,renOp 1 op=op:=by
  intro op A0;(have A0:op∈s:=by simpa using A0);obtain⟨i,hi,rfl⟩:=Lw.1 A0;have hg:=h.two (LN hi);have hgo:=Ac _ A0;generalize s[i]=op at hg hgo;obtain⟨g,fn,Ao,act⟩:=op;simp only at hg hgo;(have e1:renG 1 g=g:=by rcases hg with rfl|rfl<;>rfl);have e2:renAct 1 act=act:=by
   cases act with
   | go k=>rw[hgo k rfl];rfl
   | _=>rfl
  simp[renOp,e1,e2]
 obtain⟨φ,L⟩:=Linked.boths (c:=1) (t₀:=t₀) (by omega) s.toList (s:=#[]) (T:=t₀) (λop A0=>by
  (have A0:op∈s:=by simpa using A0);obtain⟨i,hi,rfl⟩:=Lw.1 A0
  exact h.two (LN hi)) ⟨id,Link.init hP.hears h1 id⟩
 have em:(s.toList.map (renOp 1)).toArray=s:=by(have:s.toList.map (renOp 1)=s.toList:=by(conv=>rhs;rw[<-List.map_id s.toList]);exact List.map_congr_left λop A0=>by rw[A7 op A0];rfl);rw[this]
 rw[em] at L;have e0:(#[]:Lo)++s.toList.toArray=s:=by simp
 rw[e0] at L;refine⟨past_of_link two (λi k hk=>?_) hP (Nat.le_max_left B hi) L h.nr (λi a ha hm=>?_) (λi hi=>?_) (λ_ _ _ x=>x.elim) (λop A0=>MemAct.low_mono (Nat.le_max_right B hi) (h.low op A0)) ?_ hd,?_⟩
 ·obtain⟨op,ho,A5⟩:=IH.1 hk;have:=Ac op (mem_of_getElem? ho) k A5;omega
 ·obtain⟨x,hx,Ak⟩:=touch_of ha;rcases h.two hx with e|e
  ·have:=knows_own hx;rw[e] at this;exact .inl this
  ·(have A8:s.g? i=K1 1:=by simp[Trace.g?,hx,e]);rcases Nat.lt_or_ge r i with A6|Ap
   ·have Aj:=hr.after i A6 A8;have hk:a.kind=.atomic:=by
     by_cases hk:a.kind=.atomic
     ·exact hk
     ·exact absurd ⟨a,ha,hm,.inl hk⟩ Aj
    exact .inr ⟨Af i x a A6 hx e Ak hm,hk⟩
   ·obtain⟨z,hz,Ah⟩:=IH.1 Aa;refine .inl ⟨q,z,hz,Ah,.inr ?_⟩;rcases Nat.lt_or_ge i r with A6|An
    ·exact .trans (.single (.inl ⟨A6,1,A8,hr.g⟩)) A1
    ·(obtain rfl:i=r:=by omega);exact A1
 ·obtain⟨x,hx,Ai,Ae⟩:=h.go;obtain⟨y,hy,Ab,Ag⟩:=h.start;obtain⟨op,ho,Am⟩:=IH.1 hi;have A1:HappensBefore s 0 1:=.single (.inr ⟨.spawn (child:=1) (by rw[act?_of hx,Ae]) (by rw[act?_of hy,Ag]) (by simp[Trace.g?,hy,Ab]),h.hgo,h.hstart⟩);refine⟨0,by simp[Trace.g?,hx,Ai],?_⟩
  match i with
  | 0=>rw[hx] at ho;cases ho;omega
  | 1=>exact A1
  | i+2=>exact A1.trans (hb_po (by omega) hy ho (Ab.trans Am.symm))
 ·exact handedOver_of_acquire two hr A4 hq Aa Ad A9
 ·have:=L.dfe 1 (.inr rfl);rw[renG_one] at this;exact this
theorem zL {t:Lo}(h0:∀op∈t,op.g=0)(hd:Deaf t 0=0):∃B,Past (λ_=>False) B t:=by
 have hB:∃B,∀op∈t,op.act.low B:=by
  obtain⟨l⟩:=t;clear h0 hd;induction l with
  | nil=>exact⟨0,by simp⟩
  | cons op l ih =>
    obtain⟨B,hB⟩:=ih;have:∃C,op.act.low C:=by
     cases op.act with
     | access e =>
       obtain⟨l,a,b⟩:=e;cases l with
       | cell a=>exact⟨a.block+1,LS _⟩
       | obj b=>exact⟨b+1,LS _⟩
       | _=>exact⟨0,trivial⟩
     | mark m=>cases m<;>first|exact⟨0,trivial⟩|exact⟨_,LS _⟩
     | go _=>exact⟨0,trivial⟩
     | start=>exact⟨0,trivial⟩
     | _=>exact⟨_,LS _⟩
    obtain⟨C,hC⟩:=this;refine⟨max B C,λx hx=>?_⟩;simp only[List.mem_toArray,List.mem_cons] at hx;rcases hx with rfl|hx
    ·exact MemAct.low_mono (Nat.le_max_right B C) hC
    ·exact MemAct.low_mono (Nat.le_max_left B C) (hB x (by simpa using hx))
 obtain⟨B,hB⟩:=hB;have n0:∀said,¬ Race said (#[]:Lo):=by rintro said ⟨i,j,_,⟨a,b,ha,_⟩,_⟩;simp[Trace.act?] at ha
 refine⟨B,λsaid=>?_,λi a ha _=>?_,λi g hg hne=>?_,hd,hB⟩
 ·have:=noRace_append (u:=t) (n0 said) h0 (λi a ha=>by simp[touchAt,Trace.act?] at ha);simpa using this
 ·obtain⟨x,hx,_⟩:=touch_of ha;have:=knows_own hx;rw[h0 x (mem_of_getElem? hx)] at this;exact .inl this
 ·obtain⟨op,ho,A0⟩:=IH.1 hg;exact absurd (A0.symm.trans (h0 op (mem_of_getElem? ho))) hne
end
open Go.ConcX (stA Acq)
structure MX (Wg:Nat)(s' s:Lo):Prop where
 d0:Deaf s 0=Deaf s' 0
 d1:Deaf s 1=Deaf s' 1
 rl:∀q,Released (stA Wg) s' q->∃q',Rl Wg s q'
 aq:Acq Wg s'->Aq Wg s
structure lN (s' s:Lo)(n:Nat):Prop where
 d0:Deaf s 0=Deaf s' 0
 d1:Deaf s 1=n
 z1:Deaf s' 1=0
 w0:∀(i:Nat) (op:MemOp),s'[i]?=K1 op->op.g=1->op.act=.start
section
variable {Wg n:Nat} {s' s t u:Lo} {fn:Nd} {pos:String} {es:Array L2} {g:Nat}
theorem cT:∀op∈ID g fn pos es,op.g=g:=by
 intro op h;rw[ofEvents_eq] at h;obtain⟨e,-,rfl⟩:=Mn.1 h;rfl
theorem lN.norel (h:lN s' s n)(q:Nat):¬ Released (stA Wg) s' q:=by
 intro hr;have hg:=hr.g;have ha:=hr.act;obtain⟨op,ho,A0⟩:=IH.1 hg;rw[act?_of ho,h.w0 q op ho A0] at ha;cases ha
theorem lN.U7 (h:lN s' s 0):MX Wg s' s:=⟨h.d0,h.d1.trans h.z1.symm,λq hr=>absurd hr (h.norel q),λ⟨_,r,hr,_⟩=>absurd hr (h.norel r)⟩
theorem lN.main (h:lN s' s n):lN (s'++ID 0 fn pos es) (s++ID 0 fn pos es) n:=by
 refine⟨by rw[Deaf_own,Deaf_own,h.d0],by rw[Deaf_other s (by decide) _ cT,h.d1],by rw[Deaf_other s' (by decide) _ cT,h.z1],λi op hi hg=>?_⟩;rcases getElem?_append_cases hi with⟨_,x⟩|⟨_,x⟩
 ·exact h.w0 i op x hg
 ·rw[cT op x] at hg;cases hg
theorem lN.work (h:lN s' s n)(hd:∀d,Lz (d+n) es=d+n'):lN s' (s++ID 1 fn pos es) n' :=
 ⟨by rw[Deaf_other s (by decide) _ cT,h.d0],by rw[Deaf_own,h.d1];simpa using hd 0,h.z1,h.w0⟩
theorem Rl.app (h:Rl Wg s n)(hu:∀i,s.size<=i->(s++u).g? i=K1 1->¬ (s++u).counts i)(hw:∀op∈u,op.g=1->∀x,op.act.touch?=K1 x->x.loc.isMemory=K0->Kq (·=Wg) x.loc):Rl Wg (s++u) n:=by
 refine⟨h.1.app hu,λi op x hi ho hg hx hm=>?_⟩;rcases getElem?_append_cases ho with⟨_,y⟩|⟨_,y⟩
 ·exact h.2 i op x hi y hg hx hm
 ·exact hw op y hg x hx hm
theorem Rl.app0 (h:Rl Wg s n)(hu:∀op∈u,op.g=0):Rl Wg (s++u) n:=by
 refine h.app (λi hi hg=>?_) (λop ho hg=>by rw[hu op ho] at hg;cases hg);obtain⟨op,ho,A0⟩:=IH.1 hg;rcases getElem?_append_cases ho with⟨y,_⟩|⟨_,y⟩
 ·omega
 ·rw[hu op y] at A0;cases A0
theorem Aq.app (h:Aq Wg s)(hu:∀r,Rl Wg s r->Rl Wg (s++u) r):Aq Wg (s++u):=by
 obtain⟨q,r,h1,h2,h3,h4,h5⟩:=h;have hq:=lt_of_act? h2;exact⟨q,r,hu r h1,by rw[act?_old hq];exact h2,by rw[g?_old hq];exact h3,(heard_old hq).2 h4,h5⟩
theorem MX.win (h:MX Wg s' s)(hd:∀d,Lz (d+0) es=d+0):MX Wg s' (s++ID 0 fn pos es) :=
 ⟨by rw[Deaf_own,<-h.d0];exact hd _,by rw[Deaf_other s (by decide) _ cT,h.d1],λq hq=>let ⟨q',x⟩:=h.rl q hq;⟨q',x.app0 cT⟩,λha=>(h.aq ha).app λ_ hr=>hr.app0 cT⟩
theorem vm (hj:j<es.size):(t++ID g fn pos es).act? (t.size+j)=K1 (.ofEvent es[j]):=by
 rw[ofEvents_eq];simp[Trace.act?,hj]
theorem zn (hj:j<es.size):(t++ID g fn pos es).g? (t.size+j)=K1 g:=by
 rw[ofEvents_eq];simp[Trace.g?,hj]
theorem nU (hj:j<es.size):(t++ID g fn pos es).heard (t.size+j) ↔ Lz (Deaf t g) (es.extract 0 j)=0:=by
 constructor
 ·rintro⟨g',h1,h2⟩;rw[zn hj] at h1;cases h1
  rwa [deaf_inside t g fn pos es j (N2 hj)] at h2
 ·intro h;exact⟨g,zn hj,by rw[deaf_inside t g fn pos es j (N2 hj)];exact h⟩
theorem qb (hj:j<es.size)(hd:Deaf s g=Deaf s' g)(h:(s++ID g fn pos es).counts (s.size+j)):(s'++ID g fn pos es).counts (s'.size+j):=by
 obtain⟨x,h1,h2,h3⟩:=h;refine⟨x,by rw[vm hj] at h1 ⊢;exact h1,h2,h3.imp id λh=>?_⟩;rw[nU hj] at h ⊢;rw[<-hd];exact h
theorem sR {x:Nat}(h:(t++ID g fn pos es).g? i=K1 x)(hi:t.size<=i):∃j,j<es.size/\i=t.size+j/\x=g:=by
 obtain⟨op,ho,A0⟩:=IH.1 h;have hl:=lt_size_of_getElem? ho;have hs:(t++ID g fn pos es).size=t.size+es.size:=by rw[ofEvents_eq];simp
 rcases getElem?_append_cases ho with⟨y,_⟩|⟨_,y⟩
 ·omega
 ·exact⟨i-t.size,by omega,by omega,by rw[<-A0,cT op y]⟩
theorem xV (hev:∀e∈es,kC Wg e):∀op∈ID g fn pos es,∀x,op.act.touch?=K1 x->x.loc.isMemory=K0->Kq (·=Wg) x.loc:=by
 intro op A0 x hx hm;rw[ofEvents_eq] at A0;obtain⟨e,he,rfl⟩:=Mn.1 A0;have h:=hev e he;obtain⟨l,wr,sy⟩:=e;unfold kC at h;simp only at h;have A1:∀l',L6 (only Wg) l l'->(Ks ⟨l,wr,sy⟩).touch?=K1 x->Kq (·=Wg) x.loc:=by
  intro l' h hx;cases h with
  | @cell a _ ha =>(have:x.loc=.cell a:=by cases wr<;>cases sy<;>simp[Ks,J0] at hx<;>rw[<-hx]);rw[this];exact ha.1.1
  | @obj b _ hb =>(have:x.loc=.obj b:=by cases wr<;>cases sy<;>simp[Ks,J0] at hx<;>rw[<-hx]);rw[this];exact hb.1
  | output =>exfalso;(have:x.loc=.output:=by cases wr<;>cases sy<;>simp[Ks,J0] at hx<;>rw[<-hx]);rw[this] at hm;cases hm
  | goroutines =>exfalso;(have:x.loc=.goroutines:=by cases wr<;>cases sy<;>simp[Ks,J0] at hx<;>rw[<-hx]);rw[this] at hm;cases hm
  | mark hk =>
    cases hk with
    | read ha=>simp[Ks,J0] at hx;rw[<-hx];exact ha.1.1
    | write ha=>simp[Ks,J0] at hx;rw[<-hx];exact ha.1.1
    | _=>simp[Ks,J0] at hx
 exact A1 l h hx
theorem qN {r:Nat}(h:Released (stA Wg) (s'++u) r)(hr:r<s'.size):Released (stA Wg) s' r :=
 ⟨by rw[<-act?_old (u:=u) hr];exact h.act,by rw[<-g?_old (u:=u) hr];exact h.g,(heard_old hr).1 h.heard,λi hi hg=>by
   have hlt:i<s'.size:=by obtain⟨op,ho,_⟩:=IH.1 hg;exact lt_size_of_getElem? ho
   rw[<-counts_old (u:=u) hlt]
   exact h.after i hi (by rw[g?_old hlt];exact hg)⟩
theorem qq (hdg:Deaf s g=Deaf s' g)(hev:∀e∈es,kC Wg e){r:Nat}(hr:r<s'.size)(hrel:Released (stA Wg) (s'++ID g fn pos es) r){r':Nat}(hrl:Rl Wg s r'):Rl Wg (s++ID g fn pos es) r':=by
 refine hrl.app (λi hi hgi hc=>?_) (λop ho _=>xV hev op ho);obtain⟨j,hj,rfl,rfl⟩:=sR hgi hi;exact hrel.after (s'.size+j) (by omega) (zn hj) (qb hj hdg hc)
theorem xl (hdg:Deaf s g=Deaf s' g)(hev:∀e∈es,kC Wg e)(hrl:∀q,Released (stA Wg) s' q->∃q',Rl Wg s q'){q:Nat}(hq:Released (stA Wg) (s'++ID g fn pos es) q):∃q',Rl Wg (s++ID g fn pos es) q':=by
 by_cases hlt:q<s'.size
 ·obtain⟨q',A0⟩:=hrl q (qN hq hlt);exact⟨q',qq hdg hev hlt hq A0⟩
 ·obtain⟨j,hj,rfl,e⟩:=sR hq.g (by omega);subst e;refine⟨s.size+j,⟨by have:=hq.act;rw[vm hj] at this ⊢;exact this,zn hj,?_,λi hi hgi hc=>?_⟩,λi op x hi ho _ hx hm=>?_⟩
  ·have:=hq.heard;rw[nU hj] at this ⊢;rw[hdg];exact this
  ·obtain⟨k,hk,rfl,_⟩:=sR hgi (by omega);exact hq.after (s'.size+k) (by omega) (zn hk) (qb hk hdg hc)
  ·rcases getElem?_append_cases ho with⟨y,_⟩|⟨_,y⟩
   ·omega
   ·exact xV hev op y x hx hm
theorem MX.both (h:MX Wg s' s)(hg:g=0\/g=1)(hev:∀e∈es,kC Wg e):MX Wg (s'++ID g fn pos es) (s++ID g fn pos es):=by
 have A1:Deaf s g=Deaf s' g:=by rcases hg with rfl|rfl;exact h.d0;exact h.d1
 have A4:∀r,r<s'.size->Released (stA Wg) (s'++ID g fn pos es) r->∀r',Rl Wg s r'->Rl Wg (s++ID g fn pos es) r':=λr hr hrel r' A2=>qq A1 hev hr hrel A2;refine⟨?_,?_,λq hq=>?_,λha=>?_⟩
 ·rcases hg with rfl|rfl
  ·rw[Deaf_own,Deaf_own,h.d0]
  ·rw[Deaf_other s (by decide) _ cT,Deaf_other s' (by decide) _ cT,h.d0]
 ·rcases hg with rfl|rfl
  ·rw[Deaf_other s (by decide) _ cT,Deaf_other s' (by decide) _ cT,h.d1]
  ·rw[Deaf_own,Deaf_own,h.d1]
 ·exact xl A1 hev h.rl hq
 ·obtain⟨q,r,hr,hq,A5,A3,A6⟩:=ha;by_cases hlt:q<s'.size
  ·have A8:Acq Wg s':=⟨q,r,qN hr (by omega),by rw[<-act?_old (u:=ID g fn pos es) hlt];exact hq,by rw[<-g?_old (u:=ID g fn pos es) hlt];exact A5,(heard_old hlt).1 A3,A6⟩;exact(h.aq A8).app λr' A0=>A4 r (by omega) hr r' A0
  ·obtain⟨j,hj,rfl,e⟩:=sR A5 (by omega);subst e;(have A2:r<s'.size:=by apply Classical.byContradiction;intro hn;obtain⟨k,_,_,e⟩:=sR hr.g (by omega);cases e);obtain⟨r',A0⟩:=h.rl r (qN hr A2);have A7:=lt_of_act? A0.1.act;refine⟨s.size+j,r',A0.app0 cT,by rw[vm hj] at hq ⊢;exact hq,zn hj,?_,by omega⟩;rw[nU hj] at A3 ⊢;rw[A1];exact A3
structure mO (Wg:Nat)(s' s:Lo)(m:Nat):Prop where
 d0:Deaf s 0=m
 z0:Deaf s' 0=0
 d1:Deaf s 1=Deaf s' 1
 rl:∀q,Released (stA Wg) s' q->∃q',Rl Wg s q'
 na:∀(i:Nat) (op:MemOp),s'[i]?=K1 op->op.g=0->op.act≠.mark (.acquire (stA Wg))
structure mN (Wg:Nat)(s' s:Lo)(m n:Nat):Prop where
 d0:Deaf s 0=m
 z0:Deaf s' 0=0
 d1:Deaf s 1=n
 z1:Deaf s' 1=0
 na:∀(i:Nat) (op:MemOp),s'[i]?=K1 op->op.g=0->op.act≠.mark (.acquire (stA Wg))
 w0:∀(i:Nat) (op:MemOp),s'[i]?=K1 op->op.g=1->op.act=.start
theorem mO.noacq {m:Nat}(h:mO Wg s' s m):¬ Acq Wg s':=by
 rintro⟨q,r,_,hq,hg,_,_⟩;obtain⟨op,ho,A0⟩:=IH.1 hg;rw[act?_of ho] at hq;exact h.na q op ho A0 (Option.some.inj hq)
theorem mO.U7 (h:mO Wg s' s 0):MX Wg s' s:=⟨h.d0.trans h.z0.symm,h.d1,h.rl,λha=>absurd ha h.noacq⟩
theorem mO.win {m:Nat}(h:mO Wg s' s m)(hd:∀d,Lz (d+m) es=d+m'):mO Wg s' (s++ID 0 fn pos es) m' :=
 ⟨by rw[Deaf_own,h.d0];simpa using hd 0,h.z0,by rw[Deaf_other s (by decide) _ cT,h.d1],λq hq=>let ⟨q',x⟩:=h.rl q hq;⟨q',x.app0 cT⟩,h.na⟩
theorem mO.both {m:Nat}(h:mO Wg s' s m)(hev:∀e∈es,kC Wg e):mO Wg (s'++ID 1 fn pos es) (s++ID 1 fn pos es) m:=by
 refine⟨by rw[Deaf_other s (by decide) _ cT,h.d0],by rw[Deaf_other s' (by decide) _ cT,h.z0],by rw[Deaf_own,Deaf_own,h.d1],λq hq=>xl h.d1 hev h.rl hq,λi op hi hg=>?_⟩;rcases getElem?_append_cases hi with⟨_,x⟩|⟨_,x⟩
 ·exact h.na i op x hg
 ·rw[cT op x] at hg;cases hg
theorem mN.win {m:Nat}(h:mN Wg s' s m n)(hd:∀d,Lz (d+m) es=d+m'):mN Wg s' (s++ID 0 fn pos es) m' n :=
 ⟨by rw[Deaf_own,h.d0];simpa using hd 0,h.z0,by rw[Deaf_other s (by decide) _ cT,h.d1],h.z1,h.na,h.w0⟩
theorem mN.work {m:Nat}(h:mN Wg s' s m n)(hd:∀d,Lz (d+n) es=d+n'):mN Wg s' (s++ID 1 fn pos es) m n' :=
 ⟨by rw[Deaf_other s (by decide) _ cT,h.d0],h.z0,by rw[Deaf_own,h.d1];simpa using hd 0,h.z1,h.na,h.w0⟩
theorem mN.U5 (h:mN Wg s' s 0 n):lN s' s n:=⟨h.d0.trans h.z0.symm,h.d1,h.z1,h.w0⟩
theorem mN.U6 {m:Nat}(h:mN Wg s' s m 0):mO Wg s' s m:=⟨h.d0,h.z0,h.d1.trans h.z1.symm,λq hr=>absurd hr (lN.norel (s:=s') (n:=0) ⟨rfl,h.z1,h.z1,h.w0⟩ q),h.na⟩
end
open Go Go.Conc Go.ConcX
variable [Payload]
section
variable {P:Mz} {ty:N1} {Wg C Low:Nat} [Shy Wg C] {aM:List LO} {Mine:Loc->Prop} {AnchW:IF->I3->Prop} {Post:LO->I3->Prop}
omit [Payload] in
theorem ep (w:I3)(a:Addr)(v:LO):(w.setCell a v).heap.size=w.heap.size:=by simp[World.setCell]
omit [Payload] in
theorem sL (hs:w.heap.size<Low)(h:∀b,b<Low->w'.heap[b]?=w.heap[b]?):w'.heap.size<=w.heap.size:=by
 have:=h w.heap.size hs;rw[Array.getElem?_eq_none (IR _)] at this;exact Array.getElem?_eq_none_iff.1 this
omit [Payload] in
theorem dd {m:Bool}{R:I3->I3->Prop}{D:I3->I3->Array L2->Prop}{Stop:IF->I3->Prop}{n:Nat}{g g':IF}{w₁:I3}{es:Array L2}(h:Goes P m R D Stop n g w)(hr:R w w₁)(hs:Kf P m g w₁=.go g' w' es) :
 Stop g w₁\/D w₁ w' es:=by
 rcases h.cases with h|⟨n',_,h⟩
 ·exact .inl (h w₁ hr)
 ·obtain⟨a,b,c,e,d,_⟩:=h w₁ hr;rw[hs] at e;cases e;exact .inr d
theorem pZ (hAn:∀g w,AnchW g w->∃m,Goes P K0 (RPa ty Wg C aM) (DPi Mine Wg C Low) (AtW1 P ty Wg C Low aM Mine AnchW Post) m g w)
  {a:IF}   {t:Lo} (h:JInv P ty Wg C Low aM Mine AnchW Post μ (duo a b w sl) t) (hna:¬ Acquired P ty Wg C Low aM Mine Post (duo a b w sl) t) (hlow:w.heap.size<Low) (d:Nat) :
 (∀a' w' es,a.status=.running->Kf P K0 a (w.at d)=.go a' w' es->w'.heap.size<=w.heap.size)/\(∀b' w' es,b.status=.running->Kf P Jx b (w.at d)=.go b' w' es->w'.heap.size<=w.heap.size):=by
 have A1:∀{w':I3} {es:Array L2},DPi Mine Wg C Low (w.at d) w' es->w'.heap.size<=w.heap.size:=λh=>sL (w:=w.at d) hlow h.1;have sc:∀(x:Addr) (v:LO),((w.at d).setCell x v).heap.size<=w.heap.size:=λx v=>N3 (ep _ _ _);have A0:∀{m:Bool} {g g' g2:IF} {w' w2:I3} {es e2:Array L2},Kf P m g (w.at d)=.go g' w' es->Kf P m g (w.at d)=.go g2 w2 e2->w2.heap.size<=w.heap.size->w'.heap.size<=w.heap.size:=by intro m g g' g2 w' w2 es e2 h1 h2 h3;rw[h1] at h2;cases h2;exact h3
 have pa:∀{rp d0 mp:Nat},PA P ty Wg C Low aM Mine AnchW Post rp d0 mp a w->(WgAt ty Wg w KK 0\/KPc ty Wg C aM w)->∀a' w' es,Kf P K0 a (w.at d)=.go a' w' es->w'.heap.size<=w.heap.size:=by
  intro rp d0 mp hp hk a' w' es hs;have w1:∀{m:Nat} {w₁:I3},w₁=w.at d->Goes P K0 (RPa ty Wg C aM) (DPi Mine Wg C Low) (AtW1 P ty Wg C Low aM Mine AnchW Post) m a w₁->w'.heap.size<=w.heap.size:=by
   intro m w₁ e h;subst e;rcases dd h (RPa.refl _) hs with h|h
   ·obtain⟨_,g',e,_⟩:=h;exact A0 hs e (IR _)
   ·exact A1 h
  cases hp with
  | kd h =>
    rcases dd h (RPa.at w d) hs with h|h
    ·obtain⟨_,g',e,_⟩:=h;exact A0 hs e (IR _)
    ·exact A1 h
  | anch h =>
    rcases dd h (RPa.at w d) hs with h|h
    ·obtain⟨m,h⟩:=hAn _ _ h;exact w1 rfl h
    ·exact A1 h
  | w1 h=>exact w1 rfl (Goes.rely (R:=RPa ty Wg C aM) (λ_ _ _ h1 h2=>RPa.trans h1 h2) h (RPa.at w d))
  | w2 h =>
    rcases dd h (RPa.at w d) hs with h|h
    ·rcases hk with hk|hk
     ·obtain⟨g',e,_⟩:=h.2.1 hk;exact A0 hs e (sc _ _)
     ·obtain⟨g',e,_⟩:=h.2.2 hk;exact A0 hs e (IR _)
    ·exact A1 h
 have pb:∀{rp mp:Nat},PB P ty Wg C Low aM Mine Post rp mp a w->((∃st,WgAt ty Wg w st 0)\/KPf ty Wg C aM w)->∀a' w' es,a.status=.running->Kf P K0 a (w.at d)=.go a' w' es->w'.heap.size<=w.heap.size:=by
  intro rp mp hp hk a' w' es hr hs;cases hp with
  | w3 h =>
    rcases dd h (RPb.at w d) hs with h|h
    ·rcases hk with hk|hk
     ·exact A0 hs (h.2.2.1 hk) (IR _)
     ·obtain⟨g',e,_⟩:=h.2.2.2 hk;exact A0 hs e (sc _ _)
    ·exact A1 h
  | blk h=>cases hr
 have ca:∀{rc d1 mc:Nat} {A2 cl:Bool} {vs:List LO},CA P ty Wg C Low aM Mine rc d1 A2 vs cl mc b w->KCa ty Wg w->∀b' w' es,Kf P Jx b (w.at d)=.go b' w' es->w'.heap.size<=w.heap.size:=by
  intro rc d1 mc A2 cl vs hc hk b' w' es hs;cases hc with
  | r0 h =>
    rcases dd h (RCa.at w d) hs with h|h
    ·obtain⟨_,_,g',e,_⟩:=h;exact A0 hs e (IR _)
    ·exact N3 h.1.size
  | k1 h =>
    rcases dd h (RCa.at w d) hs with h|h
    ·obtain⟨_,g',e,_⟩:=h;exact A0 hs e (IR _)
    ·rw[h.1];exact IR _
  | d1 h =>
    rcases dd h (RCa.at w d) hs with h|h
    ·rcases hk with hk|hk
     ·obtain⟨g',e,_⟩:=h.2.1 hk;exact A0 hs e (sc _ _)
     ·obtain⟨g',e,_⟩:=h.2.2 hk;exact A0 hs e (sc _ _)
    ·rw[h.1];exact IR _
 have cd:∀{rc mc:Nat} {st:Int},CD P Wg Low rc st mc b w->∀b' w' es,Kf P Jx b (w.at d)=.go b' w' es->w'.heap.size<=w.heap.size:=by
  intro rc mc st hc b' w' es hs;cases hc with
  | d2 h =>
    rcases dd h (RCd.at w d) hs with h|h
    ·obtain⟨_,g',e,_⟩:=h;exact A0 hs e (IR _)
    ·rw[h.1];exact IR _
  | d3 h =>
    rcases dd h (RCd.at w d) hs with h|h
    ·obtain⟨_,g',e,_⟩:=h;exact A0 hs e (sc _ _)
    ·rw[h.1];exact IR _
  | d4 h =>
    rcases dd h (RCd.at w d) hs with h|h
    ·obtain⟨_,_,g',e,_⟩:=h;exact A0 hs e (sc _ _)
    ·rw[h.1];exact IR _
 have qs:∀{q d1:Nat},QuitsD P q d1 b->∀b' w' es,b.status=.running->Kf P Jx b (w.at d)=.go b' w' es->w'.heap.size<=w.heap.size:=by
  intro q d1 hq b' w' es hr hs;cases q with
  | zero=>rw[hq.1] at hr;cases hr
  | succ q =>
    rcases hq with⟨hf,_⟩|⟨_,g',e',_,A3,_⟩
    ·rw[hf] at hr;cases hr
    ·exact A0 hs (A3 (w.at d)) (IR _)
 generalize hm:duo a b w sl=m at h;cases h with
 | a a1 b1 w1 sl1 t p d0 d1 rc mc rp mp A2 cl sent vs hs hB hp hc =>obtain⟨rfl,rfl,rfl,rfl⟩:=duo_inj hm;exact⟨λa' w' es _=>pa hp (.inl hB.wg) a' w' es,λb' w' es _=>ca hc (.inl hB.wg) b' w' es⟩
 | b a1 b1 w1 sl1 t p d1 rc mc rp mp A2 cl sent vs hs hB hp hc =>obtain⟨rfl,rfl,rfl,rfl⟩:=duo_inj hm;exact⟨λa' w' es hr=>pb hp (.inl ⟨_,hB.wg⟩) a' w' es hr,λb' w' es _=>ca hc (.inr hB.wg) b' w' es⟩
 | c a1 b1 w1 sl1 t p d0 d1 q rp mp hB hp hq =>obtain⟨rfl,rfl,rfl,rfl⟩:=duo_inj hm;exact⟨λa' w' es _=>pa hp (.inr ⟨hB.wg,hB.ch⟩) a' w' es,qs hq⟩
 | d a1 b1 w1 sl1 t p rc mc rp mp st hB hp hc =>obtain⟨rfl,rfl,rfl,rfl⟩:=duo_inj hm;exact⟨λa' w' es hr=>pb hp (.inl ⟨_,hB.wg⟩) a' w' es hr,λb' w' es _=>cd hc b' w' es⟩
 | f a1 b1 w1 sl1 t p d1 q mp hB hp hq =>obtain⟨rfl,rfl,rfl,rfl⟩:=duo_inj hm;exact⟨λa' w' es hr=>pb hp (.inr ⟨hB.wg,hB.ch⟩) a' w' es hr,qs hq⟩
 | j a1 b1 w1 sl1 t p d0 d1 k rp mp r q vs hr hB hp hacq hq =>
   obtain⟨rfl,rfl,rfl,rfl⟩:=duo_inj hm;refine⟨λa' w' es _ hs=>?_,qs hq⟩;cases hp with
   | w4 h =>
     rcases dd h (AtRel.at w d) hs with h|h
     ·obtain⟨_,g',e,_⟩:=h;exact A0 hs e (IR _)
     ·exact A1 h
   | ke h =>
     rcases dd h (AtRel.at w d) hs with h|h
     ·obtain⟨_,g',e,_⟩:=h;exact A0 hs e (IR _)
     ·exact A1 h
   | acq h =>
     rcases dd h (AtRel.at w d) hs with h|h
     ·obtain⟨_,g',e,_⟩:=h;exact A0 hs e (IR _)
     ·exact A1 h
   | ret h=>exact absurd ⟨_,_,_,_,p,d1,k,_,r,_,rfl,hB,h,hacq rfl,hq⟩ hna
theorem jq (hAr:∀g w,AnchW g w->g.status=.running){a:IF}{t:Lo}(h:JInv P ty Wg C Low aM Mine AnchW Post μ (duo a b w sl) t) :
 (a.status=.running\/a.status=.blocked)/\(b.status=.running\/∃q d,QuitsD P q d b):=by
 generalize hm:duo a b w sl=m at h;cases h with
 | a a1 b1 w1 sl1 t p d0 d1 rc mc rp mp rel cl sent vs hs hB hp hc =>obtain⟨rfl,rfl,rfl,rfl⟩:=duo_inj hm;exact⟨.inl (hp.running hAr),.inl hc.running⟩
 | b a1 b1 w1 sl1 t p d1 rc mc rp mp rel cl sent vs hs hB hp hc =>obtain⟨rfl,rfl,rfl,rfl⟩:=duo_inj hm;exact⟨hp.status.elim (λx=>.inl x.2) (λx=>.inr x.2.1),.inl hc.running⟩
 | c a1 b1 w1 sl1 t p d0 d1 q rp mp hB hp hq =>obtain⟨rfl,rfl,rfl,rfl⟩:=duo_inj hm;exact⟨.inl (hp.running hAr),.inr ⟨_,_,hq⟩⟩
 | d a1 b1 w1 sl1 t p rc mc rp mp st hB hp hc =>obtain⟨rfl,rfl,rfl,rfl⟩:=duo_inj hm;exact⟨hp.status.elim (λx=>.inl x.2) (λx=>.inr x.2.1),.inl hc.running⟩
 | f a1 b1 w1 sl1 t p d1 q mp hB hp hq =>obtain⟨rfl,rfl,rfl,rfl⟩:=duo_inj hm;exact⟨hp.status.elim (λx=>.inl x.2) (λx=>.inr x.2.1),.inr ⟨_,_,hq⟩⟩
 | j a1 b1 w1 sl1 t p d0 d1 k rp mp r q vs hr hB hp hacq hq =>obtain⟨rfl,rfl,rfl,rfl⟩:=duo_inj hm;exact⟨.inl hp.running,.inr ⟨_,_,hq⟩⟩
def L8 (g:IF):Prop:=Fatal g/\(g.status=.running\/g.status=.blocked)
omit [Payload] in
theorem eQ {m:Bool}{g:IF}(h:Fatal g):(∃g' w' es,Kf P m g w=.go g' w' es/\L8 g')\/∃o w' es,Kf P m g w=.ended o w' es:=by
 obtain⟨fr,cs,st,dy,A0⟩:=g;obtain⟨d,h1,h2,h3⟩:=h;simp only at h1;subst h1;obtain⟨d1,d2,d3,d4,d5,d6,d7⟩:=d;simp only at h2 h3;subst h2;cases d7 with
 | none=>cases h3
 | some f =>
   unfold Kf;dsimp only;unfold die;dsimp only;unfold writeOn;dsimp only;(repeat' split);all_goals first
    | exact .inr ⟨_,_,_,rfl⟩
    | exact .inl ⟨_,_,_,rfl,⟨_,rfl,rfl,rfl⟩,.inl rfl⟩
    | exact .inl ⟨_,_,_,rfl,⟨_,rfl,rfl,rfl⟩,.inr rfl⟩
omit [Payload] in
theorem zV:∀{n d:Nat} {g:IF},QuitsD P n d g->¬ L8 g:=by
 intro n;induction n with
 | zero=>intro d g h hf;rcases hf.2 with x|x<;>rw[h.1] at x<;>cases x
 | succ n ih =>
   intro d g h hf;rcases h with⟨h,_⟩|⟨_,g',es,_,hs,hq⟩
   ·rcases hf.2 with x|x<;>rw[h] at x<;>cases x
   ·rcases eQ (P:=P) (m:=Jx) (w:=default) hf.1 with⟨g2,w2,e2,h1,h2⟩|⟨o,w2,e2,h1⟩
    ·rw[hs] at h1;cases h1;exact ih hq h2
    ·rw[hs] at h1;cases h1
omit [Payload] in
theorem yX {g:IF}(h:L8 g):L8 (g.again w):=by
 obtain⟨⟨d,h1,h2,h3⟩,h4⟩:=h;unfold Goroutine.again;dsimp only;repeat' split
 all_goals first
  | exact⟨⟨d,h1,h2,h3⟩,h4⟩
  | exact⟨⟨d,h1,h2,h3⟩,.inl rfl⟩
omit [Payload] in
theorem qm {g g1 g2:IF}(h:L8 g):L8 (woken P g1 g2 w g):=by
 unfold Kx;split
 ·exact yX h
 ·exact h
theorem uC (hW:Wg<Low)(hC:C<Low)(hCW:C≠Wg)(hAr:∀g w,AnchW g w->g.status=.running)(hstop:∀g w,Shy.stop Wg C g w->g.dying=Lq)
 (hAn:∀g w,AnchW g w->∃m,Goes P K0 (RPa ty Wg C aM) (DPi Mine Wg C Low) (AtW1 P ty Wg C Low aM Mine AnchW Post) m g w) :
 ∀(μ:Nat×Nat×Nat×Nat) (a b:IF) (w:I3) (t:Lo),JInv P ty Wg C Low aM Mine AnchW Post μ (duo a b w Lq) t->¬ L8 a/\¬ L8 b:=by
 have A7:∀{a b:IF} {w:I3} {t:Lo},Acquired P ty Wg C Low aM Mine Post (duo a b w Lq) t->¬ L8 a/\¬ L8 b:=by
  rintro a b w t ⟨a1,b1,w1,A9,p,d1,k,mp,r,vs,e,hB,hG,hA,hq⟩;obtain⟨rfl,rfl,rfl,-⟩:=duo_inj e;refine⟨?_,zV hq⟩;clear hA hB e hq;induction mp generalizing a w with
  | zero=>intro hf;obtain⟨⟨d,h1,_⟩,_⟩:=hf;have:=hstop _ _ (hG w (AtRel.refl w)).2;rw[this] at h1;cases h1
  | succ n ih =>
    intro hf;rcases hG with hG|⟨_,hG⟩
    ·obtain⟨⟨d,h1,_⟩,_⟩:=hf;have:=hstop _ _ (hG w (AtRel.refl w)).2;rw[this] at h1;cases h1
    ·have hs:=hG w (AtRel.refl w);rcases eQ (P:=P) (m:=K0) (w:=w) hf.1 with⟨g2,w2,e2,h1,h2⟩|⟨o,w2,e2,h1⟩
     ·rw[h1,goes_go] at hs;exact ih hs.2 h2
     ·rw[h1] at hs;exact hs
 intro μ;induction μ using lt4_wf.induction with
 | _ μ ih =>
   intro a b w t h;obtain⟨a1,b1,w1,A9,e,_,_,A5,Aa⟩:=h.shape hAr;obtain⟨rfl,rfl,rfl,-⟩:=duo_inj e;have A4:∀(ha:a.status=.running),Acquired P ty Wg C Low aM Mine Post (duo a b w Lq) t\/∃a' w' es μ',Kf P K0 a w=.go a' w' es/\Lt4 μ' μ/\∃t',JInv P ty Wg C Low aM Mine AnchW Post μ' (duo a' (woken P a a' w' b) w' Lq) t':=by
    intro ha;rcases join_step hW hC hCW hAr hAn μ _ t h (runTX P (duo a b w Lq) 0) (λa2 b2 w2 sl2 e2=>by obtain⟨rfl,rfl,rfl,rfl⟩:=duo_inj e2;exact⟨w.drawn,Lq,.inl ⟨ha,rfl⟩⟩) with A0|⟨m',ops,μ',hX,A2,A1⟩
    ·exact .inl A0
    ·rw[duo_eq_crowd] at hX;obtain⟨g0,g',w',es,A8,A3,rfl,rfl⟩:=runTX_next hX;(obtain rfl:g0=a:=by simpa using A8.symm);(have em:crowd ((#[g0,b].map (Kx P g0 g' w')).setIfInBounds 0 g') w' Lq=duo g' (Kx P g0 g' w' b) w' Lq:=by simp[crowd,duo]);rw[em] at A1;exact .inr ⟨g',w',es,μ',A3,A2,_,A1⟩
   have A6:∀(hb:b.status=.running),Acquired P ty Wg C Low aM Mine Post (duo a b w Lq) t\/∃b' w' es μ',Kf P Jx b w=.go b' w' es/\Lt4 μ' μ/\∃t',JInv P ty Wg C Low aM Mine AnchW Post μ' (duo (woken P b b' w' a) b' w' Lq) t':=by
    intro hb;rcases join_step hW hC hCW hAr hAn μ _ t h (runTX P (duo a b w Lq) 1) (λa2 b2 w2 sl2 e2=>by obtain⟨rfl,rfl,rfl,rfl⟩:=duo_inj e2;exact⟨w.drawn,Lq,.inr ⟨hb,rfl⟩⟩) with A0|⟨m',ops,μ',hX,A2,A1⟩
    ·exact .inl A0
    ·rw[duo_eq_crowd] at hX;obtain⟨g0,g',w',es,A8,A3,rfl,rfl⟩:=runTX_next hX;(obtain rfl:g0=b:=by simpa using A8.symm);(have em:crowd ((#[a,g0].map (Kx P g0 g' w')).setIfInBounds 1 g') w' Lq=duo (Kx P g0 g' w' a) g' w' Lq:=by simp[crowd,duo]);rw[em] at A1;exact .inr ⟨g',w',es,μ',A3,A2,_,A1⟩
   refine⟨λhf=>?_,λhf=>?_⟩
   ·rcases A5 with ha|hb
    ·rcases A4 ha with A0|⟨a',w',es,μ',A3,A2,t',A1⟩
     ·exact(A7 A0).1 hf
     ·rcases eQ (P:=P) (m:=K0) (w:=w) hf.1 with⟨g2,w2,e2,h1,h2⟩|⟨o,w2,e2,h1⟩
      ·rw[A3] at h1;cases h1;exact(ih μ' A2 _ _ _ _ A1).1 h2
      ·rw[A3] at h1;cases h1
    ·rcases A6 hb with A0|⟨b',w',es,μ',A3,A2,t',A1⟩
     ·exact(A7 A0).1 hf
     ·exact(ih μ' A2 _ _ _ _ A1).1 (qm hf)
   ·rcases A5 with ha|hb
    ·rcases A4 ha with A0|⟨a',w',es,μ',A3,A2,t',A1⟩
     ·exact(A7 A0).2 hf
     ·exact(ih μ' A2 _ _ _ _ A1).2 (qm hf)
    ·rcases A6 hb with A0|⟨b',w',es,μ',A3,A2,t',A1⟩
     ·exact(A7 A0).2 hf
     ·rcases eQ (P:=P) (m:=Jx) (w:=w) hf.1 with⟨g2,w2,e2,h1,h2⟩|⟨o,w2,e2,h1⟩
      ·rw[A3] at h1;cases h1;exact(ih μ' A2 _ _ _ _ A1).2 h2
      ·rw[A3] at h1;cases h1
end
end Go.Proofs.Rn
namespace Go.Proofs.Rn
open Go Go.Conc Go.ConcX
variable [Payload]
def LF:Loc->Prop:=λ_=>False
def QF:LO->I3->Prop:=λ_ _=>True
section
variable {P:Mz} {ty:N1} {Wg C Low:Nat} [Shy Wg C] {aM:List LO} {Mine:Loc->Prop} {AnchW:IF->I3->Prop} {Post:LO->I3->Prop}
theorem fw {μ:Nat×Nat×Nat×Nat}{a b:IF}{w:I3}{sl:Option (Nat×Nat)}{t:Lo}(h:JInv P ty Wg C Low aM Mine AnchW Post μ (duo a b w sl) t):(∃st sm,WgAt ty Wg w st sm)/\∃p,JT Mine Wg C t p:=by
 generalize hm:duo a b w sl=m at h;cases h with
 | a a1 b1 w1 sl1 t p d0 d1 rc mc rp mp rel cl sent vs hs hB hp hc=>obtain⟨rfl,rfl,rfl,rfl⟩:=duo_inj hm;exact⟨⟨_,_,hB.wg⟩,_,hB.jt⟩
 | b a1 b1 w1 sl1 t p d1 rc mc rp mp rel cl sent vs hs hB hp hc=>obtain⟨rfl,rfl,rfl,rfl⟩:=duo_inj hm;exact⟨⟨_,_,hB.wg⟩,_,hB.jt⟩
 | c a1 b1 w1 sl1 t p d0 d1 q rp mp hB hp hq=>obtain⟨rfl,rfl,rfl,rfl⟩:=duo_inj hm;exact⟨⟨_,_,hB.wg⟩,_,hB.jt⟩
 | d a1 b1 w1 sl1 t p rc mc rp mp st hB hp hc=>obtain⟨rfl,rfl,rfl,rfl⟩:=duo_inj hm;exact⟨⟨_,_,hB.wg⟩,_,hB.jt⟩
 | f a1 b1 w1 sl1 t p d1 q mp hB hp hq=>obtain⟨rfl,rfl,rfl,rfl⟩:=duo_inj hm;exact⟨⟨_,_,hB.wg⟩,_,hB.jt⟩
 | j a1 b1 w1 sl1 t p d0 d1 k rp mp r q vs hr hB hp hacq hq=>obtain⟨rfl,rfl,rfl,rfl⟩:=duo_inj hm;exact⟨⟨_,_,hB.wg⟩,_,hB.jt⟩
omit [Payload] in
theorem nj {s':Lo}{g:Nat}{fn:Nd}{pos:String}{es:Array L2}{p:Nat}(hj:JT LF Wg C (s'++ID g fn pos es) p)(_:g=0\/g=1)(hev:∀e∈es,kC Wg e)(hC:C≠Wg)(hw:Wg<Low) :
 ∀op∈ID g fn pos es,(∀x,op.act.touch?=K1 x->x.loc.isMemory=K0->(OfWg Wg x.loc/\x.kind≠.plain/\(g=1->x.kind=.atomic))\/(x.loc=.obj Wg/\x.write=Jx))/\op.act≠.mark (.release (stA Wg))/\(∀k,op.act≠.go k)/\op.act.low Low:=by
 intro op A2;obtain⟨j,A1,rfl⟩:=Lw.1 A2;have A6:j<es.size:=by rw[ofEvents_eq] at A1;simpa using A1
 have hi:(s'++ID g fn pos es)[s'.size+j]?=K1 (ID g fn pos es)[j]:=by simp[A1]
 have hp:p+1<s'.size:=by
  obtain⟨y,hy,_,A3⟩:=hj.fm.start;rcases getElem?_append_cases hy with⟨h,_⟩|⟨_,h⟩
  ·exact h
  ·rw[ofEvents_eq] at h;obtain⟨e,-,rfl⟩:=Mn.1 h;obtain⟨l,a,b⟩:=e;cases l<;>cases a<;>cases b<;>cases A3
 have he:(ID g fn pos es)[j]={ g,fn,pos,act:=.ofEvent es[j] }:=by simp[ofEvents_eq]
 refine⟨λx hx hm=>?_,λe=>hj.norel (s'.size+j) (by rw[act?_of hi,e]),λk e=>?_,?_⟩
 ·have A0:=xV hev _ A2 x hx hm;have hl:=(hj.fm.late _ _ hi (by omega)).2 x hx;have hq:=hj.quiet _ _ x hi hx;(have A5:(ID g fn pos es)[j].g=g:=by rw[he]);rw[A5] at hl hq;cases hloc:x.loc with
  | cell a =>
    rw[hloc] at A0;have A0:a.block=Wg:=A0;obtain⟨q1,q2⟩:=hq (.inl ⟨a,hloc,A0⟩);refine .inl ⟨⟨a,rfl,A0⟩,q1,λe=>?_⟩;cases hk:x.kind with
    | atomic=>rfl
    | plain=>exact absurd hk q1
    | said=>have:=q2 hk;omega
  | obj b =>
    rw[hloc] at A0;have A0:b=Wg:=A0;subst A0;refine .inr ⟨rfl,?_⟩;rcases hl with h|⟨_,h⟩|⟨_,h,_⟩
    ·exfalso;rcases h with(⟨a,h,_⟩|h)|⟨a,h,_⟩
     ·rw[hloc] at h;cases h
     ·rw[hloc] at h;cases h;exact hC rfl
     ·rw[hloc] at h;cases h
    ·cases hwr:x.write with
     | false=>rfl
     | true=>exact(h hwr).elim
    ·exact h
  | _=>rw[hloc] at hm;cases hm
 ·rw[he] at e;exact ofEvent_ne_go _ k e
 ·rw[he];have h:=hev es[j] (by simp);generalize es[j]=e at h;obtain⟨l,a,b⟩:=e;unfold kC at h;simp only at h;have A4:∀l',L6 (only Wg) l l'->(Ks ⟨l,a,b⟩).low Low:=by
   intro l' h;cases h with
   | cell ha=>cases a<;>cases b<;>(show _<_;rw[ha.1.1];exact hw)
   | obj hb=>cases a<;>cases b<;>(show _<_;rw[hb.1];exact hw)
   | output=>cases a<;>cases b<;>trivial
   | goroutines=>cases a<;>cases b<;>trivial
   | mark hk =>
     cases hk with
     | acquire ha=>show _<_;rw[ha.1.1];exact hw
     | release ha=>show _<_;rw[ha.1.1];exact hw
     | releaseMerge ha=>show _<_;rw[ha.1.1];exact hw
     | read ha=>show _<_;rw[ha.1.1];exact hw
     | write ha=>show _<_;rw[ha.1.1];exact hw
     | _=>trivial
  exact A4 l h
end
def u9 (P:Mz):Nat->IF->Prop
 | 0,g=>g.status=.running/\∀w,∃o w' es,Kf P Jx g w=.ended o w' es
 | n+1,g=>g.status=.running/\∃g',(∀w,Kf P Jx g w=.go g' w #[])/\u9 P n g'
omit [Payload] in
theorem nq {P:Mz}:∀{n:Nat} {g:IF},u9 P n g->∀{k d:Nat},¬ QuitsD P k d g:=by
 intro n;induction n with
 | zero =>
   intro g h k d hq;cases k with
   | zero=>have:=hq.1;rw[h.1] at this;cases this
   | succ k =>
     rcases hq with⟨hf,_⟩|⟨_,g',es,_,hs,_⟩
     ·rw[h.1] at hf;cases hf
     ·obtain⟨o,w',e',he⟩:=h.2 default;rw[hs] at he;cases he
 | succ n ih =>
   intro g h k d hq;obtain⟨h0,g',h1,h2⟩:=h;cases k with
   | zero=>have:=hq.1;rw[h0] at this;cases this
   | succ k =>
     rcases hq with⟨hf,_⟩|⟨_,g2,es,_,hs,A0⟩
     ·rw[h0] at hf;cases hf
     ·have:=(hs default).symm.trans (h1 default);cases this;exact ih h2 A0
structure iz (E:Env)(ty:N1)(Wg C Low:Nat) [Shy Wg C] (aM:List LO)(AnchW:IF->I3->Prop)(cW dZ c0:J1)(CB DZ:List J1)(bA bB:Nd->CallKind->Prop):Prop where
 hE:aS E
 lv:¬ E.lv
 G:∀i,¬ E.G i
 O:∀c,¬ E.Op c
 hW:Wg<Low
 hC:C<Low
 hCW:C≠Wg
 hAr:∀g w,AnchW g w->g.status=.running
 hAn:∀g w,AnchW g w->∃m,Goes E.P K0 (RPa ty Wg C aM) (DPi LF Wg C Low) (AtW1 E.P ty Wg C Low aM LF AnchW QF) m g w
 stop:∀g w,Shy.stop Wg C g w->g=Gr (cW.finish (.tuple #[])) []
 Q6:∀v w,∃o w' es,Kf E.P K0 (Gr (cW.finish v) []) w=.ended o w' es
 ML:∀ch w,∃o w' es,Kf E.P K0 (Gr (cW.raise ch) []) w=.ended o w' es
 OE:∀ch,cW.raise ch≠cW.finish (.tuple #[])
 Q5:∀ch,∃n,u9 E.P n (Gr (dZ.raise ch) DZ)
 quit:∃q,QuitsD E.P q 0 (Gr (c0.finish (.tuple #[])) CB)
 Q7:∀f k,bA f k->k=.normal/\∃fn,E.P.funcs[f]?=K1 fn/\fn.results=#[]
 U9:∀f k,bB f k->k=.normal/\∃fn,E.P.funcs[f]?=K1 fn/\fn.results=#[]
structure kM (Wg Low:Nat)(w W:I3):Prop where
 same:W.heap[Wg]?=w.heap[Wg]?
 env:W.os.env=w.os.env
 tape:W.tape=w.tape
 sz:w.heap.size<Low
 big:gN<=w.heap.size/\gN<=W.heap.size
section
variable {E:Env} {ty:N1} {Wg C Low:Nat} [Shy Wg C] {aM:List LO} {AnchW:IF->I3->Prop} {cW dZ c0:J1} {CB DZ:List J1} {bA bB:Nd->CallKind->Prop} {a b:IF} {w W:I3} {s':Lo} {μ:Nat×Nat×Nat×Nat}
abbrev JI (E:Env) (ty:N1) (Wg C Low:Nat) [Shy Wg C] (aM:List LO) (AnchW:IF->I3->Prop) (μ:Nat×Nat×Nat×Nat) (a b:IF) (w:I3) (s':Lo):Prop:=JInv E.P ty Wg C Low aM LF AnchW QF μ (duo a b w Lq) s'
abbrev AQ (E:Env) (ty:N1) (Wg C Low:Nat) [Shy Wg C] (aM:List LO) (a b:IF) (w:I3) (s':Lo):Prop:=Acquired E.P ty Wg C Low aM LF QF (duo a b w Lq) s'
omit [Payload] in
theorem kM.LD (hp:kM Wg Low w W){st sm:Int}(hw:WgAt ty Wg w st sm)(d:Nat):xL Wg (w.at d) (W.at d) :=
 ⟨⟨_,_,_,hw,hp.same.trans hw,λv hv=>by simp at hv;rcases hv with rfl|rfl<;>exact⟨_,_,rfl⟩⟩,hp.env,hp.big⟩
theorem UG (S:iz E ty Wg C Low aM AnchW cW dZ c0 CB DZ bA bB)(h:JI E ty Wg C Low aM AnchW μ a b w s')(hn:¬ AQ E ty Wg C Low aM a b w s')(ha:a.status=.running)(d:Nat) :
 ∃a' w' es μ',Kf E.P K0 a (w.at d)=.go a' w' es/\Lt4 μ' μ/\JI E ty Wg C Low aM AnchW μ' a' (woken E.P a a' w' b) w' (s'++ID 0 a.frame.fn a.frame.place es):=by
 rcases join_step S.hW S.hC S.hCW S.hAr S.hAn μ _ s' h (runTX E.P (duo a b (w.at d) Lq) 0) (λa2 b2 w2 sl2 e2=>by obtain⟨rfl,rfl,rfl,rfl⟩:=duo_inj e2;exact⟨d,Lq,.inl ⟨ha,rfl⟩⟩) with hacq|⟨m',ops,μ',hX,hlt,hJ'⟩
 ·exact absurd hacq hn
 ·rw[duo_eq_crowd] at hX;obtain⟨g0,g',w',es,A1,A0,rfl,rfl⟩:=runTX_next hX;(obtain rfl:g0=a:=by simpa using A1.symm);(have em:crowd ((#[g0,b].map (Kx E.P g0 g' w')).setIfInBounds 0 g') w' Lq=duo g' (Kx E.P g0 g' w' b) w' Lq:=by simp[crowd,duo]);rw[em] at hJ';exact⟨g',w',es,μ',A0,hlt,hJ'⟩
theorem Tf (S:iz E ty Wg C Low aM AnchW cW dZ c0 CB DZ bA bB)(h:JI E ty Wg C Low aM AnchW μ a b w s')(hn:¬ AQ E ty Wg C Low aM a b w s')(hb:b.status=.running)(d:Nat) :
 ∃b' w' es μ',Kf E.P Jx b (w.at d)=.go b' w' es/\Lt4 μ' μ/\JI E ty Wg C Low aM AnchW μ' (woken E.P b b' w' a) b' w' (s'++ID 1 b.frame.fn b.frame.place es):=by
 rcases join_step S.hW S.hC S.hCW S.hAr S.hAn μ _ s' h (runTX E.P (duo a b (w.at d) Lq) 1) (λa2 b2 w2 sl2 e2=>by obtain⟨rfl,rfl,rfl,rfl⟩:=duo_inj e2;exact⟨d,Lq,.inr ⟨hb,rfl⟩⟩) with hacq|⟨m',ops,μ',hX,hlt,hJ'⟩
 ·exact absurd hacq hn
 ·rw[duo_eq_crowd] at hX;obtain⟨g0,g',w',es,A1,A0,rfl,rfl⟩:=runTX_next hX;(obtain rfl:g0=b:=by simpa using A1.symm);(have em:crowd ((#[a,g0].map (Kx E.P g0 g' w')).setIfInBounds 1 g') w' Lq=duo (Kx E.P g0 g' w' a) g' w' Lq:=by simp[crowd,duo]);rw[em] at hJ';exact⟨g',w',es,μ',A0,hlt,hJ'⟩
theorem E4 (S:iz E ty Wg C Low aM AnchW cW dZ c0 CB DZ bA bB)(h:JI E ty Wg C Low aM AnchW μ a b w s'):¬ L8 a/\¬ L8 b :=
 uC S.hW S.hC S.hCW S.hAr (λg w hg=>by rw[S.stop g w hg];rfl) S.hAn μ a b w s' h
theorem EE (S:iz E ty Wg C Low aM AnchW cW dZ c0 CB DZ bA bB):∀{n:Nat} {b:IF},u9 E.P n b->∀{μ:Nat×Nat×Nat×Nat} {a:IF} {w:I3} {s':Lo},¬ JI E ty Wg C Low aM AnchW μ a b w s':=by
 have na:∀{n:Nat} {b:IF},u9 E.P n b->∀{a:IF} {w:I3} {s':Lo},¬ AQ E ty Wg C Low aM a b w s':=by rintro n b hd a w s' ⟨a1,b1,w1,A0,p,d1,k,mp,r,vs,e,hB,hG,hA,hq⟩;obtain⟨rfl,rfl,rfl,-⟩:=duo_inj e;exact nq hd hq
 intro n;induction n with
 | zero =>intro b hd μ a w s' h;obtain⟨b',w',es,μ',h1,_⟩:=Tf S h (na hd) hd.1 0;obtain⟨o,w2,e2,h2⟩:=hd.2 (w.at 0);rw[h1] at h2;cases h2
 | succ n ih =>intro b hd μ a w s' h;obtain⟨b',w',es,μ',h1,_,h3⟩:=Tf S h (na hd) hd.1 0;obtain⟨h0,g',h4,h5⟩:=hd;rw[h4] at h1;cases h1;exact ih h5 h3
end
end Go.Proofs.Rn

/-part 16-/
import Derived.Test.YtmehkneofinmiabGreatDoorP15
open Go.MemOp renaming ofEvents->ID
open Go renaming Goroutine->IF,World->IH,runNT->IR,Frame->I3,stepG->Jx
namespace Go.Proofs.Rn
open Go Go.Conc Go.ConcX
variable {T:Trace}{es:Array Event}{E:Env}{W:IH}{Wg:Nat}
def L0 (T:Trace)(d:Nat):Prop:=(∀op∈T,op.g=0)/\Deaf T 0=d
def EX (P:Program)(R:Value->IH->Prop)(d:Nat)(g:IF)(w:IH):Prop:=∀T,L0 T d->iL P R (solo g w) T
def BX (P:Program)(R:Value->IH->Prop)(Wg:Nat)(A:IF)(W:IH):Prop:=∀k b sl T d,QuitsD P k (Deaf T 1) b->jz Wg T->Deaf T 0=0->iL P R (duo A b (W.at d) sl) T
section
variable {P:Program} {R:Value->IH->Prop} {d d':Nat} {g g':IF} {w w':IH}
theorem L0.app (h:L0 T d){fn:FuncId}{pos:String}(hd:deafBehind d es=d'):L0 (T++ID 0 fn pos es) d' :=
 ⟨λop hop=>(Array.mem_append.1 hop).elim (h.1 op) (cT op),by rw[Deaf_own,h.2,hd]⟩
theorem EX.go (hr:g.status=.running)(hs:Jx P true g w=.go g' w' es)(hd:deafBehind d es=d')(h:EX P R d' g' w'):EX P R d g w:=λ_ hT =>
 iL.step ((stepT_solo hr).trans (runT_solo_go hs)) (h _ (hT.app hd))
theorem EX.ctl (hr:g.status=.running)(hs:Jx P true g w=.go g' w' #[])(h:EX P R d g' w'):EX P R d g w:=.go hr hs rfl h
theorem EX.goes {D:IH->IH->Array Event->Prop}{Stop:IF->IH->Prop}(hD:∀w w' es,D w w' es->∀e∈es,e.loc≠.mark .disable/\e.loc≠.mark .enable):∀{n:Nat} {g:IF} {w:IH},Goes P true AtRel D Stop n g w->(∀g' w',Stop g' w'->EX P R d g' w')->EX P R d g w:=by
 intro n;induction n with
 | zero=>intro g w hG hs;exact hs _ _ (hG w (atRel_refl w))
 | succ n ih =>
   intro g w hG hs;rcases hG with hG|⟨hr,hG⟩
   ·exact hs _ _ (hG w (atRel_refl w))
   ·have h1:=hG w (atRel_refl w);cases hst:Jx P true g w with
    | go g' w' es =>rw[hst,goes_go] at h1;exact .go hr hst (deafBehind_still (hD _ _ _ h1.1) _) (ih h1.2 hs)
    | _=>rw[hst] at h1;exact h1.elim
theorem jP:∀{n k:Nat} {m m':Machine} {t t':Trace} {x:Stepped×Trace},IR P n m t=(.next m',t')->IR P k m' t'=x->IR P (n+k) m t=x:=by
 intro n;induction n with
 | zero=>intro k m m' t t' x h1 h2;simp only[IR,Prod.mk.injEq,Stepped.next.injEq] at h1;obtain⟨rfl,rfl⟩:=h1;rw[Nat.zero_add];exact h2
 | succ n ih =>
   intro k m m' t t' x h1 h2;(have e:n+1+k=(n+k)+1:=by omega);rw[e];simp only[IR] at h1 ⊢;rcases hs:stepT P m with⟨s,A0⟩;rw[hs] at h1;cases s with
   | next m1=>exact ih h1 h2
   | ended o w=>cases h1
theorem qd {n k:Nat}{m m':Machine}{x:Stepped}(h1:runN P n m=.next m')(h2:runN P k m'=x):runN P (n+k) m=x:=by
 have e1:IR P n m #[]=(.next m',(IR P n m #[]).2):=Prod.ext (by rw[runNT_fst];exact h1) rfl;have:=jP (x:=(x,(IR P k m' (IR P n m #[]).2).2)) e1 (Prod.ext (by rw[runNT_fst];exact h2) rfl);have:=congrArg Prod.fst this;rw[runNT_fst] at this;exact this
theorem EX.follow (hE:aS E)(hO:Mm E)(hl:E.lv){T:I3->List I3->IH->Prop}{fr FR:I3}{IC I1 cs:List I3}{w:IH}{q:Nat}{r:Rel}(Og:Tw E q r fr IC w FR I1 W)(hr:Reach E.P T fr IC w)(hT:∀fr IC w,T fr IC w->fr.mode=.run/\¬ pP fr.todo/\¬ bY (fr::IC))
 (h:∀fr' IL w' q' r' VN Rj W',T fr' IL w'->Tw E q' r' fr' IL w' VN Rj W'->Fr E r r' w w' W W'->EX E.P R q' (G VN (Rj++cs)) W'):EX E.P R q (G FR (I1++cs)) W:=by
 intro T₀ hT₀;obtain⟨fr',IL,w',⟨n,hn⟩,ht⟩:=hr [aP];obtain⟨h1,h2,h3⟩:=hT _ _ _ ht;obtain⟨_,U,q2,r2,A2,A0,W2,a1,a2,a3,a4,a5⟩:=Rn.follow hE hO hl h1 h2 h3 cs n q r fr IC w FR I1 W T₀ Og hn;obtain⟨N,A1,o,w2,t',e1,e2,e3,e4⟩:=h fr' IL w' q2 r2 A2 A0 W2 ht a3 a5 (T₀++U) ⟨λop hop=>(Array.mem_append.1 hop).elim (hT₀.1 op) (a2 op),by have:=a4 0 (by rw[hT₀.2];simp);simpa using this⟩;refine⟨n+N,A1,o,w2,t',?_,?_,e3,e4⟩
 ·(have:n+N+1=n+(N+1):=by omega);rw[this];exact jP a1 e1
 ·(have e0:runN E.P n (solo (G FR (I1++cs)) W)=.next (solo (G A2 (A0++cs)) W2):=by have:=congrArg Prod.fst a1;rw[runNT_fst] at this;exact this);exact qd e0 e2
theorem BX.ctl {A A':IF}(hr:A.status=.running)(hs:∀W₁,Jx P true A W₁=.go A' W₁ #[])(h:BX P R Wg A' W):BX P R Wg A W:=by
 intro k;induction k with
 | zero =>
   intro b sl T d hq hp hd;obtain⟨d',A2,A0⟩:=duo_pick (P:=P) (W:=W.at d) (sl:=sl) (.inl hr) hq.status (.inl hr);rcases A0 with⟨_,A1⟩|⟨hb,_⟩
   ·refine iL.step (A1.trans (runT_duo0 (hs _))) ?_;rw[woken_quitsD hq];exact h 0 b A2 _ d' (by rw[Deaf_other T (by decide) _ cT];exact hq) (hp.app0 cT λop hop=>by simp[ID] at hop) (by rw[Deaf_own];exact hd)
   ·rw[hq.1] at hb;cases hb
 | succ k ih =>
   intro b sl T d hq hp hd;obtain⟨d',A2,A0⟩:=duo_pick (P:=P) (W:=W.at d) (sl:=sl) (.inl hr) hq.status (.inl hr);rcases A0 with⟨_,A1⟩|⟨hb,A1⟩
   ·refine iL.step (A1.trans (runT_duo0 (hs _))) ?_;rw[woken_quitsD hq];exact h (k+1) b A2 _ d' (by rw[Deaf_other T (by decide) _ cT];exact hq) (hp.app0 cT λop hop=>by simp[ID] at hop) (by rw[Deaf_own];exact hd)
   ·rcases hq with⟨hf,_⟩|⟨_,g',es,hm,A3,A4⟩
    ·rw[hf] at hb;cases hb
    refine iL.step (A1.trans (runT_duo1 (A3 _))) ?_;rw[woken_run hr];exact ih g' A2 _ d' (by rw[Deaf_own];exact A4) (hp.mute hm) (by rw[Deaf_other T (by decide) _ cT];exact hd)
theorem EX.fork {a' child:IF}(hr:g.status=.running)(hs:Jx P true g w=.spawn a' child w' #[])(h:∀T x y,L0 T 0->(x.g=0/\x.act=.go 1)->(y.g=1/\y.act=.start)->iL P R (duo a' child w' none) (T++#[x,y])):EX P R 0 g w:=λT hT=>by
 refine iL.step ((stepT_solo hr).trans (runT_solo_spawn hs)) ?_
 have e:((ID 0 g.frame.fn g.frame.place #[]).push { g:=0,fn:=g.frame.fn,pos:=g.frame.place,act:=.go 1 }).push { g:=1,fn:=child.frame.fn,pos:=g.frame.place,act:=.start }=#[{ g:=0,fn:=g.frame.fn,pos:=g.frame.place,act:=.go 1 },{ g:=1,fn:=child.frame.fn,pos:=g.frame.place,act:=.start }]:=by simp[ID]
 rw[e]
 exact h T _ _ hT ⟨rfl,rfl⟩ ⟨rfl,rfl⟩
theorem Past.toX {B:Nat}(h:Past (λl=>False\/Kq (·=Wg) l) B T):jz Wg T:=⟨h.clean,λi a ha hm=>(h.known i a ha hm).imp id λx=>⟨x.1.resolve_left id,x.2⟩,h.over⟩
theorem xh {W₀:IH}{S₀:aD}{KA:I3->List I3->Prop}{KB:IH->Prop}{M:Machine}(h:Comes E W₀ S₀ Wg KA KB M T)(hq:∀c cs W,KA c cs->KB W->Kp W₀ S₀ W->BX E.P R Wg (Gr (c.finish (.tuple #[])) cs) W):iL E.P R M T:=by
 obtain⟨n,M',T',h1,c,cs,b,W,sl,k,B,rfl,hA,hB,hK,hQ,hP⟩:=h;obtain⟨N,A0,o,w2,t',e1,e2,e3,e4⟩:=hq c cs W hA hB hK k b sl T' W.drawn hQ (Past.toX hP) hP.hears;refine⟨n+N,A0,o,w2,t',?_,?_,e3,e4⟩
 ·(have:n+N+1=n+(N+1):=by omega);rw[this];exact jP h1 e1
 ·have:=congrArg Prod.fst h1;rw[runNT_fst] at this;exact qd this e2
theorem EF (h:L0 T 0):(∃B,Past (λ_=>False) B T)/\Deaf T 1=0:=by
 refine⟨zL h.1 h.2,?_⟩;have:=Deaf_other #[] (g:=1) (g':=0) (by decide) T h.1;simpa [Deaf,Trace.deaf] using this
end
end Go.Proofs.Rn

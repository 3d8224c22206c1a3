/-part 13-/
import Derived.Test.YtmehkneofinmiabGreatDoorP12
open Bool renaming and_eq_true->ID,true->Jx,false_eq_true->K1,false->Lw
open Option renaming bind_eq_some_iff->IF,some->Kf,none->LL,map_eq_some_iff->L1
open Classical renaming choose->IH,choose_spec->J1,byContradiction->Ln
open Go renaming Frame->IR,World->I3,stepG->J0,Program->K0,Goroutine->Ly,runN->LO,Question->LS,FuncId->L3,Value->L4,lone->L5,TypeId->Mb,unwind->Mn,Event->Mp,deafBehind->Mu,CallKind->MA
open Go.Stepped.next renaming injEq->Ks
open List renaming all_eq_true->Kx,append_cancel_right->Lq,nil_append->Mz,mem_cons->MD
open Go.Goroutine.mk renaming injEq->K2
open Go.Frame renaming catches->Lo,enter->MT
open Go.Machine.mk renaming injEq->Lz
open Array renaming getElem?_eq_none->LI,mem_of_getElem?->LN,getElem?_of_mem->L2,ext->MY
open Nat renaming le_refl->LR
namespace Go.Proofs.Rn
open Go
variable {b l ls n q:Nat}{m:Bool}{FR:IR}{I1:List IR}{r':Rel}{W':I3}{α:Type}{A a:List Deferred}{G:Ly}{t:Mb}
section
variable {E:Env} {r:Rel} {w W:I3} {cl cs:List IR} {m0:Bool} {bt:L3->MA->Prop}
theorem wG (hE:aS E){p:Nat}{fr:IR}{IC:List IR}(hf:bb E r Lw p fr FR)(hm:fr.mode≠.run)(hsg:Jy E r ls IC I1)(hw:WR E r w W)(ht:TA b w W)(IM:JF bt (fr::IC))(hns:fr.defers=[]->IC≠[])
 (hd:(Mn E.P m0 fr (IC++cl) LL w).drawn<=b):aT bt E r w W cl cs (p+ls) (bY (fr::IC)) (Mn E.P m0 fr (IC++cl) LL w) (Mn E.P m FR (I1++cs) LL W):=by
 obtain⟨fn,tmps,todo,defers,mode,kind,A0⟩:=fr;obtain⟨FN,A4,A5,DEFERS,MODE,A1,A3⟩:=FR;have e1:FN=fn:=hf.fn;have e2:A1=kind:=hf.kind;subst e1 e2;have Ac:Lb E r defers DEFERS:=hf.defers;have A6:p=en E defers:=hf.off hm;have Ag:LZ E r mode MODE:=hf.mode;have Ad:mode≠.run:=hm;unfold Mn at hd ⊢;cases Ac with
 | cons hdf hl =>
   rename_i d D l L;have A8:=jk hE.sep hdf l;have A9:bb E r Lw p ⟨FN,tmps,todo,l,mode,A1,A0⟩ ⟨FN,A4,A5,L,MODE,A1,A3⟩:=⟨rfl,hf.has,hf.tmps,by have:=hf.todo;simp only at this ⊢;rw[A8] at this;exact this,λ_=>A6.trans A8,hl,hf.mode,rfl,hf.Kc,hf.round⟩;have A7:JF bt (⟨FN,tmps,todo,l,mode,A1,A0⟩::IC):=bg (a:=⟨FN,tmps,todo,d::l,mode,A1,A0⟩) (b:=⟨FN,tmps,todo,l,mode,A1,A0⟩) ⟨rfl,rfl,rfl⟩ IM;have plain:=λhd=>rF (cl:=cl) (cs:=cs) hE A9 Ad hsg hw ht A7 hdf (b:=b) hd;obtain⟨t,x⟩:=d;obtain⟨T,X⟩:=D;have Af:Kl E r t T:=hdf.target;cases Af with
   | collected hb' =>
     rename_i q Q;dsimp only at hd ⊢;rw[dr] at hd;have A2:=λhb=>(mQ hb').runs hE.Jq (b:=b) (H:=λ_ d d0=>d=d0) (es:=#[]) (λ_ _ _ _ h=>h) hw ht Jo.nil hb;generalize (Instr.takeDeferred q).runT E.P w #[]=y at hd A2 ⊢;generalize (Instr.takeDeferred Q).runT E.P W #[]=Y at A2 ⊢;obtain⟨Ab,es⟩:=y;cases Ab with
     | halt h w1=>trivial
     | ok c w1 =>
       obtain⟨r',C,W1,ES,rfl,h1,h2,h3,h4,h5⟩:=A2 hd
       exact aT.lift h2 (h4.seen E.P FN) (bz (by rfl)) (λhl d=>h5 hl FN (d+(p+ls)) (d+(p+ls)) rfl) (bU (p:=p) (fr:=⟨FN,tmps,todo,c++l,mode,A1,A0⟩) (FR:=⟨FN,A4,A5,C++L,MODE,A1,A3⟩)
        ⟨rfl,hf.has,hf.tmps.mono h2.sub,let ⟨p,m,x,y⟩:=A9.todo;⟨p,m,by simp only;rw[wc hE.sep h3];exact x.mono h2.sub,y⟩,λ_=>by simp only;rw[wc hE.sep h3];exact A6.trans A8,h3.Rf (hl.mono h2.sub),hf.mode.mono h2.sub,rfl,hf.Kc,hf.round.mono h2.sub⟩ (hsg.mono h2.sub) h1
        (bg (a:=⟨FN,tmps,todo,l,mode,A1,A0⟩) (b:=⟨FN,tmps,todo,c++l,mode,A1,A0⟩) ⟨rfl,rfl,rfl⟩ A7) id (.inr (by omega)))
   | _=>exact aT.pre (bz (by rfl)) (plain hd)
 | JK hen hl =>rename_i d l L;have A8:=B5 hen l;(have A9:bb E r Lw (en E l) ⟨FN,tmps,todo,l,mode,A1,A0⟩ ⟨FN,A4,A5,L,MODE,A1,A3⟩:=by refine⟨rfl,hf.has,hf.tmps,?_,λ_=>rfl,hl,hf.mode,rfl,hf.Kc,hf.round⟩;obtain⟨a,m,x,-⟩:=hf.todo;obtain⟨m',x'⟩:=x.re (by simp only;omega) (en E l);exact⟨a,m',x',λy=>absurd y hm⟩);have A7:JF bt (⟨FN,tmps,todo,l,mode,A1,A0⟩::IC):=bg (a:=⟨FN,tmps,todo,d::l,mode,A1,A0⟩) (b:=⟨FN,tmps,todo,l,mode,A1,A0⟩) ⟨rfl,rfl,rfl⟩ IM;(have e1:p+ls=en E l+1+ls:=by omega);rw[e1];have this:=D6 (cl:=cl) (cs:=cs) hE A9 hsg hw A7 hen;obtain⟨f,hk,rfl⟩:=hen;exact aT.pre (bz (by rfl)) this
 | nil =>
   have Aa:=hns rfl;obtain rfl:p=0:=A6;rw[Nat.zero_add];cases Ag with
   | run=>trivial
   | panicking hc =>
     rename_i ch CH;obtain⟨x,hx⟩:=hf.has;(have c1:Lo E.P ⟨FN,tmps,todo,[],.panicking ch,A1,A0⟩=Lw:=by unfold Lo;rw[hx]);(have c2:Lo E.P ⟨FN,A4,A5,[],.panicking CH,A1,A3⟩=Lw:=by unfold Lo;rw[hx]);dsimp only;rw[c1,c2];simp only[K1,if_false];cases hsg with
     | nil=>exact absurd rfl Aa
     | cons hcf hcl=>exact bU (hcf.raise hc) hcl hw (oI (fU _ _) IM) (λ_=>eK) (.inl eK)
   | returning =>
     obtain⟨x,hx⟩:=hf.has;simp only at hx;dsimp only at hd ⊢;rw[hx] at hd ⊢;dsimp only at hd ⊢;rw[dr] at hd;have A2:=λhb=>(xd x hf.tmps).runs hE.Jq (b:=b) (H:=λ_ d d0=>d=d0) (es:=#[]) (λ_ _ _ _ h=>h) hw ht Jo.nil hb;dsimp only at A2;generalize (results x tmps).runT E.P w #[]=y at hd A2 ⊢;generalize (results x A4).runT E.P W #[]=Y at A2 ⊢;obtain⟨Ab,es⟩:=y;cases Ab with
     | halt h w1=>cases h<;>trivial
     | ok v w1 =>
       have A7:w1.drawn<=b:=by
        cases IC with
        | nil=>exact absurd rfl Aa
        | cons c l =>have Ae:A1=.normal\/A1=.deferred:=hf.Kc;simp only[List.cons_append,doReturn] at hd;rcases Ae with hk|hk<;>rw[hk] at hd<;>exact hd
       obtain⟨r',V,W1,ES,rfl,h1,h2,h3,h4,h5⟩:=A2 A7;exact aT.lift h2 (h4.seen E.P FN) id (λhl d=>h5 hl FN (d+ls) (d+ls) rfl) (nL (hf.mono h2.sub) (λx hx=>by cases hx) (hsg.mono h2.sub) Aa h1 IM h3)
theorem iN (hE:aS E){p:Nat}{fr:IR}{IC:List IR}(hf:bb E r Lw p fr FR)(hsg:Jy E r ls IC I1)(hw:WR E r w W)(ht:TA b w W)(IM:JF bt (fr::IC))(hop:¬ mH E fr)(hns:fr.mode≠.run->fr.defers=[]->IC≠[])
 (hd:(J0 E.P m0 (Gr fr (IC++cl)) w).drawn<=b):aT bt E r w W cl cs (p+ls) (bY (fr::IC)) (J0 E.P m0 (Gr fr (IC++cl)) w) (J0 E.P m (Gr FR (I1++cs)) W):=by
 have A0:=hf.mode;by_cases hr:fr.mode=.run
 ·(have hR:FR.mode=.run:=by rw[hr] at A0;generalize FR.mode=q at A0 ⊢;cases A0;rfl);unfold J0 at hd ⊢;simp only[Gr,hr,hR] at hd ⊢;exact Ad hE hf hop hr hsg hw ht IM hd
 ·unfold J0 at hd ⊢;simp only[Gr] at hd ⊢;have A1:=wG (m0:=m0) (cl:=cl) (cs:=cs) (m:=m) hE hf hr hsg hw ht IM (hns hr);generalize hq:fr.mode=q at A0 hd ⊢;generalize hQ:FR.mode=Q at A0 ⊢;cases A0 with
  | run=>exact absurd hq hr
  | returning=>exact A1 hd
  | panicking hc=>exact A1 hd
end
def cP (r:Rel):Prop:=∀b B,r b B->b=B
class IY (E:Env):Prop where
 eq:∀V V',E.J V V'->V'=jf V
abbrev Env.self (E:Env):Env:={ E with J:=λV V'=>V'=jf V }
instance (E:Env):IY E.self:=⟨λ_ _ h=>h⟩
instance (E:Env) [h:IY E]:IY E.top:=⟨h.eq⟩
theorem Fr.diag {E:Env}{r:Rel}{w w' W:I3}(hf:Fr E r r' w w' W W')(hd:cP r)(hs:w.heap.size=W.heap.size):cP r':=by
 intro b B h;rcases hf.old b B h with h|⟨h1,h2,h3⟩
 ·exact hd b B h
 ·omega
section
variable {E:Env} [IY E] {r:Rel}
theorem IX.eq (hd:cP r){a A:Addr}(h:IX r a A):a=A:=by
 obtain⟨x,y,z⟩:=a;obtain⟨X,Y,Z⟩:=A;obtain⟨h1,h2,h3⟩:=h;have:=hd _ _ h1;simp only at this h2 h3;rw[this,h2,h3]
omit [IY E] in
theorem KQ.eq (hd:cP r){a A:Fn}(h:KQ E r a A):a=A:=by
 cases h with
 | func _=>rfl
 | yield h=>rw[hd _ _ h]
theorem lT {x X:Array α}(hs:x.size=X.size)(h:∀(i:Nat) v V,x[i]?=Kf v->X[i]?=Kf V->v=V):x=X:=by
 refine MY hs λi h1 h2=>h i _ _ (by simp[h1]) (by simp[h2])
theorem VR.eq (hd:cP r){v V:L4}(h:VR E r v V):v=V:=by
 induction h with
 | ptr h=>rw[h.eq hd]
 | slice l c h=>rw[h.eq hd]
 | func hf h1 _ h3 _ ih1 ih2=>rw[hf.eq hd,lT h1 ih1,lT h3 ih2]
 | iface _ _ ih=>rw[ih]
 | agg h1 _ ih=>rw[lT h1 ih]
 | tuple h1 _ ih=>rw[lT h1 ih]
 | jf h _=>rw[IY.eq _ _ h]
 | _=>rfl
theorem AR.eq (hd:cP r){x X:Array L4}(h:AR E r x X):x=X:=lT h.1 λi v V a b=>(h.2 i v V a b).eq hd
theorem Kl.eq (hd:cP r){a A:Target}(h:Kl E r a A):a=A:=by
 cases h with
 | fn h h'=>rw[h.eq hd,h'.eq hd]
 | collected h=>rw[hd _ _ h]
 | _=>rfl
theorem Lu.eq (hd:cP r){a A:Deferred}(h:Lu E r a A):a=A:=by
 obtain⟨x,y⟩:=a;obtain⟨X,Y⟩:=A;have h1:=h.1.eq hd;have h2:=h.2.eq hd;simp only at h1 h2;rw[h1,h2]
theorem KE.eq (hd:cP r)(h:KE E r a A):a=A:=by
 induction h with
 | nil=>rfl
 | cons h _ ih=>rw[h.eq hd,ih]
theorem Lb.eq (hd:cP r)(h:Lb E r a A):a=A:=by
 induction h with
 | nil=>rfl
 | cons h _ ih=>rw[h.eq hd,ih]
 | JK _ _ ih=>rw[ih]
theorem Mo.eq (hd:cP r){a A:Loop}(h:Mo E r a A):a=A:=by
 obtain⟨a1,a2,a3,a4,a5,a6,a7,a8⟩:=a;obtain⟨b1,b2,b3,b4,b5,b6,b7,b8⟩:=A;have h1:=h.state;have h2:=h.pending;have h3:=h.fn;have h4:=h.tmps.eq hd;have h5:=h.params;have h6:=h.assign;have h7:=h.body;have h8:=hd _ _ h.defers;simp only at h1 h2 h3 h4 h5 h6 h7 h8;rw[h1,h2,h3,h4,h5,h6,h7,h8]
theorem OR.eq (hd:cP r){a A:Obj}(h:OR E r a A):a=A:=by
 cases h with
 | cells h=>rw[h.eq hd]
 | view h=>rw[h.eq hd]
 | number h=>rw[h.eq hd]
 | loop h=>rw[h.eq hd]
 | JH=>rfl
 | Jz=>rfl
 | Jr h=>rw[h.eq hd]
omit [IY E] in
theorem La.eq (hd:cP r){a A:Item}(h:La E r a A):a=A:=by
 cases h with
 | inRangeFunc h=>rw[hd _ _ h]
 | endRangeFunc h=>rw[hd _ _ h]
 | _=>rfl
omit [IY E] in
theorem Ko.eq (hd:cP r){a A:List Item}(h:Ko E r a A):a=A:=by
 induction h with
 | nil=>rfl
 | cons h _ ih=>rw[h.eq hd,ih]
theorem KD.eq (hd:cP r){a A:List PanicEntry}(h:KD E r a A):a=A:=by
 induction h with
 | nil=>rfl
 | cons h _ ih=>rw[h.eq hd,ih]
theorem LZ.eq (hd:cP r){a A:FrameMode}(h:LZ E r a A):a=A:=by
 cases h with
 | panicking h=>rw[h.eq hd]
 | _=>rfl
theorem Lr.eq (hd:cP r){a A:Option Nat}(h:Lr r a A):a=A:=by
 cases h with
 | none=>rfl
 | some h=>rw[hd _ _ h]
omit [IY E] in
theorem Lh.eq (hd:cP r){fn:L3}{q:Bool}{o:Option Nat}{e:Nat}{a A:List Item}(h:Lh E r fn q o l e a A):a=A:=by
 cases h with
 | plain _ h=>exact h.eq hd
 | _=>rfl
theorem bb.eq (hd:cP r){q:Bool}{a A:IR}(h:bb E r q l a A):a=A:=by
 obtain⟨a1,a2,a3,a4,a5,a6,a7⟩:=a;obtain⟨b1,b2,b3,b4,b5,b6,b7⟩:=A;have h1:=h.fn;have h2:=h.tmps.eq hd;obtain⟨p,m,h3,-⟩:=h.todo;have h3:=h3.eq hd;have h4:=h.defers.eq hd;have h5:=h.mode.eq hd;have h6:=h.kind;have h7:=h.round.eq hd;simp only at h1 h2 h3 h4 h5 h6 h7;rw[h1,h2,h3,h4,h5,h6,h7]
theorem Jy.eq (hd:cP r){a A:List IR}(h:Jy E r n a A):a=A:=by
 induction h with
 | nil=>rfl
 | cons h _ ih=>rw[h.eq hd,ih]
theorem KP.eq (hd:cP r){a A:Mark}(h:KP r a A):a=A:=by
 cases h with
 | acquire h=>rw[h.eq hd]
 | release h=>rw[h.eq hd]
 | releaseMerge h=>rw[h.eq hd]
 | read h=>rw[h.eq hd]
 | write h=>rw[h.eq hd]
 | _=>rfl
theorem MW.eq (hd:cP r){a A:Mp}(h:MW r a A):a=A:=by
 obtain⟨l,x,y⟩:=a;obtain⟨L,X,Y⟩:=A;obtain⟨h1,h2,h3⟩:=h;simp only at h1 h2 h3;subst h2 h3;cases h1 with
 | cell h=>rw[h.eq hd]
 | obj h=>rw[hd _ _ h]
 | mark h=>rw[h.eq hd]
 | _=>rfl
theorem Jo.eq (hd:cP r){a A:Array Mp}(h:Jo r a A):a=A:=lT h.1 λi v V x y=>(h.2 i v V x y).eq hd
theorem Jo.deaf {a A:Array Mp}(h:Jo r a A)(d:Nat):Mu d A=Mu d a:=by
 obtain⟨l⟩:=a;obtain⟨L⟩:=A;have hl:l.length=L.length:=by simpa using h.1
 have hp:∀(i:Nat) e E,l[i]?=Kf e->L[i]?=Kf E->MW r e E:=λi e E a b=>h.2 i e E (by simpa using a) (by simpa using b);clear h;unfold Mu;simp only[List.foldl_toArray'];induction l generalizing L d with
 | nil=>cases L with|nil=>rfl|cons _ _=>simp at hl
 | cons e l ih =>
   cases L with
   | nil=>simp at hl
   | cons e' L =>
     have he:=hp 0 e e' rfl rfl;have A0:=λd=>ih d L (by simpa using hl) λi a b x y=>hp (i+1) a b (by simpa using x) (by simpa using y);simp only[List.foldl_cons];rw[A0];congr 1;obtain⟨A2,wr,sy⟩:=e;obtain⟨A1,WR,SY⟩:=e';obtain⟨h1,h2,h3⟩:=he;cases h1 with
     | mark hm=>cases hm<;>rfl
     | _=>rfl
theorem Fr.Oi {w w' W:I3}(hf:Fr E r r' w w' W W')(hw:WR E r' w' W')(hd:cP r)(hs:w.heap=W.heap):w'.heap=W'.heap:=by
 have A1:=hf.diag hd (by rw[hs]);have A5:w.heap.size=W.heap.size:=by rw[hs]
 have hg:=hf.grow;have s1:=hf.size;have s2:=hf.Jw;have A2:w'.heap.size=W'.heap.size:=by omega
 refine MY A2 λi h1 h2=>?_;have A3:w'.heap[i]?=W'.heap[i]?:=by
  by_cases hr:r' i i
  ·obtain⟨o,O,e1,e2,e3⟩:=hw.heap i i hr;rw[e1,e2,e3.eq A1]
  ·(have A4:∀B,¬ r' i B:=λB hB=>by have:=A1 _ _ hB;subst this;exact hr hB);(have A0:∀B,¬ r' B i:=λB hB=>by have:=A1 _ _ hB;subst this;exact hr hB);by_cases hlt:i<w.heap.size
   ·rw[hf.LG i hlt (λB hB=>A4 B (hf.sub.1 _ _ hB)),hf.keep i (by omega) (λB hB=>A0 B (hf.sub.1 _ _ hB)),hs]
   ·obtain⟨B,hB⟩:=hf.new i (by omega) h2;exact absurd hB (A0 B)
 simpa [h1,h2] using A3
end
def one (g:Ly)(w:I3):Machine:={ world:=w,gs:=#[g],rest:={ timers:=#[],alone:=LL,slice:=LL } }
section
variable {P:K0} {g g':Ly} {w w':I3} {es:Array Mp}
theorem km (h:g.status=.running):move P (one g w)=.goroutine (one g w) 0:=by
 simp[move,ask,askOn,one,runnable_eq,due,ahead,Goroutine.canRun,List.range_succ,choose,pure,Sem.run,Question.forced,h]
theorem cy (h:g.status=.running)(hs:J0 P Jx g w=.go g' w' es):step P (one g w)=.next (one g' w'):=by
 rw[step,stepT,km h];simp[runT,one,hs]
theorem bK (h:g.status=.running){o:Outcome}(hs:J0 P Jx g w=.ended o w' es):step P (one g w)=.ended o w':=by
 rw[step,stepT,km h];simp[runT,one,hs]
theorem lu (h:g.status=.blocked):∃o w' ops,move P (one g w)=.machine (.ended o w') ops:=by
 simp only[move,ask,askOn,one];simp[runnable_eq,due,ahead,Goroutine.canRun,List.range_succ,pure,h];split
 ·exact⟨_,_,_,rfl⟩
 ·exact⟨_,_,_,rfl⟩
theorem gw (h:g.status=.blocked):∃o w',step P (one g w)=.ended o w':=by
 obtain⟨o,w',A0,e⟩:=lu (P:=P) (w:=w) h;exact⟨o,w',by rw[step,stepT,e]⟩
theorem lC (h:g.status=.waiting):step P (one g w)=.next (one g w):=by
 rw[step,stepT];simp[move,ask,askOn,one,runnable_eq,due,ahead,Goroutine.canRun,List.range_succ,pure,h]
def Fatal (g:Ly):Prop:=∃d,g.dying=Kf d/\d.calling=Lw/\d.fatal.isSome
theorem vd (h:Fatal g):(∃g' w' es,J0 P Jx g w=.go g' w' es/\Fatal g'/\(g'.status=.running\/g'.status=.blocked))\/∃o w' es,J0 P Jx g w=.ended o w' es:=by
 obtain⟨fr,cs,st,dy,A0⟩:=g;obtain⟨d,h1,h2,h3⟩:=h;simp only at h1;subst h1;obtain⟨d1,d2,d3,d4,d5,d6,d7⟩:=d;simp only at h2 h3;subst h2;cases d7 with
 | none=>cases h3
 | some f =>
   unfold J0;dsimp only;unfold die;dsimp only;unfold writeOn;dsimp only;(repeat' split);all_goals first
    | exact .inr ⟨_,_,_,rfl⟩
    | exact .inl ⟨_,_,_,rfl,⟨_,rfl,rfl,rfl⟩,.inl rfl⟩
    | exact .inl ⟨_,_,_,rfl,⟨_,rfl,rfl,rfl⟩,.inr rfl⟩
theorem rV (h:Fatal g)(hs:g.status=.running\/g.status=.blocked):∀n (fr:IR) cs w',LO P n (one g w)≠.next (L5 fr cs w'):=by
 intro n;induction n generalizing g w with
 | zero =>intro fr cs w' e;simp only[LO,Ks,one,L5,Lz] at e;obtain⟨-,e,-⟩:=e;obtain⟨d,h1,-⟩:=h;(have e':g={ frame:=fr,callers:=cs,status:=.running,dying:=LL }:=by simpa using e);rw[e'] at h1;cases h1
 | succ n ih =>
   intro fr cs w' e;rcases hs with hs|hs
   ·rcases vd (P:=P) (w:=w) h with⟨g',w1,es,e1,e2,e3⟩|⟨o,w1,es,e1⟩
    ·simp only[LO,cy hs e1] at e;exact ih e2 e3 fr cs w' e
    ·simp only[LO,bK hs e1] at e;cases e
   ·obtain⟨o,w1,e1⟩:=gw (P:=P) (w:=w) hs;simp only[LO,e1] at e;cases e
theorem iw (h:jL g):∀n (fr:IR) cs w',LO P n (one g w)≠.next (L5 fr cs w'):=by
 have st:∀{g:Ly} {w:I3} (fr:IR) cs w',g.status≠.running->LO P 0 (one g w)≠.next (L5 fr cs w'):=by intro g w fr cs w' hs e;simp only[LO,Ks,one,L5,Lz] at e;obtain⟨-,e,-⟩:=e;(have e':g={ frame:=fr,callers:=cs,status:=.running,dying:=LL }:=by simpa using e);rw[e'] at hs;exact hs rfl
 rcases h with h|h|⟨d,h1,h2,h3,h4⟩
 ·intro n fr cs w';cases n with
  | zero=>exact st fr cs w' (by rw[h];simp)
  | succ n =>intro e;obtain⟨o,w1,e1⟩:=gw (P:=P) (w:=w) h;simp only[LO,e1] at e;cases e
 ·intro n;induction n with
  | zero=>intro fr cs w';exact st fr cs w' (by rw[h];simp)
  | succ n ih =>intro fr cs w' e;simp only[LO,lC h] at e;exact ih fr cs w' e
 ·exact rV ⟨d,h1,h2,h3⟩ (.inl h4)
end
def aP : IR := { fn := 0, tmps := #[], todo := [.code (.refuse "")], defers := [{ target := .nil, args := #[] }], mode := .run, kind := .normal }
def AtEnd (fr:IR)(IC:List IR):Prop:=fr.mode≠.run/\fr.defers=[]/\IC=[]
abbrev rY:L3->MA->Prop:=λ_ _=>True
def Fit (E:Env)(n:Nat)(fr:IR)(IC:List IR)(w:I3):Prop:=∃r p ls,cP r/\bb E r Lw p fr fr/\Jy E r ls IC IC/\WR E r w w/\JF rY (fr::IC)/\n=p+ls
def VM (E:Env)(n n':Nat)(l l':List IR)(es:Array Mp):Prop:=(bY l->bY l')/\(bY l'\/(E.lv->∀d,Mu (d+n) es=d+n'))
def az (w:I3)(t:Nat->LS->Nat):I3:={ w with tape:=t }
def Bm (P:K0)(Q:IR->I3->Prop)(n:Nat)(fr:IR)(IC:List IR)(w:I3):Prop :=
 ∃fr' w',LO P n (L5 fr (IC++[aP]) w)=.next (L5 fr' [aP] w')/\fr'.mode=.returning/\fr'.defers=[]/\Q fr' w'
section
variable {E:Env} [IY E] {Q:IR->I3->Prop}
omit [IY E] in
theorem WR.tape {r:Rel}{w W:I3}(h:WR E r w W)(t T:Nat->LS->Nat):WR E r (az w t) (az W T):=⟨h.heap,h.os,h.base,h.ok,h.env,h.big⟩
omit [IY E] in
theorem Fit.tape {fr:IR}{IC:List IR}{w:I3}(h:Fit E n fr IC w)(t:Nat->LS->Nat):Fit E n fr IC (az w t):=by
 obtain⟨r,p,ls,h1,h2,h3,h4,h5⟩:=h;exact⟨r,p,ls,h1,h2,h3,h4.tape t t,h5⟩
theorem gH (hE:aS E){fr:IR}{IC cl:List IR}{w:I3}(hfit:Fit E n fr IC w)(hne:¬ AtEnd fr IC)(hop:¬ mH E fr){g:Ly}{w':I3}{es:Array Mp}(hs:J0 E.P Jx (Gr fr (IC++cl)) w=.go g w' es)(hnd:¬ jL g)
 {t:Nat->LS->Nat}(ht:∀n q,w.drawn<=n->n<w'.drawn->w.tape n q=t n q) :
 ∃fr' IL n',g=Gr fr' (IL++cl)/\Fit E n' fr' IL w'/\VM E n n' (fr::IC) (fr'::IL) es/\J0 E.P Jx (Gr fr (IC++cl)) (az w t)=.go g (az w' t) es/\w'.tape=w.tape/\w.drawn<=w'.drawn:=by
 obtain⟨r,p,ls,h1,h2,h3,h4,h5,rfl⟩:=hfit;have A3:TA w'.drawn w (az w t):=by intro i q hi;exact ht (w.drawn+i) q (by omega) hi
 have hm:=iN (m0:=Jx) (cl:=cl) (cs:=cl) (m:=Jx) hE h2 h3 (h4.tape w.tape t) A3 h5 hop (λa b c=>hne ⟨a,b,c⟩) (by show(J0 E.P Jx (Gr fr (IC++cl)) w).drawn<=_;rw[hs];exact LR _);change aT rY E r w (az w t) cl cl (p+ls) (bY (fr::IC)) (J0 E.P Jx (Gr fr (IC++cl)) w) _ at hm;rw[hs] at hm;rcases hm with⟨r',fr',IL,FR,A4,W',ES,l',A1,e1,e2,e3,e4,e5,e6,e7,e8,e9,A2⟩|hm
 ·have A0:=e6.diag h1 rfl;have hh:=e6.Oi e5 h1 rfl;have q1:=e3.eq A0;have q2:=e4.eq A0;have q3:=e7.eq A0;subst q1 q2 q3;have hW:W'=az w' t:=by
   obtain⟨a1,a2,a3,a4,a5⟩:=W';obtain⟨b1,b2,b3,b4,b5⟩:=w';obtain⟨c1,c2,c3,c4,c5⟩:=w;have x1:b1=a1:=hh;have x2:a2=t:=e6.tape;obtain⟨d,y1,y2⟩:=e6.drawn;(have x3:a3=b3:=by simp only[az] at y1 y2;omega);have x4:a4=b4:=by
    by_cases hl:E.lv
    ·exact e5.os hl
    ·exact(e6.Ow hl).1.trans (e6.Ow hl).2.symm
   have x5:=e6.out;simp only[az] at x5;simp only[az,x1,x2,x3,x4,x5.1,x5.2]
  subst hW;refine⟨fr',IL,l'+A1,e1,⟨r',l',A1,A0,e3,e4,⟨λb B hb=>?_,λ_=>rfl,e5.base,e5.ok,rfl,⟨e5.big.1,e5.big.1⟩⟩,e8,rfl⟩,⟨e9,A2⟩,?_,e6.KC,?_⟩
  ·obtain⟨o,O,x,y,z⟩:=e5.heap b B hb;exact⟨o,O,x,y,z⟩
  ·rw[e2,e1]
  ·obtain⟨d,y1,y2⟩:=e6.drawn;omega
 ·exact absurd hm.1 hnd
theorem eL (fr:IR)(cs:List IR):¬ jL (Gr fr cs):=by
 rintro(h|h|⟨d,h,-⟩)<;>cases h
def pP (t:List Item):Prop:=(∃ops l k,t=.inRegion ops l::k)\/∃id x d k,t=.code (.region id x d)::k/\x.size=1
def Mm (E:Env):Prop:=∀c,E.Op c->∀(fr:IR) k cs w,fr.mode=.run->fr.todo=.code c::k->∀n fr' cs' w',LO E.P (n+1) (L5 fr cs w)=.next (L5 fr' cs' w') ->
 fr'.mode=.run/\fr'.fn=fr.fn/\cs'=cs/\pP fr'.todo
omit [IY E] in
theorem Bm.cases (hE:aS E)(hop':Mm E){fr:IR}{IC:List IR}{w:I3}(hfit:Fit E q fr IC w)(h:Bm E.P Q n fr IC w) :
 (AtEnd fr IC/\fr.mode=.returning/\Q fr w)\/(¬ AtEnd fr IC/\¬ mH E fr/\∃k fr' IL w' es,n=k+1/\J0 E.P Jx (Gr fr (IC++[aP])) w=.go (Gr fr' (IL++[aP])) w' es/\Bm E.P Q k fr' IL w'):=by
 obtain⟨A3,w2,h1,h2,h3,h4⟩:=h;obtain⟨r,p,ls,g1,g2,g3,g4,g5,-⟩:=hfit;by_cases hend:AtEnd fr IC
 ·left;refine⟨hend,?_⟩;obtain⟨m1,m2,m3⟩:=hend;subst m3;have A7:∀{g:Ly} {k:Nat} {w1:I3},g.status=.running->g.callers=[]->(∀w,∃o w' es,J0 E.P Jx g w=.ended o w' es)->LO E.P k (one g w1)≠.next (L5 A3 [aP] w2):=by
   intro g k w1 hg hc he e;cases k with
   | zero =>simp only[LO,Ks,L5,one,Lz] at e;obtain⟨-,e,-⟩:=e;(have e':g={ frame:=A3,callers:=[aP],status:=.running,dying:=LL }:=by simpa using e);rw[e'] at hc;cases hc
   | succ k =>obtain⟨o,w',es,e1⟩:=he w1;simp only[LO,bK hg e1] at e;cases e
  cases n with
  | zero =>simp only[LO,Ks,L5,Lz] at h1;obtain⟨e0,e,-⟩:=h1;simp only[Array.mk.injEq,List.cons.injEq,K2,and_true] at e;obtain⟨e1,e2⟩:=e;subst e1 e0;exact⟨h2,h4⟩
  | succ k =>
    exfalso;have A1:(Gr fr ([]++[aP])).status=.running:=rfl;change LO E.P (k+1) (one (Gr fr ([]++[aP])) w)=_ at h1;have hb:∀w,∃o w' es,J0 E.P Jx (Gr aP []) w=.ended o w' es:=λw=>⟨_,_,_,rfl⟩;have hc:∀ch w,∃o w' es,J0 E.P Jx (Gr (aP.raise ch) []) w=.ended o w' es:=λch w=>⟨_,_,_,rfl⟩;have A9:(∃o w' es,J0 E.P Jx (Gr fr ([]++[aP])) w=.ended o w' es)\/(∃w' es,J0 E.P Jx (Gr fr ([]++[aP])) w=.go (Gr aP []) w' es)\/∃ch w' es,J0 E.P Jx (Gr fr ([]++[aP])) w=.go (Gr (aP.raise ch) []) w' es:=by
     obtain⟨x,hx⟩:=g2.has;have hk:=g2.Kc;obtain⟨fn,A2,A6,A4,mode,A5,A0⟩:=fr;simp only at m1 m2 hx hk;subst m2;cases mode with
     | run=>exact absurd rfl m1
     | panicking ch =>refine .inr (.inr ⟨ch,w,#[],?_⟩);(have c1:Lo E.P ⟨fn,A2,A6,[],.panicking ch,A5,A0⟩=Lw:=by unfold Lo;rw[hx]);simp only[J0,Gr,Mn,c1,K1,if_false,Mz]
     | returning =>
       simp only[J0,Gr,Mn,hx,Mz];generalize (results x A2).runT E.P w #[]=y;obtain⟨Aa,es⟩:=y;cases Aa with
       | halt h w1=>cases h<;>exact .inl ⟨_,_,_,rfl⟩
       | ok v w1 =>
         right;left;rcases hk with hk|hk
         ·subst hk;exact⟨_,_,rfl⟩
         ·subst hk;exact⟨_,_,rfl⟩
    rcases A9 with⟨o,w',es,e⟩|⟨w',es,e⟩|⟨ch,w',es,e⟩
    ·simp only[LO,bK A1 e] at h1;cases h1
    ·simp only[LO,cy A1 e] at h1;exact A7 rfl rfl hb h1
    ·simp only[LO,cy A1 e] at h1;exact A7 rfl rfl (hc ch) h1
 ·right;have A8:¬ mH E fr:=by
   rintro⟨o1,c,k,o2,o3⟩;cases n with
   | zero =>simp only[LO,Ks] at h1;have:=congrArg (λm:Machine=>(m.gs[0]?).map (·.frame.mode)) h1;simp[L5] at this;rw[o1,h2] at this;cases this
   | succ n=>have:=(hop' c o3 fr k (IC++[aP]) w o1 o2 n A3 [aP] w2 h1).1;rw[h2] at this;cases this
  refine⟨hend,A8,?_⟩;have Ab:∀b,TA b w w:=λb i q _=>rfl;have hm:=iN (m0:=Jx) (cl:=[aP]) (cs:=[aP]) (m:=Jx) hE g2 g3 g4 (Ab _) g5 A8 (λa b c=>hend ⟨a,b,c⟩) (LR _);cases n with
  | zero =>exfalso;simp only[LO,Ks,L5,Lz] at h1;obtain⟨-,e,-⟩:=h1;simp only[Array.mk.injEq,List.cons.injEq,K2,and_true] at e;obtain⟨e1,e2⟩:=e;subst e1;(have:IC=[]:=by simpa using e2);exact hend ⟨by rw[h2];simp,h3,this⟩
  | succ k =>
    have A1:(Gr fr (IC++[aP])).status=.running:=rfl;change LO E.P (k+1) (one (Gr fr (IC++[aP])) w)=_ at h1;generalize hs:J0 E.P Jx (Gr fr (IC++[aP])) w=x at hm;cases x with
    | go g w1 es =>
      simp only[LO,cy A1 hs] at h1;rcases hm with⟨r',fr',IL,FR,Ad,W',ES,l',Ac,e1,-⟩|hm
      ·subst e1;exact⟨k,fr',IL,w1,es,rfl,rfl,A3,w2,h1,h2,h3,h4⟩
      ·exact absurd h1 (iw hm.1 k _ _ _)
    | ended o w1 es =>simp only[LO,bK A1 hs] at h1;cases h1
    | _=>exact hm.elim
end
inductive Ev (E:Env) (Q:IR->I3->Prop):IR->List IR->I3->Prop
 | stop {fr w}:fr.mode=.returning->fr.defers=[]->Q fr w->Ev E Q fr [] w
 | step {fr IC w} (F:(Nat->LS->Nat)->IR) (S:(Nat->LS->Nat)->List IR) (N:(Nat->LS->Nat)->I3) (X:(Nat->LS->Nat)->Array Mp):¬ AtEnd fr IC->¬ mH E fr ->
    (∀t,J0 E.P Jx (Gr fr (IC++[aP])) (az w t)=.go (Gr (F t) (S t++[aP])) (N t) (X t))->(∀t,Ev E Q (F t) (S t) (N t))->Ev E Q fr IC w
theorem Ev.mk {E:Env}{Q:IR->I3->Prop}{fr:IR}{IC:List IR}{w:I3}(h:¬ AtEnd fr IC)(ho:¬ mH E fr)
 (hs:∀t,∃fr' IL w' es,J0 E.P Jx (Gr fr (IC++[aP])) (az w t)=.go (Gr fr' (IL++[aP])) w' es/\Ev E Q fr' IL w'):Ev E Q fr IC w:=by
 have h0:∀t,∃x:IR×List IR×I3×Array Mp,J0 E.P Jx (Gr fr (IC++[aP])) (az w t)=.go (Gr x.1 (x.2.1++[aP])) x.2.2.1 x.2.2.2/\Ev E Q x.1 x.2.1 x.2.2.1:=by intro t;obtain⟨a,b,c,d,e1,e2⟩:=hs t;exact⟨(a,b,c,d),e1,e2⟩
 exact .step (λt=>(IH (h0 t)).1) (λt=>(IH (h0 t)).2.1) (λt=>(IH (h0 t)).2.2.1) (λt=>(IH (h0 t)).2.2.2) h ho
  (λt=>(J1 (h0 t)).1) (λt=>(J1 (h0 t)).2)
section
variable {E:Env} {Q:IR->I3->Prop}
abbrev LX:=IR×List IR×I3
theorem tD {s:LX}(h:¬ Ev E Q s.1 s.2.1 s.2.2)(hne:¬ AtEnd s.1 s.2.1/\¬ mH E s.1) :
 ∃t,∀fr' IL w' es,J0 E.P Jx (Gr s.1 (s.2.1++[aP])) (az s.2.2 t)=.go (Gr fr' (IL++[aP])) w' es->¬ Ev E Q fr' IL w':=by
 apply Ln;intro A0;apply h;refine .mk hne.1 hne.2 λt=>?_;apply Ln;intro hx;exact A0 ⟨t,λfr' IL w' es e he=>hx ⟨fr',IL,w',es,e,he⟩⟩
open Classical in
noncomputable def MQ (E:Env)(Q:IR->I3->Prop)(s:LX):Nat->LS->Nat :=
 if h:¬ Ev E Q s.1 s.2.1 s.2.2/\¬ AtEnd s.1 s.2.1/\¬ mH E s.1 then IH (tD h.1 h.2) else λ_ _=>0
def QL (E:Env)(Q:IR->I3->Prop)(s s':LX):Prop :=
 s.2.2.drawn<=s'.2.2.drawn/\∃es,J0 E.P Jx (Gr s.1 (s.2.1++[aP])) (az s.2.2 (MQ E Q s))=.go (Gr s'.1 (s'.2.1++[aP])) s'.2.2 es
open Classical in
noncomputable def Me (E:Env)(Q:IR->I3->Prop)(s:LX):LX:=if h:∃s',QL E Q s s' then IH h else s
noncomputable def sq (E:Env)(Q:IR->I3->Prop)(s:LX):Nat->LX
 | 0=>s
 | i+1=>Me E Q (sq E Q s i)
theorem GF (s:LX)(i:Nat):(sq E Q s i).2.2.drawn<=(sq E Q s (i+1)).2.2.drawn:=by
 simp only[sq,Me];split
 ·rename_i h;exact(J1 h).1
 ·exact LR _
theorem qG (s:LX){i j:Nat}(h:i<=j):(sq E Q s i).2.2.drawn<=(sq E Q s j).2.2.drawn:=by
 induction h with
 | refl=>exact LR _
 | step _ ih=>exact Nat.le_trans ih (GF s _)
theorem oB (s:LX){i:Nat}(h:¬ ∃s',QL E Q (sq E Q s i) s'):∀k,sq E Q s (i+k)=sq E Q s i:=by
 intro k;induction k with
 | zero=>rfl
 | succ k ih =>show Me E Q (sq E Q s (i+k))=_;rw[ih,Me,dif_neg h]
open Classical in
noncomputable def big (E:Env)(Q:IR->I3->Prop)(s:LX)(n:Nat):LS->Nat :=
 if h:∃i,(sq E Q s i).2.2.drawn<=n/\n<(sq E Q s (i+1)).2.2.drawn then MQ E Q (sq E Q s (IH h)) n
 else if h:∃i,¬ ∃s',QL E Q (sq E Q s i) s' then MQ E Q (sq E Q s (IH h)) n else λ_=>0
theorem FQ (s:LX){i:Nat}(h1:(sq E Q s i).2.2.drawn<=n)(h2:n<(sq E Q s (i+1)).2.2.drawn):big E Q s n=MQ E Q (sq E Q s i) n:=by
 have h:∃i,(sq E Q s i).2.2.drawn<=n/\n<(sq E Q s (i+1)).2.2.drawn:=⟨i,h1,h2⟩;unfold big;rw[dif_pos h];obtain⟨g1,g2⟩:=J1 h;have:IH h=i:=by
  rcases Nat.lt_trichotomy (IH h) i with A1|he|A0
  ·have:=qG (E:=E) (Q:=Q) s (show IH h+1<=i from A1);omega
  ·exact he
  ·have:=qG (E:=E) (Q:=Q) s (show i+1<=IH h from A0);omega
 rw[this]
theorem yu (s:LX){i:Nat}(hst:¬ ∃s',QL E Q (sq E Q s i) s')(h1:(sq E Q s i).2.2.drawn<=n):big E Q s n=MQ E Q (sq E Q s i) n:=by
 have A0:¬ ∃j,(sq E Q s j).2.2.drawn<=n/\n<(sq E Q s (j+1)).2.2.drawn:=by
  rintro⟨j,-,hj⟩;rcases Nat.lt_or_ge j i with A1|A4
  ·have:=qG (E:=E) (Q:=Q) s (show j+1<=i from A1);omega
  ·have:=oB (E:=E) (Q:=Q) s hst (j+1-i);rw[show i+(j+1-i)=j+1 by omega] at this;rw[this] at hj;omega
 have h:∃i,¬ ∃s',QL E Q (sq E Q s i) s':=⟨i,hst⟩;unfold big;rw[dif_neg A0,dif_pos h];have A2:=J1 h;rcases Nat.le_total (IH h) i with A3|A3
 ·have:=oB (E:=E) (Q:=Q) s A2 (i-IH h);rw[show IH h+(i-IH h)=i by omega] at this;rw[this]
 ·have:=oB (E:=E) (Q:=Q) s hst (IH h-i);rw[show i+(IH h-i)=IH h by omega] at this;rw[this]
theorem bar [IY E] (hE:aS E)(hO:Mm E)(hQ:∀fr w t,Q fr (az w t)->Q fr w){fr:IR}{IC:List IR}{w:I3}(hfit:Fit E q fr IC w)(h:∀t,∃n,Bm E.P Q n fr IC (az w t)):Ev E Q fr IC w:=by
 apply Ln;intro Ac;obtain⟨n,hn⟩:=h (big E Q (fr,IC,w));have Ae:∀i,i<=n->(∃q,Fit E q (sq E Q (fr,IC,w) i).1 (sq E Q (fr,IC,w) i).2.1 (sq E Q (fr,IC,w) i).2.2)/\¬ Ev E Q (sq E Q (fr,IC,w) i).1 (sq E Q (fr,IC,w) i).2.1 (sq E Q (fr,IC,w) i).2.2 /\
  Bm E.P Q (n-i) (sq E Q (fr,IC,w) i).1 (sq E Q (fr,IC,w) i).2.1 (az (sq E Q (fr,IC,w) i).2.2 (big E Q (fr,IC,w))):=by
  intro i;induction i with
  | zero=>intro _;exact⟨⟨_,hfit⟩,Ac,hn⟩
  | succ i ih =>
    intro hi;obtain⟨⟨q,hf⟩,he,hr⟩:=ih (by omega);generalize hs:sq E Q (fr,IC,w) i=s at hf he hr;(have Aa:sq E Q (fr,IC,w) (i+1)=Me E Q s:=by rw[<-hs];rfl);rcases hr.cases hE hO (hf.tape _) with⟨A0,hm,hq⟩|⟨A0,A3,k,A5,A2,w',es,hk,A7,A4⟩
    ·exfalso;obtain⟨a,b,c⟩:=s;obtain⟨h1,h2,h3⟩:=A0;simp only at h1 h2 h3 hm hq he;subst h3;exact he (.stop hm h2 (hQ _ _ _ hq))
    ·-- the tape of all,at this place
     (have A6:∀A5 A2 w' es,J0 E.P Jx (Gr s.1 (s.2.1++[aP])) (az s.2.2 (MQ E Q s))=.go (Gr A5 (A2++[aP])) w' es->¬ Ev E Q A5 A2 w':=by unfold MQ;rw[dif_pos ⟨he,A0,A3⟩];exact J1 (tD he ⟨A0,A3⟩));(have hex:∃s',QL E Q s s':=by apply Ln;intro A1;(have Ad:∀m q,s.2.2.drawn<=m->m<w'.drawn->big E Q (fr,IC,w) m q=MQ E Q s m q:=by intro m q hm _;have:=yu (E:=E) (Q:=Q) (fr,IC,w) (i:=i) (n:=m) (by rw[hs];exact A1) (by rw[hs];exact hm);rw[this,hs]);obtain⟨A9,LV,n2,e1,e2,-,e3,e4,e5⟩:=gH hE (hf.tape _) A0 A3 A7 (eL _ _) (t:=MQ E Q s) Ad;exact A1 ⟨(A5,A2,az w' (MQ E Q s)),e5,es,e3⟩);(have Af:Me E Q s=IH hex:=by unfold Me;rw[dif_pos hex]);obtain⟨n1,es1,n2⟩:=J1 hex;rw[<-Af] at n1 n2;obtain⟨A9,LV,q2,e1,e2,-,e3,e4,e5⟩:=gH hE (hf.tape _) A0 A3 n2 (eL _ _) (t:=big E Q (fr,IC,w)) (by
      intro m q h1 h2;have:=FQ (E:=E) (Q:=Q) (fr,IC,w) (i:=i) (n:=m) (by rw[hs];exact h1) (by rw[Aa];exact h2);rw[this,hs]
      rfl)
     (have Ab:(Me E Q s).1=A9/\(Me E Q s).2.1=LV:=by simp only[Gr,K2,and_true] at e1;exact⟨e1.1,Lq e1.2⟩);rw[Aa];refine⟨?_,A6 _ _ _ _ n2,?_⟩
     ·rw[Ab.1,Ab.2];exact⟨_,e2⟩
     ·have A8:J0 E.P Jx (Gr s.1 (s.2.1++[aP])) (az s.2.2 (big E Q (fr,IC,w)))=.go (Gr (Me E Q s).1 ((Me E Q s).2.1++[aP])) (az (Me E Q s).2.2 (big E Q (fr,IC,w))) es1:=e3;rw[A7] at A8;simp only[GStep.go.injEq] at A8;obtain⟨x1,x2,x3⟩:=A8;simp only[Gr,K2,and_true] at x1;have y1:=x1.1;have y2:=Lq x1.2;rw[<-y1,<-y2,<-x2];rw[show n-(i+1)=k by omega];exact A4
 obtain⟨⟨q,hf⟩,he,hr⟩:=Ae n (LR _);rw[Nat.sub_self] at hr;rcases hr.cases hE hO (hf.tape _) with⟨A0,hm,hq⟩|⟨A0,A3,k,A5,A2,w',es,hk,A7,A4⟩
 ·generalize sq E Q (fr,IC,w) n=s at *
  obtain⟨a,b,c⟩:=s;obtain⟨h1,h2,h3⟩:=A0;simp only at h1 h2 h3 hm hq he;subst h3;exact he (.stop hm h2 (hQ _ _ _ hq))
 ·omega
end
def Left (E:Env)(R:Ending->I3->Prop)(fr:IR)(w:I3):Prop :=
 ∃t v fn,R (.returned v) (az w t)/\fr.kind=.normal/\E.P.funcs[fr.fn]?=Kf fn/\(results fn fr.tmps).run E.P (az w t)=.ok v (az w t)
section
variable {E:Env}
theorem sY [IY E] (hE:aS E)(hO:Mm E){f:L3}{args:Array L4}{w:I3}{R:Ending->I3->Prop}(hR:∀e w',R e w'->∃v,e=.returned v)(h:∀t,Calls E.P f args (az w t) R)
 (hfit:Fit E n (MT E.P f args .normal) [] w):Ev E (λfr w'=>Left E R fr w'/\fr.fn=f) (MT E.P f args .normal) [] w:=by
 refine bar hE hO ?_ hfit λt=>?_
 ·rintro fr w t ⟨⟨t',v,fn,h1,h2,h3,h4⟩,h5⟩;exact⟨⟨t',v,fn,h1,h2,h3,h4⟩,h5⟩
 ·obtain⟨e,w',fr,h1,h2,h3,h4⟩:=h t [aP];obtain⟨v,rfl⟩:=hR e w' h1;obtain⟨n,hn⟩:=h2;obtain⟨m1,m2,m3,fn,m4,m5⟩:=h4;refine⟨n,fr,w',hn,m1,m2,⟨w'.tape,v,fn,h1,m3,m4,m5⟩,h3⟩
theorem x8 [IY E] (hE:aS E){Q:IR->I3->Prop}{fr:IR}{IC:List IR}{w:I3}(h:Ev E Q fr IC w)(hfit:Fit E n fr IC w):¬ bY (fr::IC):=by
 induction h generalizing n with
 | stop h1 _ _ =>rintro⟨f,h2,c,h3⟩;simp only[MD,List.not_mem_nil,or_false] at h2;rw[h2,h1] at h3;cases h3
 | step F S N X hne hop hs _ ih =>intro A1;obtain⟨A2,A0,n',e1,e2,e3,-⟩:=gH hE (hfit.tape (λ_ _=>0)) hne hop (hs _) (eL _ _) (t:=λ_ _=>0) (λ_ _ _ _=>rfl);simp only[Gr,K2,and_true] at e1;have y2:=Lq e1.2;rw[<-e1.1,<-y2] at e2 e3;exact ih _ e2 (e3.1 A1)
structure Lt (E:Env)(n:Nat)(r:Rel)(cs:List IR)(fr:IR)(IC:List IR)(w:I3)(G:Ly)(W:I3):Prop where
 ex:∃FR I1 p ls,G=Gr FR (I1++cs)/\bb E r Lw p fr FR/\Jy E r ls IC I1/\n=p+ls
 bot:JF rY (fr::IC)
 wr:WR E r w W
def along (w W:I3):I3:=az w λn q=>W.tape (W.drawn+(n-w.drawn)) q
theorem Ah (b:Nat)(w W:I3):TA b (along w W) W:=by
 intro i q _;show W.tape (W.drawn+(w.drawn+i-w.drawn)) q=_;rw[Nat.add_sub_cancel_left]
theorem sI (hE:aS E){r:Rel}{cs:List IR}{fr:IR}{IC:List IR}{w:I3}{W:I3}(hk:Lt E n r cs fr IC w G W)(hne:¬ AtEnd fr IC)(hop:¬ mH E fr)
 {fr':IR}{IL:List IR}{w':I3}{es:Array Mp}(hs:J0 E.P Jx (Gr fr (IC++[aP])) (along w W)=.go (Gr fr' (IL++[aP])) w' es) :
 ∃r' G' W' ES n',J0 E.P m G W=.go G' W' ES/\Lt E n' r' cs fr' IL w' G' W'/\Fr E r r' (along w W) w' W W'/\Jo r' es ES/\VM E n n' (fr::IC) (fr'::IL) ES:=by
 obtain⟨FR,A6,p,ls,rfl,h1,h2,rfl⟩:=hk.ex;have hm:=iN (m0:=Jx) (cl:=[aP]) (cs:=cs) (m:=m) hE h1 h2 (⟨hk.wr.heap,hk.wr.os,hk.wr.base,hk.wr.ok,hk.wr.env,hk.wr.big⟩:WR E r (along w W) W) (Ah _ w W) hk.bot hop (λa b c=>hne ⟨a,b,c⟩) (LR _);rw[hs] at hm;rcases hm with⟨r',A5,A3,A2,A0,W',ES,l',A1,e1,e2,e3,e4,e5,e6,e7,e8,e9,A4⟩|hm
 ·simp only[Gr,K2,and_true] at e1;have y1:=e1.1;have y2:=Lq e1.2;subst y1 y2;exact⟨r',_,W',ES,_,e2,⟨⟨A2,A0,l',A1,rfl,e3,e4,rfl⟩,e8,e5⟩,e6,e7,e9,A4.imp id λh hl d=>by rw[e7.deaf,h hl]⟩
 ·exact absurd hm.1 (eL _ _)
theorem Lt.rely {r:Rel}{cs:List IR}{fr:IR}{IC:List IR}{w:I3}{W W₁:I3}(hk:Lt E n r cs fr IC w G W)(ho:W₁.os=W.os)(hs:gN<=W₁.heap.size)(hh:∀b B,r b B->W₁.heap[B]?=W.heap[B]?):Lt E n r cs fr IC w G W₁:=by
 refine⟨hk.ex,hk.bot,⟨λb B hb=>?_,λhl=>ho.trans (hk.wr.os hl),hk.wr.base,hk.wr.ok,by rw[ho];exact hk.wr.env,⟨hk.wr.big.1,hs⟩⟩⟩;obtain⟨o,O,e1,e2,e3⟩:=hk.wr.heap b B hb;exact⟨o,O,e1,(hh b B hb).trans e2,e3⟩
theorem dY {r:Rel}{cs:List IR}{fr:IR}{IC:List IR}{w:I3}{W:I3}(hk:Lt E n r cs fr IC w G W):G.status=.running:=by
 obtain⟨FR,A0,_,_,rfl,-⟩:=hk.ex;rfl
end
def only (g:Nat):Rel:=λa b=>a=g/\b=g
theorem DK (g:Nat):(only g).OK:=⟨λx y=>x.2.trans y.2.symm,λx y=>x.1.trans y.1.symm,λx=>by rw[x.1,x.2]⟩
theorem eH (g:Nat):cP (only g):=λ_ _ h=>h.1.trans h.2.symm
structure Self (E:Env)(bt:L3->MA->Prop)(g:Nat)(fr:IR)(IC:List IR):Prop where
 Tu:bb E (only g) Lw 0 fr fr
 sg:∃n,Jy E (only g) n IC IC
 bot:JF bt (fr::IC)
structure xL (g:Nat)(w W:I3):Prop where
 cells:∃x e z,w.heap[g]?=Kf (.cells x e z)/\W.heap[g]?=Kf (.cells x e z)/\∀v∈x,∃k n,v=.int k n
 env:W.os.env=w.os.env
 big:gN<=w.heap.size/\gN<=W.heap.size
section
variable {E:Env} {bt:L3->MA->Prop} {g:Nat} {w W:I3}
theorem xL.wr (hlv:¬ E.lv)(hG:∀i,¬ E.G i)(h:xL g w W):WR E (only g) w W:=by
 obtain⟨x,e,z,h1,h2,h3⟩:=h.cells;refine⟨λb B hb=>?_,λx=>absurd x hlv,λi hi=>absurd hi (hG i),DK g,h.env,h.big⟩;obtain⟨rfl,rfl⟩:=hb;refine⟨_,_,h1,h2,.cells ⟨rfl,λi v V a b=>?_⟩⟩;rw[a] at b;cases b;obtain⟨k,n,rfl⟩:=h3 v (LN a);exact .int _ _
structure nE (g:Nat)(W W':I3):Prop where
 size:W'.heap.size=W.heap.size
 keep:∀b,b≠g->W'.heap[b]?=W.heap[b]?
 os:W'.os=W.os
 tape:W'.tape=W.tape
 out:W'.output=W.output
def kC (g:Nat)(e:Mp):Prop:=L6 (only g) e.loc e.loc
def stat (q:Bool)(g:Ly):Ly:=if q then g else { g with status:=.blocked }
theorem tie [IY E] (hE:aS E)(hlv:¬ E.lv)(hG:∀i,¬ E.G i){fr:IR}{IC cl cs:List IR}(hs:Self E bt g fr IC)(hO:∀c,¬ E.Op c)(hne:¬ AtEnd fr IC)(h:xL g w W)(ht:W.tape=w.tape)(hd:W.drawn=w.drawn)
 {a:Ly}{w':I3}{es:Array Mp}(hst:J0 E.P m (Gr fr (IC++cl)) w=.go a w' es)(hsz:w'.heap.size<=w.heap.size)(h1:a.status≠.waiting)(h2:¬ (Fatal a/\a.status=.running)) :
 ∃W' fr' IL q,a=stat q (Gr fr' (IL++cl))/\J0 E.P m (Gr fr (IC++cs)) W=.go (stat q (Gr fr' (IL++cs))) W' es/\Self E bt g fr' IL/\W'.heap[g]?=w'.heap[g]?/\nE g W W'/\W'.drawn=w'.drawn/\(∀e∈es,kC g e)/\nE g w w'/\W'.os.env=w'.os.env:=by
 have hw:=h.wr (E:=E) hlv hG;have A5:∀b,TA b w W:=λb i q _=>by rw[ht,hd]
 obtain⟨n,A4⟩:=hs.sg;have hm:=iN (m0:=m) (m:=m) (cl:=cl) (cs:=cs) hE hs.Tu A4 hw (A5 _) hs.bot (λ⟨_,c,_,_,x⟩=>hO c x) (λa b c=>hne ⟨a,b,c⟩) (LR _);rw[hst] at hm;have A6:g<w.heap.size:=by obtain⟨x,e,z,q,_⟩:=h.cells;exact(Array.getElem?_eq_some_iff.1 q).1
 have A0:∀{r':Rel} {W':I3},WR E r' w' W'->Fr E (only g) r' w w' W W'->r'=only g/\W'.heap[g]?=w'.heap[g]?/\nE g W W'/\W'.drawn=w'.drawn/\nE g w w'/\W'.os.env=w'.os.env:=by
  intro r' W' k1 k2;have hr:r'=only g:=by
   funext b B;refine propext ⟨λhb=>?_,λhb=>k2.sub.1 _ _ hb⟩;rcases k2.old b B hb with x|⟨x,_⟩
   ·exact x
   ·have:=(k1.low hb).1;omega
  refine⟨hr,?_,⟨?_,λb hb=>?_,(k2.Ow hlv).1,k2.tape,k2.out.1⟩,?_,⟨?_,λb hb=>?_,(k2.Ow hlv).2,k2.KC,k2.out.2⟩,k1.env⟩
  ·obtain⟨o,O,x,y,z⟩:=k1.heap g g (by rw[hr];exact⟨rfl,rfl⟩);rw[x,y,z.eq (by rw[hr];exact eH g)]
  ·have a1:=k2.grow;have a2:=k2.size;have a3:=k2.Jw;omega
  ·by_cases hlt:b<W.heap.size
   ·exact k2.keep b hlt λc hc=>hb hc.2
   ·have a1:=k2.grow;have a2:=k2.size;have a3:=k2.Jw;rw[LI (by omega),LI (by omega)]
  ·obtain⟨d,x,y⟩:=k2.drawn;omega
  ·have a3:=k2.Jw;omega
  ·by_cases hlt:b<w.heap.size
   ·exact k2.LG b hlt λc hc=>hb hc.1
   ·have a3:=k2.Jw;rw[LI (by omega),LI (by omega)]
 rcases hm with⟨r',fr',IL,FR,A3,W',ES,l',A2,e1,e2,e3,e4,e5,e6,e7,e8,-⟩|⟨hm,hb⟩
 ·obtain⟨rfl,k1,k2,k3,k4,k5⟩:=A0 e5 e6;have q1:=e3.eq (eH g);have q2:=e4.eq (eH g);have q3:=e7.eq (eH g);subst q1 q2 q3;refine⟨W',fr',IL,Jx,e1,e2,⟨e3.flip hlv,⟨_,e4⟩,e8⟩,k1,k2,k3,λe he=>?_,k4,k5⟩;obtain⟨i,hi⟩:=L2 he;exact(e7.2 i e e hi hi).loc
 ·have A1:a.status=.blocked:=by
   rcases hm with x|x|⟨d,x,y,z,u⟩
   ·exact x
   ·exact absurd x h1
   ·exact absurd ⟨⟨d,x,y,z⟩,u⟩ h2
  obtain⟨r',q,fr',IL,FR,A3,W',ES,l',A2,e1,e2,e3,e4,e5,e6,e7,e8⟩:=hb A1;obtain⟨rfl,k1,k2,k3,k4,k5⟩:=A0 e5 e6;have q1:=e3.eq (eH g);have q2:=e4.eq (eH g);have q3:=e7.eq (eH g);subst q1 q2 q3;refine⟨W',fr',IL,Lw,e1,e2,⟨e3.flip hlv,⟨_,e4⟩,e8⟩,k1,k2,k3,λe he=>?_,k4,k5⟩;obtain⟨i,hi⟩:=L2 he;exact(e7.2 i e e hi hi).loc
theorem ni {fr:IR}{c:IR}{cs:List IR}{fn:Func}(hfn:E.P.funcs[fr.fn]?=Kf fn)(hr:fn.results=#[])(h1:fr.mode=.returning)(h2:fr.defers=[])(h3:fr.kind=.normal)(w:I3) :
 J0 E.P m (Gr fr (c::cs)) w=.go (Gr (c.finish (.tuple #[])) cs) w #[]:=by
 have A0:(results fn fr.tmps).runT E.P w #[]=(.ok (.tuple #[]) w,#[]):=by unfold results;simp[hr];rfl
 unfold J0;simp only[Gr,h1];unfold Mn;simp only[h2,h1,hfn,A0];simp[doReturn,h3,GStep.after,Go.seen]
end
section
variable {E:Env}
theorem zB {fr:IR}{w:I3}(hfit:Fit E q fr [] w)(m1:fr.mode≠.run)(m2:fr.defers=[]){Mh:IR}{IC:List IR}{w2:I3}:LO E.P (n+1) (L5 fr [aP] w)≠.next (L5 Mh (IC++[aP]) w2):=by
 intro h1;obtain⟨r,p,ls,g1,g2,-⟩:=hfit;have A5:∀{g:Ly} {k:Nat} {w1:I3},g.status=.running->g.callers=[]->(∀w,∃o w' es,J0 E.P Jx g w=.ended o w' es)->LO E.P k (one g w1)≠.next (L5 Mh (IC++[aP]) w2):=by
  intro g k w1 hg hc he e;cases k with
  | zero =>simp only[LO,Ks,L5,one,Lz] at e;obtain⟨-,e,-⟩:=e;(have e':g={ frame:=Mh,callers:=IC++[aP],status:=.running,dying:=LL }:=by simpa using e);rw[e'] at hc;exact absurd (congrArg List.length hc) (by rw[List.length_append];simp)
  | succ k =>obtain⟨o,w',es,e1⟩:=he w1;simp only[LO,bK hg e1] at e;cases e
 have A2:(Gr fr [aP]).status=.running:=rfl;have h1:LO E.P (n+1) (one (Gr fr [aP]) w)=.next (L5 Mh (IC++[aP]) w2):=h1;have hb:∀w,∃o w' es,J0 E.P Jx (Gr aP []) w=.ended o w' es:=λw=>⟨_,_,_,rfl⟩;have hc:∀ch w,∃o w' es,J0 E.P Jx (Gr (aP.raise ch) []) w=.ended o w' es:=λch w=>⟨_,_,_,rfl⟩;have A6:(∃o w' es,J0 E.P Jx (Gr fr [aP]) w=.ended o w' es)\/(∃w' es,J0 E.P Jx (Gr fr [aP]) w=.go (Gr aP []) w' es)\/∃ch w' es,J0 E.P Jx (Gr fr [aP]) w=.go (Gr (aP.raise ch) []) w' es:=by
  obtain⟨x,hx⟩:=g2.has;have hk:=g2.Kc;obtain⟨fn,A1,A4,defers,mode,A3,A0⟩:=fr;simp only at m1 m2 hx hk;subst m2;cases mode with
  | run=>exact absurd rfl m1
  | panicking ch =>refine .inr (.inr ⟨ch,w,#[],?_⟩);(have c1:Lo E.P ⟨fn,A1,A4,[],.panicking ch,A3,A0⟩=Lw:=by unfold Lo;rw[hx]);simp only[J0,Gr,Mn,c1,K1,if_false]
  | returning =>
    simp only[J0,Gr,Mn,hx];generalize (results x A1).runT E.P w #[]=y;obtain⟨A7,es⟩:=y;cases A7 with
    | halt h w1=>cases h<;>exact .inl ⟨_,_,_,rfl⟩
    | ok v w1 =>
      right;left;rcases hk with hk|hk
      ·subst hk;exact⟨_,_,rfl⟩
      ·subst hk;exact⟨_,_,rfl⟩
 rcases A6 with⟨o,w',es,e⟩|⟨w',es,e⟩|⟨ch,w',es,e⟩
 ·simp only[LO,bK A2 e] at h1;cases h1
 ·simp only[LO,cy A2 e] at h1;exact A5 rfl rfl hb h1
 ·simp only[LO,cy A2 e] at h1;exact A5 rfl rfl (hc ch) h1
end
structure dh where
 fs:List L3
 ts:List Mb
 J5:List L3:=[]
 JK:List L3:=[]
 deep:List L3:=[]
 gl:Bool:=Jx
 op:Code->Bool:=λ_=>Lw
 ty:List L3:=[]
 lv:Bool:=Jx
def dh.kd (L:dh)(f:L3):Kd:=if L.J5.contains f then .disable else if L.JK.contains f then .enable else if L.deep.contains f then .deep else .plain
def env (P:K0)(L:dh)(J:L4->L4->Prop:=λ_ _=>False):Env:={ P,J,F:=(·∈L.fs),T:=(·∈L.ts),G:=λg=>L.gl=Jx/\g<P.globals.size,K:=L.kd,lv:=L.lv=Jx,Op:=λc=>L.op c=Jx,Ty:=(·∈L.ty) }
mutual
def jW (L:dh):Nat->L4->Bool
 | 0,_=>Lw
 | n+1,v=>match v with
   | .bool _|.int _ _|.string _|.pointer LL|.slice LL _ _|.map LL|.chan LL|.nilFunc|.nilIface=>Jx
   | .func (.func f) x y=>L.fs.contains f&&fg L n x.toList&&fg L n y.toList
   | .iface t v=>L.ts.contains t&&jW L n v
   | .agg x=>fg L n x.toList
   | .tuple x=>fg L n x.toList
   | _=>Lw
def fg (L:dh):Nat->List L4->Bool
 | 0,_=>Lw
 | _+1,[]=>Jx
 | n+1,v::l=>jW L n v&&fg L n l
end
def cu (P:K0)(L:dh):Operand->Bool
 | .tmp _=>Jx
 | .const v=>jW L 40 v
 | .global g=>L.gl&&decide (g<P.globals.size)
 | .func f=>L.fs.contains f
def VG:Builtin->Bool
 | .append|.cap|.clear|.copy|.len|.max|.min|.unsafeSliceData|.unsafeString=>Jx
 | _=>Lw
def xu (P:K0)(L:dh)(c:Call):Bool :=
 c.args.toList.all (cu P L)&&match c.callee with
 | .value f=>cu P L f
 | .invoke x _=>cu P L x
 | .builtin b=>VG b
def BV (P:K0)(t:Mb):Bool:=match P.underlying t with
 | some .bool|some (.int _)|some .string|some (.pointer _)|none=>Jx
 | _=>Lw
def U4 (P:K0)(s t:Mb):Bool:=match P.underlying s,P.underlying t with
 | some (.int _),Kf (.int _)|some (.int _),Kf .string|some (.pointer _),Kf .unsafePointer|some .unsafePointer,Kf (.pointer _)=>Jx
 | some (.slice e),Kf .string=>(match P.underlying e with|some (.int .u8)=>Jx|_=>Lw)
 | none,_|_,LL=>Jx
 | _,_=>Lw
def KO (P:K0)(L:dh):Op->Bool
 | .move x|.assign x|.box _ x|.load _ x|.nilCheck x|.unOp _ _ x|.fieldAddr _ x _|.field _ x _|.extract x _|.panic x=>cu P L x
 | .pick c a b=>cu P L c&&cu P L a&&cu P L b
 | .alloc _=>Jx
 | .build _ ps|.buildSlice _ _ ps=>ps.toList.all λp=>cu P L p.2
 | .store _ a x|.makeSlice _ a x|.indexAddr _ a x|.index _ a x=>cu P L a&&cu P L x
 | .binOp _ t x y _=>cu P L x&&cu P L y&&BV P t
 | .makeInterface t x=>cu P L x&&L.ts.contains t
 | .convert s t x=>cu P L x&&U4 P s t
 | .makeFunc (.func f) first captured=>L.fs.contains f&&first.toList.all (cu P L)&&captured.toList.all (cu P L)
 | .slice _ x l h m=>cu P L x&&l.all (cu P L)&&h.all (cu P L)&&m.all (cu P L)
 | .call c=>xu P L c
 | .defer c=>xu P L c&&(match c.callee with|.value (.func _)=>Jx|.value _=>Lw|_=>Jx)
 | .range t x=>cu P L x&&(match P.underlying t with|some .string|none=>Jx|_=>Lw)
 | .next x q=>cu P L x&&q
 | _=>Lw
def iJ (P:K0)(L:dh):Code->Bool
 | .region _ ops _=>ops.toList.all λo=>KO P L o.op
 | .seq a b=>iJ P L a&&iJ P L b
 | .cond c a b=>cu P L c&&iJ P L a&&iJ P L b
 | .block _ b|.loop b|.scope b=>iJ P L b
 | .rangeFunc f _ a b=>cu P L f&&iJ P L a&&iJ P L b
 | _=>Jx
section
variable {P:K0} {L:dh} {J:L4->L4->Prop}
theorem sV:∀n,(∀v,jW L n v=Jx->∀r,VR (env P L J) r v v)/\∀l,fg L n l=Jx->∀r,∀v∈l,VR (env P L J) r v v:=by
 intro n;induction n with
 | zero=>exact⟨λv h=>by simp[jW] at h,λl h=>by simp[fg] at h⟩
 | succ n ih =>
   refine⟨λv h r=>?_,λl h r=>?_⟩
   ·(have A0:∀(x:Array L4),fg L n x.toList=Jx->∀(i:Nat) v V,x[i]?=Kf v->x[i]?=Kf V->VR (env P L J) r v V:=by intro x hx i v V h1 h2;rw[h1] at h2;cases h2;exact ih.2 _ hx r v (by simpa using LN h1));unfold jW at h;cases v with
    | bool b=>exact .bool b
    | int k n=>exact .int k n
    | string s=>exact .string s
    | pointer a=>cases a with|none=>exact .Ji|some a=>cases h
    | slice a l c=>cases a with|none=>exact .IU l c|some a=>cases h
    | map a=>cases a with|none=>exact .KT|some a=>cases h
    | chan a=>cases a with|none=>exact .Ki|some a=>cases h
    | nilFunc=>exact .nilFunc
    | nilIface=>exact .nilIface
    | func f x y =>
      cases f with
      | func f =>simp only[ID] at h;exact .func (.func (by simpa [env] using h.1.1)) rfl (A0 x h.1.2) rfl (A0 y h.2)
      | _=>cases h
    | iface t v =>simp only[ID] at h;exact .iface (by simpa [env] using h.1) (ih.1 v h.2 r)
    | agg x=>exact .agg rfl (A0 x h)
    | tuple x=>exact .tuple rfl (A0 x h)
    | _=>cases h
   ·cases l with
    | nil=>intro v hv;cases hv
    | cons u l =>
      unfold fg at h;simp only[ID] at h;intro v hv;rcases MD.1 hv with rfl|hv
      ·exact ih.1 v h.1 r
      ·exact ih.2 l h.2 r v hv
theorem aR {x:Operand}(h:cu P L x=Jx):aQ (env P L J) x:=by
 cases x with
 | tmp _=>trivial
 | const v=>exact λr=>(sV 40).1 v h r
 | global g=>simpa [cu,env,aQ] using h
 | func f=>simpa [cu,env,aQ] using h
theorem lz {p:α->Bool}{x:Array α}(h:x.toList.all p=Jx):∀a∈x,p a=Jx:=by
 intro a ha;exact Kx.1 h a (by simpa using ha)
theorem GE {t:Array Mb}{b:Builtin}(h:VG b=Jx):Dr (env P L J) t b:=by
 cases b<;>first|trivial|cases h
theorem xx {c:Call}(h:xu P L c=Jx):iF (env P L J) c:=by
 unfold xu at h;simp only[ID] at h;refine⟨λx hx=>aR (lz h.1 x hx),?_⟩;have h2:=h.2;obtain⟨cl,ar,A0⟩:=c;cases cl with
 | value f=>exact aR h2
 | invoke x n=>exact aR h2
 | builtin b=>exact GE h2
theorem El (h:BV P t=Jx):Flat (env P L J) t:=by
 intro d hd;have A0:P.underlying t=Kf d:=hd;unfold BV at h;rw[A0] at h;cases d<;>first|trivial|cases h
theorem GJ {s:Mb}(h:U4 P s t=Jx):Gn (env P L J) s t:=by
 intro a b ha hb;have A1:P.underlying s=Kf a:=ha;have A0:P.underlying t=Kf b:=hb;unfold U4 at h;rw[A1,A0] at h;cases a<;>cases b<;>first
  | trivial
  | cases h
  | (rename_i e
     show P.underlying e=_;cases hu:P.underlying e with
     | none=>simp[hu] at h
     | some d =>
       cases d with
       | int k=>cases k<;>first|rfl|simp[hu] at h
       | _=>simp[hu] at h)
theorem Fc {o:Op}(h:KO P L o=Jx):oV (env P L J) o:=by
 cases o with
 | pick c a b=>simp only[KO,ID] at h;exact⟨aR h.1.1,aR h.1.2,aR h.2⟩
 | alloc _=>trivial
 | build t ps=>exact λp hp=>aR (lz h p hp)
 | buildSlice t n ps=>exact λp hp=>aR (lz h p hp)
 | store t a x=>simp only[KO,ID] at h;exact⟨aR h.1,aR h.2⟩
 | makeSlice t a x=>simp only[KO,ID] at h;exact⟨aR h.1,aR h.2⟩
 | indexAddr t a x=>simp only[KO,ID] at h;exact⟨aR h.1,aR h.2⟩
 | index t a x=>simp only[KO,ID] at h;exact⟨aR h.1,aR h.2⟩
 | binOp op t x y u=>simp only[KO,ID] at h;exact⟨aR h.1.1,aR h.1.2,El h.2⟩
 | makeInterface t x=>simp only[KO,ID] at h;exact⟨aR h.1,by simpa [env] using h.2⟩
 | convert s t x=>simp only[KO,ID] at h;exact⟨aR h.1,GJ h.2⟩
 | makeFunc f x y =>
   cases f with
   | func f =>simp only[KO,ID] at h;exact⟨by simpa [env] using h.1.1,λa ha=>aR (lz h.1.2 a ha),λa ha=>aR (lz h.2 a ha)⟩
   | _=>cases h
 | slice t x l g m =>
   simp only[KO,ID] at h;refine⟨aR h.1.1.1,λy hy=>?_,λy hy=>?_,λy hy=>?_⟩
   ·cases hy;exact aR h.1.1.2
   ·cases hy;exact aR h.1.2
   ·cases hy;exact aR h.2
 | call c=>exact xx h
 | defer c =>simp only[KO,ID] at h;refine⟨xx h.1,λv hv=>?_⟩;have h2:=h.2;rw[hv] at h2;cases v<;>first|exact⟨_,rfl⟩|cases h2
 | range t x =>simp only[KO,ID] at h;refine⟨aR h.1,λd hd=>?_⟩;have h2:=h.2;have A0:P.underlying t=Kf d:=hd;rw[A0] at h2;cases d<;>first|rfl|cases h2
 | next x q=>simp only[KO,ID] at h;exact⟨aR h.1,h.2⟩
 | _=>first|exact aR h|cases h
theorem CW:∀{c:Code},iJ P L c=Jx->aU (env P L J) c:=by
 intro c;induction c with
 | region id ops d =>intro h o ho;exact Fc (lz (p:=λo:Oper=>KO P L o.op) (x:=ops) h o ho)
 | seq a b iha ihb=>intro h;simp only[iJ,ID] at h;exact⟨iha h.1,ihb h.2⟩
 | cond c a b iha ihb=>intro h;simp only[iJ,ID] at h;exact⟨aR h.1.1,iha h.1.2,ihb h.2⟩
 | block id b ih=>intro h;exact ih h
 | loop b ih=>intro h;exact ih h
 | scope b ih=>intro h;exact ih h
 | rangeFunc f ps a b iha ihb=>intro h;simp only[iJ,ID] at h;exact⟨aR h.1.1,iha h.1.2,ihb h.2⟩
 | _=>intro _;trivial
end
end Go.Proofs.Rn
namespace Go.Proofs.Rn
open Go
variable {i:TypeInfo}{J:L4->L4->Prop}
theorem yH {σ α:Type}{f:α->σ->Option (ForInStep σ)}{I:σ->Prop}(hf:∀a s x,I s->f a s=Kf x->match x with|.yield s'=>I s'|.done s'=>I s'):∀(l:List α) s s',I s->forIn l s f=Kf s'->I s':=by
 intro l;induction l with
 | nil=>intro s s' hs h;simp at h;exact h ▸ hs
 | cons a l ih =>
   intro s s' hs h;simp only[List.forIn_cons,Option.bind_eq_bind,IF] at h;obtain⟨x,hx,h⟩:=h;have:=hf a s x hs hx;cases x with
   | done b=>simp at h;subst h;exact this
   | yield b=>exact ih b s' this h
def cI (i:TypeInfo):Prop:=(∀k,i.desc≠.float k/\i.desc≠.complex k)/\∀(E:Env) r z,i.zero=Kf z->VR E r z z
section
variable {info:Mb->Option TypeInfo}
theorem sF (hi:∀t i,info t=Kf i->cI i){fs:Array Field}(h:Made.reckonStruct info fs=Kf i):cI i:=by
 unfold Made.reckonStruct at h;simp only[Option.bind_eq_bind,Option.pure_def,IF] at h;obtain⟨s,hs,h⟩:=h;have A2:∀(E:Env) r x,s.2.2.2.2.2.2.2.1=Kf x->AR E r x x:=by
  rw[<-Array.forIn_toList] at hs;refine yH (I:=λs=>∀(E:Env) r x,s.2.2.2.2.2.2.2.1=Kf x->AR E r x x) ?_ _ _ _ ?_ hs
  ·intro f s x hI hx;obtain⟨i,A1,hx⟩:=IF.1 hx;have hg:=(hi _ i A1).2;have A0:∀(c:Prop) [Decidable c] (E:Env) r y,(if c then LL else s.2.2.2.2.2.2.2.1.bind λa=>i.zero.bind λb=>Kf (a++b.cells))=Kf y->AR E r y y:=by
    intro c _ E r y hy;split at hy
    ·cases hy
    ·simp only[IF] at hy;obtain⟨a,ha,b,hb,e⟩:=hy;cases e;exact(hI E r a ha).append (AR.cells (hg E r b hb))
   by_cases h1:i.str.isEmpty=Jx
   ·simp only[h1,if_true,Option.bind_none] at hx;cases hx
   simp only[h1,K1,if_false] at hx;by_cases h2:f.embedded=Jx
   ·simp only[h2,if_true,Option.bind_none] at hx;cases hx
   simp only[h2,K1,if_false] at hx;by_cases h3:f.tag.isEmpty=Jx
   ·simp only[h3,if_true,Option.bind_some] at hx;by_cases h4:i.bytes=0
    ·rw[if_pos h4] at hx;cases hx;exact A0 _
    ·rw[if_neg h4] at hx;cases hx;exact A0 _
   ·simp only[h3,K1,if_false] at hx;obtain⟨tag,ht,hx⟩:=IF.1 hx;by_cases h4:i.bytes=0
    ·rw[if_pos h4] at hx;cases hx;exact A0 _
    ·rw[if_neg h4] at hx;cases hx;exact A0 _
  ·intro E r x hx;cases hx;exact .nil
 repeat' split at h
 all_goals
  cases h;refine⟨λk=>⟨by simp,by simp⟩,λE r z hz=>?_⟩;obtain⟨x,hx,rfl⟩:=L1.1 hz;exact .agg rfl (A2 E r x hx).2
theorem zt (hi:∀t i,info t=Kf i->cI i){d:TypeDesc}(h:Made.reckon info d=Kf i):cI i:=by
 have wd:∀{d:TypeDesc} {s:String} {z:L4} {c:Bool} {n:Nat},(∀k,d≠.float k/\d≠.complex k)->(∀(E:Env) r,VR E r z z)->cI (Made.word d s z c n) :=
  λh1 h2=>⟨h1,λE r z hz=>by cases hz;exact h2 E r⟩
 unfold Made.reckon at h;simp only[Option.bind_eq_bind,Option.pure_def] at h;cases d with
 | pointer e =>
   simp only[IF] at h;obtain⟨i',A0,h⟩:=h;(repeat' split at h);all_goals first
    | cases h
    | (simp only[IF] at h;obtain⟨s,hs,h⟩:=h;cases h;exact wd (λk=>⟨by simp,by simp⟩) λE r=>.Ji)
 | slice e=>simp only[IF] at h;obtain⟨i',A0,s,hs,h⟩:=h;cases h;exact wd (λk=>⟨by simp,by simp⟩) λE r=>.IU _ _
 | map k e=>simp only[IF] at h;obtain⟨i',A0,s,hs,i2,A1,s2,A2,h⟩:=h;cases h;exact wd (λk=>⟨by simp,by simp⟩) λE r=>.KT
 | chan d e=>simp only[IF] at h;obtain⟨i',A0,s,hs,h⟩:=h;cases h;exact wd (λk=>⟨by simp,by simp⟩) λE r=>.Ki
 | func ps rs v=>simp only[IF] at h;obtain⟨s,hs,h⟩:=h;cases h;exact wd (λk=>⟨by simp,by simp⟩) λE r=>.nilFunc
 | array n e =>
   simp only[IF] at h;obtain⟨i',A0,s,hs,h⟩:=h;cases h;refine⟨λk=>⟨by simp,by simp⟩,λE r z hz=>?_⟩;dsimp only at hz;split at hz
   ·cases hz
   ·split at hz
    ·cases hz;exact .agg rfl (by simp)
    ·obtain⟨y,hy,rfl⟩:=L1.1 hz;have hv:=(hi _ i' A0).2 E r y hy;refine .agg rfl λj v V h1 h2=>?_;rw[h1] at h2;cases h2;have hm:=LN h1;simp only[Array.mem_flatten,Array.mem_replicate] at hm;obtain⟨a,⟨-,rfl⟩,hm⟩:=hm;obtain⟨k,hk⟩:=L2 hm;exact(AR.cells hv).2 k v v hk hk
 | struct fs=>exact sF hi h
 | _=>cases h
theorem C4 {T:Tables}(ht:∀(t:Nat) i,T.types[t]?=Kf i->cI i):∀n t i,Made.infoAt T n t=Kf i->cI i:=by
 intro n;induction n with
 | zero=>intro t i h;cases h
 | succ n ih =>
   intro t i h;unfold Made.infoAt at h;split at h
   ·exact ht t i h
   ·obtain⟨d,hd,h⟩:=IF.1 h;exact zt ih h
theorem lV {P:K0}(ht:∀(t:Nat) i,P.types[t]?=Kf i->cI i){t:Mb}(h:P.info? t=Kf i):cI i:=by
 unfold Tables.info? at h;split at h
 ·exact ht t i h
 ·exact C4 ht _ t i h
theorem vf {P:K0}(ht:∀(t:Nat) i,P.types[t]?=Kf i->cI i):gR P:=by
 intro t k;have A0:∀d,P.underlying t=Kf d->d≠.float k/\d≠.complex k:=by
  intro d hd;unfold Program.underlying at hd;split at hd
  ·obtain⟨i,hi,rfl⟩:=L1.1 hd;exact(lV ht hi).1 k
  ·rename_i i _ hi;cases hd;exact(lV ht hi).1 k
  ·cases hd
 exact⟨λh=>(A0 _ h).1 rfl,λh=>(A0 _ h).2 rfl⟩
theorem AH {E:Env}(ht:∀(t:Nat) i,E.P.types[t]?=Kf i->cI i):fi E:=λ_ _ z h hz r=>(lV ht h).2 E r z hz
end
def tL (i:TypeInfo):Bool:=(match i.desc with|.float _|.complex _=>Lw|_=>Jx)&&(match i.zero with|some z=>jW { fs:=[],ts:=[] } 400 z|none=>Jx)
theorem VR.env {E E':Env}(hF:∀f,E.F f->E'.F f)(hT:∀t,E.T t->E'.T t)(hJ:∀a b,E.J a b->E'.J a b){r:Rel}{v V:L4}(h:VR E r v V):VR E' r v V:=by
 induction h with
 | ptr h=>exact .ptr h
 | slice l c h=>exact .slice l c h
 | func hf h1 _ h3 _ ih1 ih2 =>
   refine .func ?_ h1 ih1 h3 ih2;cases hf with
   | func h=>exact .func (hF _ h)
   | yield h=>exact .yield h
 | iface ht _ ih=>exact .iface (hT _ ht) ih
 | agg h1 _ ih=>exact .agg h1 ih
 | tuple h1 _ ih=>exact .tuple h1 ih
 | jf a b=>exact .jf (hJ _ _ a) b
 | _=>constructor
theorem Dx (h:tL i=Jx):cI i:=by
 unfold tL at h;simp only[ID] at h;refine⟨λk=>⟨λe=>?_,λe=>?_⟩,λE r z hz=>?_⟩
 ·rw[e] at h;exact absurd h.1 (by simp)
 ·rw[e] at h;exact absurd h.1 (by simp)
 ·have h2:=h.2;rw[hz] at h2;exact((sV (P:=E.P) (L:={ fs:=[],ts:=[] }) (J:=λ_ _=>False) 400).1 z h2 r).env (λf hf=>by cases hf) (λt ht=>by cases ht) (λ_ _ (h:False)=>h.elim)
def Tc (P:K0)(L:dh)(ops:Array Oper):List Nat->Nat->Option Nat
 | [],n=>Kf n
 | i::l,n=>match Tc P L ops l n,ops[i]? with
   | some m,Kf o=>if KO P L o.op then Kf m else match o.guard,o.op with
     | none,.call c=>(match c.callee with
       | .value (.func f)=>(match L.kd f with
         | .disable=>(match m with|k+1=>Kf k|0=>LL)
         | .enable=>Kf (m+1)
         | .deep=>if c.args.toList.all (cu P L) then Kf (m+1) else LL
         | .plain=>LL)
       | _=>LL)
     | none,.defer c=>(match c.callee with
       | .value (.func f)=>(match L.kd f with|.enable=>if c.args.size=0 then Kf (m+1) else LL|_=>LL)
       | _=>LL)
     | _,_=>LL
   | _,_=>LL
def Km (P:K0)(L:dh)(q:Nat):(Nat->Option Nat)->Code->Nat->Option Nat
 | _,.skip,n=>Kf n
 | ex,.seq a b,n=>(Km P L q ex b n).bind (Km P L q ex a)
 | ex,.cond c a b,n=>(match c with
   | .const (.bool Jx)=>Km P L q ex a n
   | c=>if L.op a then(if cu P L c then Km P L q ex b n else LL) else if cu P L c&&Km P L q ex a n==Km P L q ex b n then Km P L q ex a n else LL)
 | ex,.block id c,n=>Km P L q (ya ex id n) c n
 | ex,.loop c,_=>if Km P L q ex c q==Kf q then Kf q else LL
 | ex,.exit id,_=>ex id
 | _,.ret,_=>Kf 0
 | _,.region id ops d,n=>if L.op (.region id ops d) then Kf 0 else if d then LL else Tc P L ops (List.range ops.size) n
 | _,_,_=>LL
theorem GT {P:K0}{L:dh}{ops:Array Oper}:∀{l:List Nat} {n m:Nat},Tc P L ops l n=Kf m->RT (env P L J) ops l n m:=by
 intro l;induction l with
 | nil=>intro n m h;cases h;exact .nil
 | cons i l ih =>
   intro n m h;unfold Tc at h;split at h
   ·rename_i k o h1 h2;by_cases hb:KO P L o.op=Jx
    ·rw[if_pos hb] at h;cases h;exact .op h2 (Fc hb) (ih h1)
    ·rw[if_neg hb] at h;split at h
     ·rename_i c hg hc;split at h
      ·rename_i f hf;split at h
       ·rename_i hk;split at h
        ·cases h;exact .sp h2 hg hc (.J5 hf hk) (ih h1)
        ·cases h
       ·rename_i hk;cases h;exact .sp h2 hg hc (.JK hf hk) (ih h1)
       ·rename_i hk;split at h
        ·rename_i ha;cases h;exact .sp h2 hg hc (.deep hf hk λx hx=>aR (Kx.1 ha x (by simpa using hx))) (ih h1)
        ·cases h
       ·cases h
      ·cases h
     ·rename_i c hg hc;split at h
      ·rename_i f hf;split at h
       ·rename_i hk;split at h
        ·rename_i ha;cases h;exact .df h2 hg hc hf (Array.eq_empty_of_size_eq_zero ha) hk (ih h1)
        ·cases h
       ·cases h
      ·cases h
     ·cases h
   ·cases h
theorem AE {P:K0}{L:dh}{q:Nat}:∀{c:Code} {ex:Nat->Option Nat} {n m:Nat},Km P L q ex c n=Kf m->CT (env P L J) ex c n m:=by
 intro c;induction c with
 | skip=>intro ex n m h;simp only[Km] at h;cases h;exact .skip
 | seq a b iha ihb =>intro ex n m h;simp only[Km] at h;obtain⟨k,h1,h2⟩:=IF.1 h;exact .seq (ihb h1) (iha h2)
 | cond c a b iha ihb =>
   intro ex n m h;unfold Km at h;split at h
   ·exact .yes (iha h)
   ·split at h
    ·rename_i ho;split at h
     ·rename_i hb;exact .cond (aR hb) (.op ho) (ihb h)
     ·cases h
    split at h
    ·rename_i hb;simp only[ID,beq_iff_eq] at hb;exact .cond (aR hb.1) (iha h) (ihb (hb.2 ▸ h))
    ·cases h
 | block id c ih=>intro ex n m h;simp only[Km] at h;exact .block (ih h)
 | loop c ih =>
   intro ex n m h;simp only[Km] at h;split at h
   ·rename_i hb;cases h;exact .loop (ih (by simpa using hb))
   ·cases h
 | exit id=>intro ex n m h;simp only[Km] at h;exact .exit h
 | ret=>intro ex n m h;simp only[Km] at h;cases h;exact .ret
 | region id ops d =>
   intro ex n m h;simp only[Km] at h;split at h
   ·rename_i ho;exact .op ho
   ·split at h
    ·cases h
    ·rename_i hd;(obtain rfl:d=Lw:=by simpa using hd);exact .region (GT h)
 | _=>intro ex n m h;simp[Km] at h
def xD (P:K0)(L:dh)(f:L3):Bool:=match P.funcs[f]? with
 | some fn => fn.name != "runtime.NumGoroutine" && (match fn.body with | some c => iJ P L c || (L.lv && L.ty.contains f && (Km P L 0 (λ_ => LL) c 0 == Kf 0 || Km P L 1 (λ_ => LL) c 0 == Kf 0)) | none => Jx)
 | none=>Lw
def CS (P:K0)(L:dh)(f:L3):Bool:=match P.funcs[f]? with
 | some fn => fn.name != "runtime.NumGoroutine" && (match fn.body with | some c => L.lv && L.ty.contains f && Km P L 1 (λ_ => LL) c 0 == Kf 1 | none => Lw)
 | none=>Lw
def yh (P:K0)(L:dh)(t:Mb):Bool:=match P.info? t with
 | some i=>i.methods.toList.all λm=>match m.func with|some (f,_)=>L.fs.contains f|none=>Jx
 | none=>Jx
def aV (E:Env)(fn:Func):Prop:=Extern.findNext fn=LL/\∃e,Extern.find fn=Kf e/\∀r x X,r.OK->(∀g,E.G g->r g g)->AR E r x X->SR E (aO E) r (e x) (e X)
def E8 (P : K0) : Bool := match P.info? 0 with | some i => (i.methods.find? (·.name == "")).isNone | none => Jx
theorem Bi {P:K0}{L:dh}(h0:P.globals.size=gN)(h8:L.fs.all (λf=>!(L.J5.contains f)&&!(L.JK.contains f)&&!(L.deep.contains f))=Jx)(h1:L.fs.all (xD P L)=Jx)(h2:L.ts.all (yh P L)=Jx)(h3:P.types.toList.all tL=Jx)(h5:L.deep.all (CS P L)=Jx)(h9:E8 P=Jx)
 (h6 : ∀f ∈ L.J5, ∃fn, P.funcs[f]? = Kf fn /\ fn.name ≠ "runtime.NumGoroutine" /\ fn.body = LL /\ Extern.findNext fn = LL /\ Extern.find fn = Kf λ_ => do mark .disable; pure (.tuple #[]))
 (h7 : ∀f ∈ L.JK, ∃fn, P.funcs[f]? = Kf fn /\ fn.name ≠ "runtime.NumGoroutine" /\ fn.body = LL /\ Extern.findNext fn = LL /\ Extern.find fn = Kf λ_ => do mark .enable; pure (.tuple #[]))
 (h4:∀f∈L.fs,∀fn,P.funcs[f]?=Kf fn->fn.body=LL->aV (env P L J) fn):aS (env P L J):=by
 have ht:∀(t:Nat) i,P.types[t]?=Kf i->cI i:=λt i h=>Dx (Kx.1 h3 i (by simpa using LN h));refine⟨vf ht,AH ht,h0,λf hf=>by have:=Kx.1 h8 f hf;simp only[ID,Bool.not_eq_true'] at this;(show L.kd f=.plain;unfold dh.kd;rw[this.1.1,this.1.2,this.2];rfl),λf hf=>?_,λt i hT hi m hm f b A0=>?_,λf hf=>?_,λf hf=>?_,λf hf=>?_,λi hi=>by
  have A2:P.info? 0=Kf i:=hi;unfold E8 at h9;rw[A2] at h9
  exact Option.isNone_iff_eq_none.1 h9⟩
 ·have A0:=Kx.1 h1 f hf;unfold xD at A0;cases hx:P.funcs[f]? with
  | none=>rw[hx] at A0;cases A0
  | some fn =>rw[hx] at A0;simp only[ID] at A0;refine⟨fn,hx,by simpa using A0.1,λc hc=>?_,λhn=>h4 f hf fn hx hn⟩;have:=A0.2;rw[hc] at this;simp only[Bool.or_eq_true,ID,beq_iff_eq] at this;exact this.imp CW λh=>⟨⟨h.1.1,by simpa [env] using h.1.2⟩,h.2.elim AE AE⟩
 ·have A1:=Kx.1 h2 t hT;unfold yh at A1;have A2:P.info? t=Kf i:=hi;rw[A2] at A1;have:=Kx.1 A1 m (by simpa using hm);rw[A0] at this;simpa [env] using this
 ·refine h6 f ?_;have hf:L.kd f=.disable:=hf;unfold dh.kd at hf;split at hf
  ·rename_i h;simpa using h
  ·(repeat' split at hf);all_goals cases hf
 ·refine h7 f ?_;have hf:L.kd f=.enable:=hf;unfold dh.kd at hf;split at hf
  ·cases hf
  ·split at hf
   ·rename_i h;simpa using h
   ·split at hf<;>cases hf
 ·have hd:f∈L.deep:=by
   have hf:L.kd f=.deep:=hf;unfold dh.kd at hf;split at hf
   ·cases hf
   ·split at hf
    ·cases hf
    ·split at hf
     ·rename_i h;simpa using h
     ·cases hf
  have A0:=Kx.1 h5 f hd;unfold CS at A0;cases hx:P.funcs[f]? with
  | none=>rw[hx] at A0;cases A0
  | some fn =>
    rw[hx] at A0;simp only[ID] at A0;obtain⟨a,b⟩:=A0;cases hb:fn.body with
    | none=>rw[hb] at b;cases b
    | some c =>rw[hb] at b;simp only[ID,beq_iff_eq] at b;exact⟨fn,c,hx,by simpa using a,hb,AE b.2,b.1.1,by simpa [env] using b.1.2⟩
end Go.Proofs.Rn

/-part 12-/
import Derived.Test.YtmehkneofinmiabGreatDoorP11
open Option renaming none->ID,some->L2,bind_some->MY
open Go renaming Frame->IF,callDeferred->Ks,deafBehind->K1,seen->K2,CallKind->Lz,FuncId->LI,World->LN,PanicEntry->L1,doReturn->L4,Item->MD,Event->Nd,Value->Nm,Program->Nx,Goroutine->NX,undef->N1,IntKind->N2,yielded->N3,invoke->N4,Deferred->N5,Code->N6
open Bool renaming true->IH,false->IR,false_eq_true->Mz
open Go.stepG renaming oper->I3,apply->Kf,exec->Lo
open Go.GStep renaming after->Jx
open Go.Frame renaming enter->J0,eval->Ln,finish->M1
open Go.Instr renaming endRound->J1,enterLoop->LL,takeDeferred->Mu
open Go.Extern.BytealgMakeNoZero renaming makeNoZero->Kx
open Nat renaming le_refl->K0,le_trans->LS,add_right_comm->MA,zero_add->NO
open Go.Extern.SlicesOverlaps renaming overlaps->Lq
open Go.Extern.BytealgCompare renaming compare->Lw
open Go.Extern.Atomic renaming touchesFrozen->Ly,update->L3,casT->Mp
open Go.Extern.Sync renaming semacquire->LO,semrelease->LR,die->N0
open Go.Extern.OsHooks renaming nano->L5
open Go.Extern.Race renaming marked->Mb
open Go.Kernel renaming perform->Mn
open Go.Region renaming wanted->MT
namespace Go.Proofs.Rn
open Go
variable {T X t x:Array Nm}{A:Addr}{α:Type}{q':Bool}{D d:N5}{FR fr:IF}{I1 IC:List IF}{W' w':LN}{ES es:Array Nd}{ls p:Nat}{SS:Prop}
section
variable {E:Env} {r:Rel}
theorem fL:SR E (aO E) r (pure (.tuple #[])) (pure (.tuple #[])):=.pure (.tuple rfl (by simp))
theorem zA (h:AR E r x X):SR E (λr=>IX r) r (Extern.Race.at_ x) (Extern.Race.at_ X):=by
 unfold Extern.Race.at_;rcases h.get 0 with⟨a,b⟩|⟨v,V,a,b,hv⟩
 ·rw[a,b];exact ag
 ·rw[a,b];cases hv with
  | ptr ha=>exact .pure ha
  | _=>exact ag
theorem n7 {l:Nat}:SL E bc (l+1) r l (mark .disable) (mark .disable):=.disable (.pure rfl)
theorem qk {l:Nat}:SL E bc l r (l+1) (mark .enable) (mark .enable):=.enable (.pure rfl)
theorem dL {m:Addr->Mark}(hm:∀r a A,IX r a A->KP r (m a) (m A))(h:AR E r x X)(h1:∀a,m a≠.disable:=by simp)(h2:∀a,m a≠.enable:=by simp):SR E (aO E) r (Mb m x) (Mb m X):=by
 unfold Mb;refine(zA h).Iy ?_;intro r1 a A s1 ha;refine(iG (hm _ _ _ ha) (h1 a) (h2 a)).Iy ?_;rintro r2 _ _ s2 -
 exact fL
theorem D5 (h:AR E r x X):SR E (aO E) r (Extern.AbiNoEscape.same x) (Extern.AbiNoEscape.same X):=by
 obtain⟨l,L,rfl,rfl,hl,hp⟩:=h.toList
 match l,L,hl with
 | [],[],_=>exact ag
 | [v],[V],_=>exact .pure (hp 0 v V rfl rfl)
 | _::_::_,_::_::_,_=>exact ag
theorem uv (h:AR E r x X):SR E (λr p P=>IX r p.1 P.1/\P.2=p.2) r (Extern.Sync.count x) (Extern.Sync.count X):=by
 unfold Extern.Sync.count;rcases h.get 0 with⟨a,b⟩|⟨v,V,a,b,hv⟩
 ·rw[a,b];exact ag
 ·rw[a,b];cases hv with
  | ptr ha =>
    dsimp only;refine(iD ha .atomic).Iy ?_;intro r1 v V s1 hv;cases hv with
    | int k n=>cases k<;>first|exact .pure ⟨ha.mono s1,rfl⟩|exact al
    | _=>exact al
  | _=>exact ag
theorem dQ (h:AR E r x X):SR E (aO E) r (LO x) (LO X):=by
 unfold LO;refine SL.Iy (m:=1) n7 ?_;rintro r1 _ _ s1 -
 refine SL.Iy (SL.shift (uv (h.mono s1)) 1) ?_;rintro r2 ⟨a,n⟩ ⟨A,N⟩ s2 ⟨ha,hn⟩;dsimp only at ha hn ⊢;subst hn;split
 ·exact .block
 ·refine SL.Iy (SL.shift (gq ha (.int _ _) .atomic) 1) ?_;rintro r3 _ _ s3 -
  refine SL.Iy qk ?_;rintro r4 _ _ s4 -
  exact fL
theorem gh (h:AR E r x X):SR E (aO E) r (LR x) (LR X):=by
 unfold LR;refine SL.Iy (m:=1) n7 ?_;rintro r1 _ _ s1 -
 refine SL.Iy (SL.shift (uv (h.mono s1)) 1) ?_;rintro r2 ⟨a,n⟩ ⟨A,N⟩ s2 ⟨ha,hn⟩;dsimp only at ha hn ⊢;subst hn;refine SL.Iy (SL.shift (gy .add .u32 N 1) 1) ?_;intro r3 v V s3 hv;refine SL.Iy (SL.shift (gq (ha.mono s3) hv .atomic) 1) ?_;rintro r4 _ _ s4 -
 refine SL.Iy qk ?_;rintro r5 _ _ s5 -
 exact fL
theorem vD (h:AR E r x X):SR E (aO E) r (Extern.Sync.canSpin x) (Extern.Sync.canSpin X):=by
 obtain⟨l,L,rfl,rfl,hl,hp⟩:=h.toList
 match l,L,hl with
 | [],[],_=>exact ag
 | [v],[V],_ =>
   cases hp 0 v V rfl rfl with
   | int k n =>
     change SR E (aO E) r (ite (n ≥ 4) _ _) (ite (n ≥ 4) _ _);split
     ·exact .pure (.bool _)
     ·refine bw.Iy ?_;rintro r1 q _ s1 rfl;exact .pure (.bool _)
   | _=>exact ag
 | v::_::_,V::_::_,_=>cases hp 0 v V rfl rfl<;>exact ag
theorem ri {f:String->Halt}(hf:∀s,Ou (f s))(h:AR E r x X):SR E (aO E) r (N0 f x) (N0 f X):=by
 obtain⟨l,L,rfl,rfl,hl,hp⟩:=h.toList
 match l,L,hl with
 | [],[],_=>exact ag
 | [v],[V],_ =>
   cases hp 0 v V rfl rfl with
   | string s =>
     have A0 : ∀(o : Option String) (S : Sem Nm), SR E (aO E) r (match o with | some m => .halt (f (m.replace "\n" "\n\t")) | none => unsupported (.extern "throw, fatal: a message that is not UTF-8")) S := by
      intro o S;cases o with
      | some m=>exact .bad (hf _)
      | none=>exact al
     exact A0 (String.fromUTF8? s) _
   | _=>exact ag
 | v::_::_,V::_::_,_=>cases hp 0 v V rfl rfl<;>exact ag
theorem xc (w:LN)(o:Os×LN):w.ask (Mn (.clock 1) w.os)≠((.wouldBlock,o.1),o.2):=by
 intro h;have A0:(w.ask (Mn (.clock 1) w.os)).1.1≠.wouldBlock:=by show(World.ask w (Ask.ask "clock.advance" 0 _ : Ask (SysRet × Os))).1.1 ≠ SysRet.wouldBlock;simp only[World.ask];split<;>(intro h;cases h)
 rw[h] at A0;exact A0 rfl
theorem zy (w:LN):(w.sys (.clock 1)).2.os.env=w.os.env:=by
 unfold World.sys;have A0:(w.ask (Mn (.clock 1) w.os)).1.2.env=w.os.env:=by show(World.ask w (Ask.ask "clock.advance" 0 _ : Ask (SysRet × Os))).1.2.env = _;simp only[World.ask];split<;>rfl
 generalize w.ask (Mn (.clock 1) w.os)=a at A0;obtain⟨⟨x,o⟩,u⟩:=a;cases x with
 | wouldBlock=>rfl
 | _=>exact A0
theorem EP (hlv:E.lv):SR E (aO E) r (L5 x) (L5 X):=by
 unfold L5 Extern.OsHooks.clock;simp only[bind_assoc];refine SR.Iy (A:=bc) (.sys hlv xc zy λ_=>.pure rfl) ?_;rintro r1 q _ s1 rfl;cases q<;>first|exact .pure (.int _ _)|exact aB
theorem qW (k:N2){a:Addr}(h:IX r a A):SR E (aO E) r (Extern.Atomic.read (.int k) a) (Extern.Atomic.read (.int k) A):=by
 unfold Extern.Atomic.read;refine(iD h .atomic).Iy ?_;intro r1 v V s1 hv;cases hv with
 | int k' n =>
   dsimp only;split
   ·exact .pure (.int _ _)
   ·exact al
 | ptr ha=>cases k<;>first|exact .pure (.ptr ha)|exact al
 | _=>cases k<;>exact al
theorem gJ {op:N2->Int->Int->Sem Nm}(ho:∀r k a b,SR E (aO E) r (op k a b) (op k a b))(k:N2)(b:Bool)(h:AR E r x X) :
 SR E (aO E) r (L3 op k b x) (L3 op k b X):=by
 obtain⟨l,L,rfl,rfl,hl,hp⟩:=h.toList
 match l,L,hl with
 | [],[],_=>exact ag
 | [v],[V],_=>exact ag
 | [v,u],[V,U],_ =>
   unfold L3;refine(dI (hp 0 v V rfl rfl)).Iy ?_;intro r1 a A s1 ha;refine(qW k ha).Iy ?_;intro r2 o O s2 A0;refine(eo A0).Iy ?_;rintro r3 n _ s3 rfl;refine(eo ((((hp 1 u U rfl rfl).mono s1).mono s2).mono s3)).Iy ?_;rintro r4 m _ s4 rfl;refine(ho r4 k n m).Iy ?_;intro r5 w W s5 hw;refine(gq ((((ha.mono s2).mono s3).mono s4).mono s5) hw .atomic).Iy ?_;rintro r6 _ _ s6 -
   refine .pure ?_;split
   ·exact hw.mono s6
   ·exact((((A0.mono s3).mono s4).mono s5).mono s6)
 | _::_::_::_,_::_::_::_,_=>exact ag
theorem DG {f g:α->Sem Bool}(h:∀r' a,Sub r r'->SR E bc r' (f a) (g a)):∀(l:List α) r',Sub r r'->SR E bc r' (l.anyM f) (l.anyM g):=by
 intro l;induction l with
 | nil=>intro r' _;exact .pure rfl
 | cons a l ih =>
   intro r' s;simp only[List.anyM];refine(h r' a s).Iy ?_;rintro r1 q _ s1 rfl;cases q
   ·exact ih r1 (s.trans s1)
   ·exact .pure rfl
theorem wv {a:Addr}(h:IX r a A):SR E bc r (Ly a) (Ly A):=by
 unfold Ly;refine(gB h.1).Iy ?_;rintro r1 x X s1 (⟨rfl,rfl⟩|⟨b,B,t,rfl,rfl,hb⟩)
 ·exact dK (h.mono s1)
 ·dsimp only;refine(ba t).Iy ?_;rintro r2 i _ s2 ⟨rfl,-⟩;split
  ·exact au
  ·refine DG (r:=r2) (λr' i s=>?_) _ _ .rfl;exact dK ⟨s.1 _ _ (s2.1 _ _ hb.1),by simp[hb.2.1],rfl⟩
theorem vt (k:N2)(h:AR E r x X):SR E (aO E) r (Mp (.int k) x) (Mp (.int k) X):=by
 obtain⟨l,L,rfl,rfl,hl,hp⟩:=h.toList
 match l,L,hl with
 | [],[],_=>exact ag
 | [v],[V],_=>exact ag
 | [v,u],[V,U],_=>exact ag
 | [v,u,n],[V,U,N],_ =>
   unfold Mp;refine(dI (hp 0 v V rfl rfl)).Iy ?_;intro r1 a A s1 ha;refine(wv ha).Iy ?_;rintro r2 q _ s2 rfl;split
   ·exact au
   ·refine(qW k (ha.mono s2)).Iy ?_;intro r3 o O s3 ho;have hu:=((hp 1 u U rfl rfl).mono s1).mono s2 |>.mono s3;have hn:=((hp 2 n N rfl rfl).mono s1).mono s2 |>.mono s3;have A1:=(ha.mono s2).mono s3;have A0:∀e:Bool,SR E (aO E) r3 (if e=IH then(store a n .atomic >>= λ_=>pure (.bool e)) else pure (.bool e)) (if e=IH then(store A N .atomic >>= λ_=>pure (.bool e)) else pure (.bool e)):=by
     intro e;split
     ·refine(gq A1 hn .atomic).Iy ?_;rintro r4 _ _ s4 -
      exact .pure (.bool _)
     ·exact .pure (.bool _)
    clear hp h;cases ho with
    | int k1 n1 =>
      cases hu with
      | int k2 n2=>exact A0 (n1==n2)
      | ptr _=>rcases n1 with(_|m)|m<;>first|exact A0 IR|exact au
      | _=>exact aB
    | ptr _ =>
      cases hu with
      | int k2 n2=>rcases n2 with(_|m)|m<;>first|exact A0 IR|exact au
      | _=>exact au
    | _=>cases hu<;>first|exact au|exact aB
 | _::_::_::_::_,_::_::_::_::_,_=>exact ag
theorem fK {v V:Nm}(h:VR E r v V):SR E bc r (Extern.Bytes.bytesOf v) (Extern.Bytes.bytesOf V):=by
 have lb:∀n {r:Rel} {a A:Addr} (s:ByteArray),IX r a A->SR E bc r (Extern.Bytes.loadBytes a n s) (Extern.Bytes.loadBytes A n s):=by
  intro n;induction n with
  | zero=>intro r a A s h;exact .pure rfl
  | succ n ih =>
    intro r a A s h;unfold Extern.Bytes.loadBytes;refine(iD h).Iy ?_;intro r1 v V s1 hv;cases hv with
    | int k m=>cases k<;>first|exact ih _ ((h.mono s1).add 1)|exact ag
    | _=>exact ag
 unfold Extern.Bytes.bytesOf;cases h with
 | string s=>exact .pure rfl
 | IU _ _=>exact .pure rfl
 | slice n c ha=>exact lb _ _ ha
 | _=>exact ag
theorem vX (h:AR E r x X):SR E (aO E) r (Lw x) (Lw X):=by
 obtain⟨l,L,rfl,rfl,hl,hp⟩:=h.toList
 match l,L,hl with
 | [],[],_=>exact ag
 | [v],[V],_=>exact ag
 | [v,u],[V,U],_ =>unfold Lw;refine(fK (hp 0 v V rfl rfl)).Iy ?_;rintro r1 a _ s1 rfl;refine(fK ((hp 1 u U rfl rfl).mono s1)).Iy ?_;rintro r2 b _ s2 rfl;exact .pure (.int _ _)
 | _::_::_::_,_::_::_::_,_=>exact ag
theorem AR.digits:∀n t {x X:Array Nm},AR E r x X->AR E r (Extern.BytealgMakeNoZero.digits n t x) (Extern.BytealgMakeNoZero.digits n t X):=by
 intro n;induction n with
 | zero=>intro t x X h;exact h
 | succ n ih=>intro t x X h;exact ih _ (h.push (.int _ _))
theorem yI (ps rs:Array TypeId)(h:AR E r x X):SR E (aO E) r (Kx ps rs x) (Kx ps rs X):=by
 obtain⟨l,L,rfl,rfl,hl,hp⟩:=h.toList
 match l,L,hl with
 | [],[],_=>exact ag
 | [v],[V],_ =>
   cases hp 0 v V rfl rfl with
   | int k n =>
     cases k with
     | i64 =>
       unfold Kx;cases ht:rs[0]? with
       | none=>exact ag
       | some t =>
         refine SR.Iy (aE t) ?_;rintro r1 d _ s1 ⟨rfl,-⟩;rename_i d;cases d with
         | slice e =>
           dsimp only;split
           ·exact aA _ (by simp)
           ·refine bw.Iy ?_;rintro r2 c _ s2 rfl;refine(dD _).Iy ?_;rintro r3 _ _ s3 -
            refine bw.Iy ?_;rintro r4 b _ s4 rfl;refine(cY e (AR.digits _ _ .nil)).Iy ?_;intro r5 a A s5 ha;exact .pure (.slice _ _ ha)
         | _=>exact ag
     | _=>exact ag
   | _=>exact ag
 | v::_::_,V::_::_,_ =>
   have hv:=hp 0 v V rfl rfl;cases hv with
   | int k n=>cases k<;>exact ag
   | _=>exact ag
theorem tA (hr:r.OK)(ps rs:Array TypeId)(h:AR E r x X):SR E (aO E) r (Lq ps rs x) (Lq ps rs X):=by
 obtain⟨l,L,rfl,rfl,hl,hp⟩:=h.toList
 match l,L,hl with
 | [],[],_=>exact ag
 | [v],[V],_=>cases hp 0 v V rfl rfl<;>exact ag
 | [v,u],[V,U],_ =>
   have hv:=hp 0 v V rfl rfl;have hu:=hp 1 u U rfl rfl;clear hp h;have A0:∀{α:Type} {A:Rel->α->α->Prop} {f F:Nat->Sem α},(∀r' n,Sub r r'->SR E A r' (f n) (F n))->SR E A r
    (match ps[0]? with | some t => (do let d <-underlying t; match d with | .slice e => (do let n <-sizeOf e; f n) | _ => stuck "slices.overlaps: slice type expected") | _ => stuck "slices.overlaps: no parameter types")
    (match ps[0]? with | some t => (do let d <-underlying t; match d with | .slice e => (do let n <-sizeOf e; F n) | _ => stuck "slices.overlaps: slice type expected") | _ => stuck "slices.overlaps: no parameter types") := by
    intro α A f F hf;cases ps[0]? with
    | none=>exact ag
    | some t =>
      refine SR.Iy (aE t) ?_;rintro r1 d _ s1 ⟨rfl,-⟩;rename_i d;cases d with
      | slice e =>refine SR.Iy (bE e) ?_;rintro r2 n _ s2 rfl;exact hf r2 n (s1.trans s2)
      | _=>exact ag
   cases hv with
   | IU n c =>
     cases hu with
     | IU m d=>exact A0 λr' z s=>.pure (.bool _)
     | slice m d hb=>exact A0 λr' z s=>.pure (.bool _)
     | _=>exact ag
   | slice n c ha =>
     cases hu with
     | IU m d=>exact A0 λr' z s=>.pure (.bool _)
     | slice m d hb =>
       unfold Lq;refine A0 λr' z s=>?_;dsimp only;have A1:=s.2 hr;have ha:=ha.mono s;have hb:=hb.mono s;split
       ·exact .pure (.bool _)
       ·simp only[bne,eS A1 ha hb,ha.2.1,hb.2.1];refine(dK ha).Iy ?_;rintro r1 q _ s1 rfl;refine(dK (hb.mono s1)).Iy ?_;rintro r2 q _ s2 rfl;have ha:=(ha.mono s1).mono s2;have hb:=(hb.mono s1).mono s2;split
        ·exact al
        ·split
         ·refine(gI ha).Iy ?_;rintro r3 _ _ s3 -
          refine(gI (hb.mono s3)).Iy ?_;rintro r4 _ _ s4 -
          refine(my ((ha.mono s3).mono s4) ((hb.mono s3).mono s4)).Iy ?_;rintro r5 q _ s5 rfl;split
          ·refine bw.Iy ?_;rintro r6 q _ s6 rfl;exact .pure (.bool _)
          ·exact .pure (.bool _)
         ·exact .pure (.bool _)
     | _=>exact ag
   | _=>exact ag
 | v::u::_::_,V::U::_::_,_=>cases hp 0 v V rfl rfl<;>first|exact ag|(cases hp 1 u U rfl rfl<;>exact ag)
end
inductive La (E:Env) (r:Rel):MD->MD->Prop
 | code {c}:aU E c->La E r (.code c) (.code c)
 | inBlock {i}:La E r (.inBlock i) (.inBlock i)
 | inLoop {b}:aU E b->La E r (.inLoop b) (.inLoop b)
 | inScope {b}:aU E b->La E r (.inScope b) (.inScope b)
 | inRegion {ops l}:(∀o∈ops,oV E o.op)->La E r (.inRegion ops l) (.inRegion ops l)
 | inRangeFunc {l L}:r l L->La E r (.inRangeFunc l) (.inRangeFunc L)
 | endRangeFunc {l L}:r l L->La E r (.endRangeFunc l) (.endRangeFunc L)
 | beginRound:La E r .beginRound .beginRound
inductive Ko (E:Env) (r:Rel):List MD->List MD->Prop
 | nil:Ko E r [] []
 | cons {i I l L}:La E r i I->Ko E r l L->Ko E r (i::l) (I::L)
inductive KD (E:Env) (r:Rel):List L1->List L1->Prop
 | nil:KD E r [] []
 | cons {v V l L}:VR E.top r v V->KD E r l L->KD E r ({ v,recovered:=IR }::l) ({ v:=V,recovered:=IR }::L)
inductive LZ (E:Env) (r:Rel):FrameMode->FrameMode->Prop
 | run:LZ E r .run .run
 | returning:LZ E r .returning .returning
 | panicking {c C}:KD E r c C->LZ E r (.panicking c) (.panicking C)
inductive Lr (r:Rel):Option Nat->Option Nat->Prop
 | none:Lr r ID ID
 | some {l L}:r l L->Lr r (L2 l) (L2 L)
inductive IT (E:Env):(Nat->Option Nat)->List MD->Nat->Prop
 | nil:IT E (λ_=>ID) [] 0
 | code {ex c k n m}:CT E ex c n m->IT E ex k n->IT E ex (.code c::k) m
 | inBlock {ex id k n}:IT E ex k n->IT E (ya ex id n) (.inBlock id::k) n
 | inLoop {ex c k n m}:CT E ex c m m->IT E ex k n->IT E ex (.inLoop c::k) m
 | inRegion {ex ops l k n m}:RT E ops l n m->IT E ex k n->IT E ex (.inRegion ops l::k) m
inductive Lh (E:Env) (r:Rel) (fn:LI):Bool->Option Nat->Nat->Nat->List MD->List MD->Prop
 | plain {q o e k K}:e=0->Ko E r k K->Lh E r fn q o 0 e k K
 | typed {ex k l e}:E.lv/\E.Ty fn->IT E ex k l->Lh E r fn IR ID (l+e) e k k
 | wait {ex ops i js k l e}:E.lv/\E.Ty fn->IT E ex (.inRegion ops js::k) l->Lh E r fn IH ID (l+e) e (.inRegion ops (i::js)::k) (.inRegion ops (i::js)::k)
structure bb (E:Env)(r:Rel)(q:Bool)(l:Nat)(f F:IF):Prop where
 fn:F.fn=f.fn
 has:∃x,E.P.funcs[f.fn]?=L2 x
 tmps:AR E r f.tmps F.tmps
 todo:∃p m,Lh E r f.fn p f.roundOf m (en E f.defers) f.todo F.todo/\(f.mode=.run->p=q/\m=l)
 off:f.mode≠.run->l=en E f.defers
 defers:Lb E r f.defers F.defers
 mode:LZ E r f.mode F.mode
 kind:F.kind=f.kind
 Kc:f.kind=.normal\/f.kind=.deferred
 round:Lr r f.roundOf F.roundOf
inductive Jy (E:Env) (r:Rel):Nat->List IF->List IF->Prop
 | nil:Jy E r 0 [] []
 | cons {l n f F s S}:bb E r IH l f F->Jy E r n s S->Jy E r (l+n) (f::s) (F::S)
def bY (l:List IF):Prop:=∃f∈l,∃c,f.mode=.panicking c
section
variable {E:Env} {r r':Rel}
theorem La.mono (s:Sub r r'){i I:MD}(h:La E r i I):La E r' i I:=by
 cases h with
 | code h=>exact .code h
 | inBlock=>exact .inBlock
 | inLoop h=>exact .inLoop h
 | inScope h=>exact .inScope h
 | inRegion h=>exact .inRegion h
 | inRangeFunc h=>exact .inRangeFunc (s.1 _ _ h)
 | endRangeFunc h=>exact .endRangeFunc (s.1 _ _ h)
 | beginRound=>exact .beginRound
theorem Ko.mono (s:Sub r r'){i I:List MD}(h:Ko E r i I):Ko E r' i I:=by
 induction h with
 | nil=>exact .nil
 | cons h _ ih=>exact .cons (h.mono s) ih
theorem Lr.mono (s:Sub r r'){i I:Option Nat}(h:Lr r i I):Lr r' i I:=by
 cases h with
 | none=>exact .none
 | some h=>exact .some (s.1 _ _ h)
theorem KD.mono (s:Sub r r'){i I:List L1}(h:KD E r i I):KD E r' i I:=by
 induction h with
 | nil=>exact .nil
 | cons h _ ih=>exact .cons (h.mono s) ih
theorem LZ.mono (s:Sub r r'){i I:FrameMode}(h:LZ E r i I):LZ E r' i I:=by
 cases h with
 | run=>exact .run
 | returning=>exact .returning
 | panicking h=>exact .panicking (h.mono s)
theorem Lh.mono (s:Sub r r'){fn:LI}{q:Bool}{o:Option Nat}{l e:Nat}{i I:List MD}(h:Lh E r fn q o l e i I):Lh E r' fn q o l e i I:=by
 cases h with
 | plain h0 h=>exact .plain h0 (h.mono s)
 | typed h0 h=>exact .typed h0 h
 | wait h0 h=>exact .wait h0 h
theorem bb.mono (s:Sub r r'){q:Bool}{l:Nat}{f F:IF}(h:bb E r q l f F):bb E r' q l f F :=
 ⟨h.fn,h.has,h.tmps.mono s,let ⟨p,m,x,y⟩:=h.todo;⟨p,m,x.mono s,y⟩,h.off,h.defers.mono s,h.mode.mono s,h.kind,h.Kc,h.round.mono s⟩
theorem Jy.mono (s:Sub r r'){n:Nat}{f F:List IF}(h:Jy E r n f F):Jy E r' n f F:=by
 induction h with
 | nil=>exact .nil
 | cons h _ ih=>exact .cons (h.mono s) ih
theorem KD.append {a A b B:List L1}(h:KD E r a A)(h':KD E r b B):KD E r (a++b) (A++B):=by
 induction h with
 | nil=>exact h'
 | cons h _ ih=>exact .cons h ih
theorem dB:VR E r N1 undef:=.tuple rfl (by simp)
theorem bb.eval {q:Bool}{l:Nat}{f F:IF}(h:bb E r q l f F)(hb:Base E r)(x:Operand)(hx:aQ E x):VR E r (f.eval x) (F.eval x):=by
 cases x with
 | tmp t=>exact h.tmps.getD t dB
 | const v=>exact hx r
 | global g=>exact .ptr ⟨hb g hx,rfl,rfl⟩
 | func f=>exact .func (.func hx) rfl (by simp) rfl (by simp)
theorem bb.finish {l:Nat}{f F:IF}(h:bb E r IH l f F){v V:Nm}(hv:VR E r v V):bb E r IR l (f.finish v) (F.finish V):=by
 obtain⟨fn,A8,Ac,A0,A5,Ab,A2⟩:=f;obtain⟨FN,A9,Aa,A1,A6,A3,A4⟩:=F;obtain⟨h1,h2,h3,⟨p,m,h4,A7⟩,h0,h5,h6,h7,h8,h9⟩:=h;simp only at h1 h2 h3 h4 A7 h0 h5 h6 h7 h8 h9;subst h1 h7;generalize hen:en E A0=e at h4;cases h4 with
 | plain he h4 =>
   have mk:∀{t T:Array Nm} {k K:List MD},AR E r t T->Ko E r k K->bb E r IR l ⟨FN,t,k,A0,A5,A3,A2⟩ ⟨FN,T,K,A1,A6,A3,A4⟩ :=
    λht hk=>⟨rfl,h2,ht,⟨IR,0,.plain (hen.trans he) hk,λx=>⟨rfl,(A7 x).2⟩⟩,h0,h5,h6,rfl,h8,h9⟩
   cases h4 with
   | nil=>exact mk h3 .nil
   | cons hi hl =>
     cases hi with
     | inRegion ho =>
       rename_i ops l;cases l with
       | nil=>exact mk h3 (.cons (.inRegion ho) hl)
       | cons i l =>
         refine mk ?_ (.cons (.inRegion ho) hl);cases(ops[i]?).bind (·.dst) with
         | none=>exact h3
         | some d=>exact h3.set d hv
     | code h=>exact mk h3 (.cons (.code h) hl)
     | inBlock=>exact mk h3 (.cons .inBlock hl)
     | inLoop h=>exact mk h3 (.cons (.inLoop h) hl)
     | inScope h=>exact mk h3 (.cons (.inScope h) hl)
     | inRangeFunc h=>exact mk h3 (.cons (.endRangeFunc h) hl)
     | endRangeFunc h=>exact mk h3 (.cons (.endRangeFunc h) hl)
     | beginRound=>exact mk h3 hl
 | wait hlv hi =>
   rename_i ops i js k l₀;refine⟨rfl,h2,?_,⟨IR,_,hen ▸ .typed hlv hi,λx=>⟨rfl,(A7 x).2⟩⟩,h0,h5,h6,rfl,h8,h9⟩;simp only[M1];cases(ops[i]?).bind (·.dst) with
   | none=>exact h3
   | some d=>exact h3.set d hv
 | typed hlv hi =>
   (have hm:A5≠.run:=λx=>by cases(A7 x).1);have mk:∀{t T:Array Nm} {k:List MD} {m:Nat} {ex:Nat->Option Nat},AR E r t T->IT E ex k m->bb E r IR l ⟨FN,t,k,A0,A5,A3,ID⟩ ⟨FN,T,k,A1,A6,A3,A4⟩ :=
    λht hk=>⟨rfl,h2,ht,⟨IR,_,.typed hlv hk,λx=>absurd x hm⟩,h0,h5,h6,rfl,h8,h9⟩
   cases hi with
   | inRegion hr hk =>
     rename_i ops js k n;cases hr with
     | nil=>exact mk h3 (.inRegion .nil hk)
     | @op i o js _ _ ho _ hr =>
       refine mk ?_ (.inRegion hr hk);cases(ops[i]?).bind (·.dst) with
       | none=>exact h3
       | some d=>exact h3.set d hv
     | @sp i o js _ _ _ _ ho _ _ _ hr =>
       refine mk ?_ (.inRegion hr hk);cases(ops[i]?).bind (·.dst) with
       | none=>exact h3
       | some d=>exact h3.set d hv
     | @df i o js _ _ _ _ ho _ _ _ _ _ hr =>
       refine mk ?_ (.inRegion hr hk);cases(ops[i]?).bind (·.dst) with
       | none=>exact h3
       | some d=>exact h3.set d hv
   | nil=>exact mk h3 .nil
   | code a b=>exact mk h3 (.code a b)
   | inBlock a=>exact mk h3 (.inBlock a)
   | inLoop a b=>exact mk h3 (.inLoop a b)
theorem bb.raise {q:Bool}{l:Nat}{f F:IF}(h:bb E r q l f F){c C:List L1}(hc:KD E r c C):bb E r q' (en E f.defers) (f.raise c) (F.raise C):=by
 obtain⟨fn,A5,Aa,defers,A3,A9,A0⟩:=f;obtain⟨FN,A6,A7,A1,A4,A8,A2⟩:=F;obtain⟨h1,h2,h3,⟨p,m,h4,-⟩,h0,h5,h6,h7,h8,h9⟩:=h;simp only at h1 h2 h3 h4 h5 h6 h7 h8 h9;cases h6 with
 | run=>exact⟨h1,h2,h3,⟨p,m,h4,λx=>by cases x⟩,λ_=>rfl,h5,.panicking hc,h7,h8,h9⟩
 | returning=>exact⟨h1,h2,h3,⟨p,m,h4,λx=>by cases x⟩,λ_=>rfl,h5,.panicking hc,h7,h8,h9⟩
 | panicking hd=>exact⟨h1,h2,h3,⟨p,m,h4,λx=>by cases x⟩,λ_=>rfl,h5,.panicking (hc.append hd),h7,h8,h9⟩
theorem fu (hE:aS E){f:LI}(hf:E.F f)(h:AR E r x X){k:Lz}(hk:k=.normal\/k=.deferred)(hb:∀fn,E.P.funcs[f]?=L2 fn->fn.body.isSome):bb E r IR 0 (J0 E.P f x k) (J0 E.P f X k):=by
 obtain⟨fn,h1,h2,h3,h4⟩:=hE.funcs f hf;have A0:=hb fn h1;obtain⟨c,hc⟩:=Option.isSome_iff_exists.1 A0;refine⟨rfl,⟨fn,h1⟩,?_,?_,λx=>absurd rfl x,.nil,.run,rfl,hk,.none⟩
 ·simp only[J0,<-h.1];exact h.append (AR.replicate _ dB)
 ·simp only[J0,h1,MY,hc,Option.getD_some];rcases h3 c hc with h|h
  ·exact⟨IR,0,.plain rfl (.cons (.code h) .nil),λ_=>⟨rfl,rfl⟩⟩
  ·exact⟨IR,_,.typed h.1 (.code h.2 .nil),λ_=>⟨rfl,rfl⟩⟩
theorem BU (hE:aS E){f:LI}(hf:E.K f=.deep)(h:AR E r x X):bb E r IR 1 (J0 E.P f x .normal) (J0 E.P f X .normal):=by
 obtain⟨fn,c,h1,h2,hc,h3⟩:=hE.deep f hf;refine⟨rfl,⟨fn,h1⟩,?_,?_,λx=>absurd rfl x,.nil,.run,rfl,.inl rfl,.none⟩
 ·simp only[J0,<-h.1];exact h.append (AR.replicate _ dB)
 ·simp only[J0,h1,MY,hc,Option.getD_some];exact⟨IR,_,.typed h3.2 (.code h3.1 .nil),λ_=>⟨rfl,rfl⟩⟩
theorem bb.flat {q:Bool}{l:Nat}{f F:IF}(hT:¬ E.Ty f.fn)(h:bb E r q l f F):l=0:=by
 obtain⟨p,m,x,y⟩:=h.todo;have he:en E f.defers=0/\m=0:=by
  generalize f.todo=a at x ⊢;generalize F.todo=b at x ⊢;generalize f.roundOf=o at x ⊢;generalize en E f.defers=e at x ⊢;cases x with
  | plain h0 x=>exact⟨h0,rfl⟩
  | typed x _=>exact absurd x.2 hT
  | wait x _=>exact absurd x.2 hT
 by_cases hm:f.mode=.run
 ·rw[<- (y hm).2];exact he.2
 ·rw[h.off hm];exact he.1
theorem bb.flip (hlv:¬ E.lv){q:Bool}{l:Nat}{f F:IF}(h:bb E r q l f F):bb E r q' 0 f F:=by
 obtain⟨p,m,x,-⟩:=h.todo;have he:en E f.defers=0/\Ko E r f.todo F.todo:=by
  generalize f.todo=a at x ⊢;generalize F.todo=b at x ⊢;generalize f.roundOf=o at x ⊢;generalize en E f.defers=e at x ⊢;cases x with
  | plain h0 x=>exact⟨h0,x⟩
  | typed x _=>exact absurd x.1 hlv
  | wait x _=>exact absurd x.1 hlv
 exact⟨h.fn,h.has,h.tmps,⟨q',0,.plain he.1 he.2,λ_=>⟨rfl,rfl⟩⟩,λ_=>he.1.symm,h.defers,h.mode,h.kind,h.Kc,h.round⟩
theorem bb.under {l:Nat}{f F:IF}(h:bb E r IR l f F)(hm:f.mode≠.run):bb E r IH l f F :=
 ⟨h.fn,h.has,h.tmps,let ⟨p,m,x,_⟩:=h.todo;⟨p,m,x,λy=>absurd y hm⟩,h.off,h.defers,h.mode,h.kind,h.Kc,h.round⟩
end
section
variable {E:Env} {r:Rel}
theorem fG {l L:Nat}(h:r l L):SR E (λr x X=>Mo E r x X) r (Instr.getLoop l) (Instr.getLoop L):=by
 unfold Instr.getLoop;refine(dX h).Iy ?_;intro r1 o O s1 ho;cases ho with
 | loop hl=>exact .pure hl
 | _=>exact ag
theorem Mo.turn {l L:Loop}(h:Mo E r l L)(s:LoopState){p P:Option N6}(hp:P=p)(hk:∀c∈p,aU E c):OR E r (.loop { l with state:=s,pending:=p }) (.loop { L with state:=s,pending:=P }) :=
 .loop ⟨rfl,hp,hk,h.fn,h.has,h.tmps,h.params,h.assign,h.TE,h.body,h.TD,h.defers⟩
theorem rz {fn:LI}(hfn:∃x,E.P.funcs[fn]?=L2 x)(ht:AR E r t T)(ps:Array Tmp){a b:N6}(ha:aU E a)(hb:aU E b){o O:Option Nat}(ho:Lr r o O) :
 SR E (λr p P=>r p.1 P.1/\KE E r p.2 P.2) r (LL fn t ps a b o) (LL fn T ps a b O):=by
 unfold LL;cases ho with
 | none =>dsimp only;refine SR.Iy (A:=λr a A=>r a A) (.new (.Jr .nil) λ_ _ _ _ _ _=>.pure (.inr ⟨rfl,rfl⟩)) ?_;intro r1 q Q s1 hq;simp only[pure_bind];refine SR.Iy (A:=λr a A=>r a A) (.new (.loop ⟨rfl,rfl,by simp,rfl,hfn,ht.mono s1,rfl,rfl,ha,rfl,hb,hq⟩) λ_ _ _ _ _ _=>.pure (.inr ⟨rfl,rfl⟩)) ?_;intro r2 l L s2 hl;exact .pure ⟨hl,.cons ⟨.collected (s2.1 _ _ hq),.nil⟩ .nil⟩
 | some hl =>dsimp only;refine(fG hl).Iy ?_;intro r1 x X s1 hx;simp only[pure_bind];refine SR.Iy (A:=λr a A=>r a A) (.new (.loop ⟨rfl,rfl,by simp,rfl,hfn,ht.mono s1,rfl,rfl,ha,rfl,hb,hx.defers⟩) λ_ _ _ _ _ _=>.pure (.inr ⟨rfl,rfl⟩)) ?_;intro r2 l L s2 hl;exact .pure ⟨hl,.nil⟩
theorem oT {l L:Nat}(h:r l L):SR E bc r (Instr.beginRound l) (Instr.beginRound L):=by
 unfold Instr.beginRound;refine(fG h).Iy ?_;intro r1 x X s1 hx;refine(fx (s1.1 _ _ h) (hx.turn _ hx.pending hx.QO)).Iy ?_;rintro r2 _ _ s2 -
 rw[hx.state];cases x.state with
 | ready=>exact .pure rfl
 | _=>exact bh _ (by simp)
theorem uH {l L:Nat}(h:r l L){j:Option N6}(hj:∀c∈j,aU E c):SR E (aO E) r (J1 l j) (J1 L j):=by
 unfold J1;refine(fG h).Iy ?_;intro r1 x X s1 hx;refine(fx (s1.1 _ _ h) (hx.turn _ rfl hj)).Iy ?_;rintro r2 _ _ s2 -
 exact .pure (.bool _)
theorem uU {l L:Nat}(h:r l L):SR E (λ_ j J=>J=j/\∀c∈j,aU E c) r (Instr.endLoop l) (Instr.endLoop L):=by
 unfold Instr.endLoop;refine(fG h).Iy ?_;intro r1 x X s1 hx;rw[hx.state];split
 ·exact aA _ (by simp)
 ·refine(fx (s1.1 _ _ h) (hx.turn _ hx.pending hx.QO)).Iy ?_;rintro r2 _ _ s2 -
  exact .pure ⟨hx.pending,hx.QO⟩
theorem mK {l L:Nat}(h:r l L)(hd:Lu E r d D):SR E bc r (Instr.deferInRound l d) (Instr.deferInRound L D):=by
 unfold Instr.deferInRound;refine(fG h).Iy ?_;intro r1 x X s1 hx;refine(dX hx.defers).Iy ?_;intro r2 o O s2 ho;cases ho with
 | Jr hds=>exact fx (s2.1 _ _ hx.defers) (.Jr (.cons ((hd.mono s1).mono s2) hds))
 | JH=>exact .bad (by trivial)
 | _=>exact ag
theorem mQ {l L:Nat}(h:r l L):SR E (λr d D=>KE E r d D) r (Mu l) (Mu L):=by
 unfold Mu;refine(dX h).Iy ?_;intro r1 o O s1 ho;cases ho with
 | Jr hds =>
   refine(fx (s1.1 _ _ h) .JH).Iy ?_;rintro r2 _ _ s2 -
   exact .pure (hds.mono s2)
 | _=>exact ag
theorem xd (fn:Func)(h:AR E r t T):SR E (aO E) r (results fn t) (results fn T):=by
 unfold results
 have A0:∀(l:List ResultVar) {r'},Sub r r'->SR E (λr x X=>AR E r x.toArray X.toArray) r' (l.mapM fun
  | .tmp q=>pure (t.getD q N1)
  | .cell a q=>do loadVar q (<-asAddr (t.getD a N1))) (l.mapM fun
  | .tmp q=>pure (T.getD q N1)
  | .cell a q=>do loadVar q (<-asAddr (T.getD a N1))):=by
  intro l;induction l with
  | nil=>intro r' s;exact .pure .nil
  | cons x l ih =>
    intro r' s;simp only[List.mapM_cons];refine SR.Iy (A:=aO E) ?_ ?_
    ·cases x with
     | tmp q=>exact .pure ((h.mono s).getD q dB)
     | cell a q =>refine(dI ((h.mono s).getD a dB)).Iy ?_;intro r1 b B s1 hb;exact fN q hb
    ·intro r1 v V s1 hv;refine(ih (s.trans s1)).Iy ?_;intro r2 x X s2 hx;refine .pure ?_;have:=(AR.one (hv.mono s2)).append hx;simpa using this
 rw[Array.mapM_eq_mapM_toList,Array.mapM_eq_mapM_toList];refine SR.Iy (A:=iX E) (SR.Iy (A0 fn.results.toList .rfl) λr1 x X s1 hx=>.pure hx) ?_;intro r1 x X s1 hx;have A1:=hx.1;refine .pure ?_;by_cases e:x.size=1
 ·(have e':X.size=1:=by omega);simp only[e,e',dif_pos];exact hx.2 0 _ _ (by simp[e]) (by simp[e'])
 ·(have e':¬ X.size=1:=by omega);simp only[e,e',dif_neg,not_false_eq_true];exact .tuple hx.1 hx.2
end
def _root_.Go.GStep.drawn:GStep->Nat
 | .go _ w _|.comm _ _ _ _ w _|.spawn _ _ w _|.count _ w _|.timer _ _ w _|.alone _ _ w _|.newcoro _ _ _ w _|.coroswitch _ _ _ w _|.collect _ w _|.watch _ w _|.ended _ w _=>w.drawn
theorem dr (es:Array Nd)(x:GStep):(x.after es).drawn=x.drawn:=by cases x<;>rfl
theorem pR (p:Nx)(s:Sem α)(w:LN):w.drawn<=(s.run p w).drawn:=by
 rw[<-Sem.runT_fst p s w #[]];exact ig p s w #[]
theorem rN (p:Nx)(fr:IF)(cs:List IF)(d:Option Dying)(g:Nat)(w:LN):w.drawn<=(early p fr cs d g w).drawn:=by
 have h:=pR p (choose (.early g)) w;unfold early;dsimp only;repeat' split
 all_goals first
  | exact K0 _
  | (simp_all [Result.drawn,GStep.drawn];done)
theorem iU (p:Nx)(fr:IF)(cs:List IF)(d:Option Dying)(m:String)(w:LN):w.drawn<=(endFatal p fr cs d m w).drawn:=by
 have A0:∀(s:Sem (List (ByteArray×String)×List ByteArray)),w.drawn<=GStep.drawn (match s.run p w with
  | .ok (texts,tabs) w=>dieOf fr (panicPieces texts++tabs) m IH w
  | .halt (.unsupported u) w => .ended (.unsupported u "") w
  | .halt _ w => .ended (.stuck "the report of a panic" "") w) := by
  intro s;have h:=pR p s w;split<;>simp_all [Result.drawn,GStep.drawn,dieOf]
 unfold endFatal;exact A0 _
theorem me (p:Nx)(fr:IF)(cs:List IF)(s:Sem Next)(w:LN):(s.runT p w #[]).1.drawn<=(Kf p IH fr cs ID s w).drawn:=by
 unfold Kf;dsimp only;rw[dr];simp only[if_true];generalize s.runT p w #[]=x;obtain⟨A0,es⟩:=x;cases A0 with
 | ok nx w1 =>cases nx<;>dsimp only<;>(try exact K0 _)<;>(repeat' split)<;>exact K0 _
 | halt h w1 =>
   cases h with
   | unsupported u =>
     cases u with
     | initOrder g=>exact rN _ _ _ _ _ _
     | _=>exact K0 _
   | fatal m=>exact iU _ _ _ _ _ _
   | _=>exact K0 _
def Gr (fr:IF)(cs:List IF):NX:={ frame:=fr,callers:=cs,status:=.running,dying:=ID }
def EZ:List IF->Prop
 | a::b::l=>(a.kind=.deferred->b.mode≠.run)/\EZ (b::l)
 | _=>True
def JF (bt:LI->Lz->Prop)(l:List IF):Prop:=(∀x,l.getLast?=L2 x->x.roundOf=ID/\bt x.fn x.kind)/\EZ l
def jL (g:NX):Prop:=g.status=.blocked\/g.status=.waiting\/∃d,g.dying=L2 d/\d.calling=IR/\d.fatal.isSome/\g.status=.running
structure StR (bt:LI->Lz->Prop)(E:Env)(r:Rel)(w W:LN)(cl cs:List IF)(n:Nat)(sk:Prop)(g:NX)(w':LN)(es:Array Nd)(X:GStep):Prop where
 ex:∃r' fr IC FR I1 W' ES l ls,g=Gr fr (IC++cl)/\X=.go (Gr FR (I1++cs)) W' ES/\bb E r' IR l fr FR/\Jy E r' ls IC I1/\WR E r' w' W'/\Fr E r r' w w' W W'/\Jo r' es ES/\JF bt (fr::IC) /\
  (sk->bY (fr::IC))/\(bY (fr::IC)\/(E.lv->∀d,K1 (d+n) es=d+(l+ls)))
structure StB (bt:LI->Lz->Prop)(E:Env)(r:Rel)(w W:LN)(cl cs:List IF)(g:NX)(w':LN)(es:Array Nd)(X:GStep):Prop where
 ex:∃r' q fr IC FR I1 W' ES l ls,g={ Gr fr (IC++cl) with status:=.blocked }/\X=.go { Gr FR (I1++cs) with status:=.blocked } W' ES/\bb E r' q l fr FR/\Jy E r' ls IC I1/\WR E r' w' W'/\Fr E r r' w w' W W'/\Jo r' es ES/\JF bt (fr::IC)
def aT (bt:LI->Lz->Prop)(E:Env)(r:Rel)(w W:LN)(cl cs:List IF)(n:Nat)(sk:Prop)(x X:GStep):Prop :=
 match x with
 | .go g w' es=>StR bt E r w W cl cs n sk g w' es X\/(jL g/\(g.status=.blocked->StB bt E r w W cl cs g w' es X))
 | .ended ..=>True
 | _=>False
def VK (E:Env)(β:Nat)(r:Rel)(x X:Next):Prop:=(β=0/\QA E r x X)\/(β=1/\∃f a A,E.K f=.deep/\x=.enter f a/\X=.enter f A/\AR E r a A)
section
variable {E:Env} {r:Rel} {w W:LN} {cl cs:List IF} {n:Nat} {sk:Prop} {bt:LI->Lz->Prop}
theorem aT.mk {r':Rel}{l:Nat}(h1:bb E r' IR l fr FR)(h2:Jy E r' ls IC I1)(h3:WR E r' w' W')(h4:Fr E r r' w w' W W')(h5:Jo r' es ES)(h6:JF bt (fr::IC))
 (h7:sk->bY (fr::IC))(h8:bY (fr::IC)\/(E.lv->∀d,K1 (d+n) es=d+(l+ls))):aT bt E r w W cl cs n sk (.go (Gr fr (IC++cl)) w' es) (.go (Gr FR (I1++cs)) W' ES) :=
 .inl ⟨_,_,_,_,_,_,_,_,_,rfl,rfl,h1,h2,h3,h4,h5,h6,h7,h8⟩
theorem bz {a b:IF}(h:b.mode=a.mode){l:List IF}(hs:bY (a::l)):bY (b::l):=by
 obtain⟨f,hf,c,hc⟩:=hs;rcases List.mem_cons.1 hf with rfl|hf
 ·exact⟨b,by simp,c,h.trans hc⟩
 ·exact⟨f,by simp[hf],c,hc⟩
theorem gu {a b:IF}{l:List IF}(hs:bY (a::l)):bY (b::a::l):=by
 obtain⟨f,hf,c,hc⟩:=hs;exact⟨f,List.mem_cons_of_mem _ hf,c,hc⟩
theorem eK {f:IF}{c:List L1}{l:List IF}:bY (f.raise c::l):=by
 refine⟨_,List.mem_cons_self,?_⟩;unfold Frame.raise;split<;>exact⟨_,rfl⟩
theorem cL (f:IF)(v:Nm):(f.finish v).mode=f.mode:=by
 unfold M1;split<;>rfl
theorem sS {a b c:IF}(h:b.mode=a.mode){l:List IF}(hc:∀x,c.mode≠.panicking x)(hs:bY (c::a::l)):bY (b::l):=by
 refine bz h ?_;obtain⟨f,hf,x,hx⟩:=hs;rcases List.mem_cons.1 hf with rfl|hf
 ·exact absurd hx (hc x)
 ·exact⟨f,hf,x,hx⟩
theorem Jo.seen {x X:Array Nd}(h:Jo r x X)(p:Nx)(fn:LI):Jo r (seen p fn x) (seen p fn X):=by
 unfold K2;dsimp only;rw[<-Array.foldl_toList,<-Array.foldl_toList];obtain⟨l⟩:=x;obtain⟨L⟩:=X;have hl:l.length=L.length:=by simpa using h.1
 have hp:∀(i:Nat) e E,l[i]?=L2 e->L[i]?=L2 E->MW r e E:=λi e E a b=>h.2 i e E (by simpa using a) (by simpa using b);clear h;have A2:∀(l L:List Nd),l.length=L.length->(∀(i:Nat) e E,l[i]?=L2 e->L[i]?=L2 E->MW r e E)->∀(q:Bool) (k K:Array Nd),Jo r k K ->
  Jo r (l.foldl (λ(x:Bool×Array Nd) (e:Nd)=>match e.loc with
   | .mark (.extern f)=>((p.funcs[f]?).any (·.norace),x.2)
   | _=>(x.1,if x.1&&!e.sync then x.2 else x.2.push e)) (q,k)).2 (L.foldl (λ(x:Bool×Array Nd) (e:Nd)=>match e.loc with
   | .mark (.extern f)=>((p.funcs[f]?).any (·.norace),x.2)
   | _=>(x.1,if x.1&&!e.sync then x.2 else x.2.push e)) (q,K)).2:=by
  intro l;induction l with
  | nil=>intro L hl _ q k K hk;cases L with|nil=>exact hk|cons _ _=>simp at hl
  | cons e l ih =>
    intro L hl hp q k K hk;cases L with
    | nil=>simp at hl
    | cons e' L =>
      have he:=hp 0 e e' rfl rfl;have A1:=ih L (by simpa using hl) λi a b x y=>hp (i+1) a b (by simpa using x) (by simpa using y);simp only[List.foldl_cons];obtain⟨loc,wr,sy⟩:=e;obtain⟨A3,WR,SY⟩:=e';obtain⟨h1,h2,h3⟩:=he;simp only at h1 h2 h3;subst h2 h3;have A0:Jo r (if(q&&!SY)=IH then k else k.push ⟨loc,WR,SY⟩) (if(q&&!SY)=IH then K else K.push ⟨A3,WR,SY⟩):=by
       split
       ·exact hk
       ·exact hk.push ⟨h1,rfl,rfl⟩
      cases h1 with
      | mark hm =>
        cases hm with
        | extern=>exact A1 _ _ _ hk
        | _=>exact A1 _ _ _ A0
      | _=>exact A1 _ _ _ A0
 exact A2 l L hl hp _ _ _ .nil
theorem bg {a b:IF}(h:b.roundOf=a.roundOf/\b.kind=a.kind/\b.fn=a.fn){l:List IF}(hb:JF bt (a::l)):JF bt (b::l):=by
 obtain⟨hb,hc⟩:=hb;cases l with
 | nil=>exact⟨λx hx=>by simp at hx;subst hx;rw[h.1,h.2.1,h.2.2];exact hb a rfl,trivial⟩
 | cons c l=>exact⟨λx hx=>hb x (by simpa using hx),λx=>hc.1 (h.2.1.symm.trans x),hc.2⟩
theorem iR {a b:IF}{l:List IF}(hk:b.kind=.deferred->a.mode≠.run)(hb:JF bt (a::l)):JF bt (b::a::l) :=
 ⟨λx hx=>hb.1 x (by simpa using hx),hk,hb.2⟩
theorem oI {a b:IF}(h:b.roundOf=a.roundOf/\b.kind=a.kind/\b.fn=a.fn){c:IF}{l:List IF}(hb:JF bt (c::a::l)):JF bt (b::l) :=
 bg h (a:=a) ⟨λx hx=>hb.1 x (by simpa using hx),hb.2.2⟩
theorem cA (f:IF)(v:Nm):(f.finish v).roundOf=f.roundOf/\(f.finish v).kind=f.kind/\(f.finish v).fn=f.fn:=by
 unfold M1;split<;>exact⟨rfl,rfl,rfl⟩
theorem fU (f:IF)(c:List L1):(f.raise c).roundOf=f.roundOf/\(f.raise c).kind=f.kind/\(f.raise c).fn=f.fn:=by
 unfold Frame.raise;split<;>exact⟨rfl,rfl,rfl⟩
theorem mZ {q:Bool}{l:Nat}(hf:bb E r q l fr FR):∀d x y z k,fr.todo≠.call d x y z::k/\FR.todo≠.call d x y z::k:=by
 obtain⟨p,m,h,-⟩:=hf.todo;intro d x y z k;generalize fr.todo=a at h ⊢;generalize FR.todo=b at h ⊢;generalize fr.roundOf=o at h;generalize en E fr.defers=e at h;cases h with
 | plain _ h =>
   cases h with
   | nil=>simp
   | cons hi _=>cases hi<;>simp
 | typed _ h=>cases h<;>simp
 | wait _ h=>simp
theorem fD (hE:aS E){b:Nat}{s S:Sem Next}{β x y:Nat}(hs:SL E (VK E β) x r y s S)(hf:bb E r IH p fr FR)(hsg:Jy E r ls IC I1)(hw:WR E r w W)(ht:TA b w W)(IM:JF bt (fr::IC))
 (hn:n+x=p+y+ls+β)(hy:y<=n)(hd:(Kf E.P IH fr (IC++cl) ID s w).drawn<=b):aT bt E r w W cl cs n (bY (fr::IC)) (Kf E.P IH fr (IC++cl) ID s w) (Kf E.P IH FR (I1++cs) ID S W):=by
 have hr:=hs.runs hE.Jq (b:=b) (H:=λ_ d d0=>d=d0+y) (es:=#[]) (λ_ _ _ _ h=>h) hw ht Jo.nil (LS (me E.P fr (IC++cl) s w) hd);clear hd;have hk:(fr.kind==CallKind.early)=IR:=by rcases hf.Kc with h|h<;>rw[h]<;>rfl
 have hK:(FR.kind==CallKind.early)=IR:=by rw[hf.kind];exact hk
 unfold Kf;simp only[if_true,hk,hK,Mz,if_false,hf.fn];generalize s.runT E.P w #[]=x at *
 generalize S.runT E.P W #[]=X at *
 obtain⟨A6,es⟩:=x;cases A6 with
 | ok nx w1 =>
   obtain⟨r',nX,W1,ES,rfl,h1,h2,h3,h4,h5⟩:=hr;have A0:=hf.mono h2.sub;have A1:=hsg.mono h2.sub;have A3:=h4.seen E.P fr.fn;(have A4:E.lv->∀d,K1 (d+n) (K2 E.P fr.fn es)=d+(β+(p+ls)):=by intro hl d;have:=h5 hl fr.fn (d+n) (d+n-y) (by omega);unfold dq at this;omega);rcases h3 with⟨hβ,h3⟩|⟨hβ,f,a,A,hK,rfl,rfl,hA⟩
   ·subst hβ;(have A2:E.lv->∀d,K1 (d+n) (K2 E.P fr.fn es)=d+(p+ls):=λhl d=>by rw[A4 hl d];omega);cases h3 with
    | value hv=>exact aT.mk (A0.finish hv) A1 h1 h2 (by simpa using A3) (bg (cA _ _) IM) (bz (cL _ _)) (.inr (by simpa using A2))
    | skip=>exact aT.mk (A0.finish dB) A1 h1 h2 (by simpa using A3) (bg (cA _ _) IM) (bz (cL _ _)) (.inr (by simpa using A2))
    | enter hF hb' hx =>
      rename_i f x X;have A5:∀{k K:Lz},k=.normal->K=.normal->aT bt E r w W cl cs n (bY (fr::IC)) (.go { frame:=J0 E.P f x k,callers:=fr::(IC++cl),status:=.running,dying:=ID } w1 (K2 E.P fr.fn es))
       (.go { frame:=J0 E.P f X K,callers:=FR::(I1++cs),status:=.running,dying:=ID } W1 (K2 E.P fr.fn ES)):=by
       intro k K hk hK;subst hk hK;exact aT.mk (IC:=fr::IC) (I1:=FR::I1) (fu hE hF hx (.inl rfl) hb') (.cons A0 A1) h1 h2 A3 (iR (λx=>by cases x) IM) gu (.inr A4)
      simp only[Jx,Array.append_empty];refine A5 ?_ ?_
      ·split
       ·rename_i e;exact absurd e (mZ hf _ _ _ _ _).1
       ·rfl
      ·split
       ·rename_i e;exact absurd e (mZ hf _ _ _ _ _).2
       ·rfl
    | round hl hh ht' ha hb' =>
      rename_i l L f t T a c;have:=aT.mk (E:=E) (r:=r) (w:=w) (W:=W) (cl:=cl) (cs:=cs) (n:=n) (sk:=bY (fr::IC)) (fr:=Frame.round l f t a c .normal) (FR:=Frame.round L f T a c .normal) (IC:=fr::IC) (I1:=FR::I1) (l:=0)
       ⟨rfl,hh,ht',⟨IR,0,.plain rfl (.cons (.code ha) (.cons .beginRound (.cons (.code hb') .nil))),λ_=>⟨rfl,rfl⟩⟩,λx=>absurd rfl x,.nil,.run,rfl,.inl rfl,.some hl⟩ (.cons A0 A1) h1 h2 A3 (iR (λx=>by cases x) IM) gu (.inr A4)
      simpa [Jx,Gr] using this
    | defer hdf =>
      rename_i d D;have A8:bb E r' IH p { fr with defers:=d::fr.defers } { FR with defers:=D::FR.defers }:=⟨A0.fn,A0.has,A0.tmps,by rw[jk hE.sep hdf];exact A0.todo,by rw[jk hE.sep hdf];exact A0.off,.cons hdf A0.defers,A0.mode,A0.kind,A0.Kc,A0.round⟩;have:=aT.mk (cl:=cl) (cs:=cs) (n:=n) (sk:=bY (fr::IC)) (A8.finish dB) A1 h1 h2 A3 (bg (cA _ _) (bg (a:=fr) (b:={ fr with defers:=d::fr.defers }) ⟨rfl,rfl,rfl⟩ IM))
       (λx=>bz (a:=fr) (cL { fr with defers:=d::fr.defers } N1) x) (.inr A2)
      simpa [Jx,Gr,hf.fn] using this
   ·subst hβ;have A5:∀{k K:Lz},k=.normal->K=.normal->aT bt E r w W cl cs n (bY (fr::IC)) (.go { frame:=J0 E.P f a k,callers:=fr::(IC++cl),status:=.running,dying:=ID } w1 (K2 E.P fr.fn es))
     (.go { frame:=J0 E.P f A K,callers:=FR::(I1++cs),status:=.running,dying:=ID } W1 (K2 E.P fr.fn ES)):=by
     intro k K hk A7;subst hk A7;exact aT.mk (IC:=fr::IC) (I1:=FR::I1) (BU hE hK hA) (.cons A0 A1) h1 h2 A3 (iR (λx=>by cases x) IM) gu (.inr A4)
    simp only[Jx,Array.append_empty];refine A5 ?_ ?_
    ·split
     ·rename_i e;exact absurd e (mZ hf _ _ _ _ _).1
     ·rfl
    ·split
     ·rename_i e;exact absurd e (mZ hf _ _ _ _ _).2
     ·rfl
 | halt h w1 =>
   cases h with
   | panic v =>obtain⟨r',V,W1,ES,rfl,h1,h2,hv,h4⟩:=hr;have:=aT.mk (cl:=cl) (cs:=cs) (n:=n) (sk:=bY (fr::IC)) ((hf.mono h2.sub).raise (KD.cons (v:=v) (V:=V) hv .nil)) (hsg.mono h2.sub) h1 h2 (h4.seen E.P fr.fn) (bg (fU _ _) IM) (λ_=>eK) (.inl eK);simpa [Jx,Gr] using this
   | blocked =>obtain⟨r',W1,ES,rfl,h1,h2⟩:=hr;refine .inr ⟨.inl rfl,λ_=>⟨r',IH,fr,IC,FR,I1,W1,_,p,ls,rfl,rfl,hf.mono h2.sub,hsg.mono h2.sub,h1,h2,?_,IM⟩⟩;exact Jo.append (Jo.seen Jo.nil _ _) .nil
   | waiting=>exact .inr ⟨.inr (.inl rfl),λx=>by cases x⟩
   | exit c=>trivial
   | fatal m =>
     simp only[endFatal];split
     ·exact .inr ⟨.inr (.inr ⟨_,rfl,rfl,rfl,rfl⟩),λx=>by cases x⟩
     ·trivial
     ·trivial
   | throw m=>exact .inr ⟨.inr (.inr ⟨_,rfl,rfl,rfl,rfl⟩),λx=>by cases x⟩
   | goexit=>exact hr.elim
   | unsupported u =>
     cases u with
     | initOrder g=>exact hr.elim
     | _=>trivial
   | stuck s=>trivial
end
section
variable {E:Env} {r:Rel} {w W:LN} {cl cs:List IF} {m0:Bool} {bt:LI->Lz->Prop}
theorem CE (id:Nat):∀{k K:List MD},Ko E r k K->(exitTo id k=ID/\exitTo id K=ID)\/∃l L,exitTo id k=L2 l/\exitTo id K=L2 L/\Ko E r l L:=by
 intro k K h;induction h with
 | nil=>exact .inl ⟨rfl,rfl⟩
 | cons hi hl ih =>
   cases hi with
   | inBlock =>
     simp only[exitTo];split
     ·exact .inr ⟨_,_,rfl,rfl,hl⟩
     ·exact ih
   | _=>exact ih
theorem EC (l:Nat):∀{c d:N6},aU E c->findLabel c l=L2 d->aU E d:=by
 intro c;induction c with
 | seq a b iha ihb =>
   intro d hc hd;simp only[findLabel] at hd;split at hd
   ·rename_i x hx;cases hd;exact⟨iha hc.1 hx,hc.2⟩
   ·exact ihb hc.2 hd
 | label m =>
   intro d hc hd;simp only[findLabel] at hd;split at hd
   ·cases hd;trivial
   ·cases hd
 | _=>intro d hc hd;simp[findLabel] at hd
theorem Cj (id:Nat):∀{k K:List MD},Ko E r k K->(gotoIn id k=ID/\gotoIn id K=ID)\/∃l L,gotoIn id k=L2 l/\gotoIn id K=L2 L/\Ko E r l L:=by
 intro k K h;induction h with
 | nil=>exact .inl ⟨rfl,rfl⟩
 | cons hi hl ih =>
   cases hi with
   | inScope hb =>
     simp only[gotoIn];split
     ·rename_i x hx;exact .inr ⟨_,_,rfl,rfl,.cons (.code (EC id hb hx)) (.cons (.inScope hb) hl)⟩
     ·exact ih
   | _=>exact ih
theorem nL {b:Bool}(hf:bb E r IR 0 fr FR)(Vp:∀x,fr.mode≠.panicking x)(hsg:Jy E r ls IC I1)(hne:IC≠[])(hw:WR E r w W)(IM:JF bt (fr::IC)){v V:Nm}(hv:VR E r v V) :
 aT bt E r w W cl cs ls (bY (fr::IC)) (L4 E.P m0 fr (IC++cl) ID v w) (L4 E.P b FR (I1++cs) ID V W):=by
 cases hsg with
 | nil=>exact absurd rfl hne
 | cons hc hl =>
   rename_i p ls c C l L;simp only[List.cons_append,L4,hf.kind];rcases hf.Kc with hk|hk
   ·rw[hk];exact aT.mk (hc.finish hv) hl hw .rfl .nil (oI (cA _ _) IM) (sS (cL _ _) Vp) (.inr λ_ d=>rfl)
   ·rw[hk];have A1:=IM.2.1 hk;have A0:bb E r IR p c C:=⟨hc.fn,hc.has,hc.tmps,let ⟨p,m,x,_⟩:=hc.todo;⟨p,m,x,λy=>absurd y A1⟩,hc.off,hc.defers,hc.mode,hc.kind,hc.Kc,hc.round⟩;have this:=aT.mk (E:=E) (r:=r) (w:=w) (W:=W) (cl:=cl) (cs:=cs) (n:=p+ls) (sk:=bY (fr::c::l)) A0 hl hw .rfl .nil (oI ⟨rfl,rfl,rfl⟩ IM) (sS rfl Vp) (.inr λ_ d=>rfl);dsimp only;have hm:=hc.mode;generalize c.mode=m at hm ⊢;generalize C.mode=M at hm ⊢;cases hm with
    | panicking hp=>cases hp<;>exact this
    | _=>exact this
theorem ub (d:Nat)(x y:Array Nd):K1 d (x++y)=K1 (K1 d x) y:=by
 unfold K1;rw[Array.foldl_append]
theorem aT.lift {n n':Nat}{sk:Prop}{r':Rel}{x X:GStep}(hf:Fr E r r' w w' W W')(he:Jo r' es ES)(hk:sk->SS)(hn:E.lv->∀d,K1 (d+n) es=d+n')(h:aT bt E r' w' W' cl cs n' SS x X):aT bt E r w W cl cs n sk (x.after es) (X.after ES):=by
 cases x with
 | go g w1 e =>
   rcases h with⟨A3,fr,A0,FR,A1,W1,A2,l,ls,h1,rfl,h3,h4,h5,h6,h7,h8,h9,A4⟩|h
   ·refine .inl ⟨A3,fr,A0,FR,A1,W1,ES++A2,l,ls,h1,rfl,h3,h4,h5,hf.trans h6,(he.mono h6.sub).append h7,h8,λx=>h9 (hk x),A4.imp id λh hl d=>?_⟩;rw[ub,hn hl,h hl]
   ·refine .inr ⟨h.1,λhb=>?_⟩;obtain⟨A3,q,fr,A0,FR,A1,W1,A2,l,ls,h1,rfl,h3,h4,h5,h6,h7,h8⟩:=h.2 hb;exact⟨A3,q,fr,A0,FR,A1,W1,ES++A2,l,ls,h1,rfl,h3,h4,h5,hf.trans h6,(he.mono h6.sub).append h7,h8⟩
 | ended o w' e=>trivial
 | _=>exact h
theorem aT.pre {n:Nat}{sk:Prop}{x X:GStep}(hk:sk->SS)(h:aT bt E r w W cl cs n SS x X):aT bt E r w W cl cs n sk x X:=by
 cases x with
 | go g w1 e =>
   rcases h with⟨A4,fr,A0,FR,A2,W1,A3,l,ls,h1,h2,h3,h4,h5,h6,h7,h8,h9,A1⟩|h
   ·exact .inl ⟨A4,fr,A0,FR,A2,W1,A3,l,ls,h1,h2,h3,h4,h5,h6,h7,h8,λx=>h9 (hk x),A1⟩
   ·exact .inr h
 | ended o w' e=>trivial
 | _=>exact h
theorem aT.raised {n:Nat}{sk:Prop}{r':Rel}(hfr:Fr E r r' w w' W W')(he:Jo r' es ES)(hf:bb E r' IR p fr FR)(hsg:Jy E r' ls IC I1)(hw:WR E r' w' W')(IM:JF bt (fr::IC))(hs:bY (fr::IC)) :
 aT bt E r w W cl cs n sk (Jx es (.go (Gr fr (IC++cl)) w')) (Jx ES (.go (Gr FR (I1++cs)) W')):=by
 have:=aT.mk (E:=E) (r:=r) (w:=w) (W:=W) (cl:=cl) (cs:=cs) (n:=n) (sk:=sk) hf hsg hw hfr he IM (λ_=>hs) (.inl hs);simpa [Jx] using this
theorem bU {sk:Prop}{n:Nat}(hf:bb E r IR p fr FR)(hsg:Jy E r ls IC I1)(hw:WR E r w W)(IM:JF bt (fr::IC))(hk:sk->bY (fr::IC))(hn:bY (fr::IC)\/n=p+ls):aT bt E r w W cl cs n sk (.go (Gr fr (IC++cl)) w) (.go (Gr FR (I1++cs)) W) :=
 aT.mk hf hsg hw .rfl .nil IM hk (hn.imp id λh _ d=>by rw[h];rfl)
theorem bb.to {q:Bool}{m:Nat}(h:bb E r q p fr FR)(hm:fr.mode=.run){l L:List MD}(hl:Lh E r fr.fn IR fr.roundOf m (en E fr.defers) l L):bb E r IR m { fr with todo:=l } { FR with todo:=L } :=
 ⟨h.fn,h.has,h.tmps,⟨_,_,hl,λ_=>⟨rfl,rfl⟩⟩,λx=>absurd hm x,h.defers,h.mode,h.kind,h.Kc,h.round⟩
theorem DL {β:Type}{A:Rel->α->β->Prop}{b n:Nat}{sk:Prop}(hE:aS E){s:Sem α}{S:Sem β}(hs:SR E A r s S)(hw:WR E r w W)(ht:TA b w W)(fn:LI){k:Result α->GStep}{K:Result β->GStep}
 (hk:∀h w,(∀v,h≠.panic v)->∃a u e,k (.halt h w)=.ended a u e/\u.drawn=w.drawn)
 (hp:∀v w',∃a u e,k (.halt (.panic v) w')=.ended a u e/\u.drawn=w'.drawn)
 (hf:∀r' a A' w' W',A r' a A'->WR E r' w' W'->Fr E r r' w w' W W'->(k (.ok a w')).drawn<=b->aT bt E r' w' W' cl cs n sk (k (.ok a w')) (K (.ok A' W')))
 (hd:(k (s.runT E.P w #[]).1).drawn<=b)(hfd:∀a w',w'.drawn<=(k (.ok a w')).drawn) :
 aT bt E r w W cl cs n sk (Jx (K2 E.P fn (s.runT E.P w #[]).2) (k (s.runT E.P w #[]).1)) (Jx (K2 E.P fn (S.runT E.P W #[]).2) (K (S.runT E.P W #[]).1)):=by
 have hk:∀h w,∃a u e,k (.halt h w)=.ended a u e/\u.drawn=w.drawn:=by
  intro h w;by_cases hpn:∃v,h=.panic v
  ·obtain⟨v,rfl⟩:=hpn;exact hp v w
  ·exact hk h w λv hv=>hpn ⟨v,hv⟩
 have hb:(s.runT E.P w #[]).1.drawn<=b:=by
  generalize (s.runT E.P w #[]).1=y at hd ⊢;cases y with
  | ok a w1=>exact LS (hfd a w1) hd
  | halt h w1 =>obtain⟨a,u,e,e1,e2⟩:=hk h w1;rw[e1] at hd;exact LS (Nat.le_of_eq e2.symm) hd
 have A0:=hs.runs hE.Jq (b:=b) (H:=λ_ d d0=>d=d0) (es:=#[]) (λ_ _ _ _ h=>h) hw ht Jo.nil hb;generalize s.runT E.P w #[]=y at hd A0 ⊢;generalize S.runT E.P W #[]=Y at A0 ⊢;obtain⟨A1,es⟩:=y;cases A1 with
 | ok v w1 =>obtain⟨r',V,W1,ES,rfl,h1,h2,h3,h4,h5⟩:=A0;exact aT.lift h2 (h4.seen E.P fn) id (λhl d=>h5 hl fn (d+n) (d+n) rfl) (hf r' v V w1 W1 h3 h1 h2 hd)
 | halt h w1 =>obtain⟨a,u,e,e1,e2⟩:=hk h w1;dsimp only;rw[e1];trivial
end
section
variable {E:Env} {r:Rel} {w W:LN} {cl cs:List IF} {m0:Bool} {bt:LI->Lz->Prop}
theorem Ml.shift {c:Call}{q:Nat}(h:Ml E c p q)(e:Nat):Ml E c (p+e) (q+e):=by
 cases h with
 | @J5 f n a b=>rw[MA];exact .J5 a b
 | @JK f n a b=>rw[MA];exact .JK a b
 | @deep f n a b c=>rw[MA];exact .deep a b c
theorem Te {s S:Sem Next}(h:SR E (nY E) r s S):SL E (VK E 0) 0 r 0 s S:=SL.weaken h λ_ _ _ h=>.inl ⟨rfl,h⟩
theorem rO (hE:aS E){b:Nat}(hf:bb E r IH p fr FR)(hsg:Jy E r ls IC I1)(hw:WR E r w W)(ht:TA b w W)(IM:JF bt (fr::IC)){ops:Array Oper}{i:Nat}{l:List Nat}{k K:List MD}
 (h1:fr.todo=.inRegion ops (i::l)::k)(h2:FR.todo=.inRegion ops (i::l)::K)(ho:∀o,ops[i]?=L2 o->oV E o.op)
 (hd:(I3 E.P IH fr (IC++cl) ID w).drawn<=b):aT bt E r w W cl cs (p+ls) (bY (fr::IC)) (I3 E.P IH fr (IC++cl) ID w) (I3 E.P IH FR (I1++cs) ID W):=by
 unfold I3 at hd ⊢;have e1:fr.oper?=ops[i]?:=by simp[Frame.oper?,h1]
 have e2:FR.oper?=ops[i]?:=by simp[Frame.oper?,h2]
 rw[e1] at hd ⊢;rw[e2];cases hoi:ops[i]? with
 | none=>trivial
 | some o =>
   rw[hoi] at hd;have A0:=ho o hoi;have hρ:∀x,aQ E x->VR E r (fr.eval x) (FR.eval x):=λx hx=>hf.eval hw.base x hx;dsimp only at hd ⊢;have A1:=hf.round;have plain:=λhd=>fD (cl:=cl) (cs:=cs) (n:=p+ls) hE (Te (G3 hE hw.ok hw.base hρ (λ_=>rfl) A0)) hf hsg hw ht IM (by omega) (by omega) (b:=b) hd;generalize hfr:fr.roundOf=q at A1 hd ⊢;generalize FR.roundOf=Q at A1 ⊢;cases A1 with
   | none=>exact plain hd
   | some hl =>
     cases hop:o.op with
     | defer c =>
       rw[hop] at A0 hd;dsimp only at hd ⊢;refine fD hE (Te ?_) hf hsg hw ht IM (by omega) (by omega) hd;refine(jQ hρ A0.1 _ λv hv=>by obtain⟨f,rfl⟩:=A0.2 v hv;exact λV=>by simp[Ln]).Iy ?_;rintro r1 d D s1 ⟨h3,h4⟩;refine(mK (s1.1 _ _ hl) ⟨h3,h4⟩).Iy ?_;rintro r2 _ _ s2 -
       exact .pure .skip
     | _=>rw[hop] at hd;exact plain hd
theorem ui (hE:aS E){b q:Nat}(hf:bb E r IH p fr FR)(hsg:Jy E r ls IC I1)(hw:WR E r w W)(ht:TA b w W)(IM:JF bt (fr::IC)){ops:Array Oper}{i:Nat}{l:List Nat}{k K:List MD}
 (h1:fr.todo=.inRegion ops (i::l)::k)(h2:FR.todo=.inRegion ops (i::l)::K){o:Oper}{c:Call}(hoi:ops[i]?=L2 o)(hc:o.op=.call c)(hsp:Ml E c p q)
 (hd:(I3 E.P IH fr (IC++cl) ID w).drawn<=b):aT bt E r w W cl cs (q+ls) (bY (fr::IC)) (I3 E.P IH fr (IC++cl) ID w) (I3 E.P IH FR (I1++cs) ID W):=by
 have e1:fr.oper?=L2 o:=by simp[Frame.oper?,h1,hoi]
 have e2:FR.oper?=L2 o:=by simp[Frame.oper?,h2,hoi]
 have hρ:∀x,aQ E x->VR E r (fr.eval x) (FR.eval x):=λx hx=>hf.eval hw.base x hx;have a1:I3 E.P IH fr (IC++cl) ID w=Kf E.P IH fr (IC++cl) ID (execOp fr.eval o) w:=by unfold I3;rw[e1];dsimp only;rw[hc];cases fr.roundOf<;>rfl
 have a2:I3 E.P IH FR (I1++cs) ID W=Kf E.P IH FR (I1++cs) ID (execOp FR.eval o) W:=by unfold I3;rw[e2];dsimp only;rw[hc];cases FR.roundOf<;>rfl
 rw[a1] at hd ⊢;rw[a2];rcases wm (r:=r) hE hρ (λ_=>rfl) (λ_=>rfl) hc hsp with⟨x,y,e,hy,hs⟩|⟨e,hs⟩
 ·refine fD hE (β:=0) (hs.weaken λ_ _ _ h=>.inl ⟨rfl,?_⟩) hf hsg hw ht IM (by omega) (by omega) hd;rw[h.1,h.2];exact .value dB
 ·exact fD hE (β:=1) (hs.weaken λ_ _ _ h=>.inr ⟨rfl,h⟩) hf hsg hw ht IM (by omega) (by omega) hd
end
section
variable {E:Env} {r:Rel} {w W:LN} {cl cs:List IF} {m0:Bool} {bt:LI->Lz->Prop}
theorem AR.yielded (h:AR E r t T)(ops:Array Oper):Go.yielded ops T=Go.yielded ops t:=by
 funext j;unfold Go.yielded;cases(ops[j]?).bind (·.dst) with
 | none=>rfl
 | some d =>
   simp only[MY];rcases h.get d with⟨a1,a2⟩|⟨v,V,a1,a2,hv⟩
   ·rw[a1,a2]
   ·rw[a1,a2];cases hv with
    | jf a b=>cases V<;>first|exact absurd trivial b|rfl
    | _=>rfl
theorem pS (hE:aS E){b:Nat}{m:Bool}{n:Nat}(hn:n=p+ls)(hf:bb E r IR p fr FR)(hp:p=en E fr.defers)(hro:fr.roundOf=ID\/p=0)(hm:fr.mode=.run)(hsg:Jy E r ls IC I1)(hw:WR E r w W)(ht:TA b w W)(IM:JF bt (fr::IC))(j:Option N6)(q:Bool)(s s' S S':Outcome) :
 (GStep.drawn (match fr.roundOf with
   | none=>if q=IH then .go { frame:={ fr with mode:=.returning },callers:=IC++cl,status:=.running,dying:=ID } w else .ended s w
   | some l=>Jx (K2 E.P fr.fn ((J1 l j).runT E.P w #[]).2) (match ((J1 l j).runT E.P w #[]).1 with|.ok v w=>L4 E.P m0 fr (IC++cl) ID v w|.halt _ w=>.ended s' w)))<=b ->
   (∀c∈j,aU E c)->aT bt E r w W cl cs n (bY (fr::IC)) (match fr.roundOf with
     | none=>if q=IH then .go { frame:={ fr with mode:=.returning },callers:=IC++cl,status:=.running,dying:=ID } w else .ended s w
     | some l=>Jx (K2 E.P fr.fn ((J1 l j).runT E.P w #[]).2) (match ((J1 l j).runT E.P w #[]).1 with|.ok v w=>L4 E.P m0 fr (IC++cl) ID v w|.halt _ w=>.ended s' w))
     (match FR.roundOf with
     | none=>if q=IH then .go { frame:={ FR with mode:=.returning },callers:=I1++cs,status:=.running,dying:=ID } W else .ended S W
     | some l=>Jx (K2 E.P FR.fn ((J1 l j).runT E.P W #[]).2) (match ((J1 l j).runT E.P W #[]).1 with|.ok v w=>L4 E.P m FR (I1++cs) ID v w|.halt _ w=>.ended S' w)):=by
 intro hd hj;obtain⟨fn,tmps,todo,defers,mode,kind,roundOf⟩:=fr;obtain⟨FN,A2,A3,A1,A4,A0,ROUND⟩:=FR;have e1:FN=fn:=hf.fn;have e2:A0=kind:=hf.kind;subst e1 e2;have hr:Lr r roundOf ROUND:=hf.round;cases hr with
 | none =>
   cases q with
   | true =>
     have A6:mode=.run:=hm;exact bU (p:=p) (fr:=⟨FN,tmps,todo,defers,.returning,A0,ID⟩) (FR:=⟨FN,A2,A3,A1,.returning,A0,ID⟩) ⟨hf.fn,hf.has,hf.tmps,let ⟨p,m,x,_⟩:=hf.todo;⟨p,m,x,λy=>by cases y⟩,λ_=>hp,hf.defers,.returning,hf.kind,hf.Kc,hf.round⟩ hsg hw
      (bg (a:=⟨FN,tmps,todo,defers,mode,A0,ID⟩) (b:=⟨FN,tmps,todo,defers,.returning,A0,ID⟩) ⟨rfl,rfl,rfl⟩ IM) (λx=>by
        obtain⟨f,h1,h2⟩:=x;rcases List.mem_cons.1 h1 with rfl|h1
        ·obtain⟨c,hc⟩:=h2;rw[A6] at hc;cases hc
        ·exact⟨f,by simp[h1],h2⟩) (.inr hn)
   | false=>trivial
 | some hl =>
   rename_i l L;(obtain rfl:p=0:=by rcases hro with h|h<;>first|exact h|cases h);(obtain rfl:n=ls:=by omega);(have A5:IC≠[]:=by rintro rfl;have:=(IM.1 _ rfl).1;cases this);dsimp only at hd ⊢;rw[dr] at hd;refine DL (cl:=cl) (cs:=cs) (k:=λy=>match y with|.ok v w=>L4 E.P m0 ⟨FN,tmps,todo,defers,mode,A0,L2 l⟩ (IC++cl) ID v w|.halt _ w=>.ended s' w)
    (K:=λy=>match y with|.ok v w=>L4 E.P m ⟨FN,A2,A3,A1,A4,A0,L2 L⟩ (I1++cs) ID v w|.halt _ w=>.ended S' w)
    hE (uH hl hj) hw ht FN (λh w _=>⟨_,_,_,rfl,rfl⟩) (λ_ _=>⟨_,_,_,rfl,rfl⟩) (λr' v V w' W' hv h1 h2 _=>nL (hf.mono h2.sub) (λx hx=>by rw[hm] at hx;cases hx) (hsg.mono h2.sub) A5 h1 IM hv) hd (λv w'=>?_)
   cases IC with
   | nil=>exact absurd rfl A5
   | cons c l =>simp only[List.cons_append,L4];have A7:A0=.normal\/A0=.deferred:=hf.Kc;rcases A7 with hk|hk<;>rw[hk]<;>exact K0 _
theorem yQ (hE:aS E){b:Nat}{m:Bool}(hf:bb E r IR 0 fr FR)(hen:en E fr.defers=0)(hto:Ko E r fr.todo FR.todo)(hm:fr.mode=.run)(hsg:Jy E r ls IC I1)(hw:WR E r w W)(ht:TA b w W)(IM:JF bt (fr::IC))
 (hd:(Lo E.P m0 IH fr (IC++cl) ID w).drawn<=b):aT bt E r w W cl cs ls (bY (fr::IC)) (Lo E.P m0 IH fr (IC++cl) ID w) (Lo E.P m IH FR (I1++cs) ID W):=by
 obtain⟨fn,tmps,todo,defers,mode,kind,A0⟩:=fr;obtain⟨FN,A3,MN,A2,A5,A1,ROUND⟩:=FR;have e1:FN=fn:=hf.fn;have e2:A1=kind:=hf.kind;subst e1 e2;have hto:Ko E r todo MN:=hto;have Ae:mode=.run:=hm;have hen:en E defers=0:=hen;have A7:bb E r IH 0 ⟨FN,tmps,todo,defers,mode,A1,A0⟩ ⟨FN,A3,MN,A2,A5,A1,ROUND⟩:=⟨hf.fn,hf.has,hf.tmps,⟨IH,0,.plain hen hto,λ_=>⟨rfl,rfl⟩⟩,hf.off,hf.defers,hf.mode,hf.kind,hf.Kc,hf.round⟩;have to:∀{l L:List MD},Ko E r l L->aT bt E r w W cl cs ls (bY (⟨FN,tmps,todo,defers,mode,A1,A0⟩::IC)) (.go { frame:=(⟨FN,tmps,l,defers,mode,A1,A0⟩:IF),callers:=IC++cl,status:=.running,dying:=ID } w) (.go { frame:=(⟨FN,A3,L,A2,A5,A1,ROUND⟩:IF),callers:=I1++cs,status:=.running,dying:=ID } W) :=
  λ{l L} h=>bU (hf.to hm (.plain hen h)) hsg hw (bg (a:=⟨FN,tmps,todo,defers,mode,A1,A0⟩) (b:=(⟨FN,tmps,l,defers,mode,A1,A0⟩:IF)) ⟨rfl,rfl,rfl⟩ IM) (bz (by rfl)) (.inr (by omega))
 have ap:∀{s S:Sem Next},SR E (nY E) r s S->(Kf E.P IH ⟨FN,tmps,todo,defers,mode,A1,A0⟩ (IC++cl) ID s w).drawn<=b->aT bt E r w W cl cs ls (bY (⟨FN,tmps,todo,defers,mode,A1,A0⟩::IC)) (Kf E.P IH ⟨FN,tmps,todo,defers,mode,A1,A0⟩ (IC++cl) ID s w) (Kf E.P IH ⟨FN,A3,MN,A2,A5,A1,ROUND⟩ (I1++cs) ID S W) :=
  λhs hd=>fD hE (Te hs) A7 hsg hw ht IM (by omega) (by omega) hd
 have op:∀{ops:Array Oper} {i:Nat} {l:List Nat} {k K:List MD},todo=.inRegion ops (i::l)::k->MN=.inRegion ops (i::l)::K->(∀o∈ops,oV E o.op)->(I3 E.P IH ⟨FN,tmps,todo,defers,mode,A1,A0⟩ (IC++cl) ID w).drawn<=b ->
  aT bt E r w W cl cs ls (bY (⟨FN,tmps,todo,defers,mode,A1,A0⟩::IC)) (I3 E.P IH ⟨FN,tmps,todo,defers,mode,A1,A0⟩ (IC++cl) ID w) (I3 E.P IH ⟨FN,A3,MN,A2,A5,A1,ROUND⟩ (I1++cs) ID W) :=
  λh1 h2 h3 hd=>by
   have:=rO (cl:=cl) (cs:=cs) hE A7 hsg hw ht IM h1 h2 (λo ho=>h3 o (Array.mem_of_getElem? ho)) hd
   rwa [NO] at this
 have lv:=λ(j:Option N6) (q:Bool) (s s' S S':Outcome)=>pS (m0:=m0) (cl:=cl) (cs:=cs) (m:=m) (n:=ls) hE (by omega) hf hen.symm (.inr rfl) hm hsg hw ht IM j q s s' S S';have Ab:=λx hx=>hf.eval hw.base x hx;unfold Lo at hd ⊢;cases hto with
 | nil=>dsimp only at hd ⊢;exact lv ID IH _ _ _ _ hd (by simp)
 | cons hi hk =>
   cases hi with
   | code hc =>
     rename_i c;cases c with
     | skip=>exact to hk
     | label _=>exact to hk
     | seq a b=>exact to (.cons (.code hc.1) (.cons (.code hc.2) hk))
     | cond c x y =>
       have hv:=Ab c hc.1;dsimp only at hd ⊢;generalize Ln _ c=v at hv hd ⊢;generalize Ln _ c=V at hv ⊢;cases hv with
       | bool q =>
         dsimp only;refine to (.cons (.code ?_) hk);split
         ·exact hc.2.1
         ·exact hc.2.2
       | _=>trivial
     | block id body=>exact to (.cons (.code hc) (.cons .inBlock hk))
     | loop body=>exact to (.cons (.code hc) (.cons (.inLoop hc) hk))
     | scope body=>exact to (.cons (.code hc) (.cons (.inScope hc) hk))
     | exit id =>
       dsimp only at hd ⊢;rcases CE id hk with⟨e1,e2⟩|⟨l,L,e1,e2,hl⟩
       ·rw[e1] at hd ⊢;rw[e2];exact lv (L2 (.exit id)) IR _ _ _ _ hd (by simp[aU])
       ·rw[e1,e2];exact to hl
     | goto id =>
       dsimp only at hd ⊢;rcases Cj id hk with⟨e1,e2⟩|⟨l,L,e1,e2,hl⟩
       ·rw[e1] at hd ⊢;rw[e2];exact lv (L2 (.goto id)) IR _ _ _ _ hd (by simp[aU])
       ·rw[e1,e2];exact to hl
     | ret=>dsimp only at hd ⊢;exact lv (L2 .ret) IH _ _ _ _ hd (by simp[aU])
     | refuse _=>trivial
     | region id ops draw =>
       cases draw with
       | false=>exact to (.cons (.inRegion hc) hk)
       | true =>rename_i k K;have hq:(choose (.order FN id)).run E.P w=.ok (w.tape w.drawn (.order FN id)) { w with drawn:=w.drawn+1 }:=rfl;have hQ:(choose (.order FN id)).run E.P W=.ok (W.tape W.drawn (.order FN id)) { W with drawn:=W.drawn+1 }:=rfl;simp only[Bool.not_true,Mz,if_false,hq,hQ] at hd ⊢;have Af:w.drawn+1<=b:=hd;have e:=ht 0 (.order FN id) (by omega);simp only[Nat.add_zero] at e;rw[<-e];have h1:=hw.draw 1;exact aT.mk (fr:=⟨FN,tmps,_,defers,mode,A1,A0⟩) (FR:=⟨FN,A3,_,A2,A5,A1,ROUND⟩) (hf.to hm (.plain hen (.cons (.inRegion hc) hk))) hsg h1.1 h1.2 .nil (bg (a:=⟨FN,tmps,.code (.region id ops IH)::k,defers,mode,A1,A0⟩) (b:=⟨FN,tmps,.inRegion ops (Region.schedule (E.P.follows .mixedOrders) ops (w.tape w.drawn (.order FN id)))::k,defers,mode,A1,A0⟩) ⟨rfl,rfl,rfl⟩ IM) (bz (by rfl)) (.inr λ_ d=>by rw[NO];rfl)
     | rangeFunc f ps a c =>
       dsimp only at hd ⊢;rw[dr] at hd;rename_i k K;have A4:=λhb=>(rz hf.has hf.tmps ps hc.2.1 hc.2.2 hf.round).runs hE.Jq (b:=b) (H:=λ_ d d0=>d=d0) (es:=#[]) (λ_ _ _ _ h=>h) hw ht Jo.nil hb;dsimp only at A4;generalize (LL FN tmps ps a c A0).runT E.P w #[]=y at hd A4 ⊢;generalize (LL FN A3 ps a c ROUND).runT E.P W #[]=Y at A4 ⊢;obtain⟨A6,es⟩:=y;cases A6 with
       | halt h w1=>trivial
       | ok p w1 =>
         obtain⟨l,mk⟩:=p;dsimp only at hd;obtain⟨r',⟨L,MK⟩,W1,ES,rfl,h1,h2,⟨hl,A9⟩,h4,h5⟩:=A4 (LS (LS (ig _ _ _ _) (me _ _ _ _ _)) hd);have A8:bb E r' IH 0 ⟨FN,tmps,.inRangeFunc l::k,mk++defers,mode,A1,A0⟩ ⟨FN,A3,.inRangeFunc L::K,MK++A2,A5,A1,ROUND⟩ :=
          ⟨rfl,hf.has,hf.tmps.mono h2.sub,⟨IH,0,.plain ((wc hE.sep A9 defers).trans hen) (.cons (.inRangeFunc hl) (hk.mono h2.sub)),λ_=>⟨rfl,rfl⟩⟩,λx=>absurd hm x,A9.Rf (hf.defers.mono h2.sub),hf.mode.mono h2.sub,rfl,hf.Kc,hf.round.mono h2.sub⟩
         refine aT.lift h2 (h4.seen E.P FN) (bz (by rfl)) (λhl d=>h5 hl FN (d+ls) (d+ls) rfl) (fD hE (Te ?_) A8 (hsg.mono h2.sub) h1 (ht.fr h2) (bg (a:=⟨FN,tmps,.code (.rangeFunc f ps a c)::k,defers,mode,A1,A0⟩) (b:=⟨FN,tmps,.inRangeFunc l::k,mk++defers,mode,A1,A0⟩) ⟨rfl,rfl,rfl⟩ IM) (by omega) (by omega) hd);have hv:=A8.eval h1.base f hc.1;have ha:AR E r' #[.func (.yield l) #[] #[]] #[.func (.yield L) #[] #[]]:=AR.one (.func (.yield hl) rfl (by simp) rfl (by simp));(have Aa:AR E r' (#[Operand.const (.func (.yield l) #[] #[])].map (Ln ⟨FN,tmps,.inRangeFunc l::k,mk++defers,mode,A1,A0⟩)) (#[Operand.const (.func (.yield L) #[] #[])].map (Ln ⟨FN,A3,.inRangeFunc L::K,MK++A2,A5,A1,ROUND⟩)):=by simpa [Ln] using ha);unfold resolve;dsimp only;generalize Ln ⟨FN,tmps,.inRangeFunc l::k,mk++defers,mode,A1,A0⟩ f=v at hv ⊢;generalize Ln ⟨FN,A3,.inRangeFunc L::K,MK++A2,A5,A1,ROUND⟩ f=V at hv ⊢;by_cases hj:∃V,v=jf V
         ·obtain⟨V,rfl⟩:=hj;exact pY hE
         unfold Deferred.ofValue;cases hv with
         | jf=>exact absurd ⟨_,rfl⟩ hj
         | func x1 x2 x3 x4 x5 =>refine SR.Iy (A:=λr d D=>Kl E r d.target D.target/\AR E r d.args D.args) (.pure ⟨.fn x1 ⟨x4,x5⟩,(show AR E r' _ _ from⟨x2,x3⟩).append Aa⟩) ?_;rintro r1 d D s1 ⟨h3,h4⟩;exact jv hE (s1.2 h1.ok) (λg hg=>s1.1 _ _ (h1.base g hg)) h3 h4
         | nilFunc =>refine SR.Iy (A:=λr d D=>Kl E r d.target D.target/\AR E r d.args D.args) (.pure ⟨.nil,Aa⟩) ?_;rintro r1 d D s1 ⟨h3,h4⟩;exact jv hE (s1.2 h1.ok) (λg hg=>s1.1 _ _ (h1.base g hg)) h3 h4
         | _=>exact aB
   | inBlock=>exact to hk
   | inScope _=>exact to hk
   | inLoop hb=>exact to (.cons (.code hb) (.cons (.inLoop hb) hk))
   | inRegion ho =>
     rename_i ops l;cases l with
     | nil=>exact to hk
     | cons i l =>
       dsimp only at hd ⊢;have hy:N3 ops A3=N3 ops tmps:=hf.tmps.yielded ops;rw[hy];split
       ·rename_i hwant;rw[if_pos hwant] at hd;exact op rfl rfl ho hd
       ·exact bU (A7.finish dB) hsg hw (bg (cA _ _) IM) (bz (cL _ _)) (.inr (by omega))
   | inRangeFunc hl=>trivial
   | endRangeFunc hl =>
     rename_i k K l L;dsimp only at hd ⊢;rw[dr] at hd;have A4:=λhb=>(uU hl).runs hE.Jq (b:=b) (H:=λ_ d d0=>d=d0) (es:=#[]) (λ_ _ _ _ h=>h) hw ht Jo.nil hb;generalize (Instr.endLoop l).runT E.P w #[]=y at hd A4 ⊢;generalize (Instr.endLoop L).runT E.P W #[]=Y at A4 ⊢;obtain⟨A6,es⟩:=y;cases A6 with
     | halt h w1 =>
       cases h with
       | panic v =>obtain⟨r',V,W1,ES,rfl,h1,h2,hv,h4⟩:=A4 hd;exact aT.raised h2 (h4.seen E.P FN) ((hf.mono h2.sub).raise (KD.cons hv .nil)) (hsg.mono h2.sub) h1 (bg (fU _ _) IM) eK
       | _=>trivial
     | ok j w1 =>
       obtain⟨r',J,W1,ES,rfl,h1,h2,⟨rfl,hj⟩,h4,h5⟩:=A4 hd;have Ad:Ko E r' ((J.map Item.code).toList++k) ((J.map Item.code).toList++K):=by
        cases J with
        | none=>exact hk.mono h2.sub
        | some c=>exact .cons (.code (hj c rfl)) (hk.mono h2.sub)
       exact aT.lift h2 (h4.seen E.P FN) (bz (by rfl)) (λhl d=>h5 hl FN (d+ls) (d+ls) rfl) (bU ((hf.mono h2.sub).to hm (.plain hen Ad)) (hsg.mono h2.sub) h1 (bg (a:=⟨FN,tmps,.endRangeFunc l::k,defers,mode,A1,A0⟩) (b:=⟨FN,tmps,(J.map Item.code).toList++k,defers,mode,A1,A0⟩) ⟨rfl,rfl,rfl⟩ IM) id (.inr (by omega)))
   | beginRound =>
     dsimp only at hd ⊢;refine ap ?_ hd;have Ac:Lr r A0 ROUND:=hf.round;cases Ac with
     | none=>exact aB
     | some hl =>
       refine SR.Iy (oT hl) ?_;rintro r1 _ _ s1 -
       exact .pure .skip
theorem Ee {id:Nat}:∀{ex:Nat->Option Nat} {k:List MD} {n m:Nat},IT E ex k n->ex id=L2 m->∃k' U1,exitTo id k=L2 k'/\IT E U1 k' m:=by
 intro ex k n m h;induction h with
 | nil=>intro h;cases h
 | code _ _ ih=>intro h;exact ih h
 | inLoop _ _ ih=>intro h;exact ih h
 | inRegion _ _ ih=>intro h;exact ih h
 | @inBlock ex i k n hk ih =>
   intro h;unfold ya at h;simp only[exitTo];by_cases e:id=i
   ·rw[if_pos e] at h;cases h;exact⟨k,ex,by simp[e],hk⟩
   ·rw[if_neg e] at h;obtain⟨k',U1,h1,h2⟩:=ih h;exact⟨k',U1,by simp[Ne.symm e,h1],h2⟩
def mH (E:Env)(fr:IF):Prop:=fr.mode=.run/\∃c k,fr.todo=.code c::k/\E.Op c
theorem zC (hE:aS E){b:Nat}{m:Bool}(hlv:E.lv/\E.Ty fr.fn){l₀:Nat}(hf:bb E r IR p fr FR){ex:Nat->Option Nat}(hit:IT E ex fr.todo l₀)(hp:p=l₀+en E fr.defers)(UK:¬ mH E fr)(het:FR.todo=fr.todo)(hro:fr.roundOf=ID)(hm:fr.mode=.run)(hsg:Jy E r ls IC I1)(hw:WR E r w W)(ht:TA b w W)(IM:JF bt (fr::IC))
 (hd:(Lo E.P m0 IH fr (IC++cl) ID w).drawn<=b):aT bt E r w W cl cs (p+ls) (bY (fr::IC)) (Lo E.P m0 IH fr (IC++cl) ID w) (Lo E.P m IH FR (I1++cs) ID W):=by
 obtain⟨fn,tmps,todo,defers,mode,kind,roundOf⟩:=fr;obtain⟨FN,A2,A4,A1,A3,A0,ROUND⟩:=FR;have e1:FN=fn:=hf.fn;have e2:A0=kind:=hf.kind;have e3:A4=todo:=het;have e4:roundOf=ID:=hro;subst e1 e2 e3 e4;have e5:ROUND=ID:=by have h:Lr r ID ROUND:=hf.round;cases h;rfl
 subst e5;have A9:mode=.run:=hm;have hp:p=l₀+en E defers:=hp;have to:∀{l:List MD} {q:Nat} {ex:Nat->Option Nat},IT E ex l q->q=l₀->aT bt E r w W cl cs (p+ls) (bY (⟨FN,tmps,A4,defers,mode,A0,ID⟩::IC)) (.go { frame:=(⟨FN,tmps,l,defers,mode,A0,ID⟩:IF),callers:=IC++cl,status:=.running,dying:=ID } w) (.go { frame:=(⟨FN,A2,l,A1,A3,A0,ID⟩:IF),callers:=I1++cs,status:=.running,dying:=ID } W) :=
  λ{l q ex} h e=>bU (hf.to hm (.typed hlv h)) hsg hw (bg (a:=⟨FN,tmps,A4,defers,mode,A0,ID⟩) (b:=(⟨FN,tmps,l,defers,mode,A0,ID⟩:IF)) ⟨rfl,rfl,rfl⟩ IM) (bz (by rfl)) (.inr (by omega))
 have lv:=λ(e:l₀=0) (j:Option N6) (q:Bool) (s s' S S':Outcome)=>pS (m0:=m0) (cl:=cl) (cs:=cs) (m:=m) (n:=p+ls) hE rfl hf (by simp only;omega) (.inl rfl) hm hsg hw ht IM j q s s' S S';have A8:=λx hx=>hf.eval hw.base x hx;have hit:IT E ex A4 l₀:=hit;unfold Lo at hd ⊢;cases hit with
 | nil => dsimp only at hd ⊢; exact lv rfl ID IH _ (.stuck "" "") _ (.stuck "" "") hd (by simp)
 | code hc hk =>
   cases hc with
   | skip=>exact to hk rfl
   | seq h1 h2=>exact to (.code h2 (.code h1 hk)) rfl
   | cond h1 h2 h3 =>
     rename_i c x y;have hv:=A8 c h1;dsimp only at hd ⊢;generalize Ln _ c=v at hv hd ⊢;generalize Ln _ c=V at hv ⊢;cases hv with
     | bool q=>cases q<;>exact to (.code (by assumption) hk) rfl
     | _=>trivial
   | yes h=>exact to (.code h hk) rfl
   | op h=>exact absurd ⟨hm,_,_,rfl,h⟩ UK
   | block h=>exact to (.code h (.inBlock hk)) rfl
   | loop h=>exact to (.code h (.inLoop h hk)) rfl
   | exit h =>obtain⟨k',Aa,x1,x2⟩:=Ee hk h;dsimp only;rw[x1];exact to x2 rfl
   | ret => dsimp only at hd ⊢; exact lv rfl (L2 .ret) IH _ (.stuck "" "") _ (.stuck "" "") hd (by simp [aU])
   | region h=>exact to (.inRegion h hk) rfl
 | inBlock hk=>exact to hk rfl
 | inLoop h hk=>exact to (.code h (.inLoop h hk)) rfl
 | inRegion h hk =>
   rename_i ops l k n;cases h with
   | nil=>exact to hk rfl
   | @op i o js _ _ ho hok h =>
     have A6:bb E r IH p ⟨FN,tmps,.inRegion ops (i::js)::k,defers,mode,A0,ID⟩ ⟨FN,A2,.inRegion ops (i::js)::k,A1,A3,A0,ID⟩:=⟨hf.fn,hf.has,hf.tmps,⟨IH,_,.wait hlv (.inRegion h hk),λ_=>⟨rfl,hp.symm⟩⟩,hf.off,hf.defers,hf.mode,hf.kind,hf.Kc,hf.round⟩;dsimp only at hd ⊢;have hy:N3 ops A2=N3 ops tmps:=hf.tmps.yielded ops;rw[hy];split
     ·rename_i hwant;rw[if_pos hwant] at hd;exact rO hE A6 hsg hw ht IM rfl rfl (λo' ho'=>by rw[ho] at ho';cases ho';exact hok) hd
     ·exact bU (A6.finish dB) hsg hw (bg (cA _ _) IM) (bz (cL _ _)) (.inr rfl)
   | @sp i o js _ q _ c ho hg hop hsp h =>have A6:bb E r IH (q+en E defers) ⟨FN,tmps,.inRegion ops (i::js)::k,defers,mode,A0,ID⟩ ⟨FN,A2,.inRegion ops (i::js)::k,A1,A3,A0,ID⟩:=⟨hf.fn,hf.has,hf.tmps,⟨IH,_,.wait hlv (.inRegion h hk),λ_=>⟨rfl,rfl⟩⟩,λx=>absurd hm x,hf.defers,hf.mode,hf.kind,hf.Kc,hf.round⟩;dsimp only at hd ⊢;(have A5:∀y,((ops[i]?).map (MT · y)).getD IR=IH:=by intro y;rw[ho];simp[MT,hg]);rw[if_pos (A5 _)] at hd;rw[if_pos (A5 _),if_pos (A5 _)];rw[hp];exact ui hE A6 hsg hw ht IM rfl rfl ho hop (hsp.shift _) hd
   | @df i o js _ q c f ho hg hop hcl har hkf h =>
     dsimp only at hd ⊢;(have A5:∀y,((ops[i]?).map (MT · y)).getD IR=IH:=by intro y;rw[ho];simp[MT,hg]);rw[if_pos (A5 _),if_pos (A5 _)];have e1:∀(tm:Array Nm) (de:List N5) (mo:FrameMode) (cc:List IF) (u:LN),I3 E.P IH ⟨FN,tm,.inRegion ops (i::js)::k,de,mo,A0,ID⟩ cc ID u =
      .go { frame:=M1 ⟨FN,tm,.inRegion ops (i::js)::k,{ target:=.fn (.func f) #[],args:=#[] }::de,mo,A0,ID⟩ N1,callers:=cc,status:=.running,dying:=ID } u
       (K2 E.P FN (if(A0==CallKind.early)=IH then #[] else #[])++#[]):=by
      intro tm de mo cc u;unfold I3 Kf execOp;simp only[Frame.oper?,ho,hop];simp[resolve,hcl,har,Ln,Deferred.ofValue,Jx];have e0:Sem.events E.P (pure (Next.defer { target:=.fn (.func f) #[],args:=#[] })) u #[]=#[]:=rfl;rw[e0];split<;>rfl
     (have hs:K2 E.P FN (if(A0==CallKind.early)=IH then #[] else #[])++#[]=#[]:=by simp[K2]);rw[e1,e1,hs];have A7:nN E { target:=.fn (.func f) #[],args:=#[] }:=⟨f,hkf,rfl⟩;have A6:bb E r IH p ⟨FN,tmps,.inRegion ops (i::js)::k,{ target:=.fn (.func f) #[],args:=#[] }::defers,mode,A0,ID⟩ ⟨FN,A2,.inRegion ops (i::js)::k,{ target:=.fn (.func f) #[],args:=#[] }::A1,A3,A0,ID⟩ :=
      ⟨hf.fn,hf.has,hf.tmps,⟨IH,_,.wait hlv (.inRegion h hk),λ_=>⟨rfl,by simp only;rw[B5 A7];omega⟩⟩,λx=>absurd hm x,.JK A7 hf.defers,hf.mode,hf.kind,hf.Kc,hf.round⟩
     exact bU (A6.finish dB) hsg hw (bg (cA _ _) (bg (a:=⟨FN,tmps,.inRegion ops (i::js)::k,defers,mode,A0,ID⟩) (b:=⟨FN,tmps,.inRegion ops (i::js)::k,{ target:=.fn (.func f) #[],args:=#[] }::defers,mode,A0,ID⟩) ⟨rfl,rfl,rfl⟩ IM))
      (λx=>bz (cL _ _) (bz (a:=⟨FN,tmps,.inRegion ops (i::js)::k,defers,mode,A0,ID⟩) (by rfl) x)) (.inr rfl)
theorem Ad (hE:aS E){b:Nat}{m:Bool}(hf:bb E r IR p fr FR)(hop:¬ mH E fr)(hm:fr.mode=.run)(hsg:Jy E r ls IC I1)(hw:WR E r w W)(ht:TA b w W)(IM:JF bt (fr::IC))
 (hd:(Lo E.P m0 IH fr (IC++cl) ID w).drawn<=b):aT bt E r w W cl cs (p+ls) (bY (fr::IC)) (Lo E.P m0 IH fr (IC++cl) ID w) (Lo E.P m IH FR (I1++cs) ID W):=by
 obtain⟨q,k,h,h'⟩:=hf.todo;obtain⟨h1,h2⟩:=h' hm;subst h1 h2;generalize hl:fr.todo=l at h;generalize hL:FR.todo=L at h;generalize ho:fr.roundOf=o at h;generalize he:en E fr.defers=e at h;cases h with
 | plain h0 h =>rw[NO];exact yQ hE hf (he.trans h0) (by rw[hl,hL];exact h) hm hsg hw ht IM hd
 | typed hlv h=>exact zC hE hlv hf (by rw[hl];exact h) (by rw[he]) hop (by rw[hl,hL]) ho hm hsg hw ht IM hd
end
section
variable {E:Env} {r:Rel} {w W:LN} {cl cs:List IF} {m0:Bool} {bt:LI->Lz->Prop}
theorem oN {m:FrameMode}(hn:¬ (d.target=.nil/\∃c,m=.panicking c)):∀{a b:Bool},(a=IH->d.target=.nil)->(b=IH->∃c,m=.panicking c)->¬ (a&&b)=IH:=by
 intro a b ha hb h;simp only[Bool.and_eq_true] at h;exact hn ⟨ha h.1,hb h.2⟩
theorem ns (p:Nx)(fr:IF)(cs:List IF)(d:N5)(w:LN)(hn:¬ (d.target=.nil/\∃c,fr.mode=.panicking c)):((N4 d.target d.args).runT p w #[]).1.drawn<=(Ks p fr cs ID d w).drawn:=by
 unfold Ks;rw[if_neg]
 ·dsimp only;rw[dr];generalize (N4 d.target d.args).runT p w #[]=x;obtain⟨A0,es⟩:=x;cases A0 with
  | ok nx w1 =>
    cases nx with
    | coroswitch c e=>cases e<;>exact K0 _
    | alone on v=>cases on<;>exact K0 _
    | recover=>dsimp only;split<;>exact K0 _
    | _=>exact K0 _
  | halt h w1 =>
    cases h with
    | fatal m=>exact iU _ _ _ _ _ _
    | _=>exact K0 _
 ·refine oN hn ?_ ?_
  ·intro h;generalize d.target=t at h ⊢;cases t<;>first|rfl|cases h
  ·intro h;generalize fr.mode=t at h ⊢;cases t<;>first|exact⟨_,rfl⟩|cases h
theorem rF (hE:aS E){b:Nat}(hf:bb E r IR p fr FR)(hm:fr.mode≠.run)(hsg:Jy E r ls IC I1)(hw:WR E r w W)(ht:TA b w W)(IM:JF bt (fr::IC))(hdd:Lu E r d D)
 (hd:(Ks E.P fr (IC++cl) ID d w).drawn<=b):aT bt E r w W cl cs (p+ls) (bY (fr::IC)) (Ks E.P fr (IC++cl) ID d w) (Ks E.P FR (I1++cs) ID D W):=by
 by_cases hn:d.target=.nil/\∃c,fr.mode=.panicking c
 ·unfold Ks;obtain⟨h1,c,h2⟩:=hn;rw[if_pos]
  ·trivial
  ·rw[h1,h2];rfl
 ·have hN:¬ (D.target=.nil/\∃c,FR.mode=.panicking c):=by
   rintro⟨h1,c,h2⟩;apply hn;have a1:=hdd.target;have a2:=hf.mode;rw[h1] at a1;rw[h2] at a2;refine⟨?_,?_⟩
   ·generalize d.target=t at a1 ⊢;cases a1;rfl
   ·generalize fr.mode=t at a2 ⊢;cases a2;exact⟨_,rfl⟩
  have hr:=(jv hE hw.ok hw.base hdd.target hdd.args).runs hE.Jq (b:=b) (H:=λ_ d d0=>d=d0) (es:=#[]) (λ_ _ _ _ h=>h) hw ht Jo.nil (LS (ns E.P fr (IC++cl) d w hn) hd);clear hd;unfold Ks;rw[if_neg (c:=_=IH),if_neg (c:=_=IH)]
  rotate_left
  ·refine oN hN ?_ ?_
   ·intro h;generalize D.target=t at h ⊢;cases t<;>first|rfl|cases h
   ·intro h;generalize FR.mode=t at h ⊢;cases t<;>first|exact⟨_,rfl⟩|cases h
  ·refine oN hn ?_ ?_
   ·intro h;generalize d.target=t at h ⊢;cases t<;>first|rfl|cases h
   ·intro h;generalize fr.mode=t at h ⊢;cases t<;>first|exact⟨_,rfl⟩|cases h
  dsimp only;rw[hf.fn];generalize (N4 d.target d.args).runT E.P w #[]=x at hr ⊢;generalize (N4 D.target D.args).runT E.P W #[]=X at hr ⊢;obtain⟨A5,es⟩:=x;cases A5 with
  | ok nx w1 =>
    obtain⟨r',nX,W1,ES,rfl,h1,h2,h3,h4,h5⟩:=hr;have A0:=hf.mono h2.sub;have A2:=hsg.mono h2.sub;have A3:=h4.seen E.P fr.fn;have A4:E.lv->∀d,K1 (d+(p+ls)) (K2 E.P fr.fn es)=d+(p+ls):=λhl d=>h5 hl fr.fn (d+(p+ls)) (d+(p+ls)) rfl;have A1:=aT.lift (cl:=cl) (cs:=cs) (sk:=bY (fr::IC)) h2 A3 id A4 (bU A0 A2 h1 IM id (.inr (by omega)));cases h3 with
    | value hv=>exact A1
    | skip=>exact A1
    | defer _=>exact A1
    | enter hF hb' hx=>exact aT.lift h2 A3 id A4 (bU (IC:=fr::IC) (I1:=FR::I1) (fu hE hF hx (.inr rfl) hb') (.cons (A0.under hm) A2) h1 (iR (λ_=>hm) IM) gu (.inr (by omega)))
    | round hl hh ht' ha hb' =>
      rename_i l L f t T a c
      exact aT.lift h2 A3 id A4 (bU (p:=0) (fr:=Frame.round l f t a c .deferred) (FR:=Frame.round L f T a c .deferred) (IC:=fr::IC) (I1:=FR::I1)
       ⟨rfl,hh,ht',⟨IR,0,.plain rfl (.cons (.code ha) (.cons .beginRound (.cons (.code hb') .nil))),λ_=>⟨rfl,rfl⟩⟩,λx=>absurd rfl x,.nil,.run,rfl,.inr rfl,.some hl⟩ (.cons (A0.under hm) A2) h1 (iR (λ_=>hm) IM) gu (.inr (by omega)))
  | halt h w1 =>
    cases h with
    | panic v =>obtain⟨r',V,W1,ES,rfl,h1,h2,hv,h4⟩:=hr;exact aT.raised h2 (h4.seen E.P fr.fn) ((hf.mono h2.sub).raise (KD.cons hv .nil)) (hsg.mono h2.sub) h1 (bg (fU _ _) IM) eK
    | blocked =>
      obtain⟨r',W1,ES,rfl,h1,h2⟩:=hr;have A0:=hf.mono h2.sub;refine .inr ⟨.inl rfl,λ_=>⟨r',IR,{ fr with defers:=d::fr.defers },IC,{ FR with fn:=fr.fn,defers:=D::FR.defers },I1,W1,K2 E.P fr.fn #[]++#[],p,ls,rfl,by rfl,?_,hsg.mono h2.sub,h1,h2,?_,bg (a:=fr) (b:={ fr with defers:=d::fr.defers }) ⟨rfl,rfl,rfl⟩ IM⟩⟩
      ·exact⟨rfl,A0.has,A0.tmps,by rw[jk hE.sep hdd];exact A0.todo,by rw[jk hE.sep hdd];exact A0.off,.cons (hdd.mono h2.sub) A0.defers,A0.mode,A0.kind,A0.Kc,A0.round⟩
      ·exact Jo.append (Jo.seen Jo.nil _ _) .nil
    | waiting=>exact .inr ⟨.inr (.inl rfl),λx=>by cases x⟩
    | exit c=>trivial
    | fatal m =>
      simp only[endFatal];split
      ·exact .inr ⟨.inr (.inr ⟨_,rfl,rfl,rfl,rfl⟩),λx=>by cases x⟩
      ·trivial
      ·trivial
    | throw m=>exact .inr ⟨.inr (.inr ⟨_,rfl,rfl,rfl,rfl⟩),λx=>by cases x⟩
    | goexit=>exact hr.elim
    | unsupported u=>trivial
    | stuck s=>trivial
theorem Lh.re {fn:LI}{q:Bool}{o:Option Nat}{m e:Nat}{k K:List MD}(h:Lh E r fn q o m e k K)(he:e≠0)(e':Nat):∃m',Lh E r fn q o m' e' k K:=by
 cases h with
 | plain h0 _=>exact absurd h0 he
 | typed a b=>exact⟨_,.typed a b⟩
 | wait a b=>exact⟨_,.wait a b⟩
theorem D6 (hE:aS E)(hf:bb E r IR p fr FR)(hsg:Jy E r ls IC I1)(hw:WR E r w W)(IM:JF bt (fr::IC))(hd':nN E d) :
 aT bt E r w W cl cs (p+1+ls) (bY (fr::IC)) (Ks E.P fr (IC++cl) ID d w) (Ks E.P FR (I1++cs) ID d W):=by
 obtain⟨f,hk,rfl⟩:=hd';obtain⟨fn,x1,x2,x3,x4,x5⟩:=hE.JK f hk;have A1 : (fn.name == "runtime.NumGoroutine") = IR := by simpa using x2
 have A0:∀u:LN,(N4 (.fn (.func f) #[]) #[]).runT E.P u #[]=(.ok (.value (.tuple #[])) u,(#[].push ⟨.mark (.extern f),IR,IH⟩).push ⟨.mark .enable,IR,IH⟩):=by intro u;show(callFunc f _).runT E.P u #[]=_;unfold callFunc;simp only[program,bind,Sem.bind,Sem.runT,x1,A1,x3,x4,x5,Option.isNone_none,Mz,if_false,if_true];rfl
 have A2:Jo r ((#[].push ⟨.mark (.extern f),IR,IH⟩).push ⟨.mark .enable,IR,IH⟩:Array Nd) ((#[].push ⟨.mark (.extern f),IR,IH⟩).push ⟨.mark .enable,IR,IH⟩) :=
  (Jo.nil.push ⟨.mark .extern,rfl,rfl⟩).push ⟨.mark .enable,rfl,rfl⟩
 have A3:∀d,K1 (d+(p+1+ls)) (K2 E.P fr.fn ((#[].push ⟨.mark (.extern f),IR,IH⟩).push ⟨.mark .enable,IR,IH⟩))=d+(p+ls):=by intro d;have h1:=AY (p:=E.P) (fn:=fr.fn) (d:=d+(p+1+ls)) (es:=#[].push ⟨.mark (.extern f),IR,IH⟩) (b:=IR);have h2:=di (p:=E.P) (fn:=fr.fn) (d:=d+(p+1+ls)) (es:=#[]) (e:=⟨.mark (.extern f),IR,IH⟩);unfold dq at h1 h2;rw[h1,h2];have h3:K1 (d+(p+1+ls)) (K2 E.P fr.fn #[])=d+(p+1+ls):=rfl;rw[h3];omega
 have:=aT.lift (cl:=cl) (cs:=cs) (sk:=bY (fr::IC)) .rfl (A2.seen E.P fr.fn) id (λ_=>A3) (bU hf hsg hw IM id (.inr rfl));unfold Ks;simp only[A0,hf.fn];exact this
end
end Go.Proofs.Rn

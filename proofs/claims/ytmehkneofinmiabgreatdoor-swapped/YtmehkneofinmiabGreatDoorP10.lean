/-part 10-/
import Derived.Calls
import GoSem.ClaimLeaving
open Go renaming Value->ID,TypeId->IH,Deferred->J0,Addr->Ks,World->Kx,Program->K0,Event->K2,boundsPanic->Lo,FuncId->LN,deafBehind->LR,underlying->LS,unsupported->L1,seen->Mu
open Nat renaming le_refl->IF,le_trans->Lw,add_right_comm->Mn,lt_of_lt_of_le->Mp
open Option renaming some->IR,map_eq_some_iff->Lq,none->Ly
open Go.Sem renaming runT->I3
open Array renaming getElem?_eq_some_iff->Jx,getElem?_push->Kf,getElem_setIfInBounds_ne->Lz,getElem_modify->LL,getElem?_map->Mb,replicate->MD,ext->MT
open Go.Kernel renaming perform->J1
open Go.Instr renaming sliceBound->K1,storeAt->L4,indexAt->L5,loadAt->Mz,index->MA
open Except renaming bind->Ln
open Eq renaming refl->LI
open Bool renaming true->LO,false->L3
open Pure renaming pure->L2
namespace Go.Proofs.Rn
open Go
variable {N:Nat}{W' w':Kx}{at_:Bool}{I like:ID}{cs:List (Nat×Nat×List UInt8)}{ts:List Ks}{es:Array K2}{H:LN->Nat->Nat->Prop}
abbrev Rel:=Nat->Nat->Prop
def gN:Nat:=7
structure Rel.OK (r:Rel):Prop where
 fn:∀{a b c},r a b->r a c->b=c
 inj:∀{a b c},r a c->r b c->a=b
 low:∀{a b},r a b->(b<gN ↔ a<gN)
inductive Kd|plain|disable|enable|deep
structure Env where
 P:K0
 F:LN->Prop
 T:IH->Prop
 G:Nat->Prop
 K:LN->Kd:=λ_=>.plain
 lv:Prop:=True
 Op:Code->Prop:=λ_=>False
 Ty:LN->Prop:=λ_=>True
 J:ID->ID->Prop:=λ_ _=>False
def Hd:ID->Prop
 | .agg _|.tuple _|.bool _=>True
 | _=>False
abbrev jf (V : ID) : ID := .func (.method "") #[.iface 0 (.agg #[V])] #[]
def IX (r:Rel)(a A:Ks):Prop:=r a.block A.block/\A.off=a.off/\A.spot=a.spot
inductive KQ (E:Env) (r:Rel):Fn->Fn->Prop
 | func {f}:E.F f->KQ E r (.func f) (.func f)
 | yield {l L}:r l L->KQ E r (.yield l) (.yield L)
inductive VR (E:Env) (r:Rel):ID->ID->Prop
 | bool (b):VR E r (.bool b) (.bool b)
 | int (k n):VR E r (.int k n) (.int k n)
 | string (s):VR E r (.string s) (.string s)
 | Ji:VR E r (.pointer Ly) (.pointer Ly)
 | ptr {a A}:IX r a A->VR E r (.pointer (IR a)) (.pointer (IR A))
 | IU (l c):VR E r (.slice Ly l c) (.slice Ly l c)
 | slice {a A} (l c):IX r a A->VR E r (.slice (IR a) l c) (.slice (IR A) l c)
 | KT:VR E r (.map Ly) (.map Ly)
 | Ki:VR E r (.chan Ly) (.chan Ly)
 | func {f F} {x X y Y:Array ID}:KQ E r f F->x.size=X.size->(∀(i:Nat) v V,x[i]?=IR v->X[i]?=IR V->VR E r v V) ->
    y.size=Y.size->(∀(i:Nat) v V,y[i]?=IR v->Y[i]?=IR V->VR E r v V)->VR E r (.func f x y) (.func F X Y)
 | nilFunc:VR E r .nilFunc .nilFunc
 | iface {t v V}:E.T t->VR E r v V->VR E r (.iface t v) (.iface t V)
 | nilIface:VR E r .nilIface .nilIface
 | agg {x X:Array ID}:x.size=X.size->(∀(i:Nat) v V,x[i]?=IR v->X[i]?=IR V->VR E r v V)->VR E r (.agg x) (.agg X)
 | tuple {x X:Array ID}:x.size=X.size->(∀(i:Nat) v V,x[i]?=IR v->X[i]?=IR V->VR E r v V)->VR E r (.tuple x) (.tuple X)
 | jf {V V'} : E.J V V' -> ¬ Hd V' -> VR E r (.func (.method "") #[.iface 0 (.agg #[V])] #[]) V'
def AR (E:Env)(r:Rel)(x X:Array ID):Prop:=x.size=X.size/\∀(i:Nat) v V,x[i]?=IR v->X[i]?=IR V->VR E r v V
def Sub (r r':Rel):Prop:=(∀a b,r a b->r' a b)/\(r.OK->r'.OK)
theorem Sub.rfl {r:Rel}:Sub r r:=⟨λ_ _ h=>h,λh=>h⟩
theorem Sub.trans {a b c:Rel}(h:Sub a b)(h':Sub b c):Sub a c:=⟨λ_ _ x=>h'.1 _ _ (h.1 _ _ x),λx=>h'.2 (h.2 x)⟩
def Rel.put (r:Rel)(n N:Nat):Rel:=λa b=>r a b\/(a=n/\b=N)
theorem Rel.OK.put {r:Rel}{n:Nat}(h:r.OK)(h1:∀b,¬ r n b)(h2:∀b,¬ r b N)(h3:gN<=n)(h4:gN<=N):(r.put n N).OK:=by
 refine⟨λ{a b c} x y=>?_,λ{a b c} x y=>?_,λ{a b} x=>by rcases x with x|⟨rfl,rfl⟩;exact h.low x;omega⟩
 ·rcases x with x|⟨rfl,rfl⟩<;>rcases y with y|⟨y1,y2⟩
  ·exact h.fn x y
  ·subst y1;exact absurd x (h1 _)
  ·exact absurd y (h1 _)
  ·exact y2.symm
 ·rcases x with x|⟨rfl,rfl⟩<;>rcases y with y|⟨y1,y2⟩
  ·exact h.inj x y
  ·subst y2;exact absurd x (h2 _)
  ·exact absurd y (h2 _)
  ·exact y1.symm
theorem kY {r:Rel}{n:Nat}(h1:∀b,¬ r n b)(h2:∀b,¬ r b N)(h3:gN<=n)(h4:gN<=N):Sub r (r.put n N):=⟨λ_ _ h=>.inl h,λh=>h.put h1 h2 h3 h4⟩
theorem IX.mono {r r':Rel}(s:Sub r r'){a A:Ks}(h:IX r a A):IX r' a A:=⟨s.1 _ _ h.1,h.2⟩
theorem KQ.mono {E:Env}{r r':Rel}(s:Sub r r'){a A:Fn}(h:KQ E r a A):KQ E r' a A:=by
 cases h with
 | func h=>exact .func h
 | yield h=>exact .yield (s.1 _ _ h)
theorem VR.mono {E:Env}{r r':Rel}(s:Sub r r'){v V:ID}(h:VR E r v V):VR E r' v V:=by
 induction h with
 | ptr h=>exact .ptr (h.mono s)
 | slice l c h=>exact .slice l c (h.mono s)
 | func hf h1 _ h3 _ ih1 ih2=>exact .func (hf.mono s) h1 ih1 h3 ih2
 | iface ht _ ih=>exact .iface ht ih
 | agg h1 _ ih=>exact .agg h1 ih
 | tuple h1 _ ih=>exact .tuple h1 ih
 | jf a b=>exact .jf a b
 | _=>constructor
def Env.top (E:Env):Env:={ E with T:=λ_=>True }
theorem KQ.top {E:Env}{r:Rel}{a A:Fn}(h:KQ E r a A):KQ E.top r a A:=by
 cases h with
 | func h=>exact .func h
 | yield h=>exact .yield h
theorem VR.top {E:Env}{r:Rel}{v V:ID}(h:VR E r v V):VR E.top r v V:=by
 induction h with
 | ptr h=>exact .ptr h
 | slice l c h=>exact .slice l c h
 | func hf h1 _ h3 _ ih1 ih2=>exact .func hf.top h1 ih1 h3 ih2
 | iface ht _ ih=>exact .iface trivial ih
 | agg h1 _ ih=>exact .agg h1 ih
 | tuple h1 _ ih=>exact .tuple h1 ih
 | jf a b=>exact .jf a b
 | _=>constructor
theorem AR.mono {E:Env}{r r':Rel}(s:Sub r r'){x X:Array ID}(h:AR E r x X):AR E r' x X:=⟨h.1,λi v V a b=>(h.2 i v V a b).mono s⟩
section
variable {E:Env} {r:Rel}
theorem AR.nil:AR E r #[] #[]:=⟨rfl,λi v V h=>by simp at h⟩
theorem AR.get {x X:Array ID}(h:AR E r x X)(i:Nat):(x[i]?=Ly/\X[i]?=Ly)\/∃v V,x[i]?=IR v/\X[i]?=IR V/\VR E r v V:=by
 by_cases hi:i<x.size
 ·have hI:i<X.size:=h.1 ▸ hi;exact .inr ⟨x[i],X[i],by simp[hi],by simp[hI],h.2 i _ _ (by simp[hi]) (by simp[hI])⟩
 ·exact .inl ⟨by simp;omega,by have:=h.1;simp;omega⟩
theorem AR.push {x X:Array ID}(h:AR E r x X){v V:ID}(hv:VR E r v V):AR E r (x.push v) (X.push V):=by
 refine⟨by simp[h.1],λi a A h1 h2=>?_⟩;rw[Kf] at h1 h2;rw[h.1] at h1;split at h1
 ·rename_i e;simp[e] at h2;simp at h1;rw[<-h1,<-h2];exact hv
 ·rename_i e;simp[e] at h2;exact h.2 i _ _ h1 h2
theorem AR.append {x X y Y:Array ID}(h:AR E r x X)(h':AR E r y Y):AR E r (x++y) (X++Y):=by
 refine⟨by simp[h.1,h'.1],λi a A h1 h2=>?_⟩;rw[Array.getElem?_append] at h1 h2;rw[<-h.1] at h2;split at h1
 ·rename_i e;simp[e] at h2;exact h.2 i _ _ h1 h2
 ·rename_i e;simp[e] at h2;exact h'.2 _ _ _ h1 h2
theorem AR.extract {x X:Array ID}(h:AR E r x X)(a b:Nat):AR E r (x.extract a b) (X.extract a b):=by
 refine⟨by simp[h.1],λi v V h1 h2=>?_⟩;rw[Array.getElem?_extract] at h1 h2;rw[<-h.1] at h2;split at h1
 ·rename_i e;simp[e] at h2;exact h.2 _ _ _ h1 h2
 ·simp at h1
theorem AR.replicate (n:Nat){v V:ID}(h:VR E r v V):AR E r (MD n v) (MD n V):=by
 refine⟨by simp,λi a A h1 h2=>?_⟩;simp[Array.getElem?_replicate] at h1 h2;rw[<-h1.2,<-h2.2];exact h
theorem AR.set {x X:Array ID}(h:AR E r x X)(i:Nat){v V:ID}(hv:VR E r v V):AR E r (x.setIfInBounds i v) (X.setIfInBounds i V):=by
 refine⟨by simp[h.1],λj a A h1 h2=>?_⟩;rw[Array.getElem?_setIfInBounds] at h1 h2;rw[<-h.1] at h2;by_cases e:i=j
 ·simp only[e,if_true] at h1 h2;split at h1
  ·rename_i e';simp[e'] at h2;simp at h1;rw[<-h1,<-h2];exact hv
  ·simp at h1
 ·simp only[e,if_false] at h1 h2;exact h.2 _ _ _ h1 h2
theorem AR.getD {x X:Array ID}(h:AR E r x X)(i:Nat){v V:ID}(hv:VR E r v V):VR E r (x.getD i v) (X.getD i V):=by
 simp only[Array.getD_eq_getD_getElem?];rcases h.get i with⟨a,b⟩|⟨a,b,c,d,e⟩
 ·simp[a,b,hv]
 ·simp[c,d,e]
theorem AR.one {v V:ID}(h:VR E r v V):AR E r #[v] #[V]:=AR.nil.push h
theorem AR.map {α:Type}{l:Array α}{f g:α->ID}(h:∀a∈l,VR E r (f a) (g a)):AR E r (l.map f) (l.map g):=by
 refine⟨by simp,λi v V h1 h2=>?_⟩;simp only[Mb,Lq] at h1 h2;obtain⟨a,ha,rfl⟩:=h1;obtain⟨b,hb,rfl⟩:=h2;rw[ha] at hb;cases hb;exact h a (Array.mem_of_getElem? ha)
theorem AR.cells {v V:ID}(h:VR E r v V):AR E r v.cells V.cells:=by
 cases h with
 | agg a b=>exact⟨a,b⟩
 | ptr h=>exact AR.one (.ptr h)
 | slice l c h=>exact AR.one (.slice l c h)
 | func a b c d e=>exact AR.one (.func a b c d e)
 | iface a b=>exact AR.one (.iface a b)
 | tuple a b=>exact AR.one (.tuple a b)
 | jf a b =>(have e:V.cells=#[V]:=by cases V<;>first|rfl|exact absurd trivial b);rw[e];exact AR.one (.jf a b)
 | _=>exact AR.one (by constructor)
end
inductive KP (r:Rel):Mark->Mark->Prop
 | acquire {a A}:IX r a A->KP r (.acquire a) (.acquire A)
 | release {a A}:IX r a A->KP r (.release a) (.release A)
 | releaseMerge {a A}:IX r a A->KP r (.releaseMerge a) (.releaseMerge A)
 | disable:KP r .disable .disable
 | enable:KP r .enable .enable
 | read {a A}:IX r a A->KP r (.read a) (.read A)
 | write {a A}:IX r a A->KP r (.write a) (.write A)
 | extern {f}:KP r (.extern f) (.extern f)
 | noRoom:KP r .noRoom .noRoom
inductive L6 (r:Rel):Loc->Loc->Prop
 | cell {a A}:IX r a A->L6 r (.cell a) (.cell A)
 | obj {b B}:r b B->L6 r (.obj b) (.obj B)
 | output:L6 r .output .output
 | goroutines:L6 r .goroutines .goroutines
 | mark {m M}:KP r m M->L6 r (.mark m) (.mark M)
structure MW (r:Rel)(e E:K2):Prop where
 loc:L6 r e.loc E.loc
 write:E.write=e.write
 sync:E.sync=e.sync
theorem KP.mono {r r':Rel}(s:Sub r r'){m M:Mark}(h:KP r m M):KP r' m M:=by
 cases h with
 | acquire h=>exact .acquire (h.mono s)
 | release h=>exact .release (h.mono s)
 | releaseMerge h=>exact .releaseMerge (h.mono s)
 | read h=>exact .read (h.mono s)
 | write h=>exact .write (h.mono s)
 | _=>constructor
theorem L6.mono {r r':Rel}(s:Sub r r'){m M:Loc}(h:L6 r m M):L6 r' m M:=by
 cases h with
 | cell h=>exact .cell (h.mono s)
 | obj h=>exact .obj (s.1 _ _ h)
 | mark h=>exact .mark (h.mono s)
 | _=>constructor
theorem MW.mono {r r':Rel}(s:Sub r r'){m M:K2}(h:MW r m M):MW r' m M:=⟨h.1.mono s,h.2,h.3⟩
def aQ (E:Env):Operand->Prop
 | .tmp _=>True
 | .const v=>∀r,VR E r v v
 | .global g=>E.G g
 | .func f=>E.F f
def Dr (_:Env)(_:Array IH):Builtin->Prop
 | .append|.cap|.clear|.copy|.len|.max|.min|.unsafeSliceData|.unsafeString=>True
 | _=>False
def iF (E:Env)(c:Call):Prop :=
 (∀x∈c.args,aQ E x)/\match c.callee with
 | .value f=>aQ E f
 | .invoke x _=>aQ E x
 | .builtin b=>Dr E c.argTypes b
def Flat (E:Env)(t:IH):Prop:=∀d,E.P.underlying t=IR d->match d with
 | .bool|.int _|.string|.pointer _=>True
 | _=>False
def Gn (E:Env)(s t:IH):Prop:=∀a b,E.P.underlying s=IR a->E.P.underlying t=IR b->match a,b with
 | .int _,.int _|.int _,.string|.pointer _,.unsafePointer|.unsafePointer,.pointer _=>True
 | .slice e,.string=>E.P.underlying e=IR (.int .u8)
 | _,_=>False
def oV (E:Env):Op->Prop
 | .move x|.assign x|.box _ x|.load _ x|.nilCheck x|.unOp _ _ x|.fieldAddr _ x _|.field _ x _|.extract x _|.panic x=>aQ E x
 | .pick c a b=>aQ E c/\aQ E a/\aQ E b
 | .alloc _=>True
 | .build _ ps|.buildSlice _ _ ps=>∀p∈ps,aQ E p.2
 | .store _ a x|.makeSlice _ a x|.indexAddr _ a x|.index _ a x=>aQ E a/\aQ E x
 | .binOp _ t x y _=>aQ E x/\aQ E y/\Flat E t
 | .makeInterface t x=>aQ E x/\E.T t
 | .convert s t x=>aQ E x/\Gn E s t
 | .makeFunc (.func f) first captured=>E.F f/\(∀x∈first,aQ E x)/\∀x∈captured,aQ E x
 | .slice _ x l h m=>aQ E x/\(∀y∈l,aQ E y)/\(∀y∈h,aQ E y)/\∀y∈m,aQ E y
 | .call c=>iF E c
 | .defer c=>iF E c/\∀v,c.callee=.value v->∃f,v=.func f
 | .range t x=>aQ E x/\∀d,E.P.underlying t=IR d->d=.string
 | .next x q=>aQ E x/\q=LO
 | _=>False
def aU (E:Env):Code->Prop
 | .region _ ops _=>∀o∈ops,oV E o.op
 | .seq a b=>aU E a/\aU E b
 | .cond c a b=>aQ E c/\aU E a/\aU E b
 | .block _ b|.loop b|.scope b=>aU E b
 | .rangeFunc f _ a b=>aQ E f/\aU E a/\aU E b
 | _=>True
inductive Ml (E:Env) (c:Call):Nat->Nat->Prop
 | J5 {f n}:c.callee=.value (.func f)->E.K f=.disable->Ml E c (n+1) n
 | JK {f n}:c.callee=.value (.func f)->E.K f=.enable->Ml E c n (n+1)
 | deep {f n}:c.callee=.value (.func f)->E.K f=.deep->(∀x∈c.args,aQ E x)->Ml E c n (n+1)
def nN (E:Env)(d:J0):Prop:=∃f,E.K f=.enable/\d={ target:=.fn (.func f) #[],args:=#[] }
open Classical in
noncomputable def en (E:Env):List J0->Nat
 | []=>0
 | d::l=>(if nN E d then 1 else 0)+en E l
inductive RT (E:Env) (ops:Array Oper):List Nat->Nat->Nat->Prop
 | nil {n}:RT E ops [] n n
 | op {i o l n m}:ops[i]?=IR o->oV E o.op->RT E ops l n m->RT E ops (i::l) n m
 | sp {i o l n m k c}:ops[i]?=IR o->o.guard=Ly->o.op=.call c->Ml E c m k->RT E ops l n m->RT E ops (i::l) n k
 | df {i o l n m c f}:ops[i]?=IR o->o.guard=Ly->o.op=.defer c->c.callee=.value (.func f)->c.args=#[]->E.K f=.enable->RT E ops l n m->RT E ops (i::l) n (m+1)
def ya (ex:Nat->Option Nat)(id n:Nat):Nat->Option Nat:=λi=>if i=id then IR n else ex i
inductive CT (E:Env):(Nat->Option Nat)->Code->Nat->Nat->Prop
 | skip {ex n}:CT E ex .skip n n
 | seq {ex a b n m k}:CT E ex b n m->CT E ex a m k->CT E ex (.seq a b) n k
 | cond {ex c a b n m}:aQ E c->CT E ex a n m->CT E ex b n m->CT E ex (.cond c a b) n m
 | yes {ex a b n m}:CT E ex a n m->CT E ex (.cond (.const (.bool LO)) a b) n m
 | block {ex id c n m}:CT E (ya ex id n) c n m->CT E ex (.block id c) n m
 | loop {ex c n m}:CT E ex c m m->CT E ex (.loop c) n m
 | exit {ex id n m}:ex id=IR m->CT E ex (.exit id) n m
 | ret {ex n}:CT E ex .ret n 0
 | op {ex c n m}:E.Op c->CT E ex c n m
 | region {ex id ops n m}:RT E ops (List.range ops.size) n m->CT E ex (.region id ops L3) n m
def Fy (E:Env)(f:LN)(c:Code):Prop:=aU E c\/((E.lv/\E.Ty f)/\CT E (λ_=>Ly) c 0 0)
inductive Kl (E:Env) (r:Rel):Target->Target->Prop
 | fn {f F y Y}:KQ E r f F->AR E r y Y->Kl E r (.fn f y) (.fn F Y)
 | method {n}:Kl E r (.fn (.method n) #[]) (.fn (.method n) #[])
 | nil:Kl E r .nil .nil
 | builtin {b t u c}:Dr E t b->Kl E r (.builtin b t u c) (.builtin b t u c)
 | collected {b B}:r b B->Kl E r (.collected b) (.collected B)
structure Lu (E:Env)(r:Rel)(d D:J0):Prop where
 target:Kl E r d.target D.target
 args:AR E r d.args D.args
theorem Kl.mono {E:Env}{r r':Rel}(s:Sub r r'){m M:Target}(h:Kl E r m M):Kl E r' m M:=by
 cases h with
 | fn h h'=>exact .fn (h.mono s) (h'.mono s)
 | method=>exact .method
 | builtin h=>exact .builtin h
 | collected h=>exact .collected (s.1 _ _ h)
 | _=>constructor
theorem Lu.mono {E:Env}{r r':Rel}(s:Sub r r'){m M:J0}(h:Lu E r m M):Lu E r' m M:=⟨h.1.mono s,h.2.mono s⟩
inductive KE (E:Env) (r:Rel):List J0->List J0->Prop
 | nil:KE E r [] []
 | cons {d D l L}:Lu E r d D->KE E r l L->KE E r (d::l) (D::L)
theorem KE.mono {E:Env}{r r':Rel}(s:Sub r r'){m M:List J0}(h:KE E r m M):KE E r' m M:=by
 induction h with
 | nil=>exact .nil
 | cons h _ ih=>exact .cons (h.mono s) ih
inductive Lb (E:Env) (r:Rel):List J0->List J0->Prop
 | nil:Lb E r [] []
 | cons {d D l L}:Lu E r d D->Lb E r l L->Lb E r (d::l) (D::L)
 | JK {d l L}:nN E d->Lb E r l L->Lb E r (d::l) (d::L)
theorem Lb.mono {E:Env}{r r':Rel}(s:Sub r r'){m M:List J0}(h:Lb E r m M):Lb E r' m M:=by
 induction h with
 | nil=>exact .nil
 | cons h _ ih=>exact .cons (h.mono s) ih
 | JK h _ ih=>exact .JK h ih
theorem KE.Rf {E:Env}{r:Rel}{m M n N:List J0}(h:KE E r m M)(h':Lb E r n N):Lb E r (m++n) (M++N):=by
 induction h with
 | nil=>exact h'
 | cons h _ ih=>exact .cons h ih
theorem DC {E:Env}(hs:∀f,E.F f->E.K f=.plain){r:Rel}{d D:J0}(h:Lu E r d D):¬ nN E d/\¬ nN E D:=by
 obtain⟨t,x⟩:=d;obtain⟨T,X⟩:=D;have ht:Kl E r t T:=h.target;constructor
 ·rintro⟨f,h1,h2⟩;cases h2;cases ht with
  | fn hf _=>(cases hf with|func hf=>(rw[hs _ hf] at h1;cases h1))
 ·rintro⟨f,h1,h2⟩;cases h2;cases ht with
  | fn hf _=>(cases hf with|func hf=>(rw[hs _ hf] at h1;cases h1))
theorem jk {E:Env}(hs:∀f,E.F f->E.K f=.plain){r:Rel}{d D:J0}(h:Lu E r d D)(l:List J0):en E (d::l)=en E l:=by
 simp[en,(DC hs h).1]
theorem wc {E:Env}(hs:∀f,E.F f->E.K f=.plain){r:Rel}{c C:List J0}(h:KE E r c C)(l:List J0):en E (c++l)=en E l:=by
 induction h with
 | nil=>rfl
 | cons h _ ih=>rw[List.cons_append,jk hs h,ih]
theorem B5 {E:Env}{d:J0}(h:nN E d)(l:List J0):en E (d::l)=en E l+1:=by
 simp[en,h];omega
structure Mo (E:Env)(r:Rel)(l L:Loop):Prop where
 state:L.state=l.state
 pending:L.pending=l.pending
 QO:∀c∈l.pending,aU E c
 fn:L.fn=l.fn
 has:∃x,E.P.funcs[l.fn]?=IR x
 tmps:AR E r l.tmps L.tmps
 params:L.params=l.params
 assign:L.assign=l.assign
 TE:aU E l.assign
 body:L.body=l.body
 TD:aU E l.body
 defers:r l.defers L.defers
inductive OR (E:Env) (r:Rel):Obj->Obj->Prop
 | cells {x X e z}:AR E r x X->OR E r (.cells x e z) (.cells X e z)
 | view {a A u}:IX r a A->OR E r (.view a u) (.view A u)
 | number {a A b}:IX r a A->OR E r (.number a b) (.number A b)
 | loop {l L}:Mo E r l L->OR E r (.loop l) (.loop L)
 | JH:OR E r (.deferred Ly) (.deferred Ly)
 | Jz {s p}:OR E r (.stringIter s p) (.stringIter s p)
 | Jr {d D}:KE E r d D->OR E r (.deferred (IR d)) (.deferred (IR D))
theorem Mo.mono {E:Env}{r r':Rel}(s:Sub r r'){l L:Loop}(h:Mo E r l L):Mo E r' l L :=
 ⟨h.state,h.pending,h.QO,h.fn,h.has,h.tmps.mono s,h.params,h.assign,h.TE,h.body,h.TD,s.1 _ _ h.defers⟩
theorem OR.mono {E:Env}{r r':Rel}(s:Sub r r'){o O:Obj}(h:OR E r o O):OR E r' o O:=by
 cases h with
 | cells h=>exact .cells (h.mono s)
 | view h=>exact .view (h.mono s)
 | number h=>exact .number (h.mono s)
 | loop h=>exact .loop (h.mono s)
 | JH=>exact .JH
 | Jz=>exact .Jz
 | Jr h=>exact .Jr (h.mono s)
def Ou:Halt->Prop
 | .panic _|.goexit|.blocked|.unsupported (.initOrder _)=>False
 | _=>True
inductive SL (E:Env) {α β:Type} (A:Rel->α->β->Prop) (m:Nat):Rel->Nat->Sem α->Sem β->Prop
 | pure {r a b}:A r a b->SL E A m r m (.pure a) (.pure b)
 | load {r l o a b k K}:IX r a b->(∀v V,VR E r v V->SL E A m r l (k v) (K V))->SL E A m r l (.load o a k) (.load o b K)
 | store {r l o a b v V k K}:IX r a b->VR E r v V->SL E A m r l k K->SL E A m r l (.store o a v k) (.store o b V K)
 | new {r l o O k K}:OR E r o O->(∀n N,(∀b,¬ r n b)->(∀b,¬ r b N)->gN<=n->gN<=N->SL E A m (r.put n N) l (k n) (K N))->SL E A m r l (.new o k) (.new O K)
 | shape {r l b B k K}:r b B->(∀s,SL E A m r l (k s) (K s))->SL E A m r l (.shape b k) (.shape B K)
 | freeze {r l a b n k K}:IX r a b->SL E A m r l k K->SL E A m r l (.freeze a n k) (.freeze b n K)
 | frozen {r l a b k K}:IX r a b->(∀s,SL E A m r l (k s) (K s))->SL E A m r l (.frozen a k) (.frozen b K)
 | getObj {r l b B k K}:r b B->(∀o O,OR E r o O->SL E A m r l (k o) (K O))->SL E A m r l (.getObj b k) (.getObj B K)
 | setObj {r l b B o O k K}:r b B->OR E r o O->SL E A m r l k K->SL E A m r l (.setObj b o k) (.setObj B O K)
 | choose {r l q k K}:(∀n,SL E A m r l (k n) (K n))->SL E A m r l (.choose q k) (.choose q K)
 | sys {r l c k K}:E.lv->(∀(w:Kx) (o:Os×Kx),w.ask (J1 c w.os)≠((.wouldBlock,o.1),o.2))->(∀w:Kx,(w.sys c).2.os.env=w.os.env)->(∀x,SL E A m r l (k x) (K x))->SL E A m r l (.sys c k) (.sys c K)
 | JW {r l k K}:(∀x,SL E A m r l (k x) (K x))->SL E A m r l (.sys .env k) (.sys .env K)
 | program {r l k K}:SL E A m r l (k E.P) (K E.P)->SL E A m r l (.program k) (.program K)
 | JA {r l k S}:SL E A m r l (k E.P) S->SL E A m r l (.program k) S
 | mark {r l a M k K}:KP r a M->a≠.disable->a≠.enable->SL E A m r l k K->SL E A m r l (.mark a k) (.mark M K)
 | disable {r l k K}:SL E A m r (l+1) k K->SL E A m r l (.mark .disable k) (.mark .disable K)
 | enable {r l k K}:SL E A m r l k K->SL E A m r (l+1) (.mark .enable k) (.mark .enable K)
 | free {r l a k K}:¬ E.lv->(a=.disable\/a=.enable)->SL E A m r l k K->SL E A m r l (.mark a k) (.mark a K)
 | block {r l}:SL E A m r l (.halt .blocked) (.halt .blocked)
 | panic {r l v V}:VR E.top r v V->SL E A m r l (.halt (.panic v)) (.halt (.panic V))
 | bad {r l h S}:Ou h->SL E A m r l (.halt h) S
abbrev SR (E:Env) {α β:Type} (A:Rel->α->β->Prop) (r:Rel) (s:Sem α) (S:Sem β):Prop:=SL E A 0 r 0 s S
section
variable {E:Env} {α β γ δ:Type} {A:Rel->α->β->Prop} {B:Rel->γ->δ->Prop} {r:Rel} {l m n:Nat} {s:Sem α} {S:Sem β} {f:α->Sem γ} {F:β->Sem δ}
theorem SL.bind (h:SL E A m r l s S)(hf:∀r' a b,Sub r r'->A r' a b->SL E B n r' m (f a) (F b)):SL E B n r l (s.bind f) (S.bind F):=by
 induction h with
 | pure h=>exact hf _ _ _ .rfl h
 | load h _ ih=>exact .load h λv V hv=>ih v V hv hf
 | store h h' _ ih=>exact .store h h' (ih hf)
 | new h _ ih=>exact .new h λn N h1 h2 h3 h4=>ih n N h1 h2 h3 h4 λr' a b s=>hf r' a b ((kY h1 h2 h3 h4).trans s)
 | shape h _ ih=>exact .shape h λs=>ih s hf
 | freeze h _ ih=>exact .freeze h (ih hf)
 | frozen h _ ih=>exact .frozen h λs=>ih s hf
 | getObj h _ ih=>exact .getObj h λo O ho=>ih o O ho hf
 | setObj h h' _ ih=>exact .setObj h h' (ih hf)
 | choose _ ih=>exact .choose λn=>ih n hf
 | sys h0 h h1 _ ih=>exact .sys h0 h h1 λn=>ih n hf
 | JW _ ih=>exact .JW λn=>ih n hf
 | free h0 h _ ih=>exact .free h0 h (ih hf)
 | block=>exact .block
 | program _ ih=>exact .program (ih hf)
 | JA _ ih=>exact .JA (ih hf)
 | mark h h1 h2 _ ih=>exact .mark h h1 h2 (ih hf)
 | disable _ ih=>exact .disable (ih hf)
 | enable _ ih=>exact .enable (ih hf)
 | panic h=>exact .panic h
 | bad h=>exact .bad h
theorem SL.Iy (h:SL E A m r l s S)(hf:∀r' a b,Sub r r'->A r' a b->SL E B n r' m (f a) (F b)):SL E B n r l (s >>= f) (S >>= F):=h.bind hf
theorem SR.Iy (h:SR E A r s S)(hf:∀r' a b,Sub r r'->A r' a b->SR E B r' (f a) (F b)):SR E B r (s >>= f) (S >>= F):=SL.bind h hf
theorem SL.shift (h:SL E A m r l s S)(k:Nat):SL E A (m+k) r (l+k) s S:=by
 induction h with
 | pure h=>exact .pure h
 | load h _ ih=>exact .load h ih
 | store h h' _ ih=>exact .store h h' ih
 | new h _ ih=>exact .new h ih
 | shape h _ ih=>exact .shape h ih
 | freeze h _ ih=>exact .freeze h ih
 | frozen h _ ih=>exact .frozen h ih
 | getObj h _ ih=>exact .getObj h ih
 | setObj h h' _ ih=>exact .setObj h h' ih
 | choose _ ih=>exact .choose ih
 | sys h0 h h1 _ ih=>exact .sys h0 h h1 ih
 | JW _ ih=>exact .JW ih
 | free h0 h _ ih=>exact .free h0 h ih
 | block=>exact .block
 | program _ ih=>exact .program ih
 | JA _ ih=>exact .JA ih
 | mark h h1 h2 _ ih=>exact .mark h h1 h2 ih
 | @disable r l k' K' _ ih=>rw[Mn] at ih;exact .disable ih
 | @enable r l k' K' _ ih=>rw[Mn];exact .enable ih
 | panic h=>exact .panic h
 | bad h=>exact .bad h
theorem SL.weaken {B:Rel->α->β->Prop}(h:SL E A m r l s S)(hA:∀r a b,A r a b->B r a b):SL E B m r l s S:=by
 induction h with
 | pure h=>exact .pure (hA _ _ _ h)
 | load h _ ih=>exact .load h ih
 | store h h' _ ih=>exact .store h h' ih
 | new h _ ih=>exact .new h ih
 | shape h _ ih=>exact .shape h ih
 | freeze h _ ih=>exact .freeze h ih
 | frozen h _ ih=>exact .frozen h ih
 | getObj h _ ih=>exact .getObj h ih
 | setObj h h' _ ih=>exact .setObj h h' ih
 | choose _ ih=>exact .choose ih
 | sys h0 h h1 _ ih=>exact .sys h0 h h1 ih
 | JW _ ih=>exact .JW ih
 | free h0 h _ ih=>exact .free h0 h ih
 | block=>exact .block
 | program _ ih=>exact .program ih
 | JA _ ih=>exact .JA ih
 | mark h h1 h2 _ ih=>exact .mark h h1 h2 ih
 | disable _ ih=>exact .disable ih
 | enable _ ih=>exact .enable ih
 | panic h=>exact .panic h
 | bad h=>exact .bad h
theorem SR.weaken {B:Rel->α->β->Prop}(h:SR E A r s S)(hA:∀r a b,A r a b->B r a b):SR E B r s S:=SL.weaken h hA
theorem SR.pure {a:α}{b:β}(h:A r a b):SR E A r (.pure a) (.pure b):=SL.pure h
end
structure WR (E:Env)(r:Rel)(w W:Kx):Prop where
 heap:∀b B,r b B->∃o O,w.heap[b]?=IR o/\W.heap[B]?=IR O/\OR E r o O
 os:E.lv->W.os=w.os
 base:∀g,E.G g->r g g
 ok:r.OK
 env:W.os.env=w.os.env
 big:gN<=w.heap.size/\gN<=W.heap.size
def TA (b:Nat)(w W:Kx):Prop:=∀i q,w.drawn+i<b->w.tape (w.drawn+i) q=W.tape (W.drawn+i) q
structure Fr (E:Env)(r r':Rel)(w w' W W':Kx):Prop where
 sub:Sub r r'
 old:∀b B,r' b B->r b B\/(w.heap.size<=b/\W.heap.size<=B/\b-w.heap.size=B-W.heap.size)
 size:W.heap.size<=W'.heap.size
 Jw:w.heap.size<=w'.heap.size
 keep:∀B,B<W.heap.size->(∀b,¬ r b B)->W'.heap[B]?=W.heap[B]?
 new:∀B,W.heap.size<=B->B<W'.heap.size->∃b,r' b B
 grow:w'.heap.size-w.heap.size=W'.heap.size-W.heap.size
 LG:∀b,b<w.heap.size->(∀B,¬ r b B)->w'.heap[b]?=w.heap[b]?
 out:W'.output=W.output/\w'.output=w.output
 tape:W'.tape=W.tape
 KC:w'.tape=w.tape
 drawn:∃d,w'.drawn=w.drawn+d/\W'.drawn=W.drawn+d
 Qu:W'.os.env=W.os.env
 Ow:¬ E.lv->W'.os=W.os/\w'.os=w.os
theorem WR.low {E:Env}{r:Rel}{w W:Kx}(h:WR E r w W){b B:Nat}(hb:r b B):b<w.heap.size/\B<W.heap.size:=by
 obtain⟨o,O,h1,h2,_⟩:=h.heap b B hb;exact⟨(Jx.1 h1).1,(Jx.1 h2).1⟩
theorem Fr.rfl {E:Env}{r:Rel}{w W:Kx}:Fr E r r w w W W:=⟨.rfl,λ_ _ h=>.inl h,IF _,IF _,λ_ _ _=>LI _,λB h h'=>absurd h (by omega),by omega,λ_ _ _=>LI _,⟨LI _,LI _⟩,LI _,LI _,⟨0,LI _,LI _⟩,LI _,λ_=>⟨LI _,LI _⟩⟩
theorem Fr.trans {E:Env}{r r' Td:Rel}{w w'' W W'':Kx}(h:Fr E r r' w w' W W')(h':Fr E r' Td w' w'' W' W''):Fr E r Td w w'' W W'':=by
 refine⟨h.sub.trans h'.sub,λb B hb=>?_,Lw h.size h'.size,Lw h.Jw h'.Jw,λB hB hn=>?_,λB hB hB'=>?_,?_,λb hb hn=>?_,⟨h'.out.1.trans h.out.1,h'.out.2.trans h.out.2⟩,h'.tape.trans h.tape,h'.KC.trans h.KC,?_,h'.Qu.trans h.Qu,λx=>⟨(h'.Ow x).1.trans (h.Ow x).1,(h'.Ow x).2.trans (h.Ow x).2⟩⟩
 ·rcases h'.old b B hb with x|⟨x,y,z⟩
  ·exact h.old b B x
  ·have g:=h.grow;have s1:=h.size;have s2:=h.Jw;exact .inr ⟨by omega,by omega,by omega⟩
 ·rw[h'.keep B (Mp hB h.size) ?_,h.keep B hB hn];intro b hb;rcases h.old b B hb with x|⟨_,y,_⟩
  ·exact hn b x
  ·omega
 ·by_cases e:B<W'.heap.size
  ·obtain⟨b,hb⟩:=h.new B hB e;exact⟨b,h'.sub.1 _ _ hb⟩
  ·exact h'.new B (by omega) hB'
 ·have g:=h.grow;have g':=h'.grow;have s1:=h.size;have s2:=h.Jw;have s3:=h'.size;have s4:=h'.Jw;omega
 ·rw[h'.LG b (Mp hb h.Jw) ?_,h.LG b hb hn];intro B hB;rcases h.old b B hB with x|⟨y,_,_⟩
  ·exact hn B x
  ·omega
 ·obtain⟨d,h1,h2⟩:=h.drawn;obtain⟨e,h3,h4⟩:=h'.drawn;exact⟨d+e,by omega,by omega⟩
theorem TA.fr {E:Env}{b:Nat}{r r':Rel}{w W:Kx}(h:TA b w W)(hf:Fr E r r' w w' W W'):TA b w' W':=by
 intro i q hi;obtain⟨d,h1,h2⟩:=hf.drawn;rw[hf.KC,hf.tape,h1,h2,Nat.add_assoc,Nat.add_assoc];exact h (d+i) q (by omega)
def Jo (r:Rel)(x X:Array K2):Prop:=x.size=X.size/\∀(i:Nat) e E,x[i]?=IR e->X[i]?=IR E->MW r e E
theorem Jo.mono {r r':Rel}(s:Sub r r'){x X:Array K2}(h:Jo r x X):Jo r' x X:=⟨h.1,λi e E a b=>(h.2 i e E a b).mono s⟩
theorem Jo.nil {r:Rel}:Jo r #[] #[]:=⟨rfl,λi v V h=>by simp at h⟩
theorem Jo.push {r:Rel}{x X:Array K2}(h:Jo r x X){v V:K2}(hv:MW r v V):Jo r (x.push v) (X.push V):=by
 refine⟨by simp[h.1],λi a A h1 h2=>?_⟩;rw[Kf] at h1 h2;rw[h.1] at h1;split at h1
 ·rename_i e;simp[e] at h2;simp at h1;rw[<-h1,<-h2];exact hv
 ·rename_i e;simp[e] at h2;exact h.2 i _ _ h1 h2
theorem Jo.append {r:Rel}{x X y Y:Array K2}(h:Jo r x X)(h':Jo r y Y):Jo r (x++y) (X++Y):=by
 refine⟨by simp[h.1,h'.1],λi a A h1 h2=>?_⟩;rw[Array.getElem?_append] at h1 h2;rw[<-h.1] at h2;split at h1
 ·rename_i e;simp[e] at h2;exact h.2 i _ _ h1 h2
 ·rename_i e;simp[e] at h2;exact h'.2 _ _ _ h1 h2
section
variable {E:Env} {r:Rel} {w W:Kx}
theorem WR.cell (h:WR E r w W){a A:Ks}(ha:IX r a A):(w.cell? a=Ly/\W.cell? A=Ly)\/∃v V,w.cell? a=IR v/\W.cell? A=IR V/\VR E r v V:=by
 obtain⟨o,O,h1,h2,h3⟩:=h.heap _ _ ha.1;cases h3 with
 | cells hx =>
   simp only[World.cell?,h1,h2,ha.2.1,ha.2.2];by_cases hs:a.spot.isSome=LO
   ·simp[hs]
   ·simp only[hs];exact hx.get a.off
 | _=>simp[World.cell?,h1,h2]
theorem WR.Q4 (h:WR E r w W){a A:Ks}(ha:IX r a A):W.frozen? A=w.frozen? a:=by
 obtain⟨o,O,h1,h2,h3⟩:=h.heap _ _ ha.1;cases h3<;>simp[World.frozen?,h1,h2,ha.2.1]
theorem WR.TP (h:WR E r w W){b B:Nat}(hb:r b B):W.shape? B=w.shape? b:=by
 obtain⟨o,O,h1,h2,h3⟩:=h.heap _ _ hb;cases h3 with
 | cells hx=>simp[World.shape?,h1,h2,hx.1]
 | _=>simp[World.shape?,h1,h2]
theorem WR.put (h:WR E r w W){b B:Nat}(hb:r b B){o O:Obj}(ho:OR E r o O)
 (hw:w'={ w with heap:=w.heap.setIfInBounds b o })(hW:W'={ W with heap:=W.heap.setIfInBounds B O }):WR E r w' W'/\Fr E r r w w' W W':=by
 subst hw hW;have hl:=h.low hb;refine⟨⟨λc C hc=>?_,h.os,h.base,h.ok,h.env,by simpa using h.big⟩,⟨.rfl,λ_ _ x=>.inl x,by simp,by simp,λC hC hn=>?_,λC h1 h2=>by simp at h2;omega,by simp,λc hc hn=>?_,⟨rfl,rfl⟩,rfl,rfl,⟨0,rfl,rfl⟩,rfl,λ_=>⟨rfl,rfl⟩⟩⟩
 ·by_cases e:b=c
  ·subst e;have:=h.ok.fn hb hc;subst this;exact⟨o,O,by simp[hl.1],by simp[hl.2],ho⟩
  ·have e':B≠C:=λx=>e (h.ok.inj hb (x ▸ hc));obtain⟨o',O',h1,h2,h3⟩:=h.heap c C hc;exact⟨o',O',by simp[e,h1],by simp[e',h2],h3⟩
 ·have:B≠C:=λx=>hn b (x ▸ hb);simp[this]
 ·have:b≠c:=λx=>hn B (x ▸ hb);simp[this]
end
theorem VR.bytes {E:Env}{r:Rel}{v V:ID}(h:VR E r v V){b:List UInt8}(hb:v.bytes?=IR b):V.bytes?=IR b:=by cases h<;>first|exact hb|cases hb
theorem VR.ofBytes {E:Env}{r:Rel}{v V:ID}(h:VR E r v V)(bs:List UInt8){x:ID}(hx:v.ofBytes bs=IR x):V.ofBytes bs=IR x/\VR E r x x:=by
 cases h with
 | bool b =>refine⟨hx,?_⟩;simp only[Value.ofBytes] at hx;split at hx<;>simp at hx<;>subst hx<;>exact .bool _
 | int k n =>refine⟨hx,?_⟩;simp only[Value.ofBytes] at hx;split at hx<;>simp at hx;subst hx;exact .int _ _
 | _=>simp[Value.ofBytes] at hx
section
variable {E:Env} {r:Rel} {w W:Kx}
theorem jH {w:Kx}{a:Ks}{v:ID}{x:Array ID}{e:IH}{z:Nat×Nat}(h:w.heap[a.block]?=IR (.cells x e z)) :
 w.setCell a v={ w with heap:=w.heap.setIfInBounds a.block (.cells (if a.spot.isSome then x else x.setIfInBounds a.off v) e z) }:=by
 obtain⟨hl,he⟩:=Jx.1 h;unfold World.setCell;congr 1;refine MT (by simp) λi h1 h2=>?_;simp only[LL];split
 ·rename_i e1;subst e1;simp[he]
 ·rename_i e1;rw[Lz (by simpa using h1) e1]
theorem kL {w:Kx}{a:Ks}{n:Nat}{x:Array ID}{e:IH}{z:Nat×Nat}(h:w.heap[a.block]?=IR (.cells x e z)) :
 w.freeze a n=if n=0 then w else { w with heap:=w.heap.setIfInBounds a.block (.cells x e (if z.1==z.2 then(a.off,a.off+n) else(min z.1 a.off,max z.2 (a.off+n)))) }:=by
 obtain⟨hl,he⟩:=Jx.1 h;unfold World.freeze;split
 ·rfl
 congr 1;refine MT (by simp) λi h1 h2=>?_;simp only[LL];split
 ·rename_i e1;subst e1;simp[he]
 ·rename_i e1;rw[Lz (by simpa using h1) e1]
theorem lh {w:Kx}{a:Ks}{n:Nat}{o:Obj}(h:w.heap[a.block]?=IR o)(ho:∀x e z,o≠.cells x e z):w.freeze a n=w:=by
 obtain⟨hl,he⟩:=Jx.1 h;unfold World.freeze;split
 ·rfl
 obtain⟨heap,A2,A1,os,A0⟩:=w;simp only[World.mk.injEq,and_true];refine MT (by simp) λi h1 h2=>?_;simp only[LL];split
 ·rename_i e1;subst e1;simp only at he;rw[he];split
  ·rename_i x e lo hi;exact absurd rfl (ho x e (lo,hi))
  ·rfl
 ·rfl
theorem WR.setCell (h:WR E r w W){a A:Ks}(ha:IX r a A){v V:ID}(hv:VR E r v V){c:ID}(hc:w.cell? a=IR c) :
 WR E r (w.setCell a v) (W.setCell A V)/\Fr E r r w (w.setCell a v) W (W.setCell A V):=by
 obtain⟨o,O,h1,h2,h3⟩:=h.heap _ _ ha.1;cases h3 with
 | cells hx =>
   refine h.put ha.1 (.cells ?_) (jH h1) (jH h2);rw[ha.2.1,ha.2.2];split
   ·exact hx
   ·exact hx.set _ hv
 | _=>simp[World.cell?,h1] at hc
theorem WR.frz (h:WR E r w W){a A:Ks}(ha:IX r a A)(n:Nat):WR E r (w.freeze a n) (W.freeze A n)/\Fr E r r w (w.freeze a n) W (W.freeze A n):=by
 obtain⟨o,O,h1,h2,h3⟩:=h.heap _ _ ha.1;cases h3 with
 | cells hx =>
   rw[kL h1,kL h2];split
   ·exact⟨h,.rfl⟩
   ·refine h.put ha.1 (.cells hx) rfl ?_;rw[ha.2.1]
 | _=>rw[lh h1 (by simp),lh h2 (by simp)];exact⟨h,.rfl⟩
theorem fq {p:K0}{x X:Array ID}(h:AR E r x X)(e:IH):∀f a b l,seenCells p x e f a b=.ok l->seenCells p X e f a b=.ok l:=by
 intro f;induction f with
 | zero=>intro a b l hl;cases hl
 | succ f ih =>
   intro a b l hl;unfold seenCells at hl ⊢;split
   ·rename_i g;rw[if_pos g] at hl;exact hl
   rename_i g;rw[if_neg g] at hl;simp only[] at hl ⊢;split
   ·rename_i g;rw[if_pos g] at hl;exact hl
   rename_i g;rw[if_neg g] at hl;split
   ·rename_i g;simp only[g] at hl;exact hl
   rename_i i s g;simp only[g] at hl;rcases h.get i with⟨u,v⟩|⟨u,v,hu,hv,hr⟩
   ·simp[u] at hl
   ·simp only[hu,hv] at hl ⊢;cases hb:u.bytes? with
    | none=>simp[hb] at hl
    | some bs =>
      rw[hr.bytes hb];rw[hb] at hl;cases bs with
      | nil=>exact hl
      | cons b0 bs =>
        simp only at hl ⊢;cases hq:seenCells p x e f (s+(b0::bs).length) b with
        | error q=>rw[hq] at hl;cases hl
        | ok q=>rw[ih _ _ _ hq];rw[hq] at hl;exact hl
end
section
variable {E:Env} {r:Rel} {w W:Kx}
theorem ql {α:Type}(x:Ask α):∀{w:Kx},w.drawn<=(w.ask x).2.drawn:=by
 induction x with
 | done a=>intro w;exact IF _
 | ask what range k ih =>
   intro w;simp only[World.ask];split
   ·exact ih 0
   ·exact Lw (by simp) (ih _ (w:={ w with drawn:=w.drawn+1 }))
theorem B9 {α:Type}{b:Nat}(x:Ask α):∀{w W:Kx},TA b w W->(w.ask x).2.drawn<=b ->
 (W.ask x).1=(w.ask x).1/\∃d,(w.ask x).2={ w with drawn:=w.drawn+d }/\(W.ask x).2={ W with drawn:=W.drawn+d }:=by
 induction x with
 | done a=>intro w W _ _;exact⟨rfl,0,rfl,rfl⟩
 | ask what range k ih =>
   intro w W h hd;simp only[World.ask] at hd ⊢;split
   ·rename_i e;rw[if_pos e] at hd;exact ih 0 h hd
   ·rename_i e;rw[if_neg e] at hd;have A0:=ql (k ((Question.extern what range).cut (w.tape w.drawn (Question.extern what range)))) (w:={ w with drawn:=w.drawn+1 });have h0:=h 0 (.extern what range) (by simp at A0;omega);simp only[Nat.add_zero] at h0;rw[<-h0];obtain⟨h1,d,h2,h3⟩:=ih _ (w:={ w with drawn:=w.drawn+1 }) (W:={ W with drawn:=W.drawn+1 }) (λi q hi=>by simpa [Nat.add_assoc,Nat.add_comm 1 i] using h (i+1) q (by simp at hi;omega)) hd;exact⟨h1,d+1,by rw[h2];simp;omega,by rw[h3];simp;omega⟩
theorem WR.draw (h:WR E r w W)(d:Nat):WR E r { w with drawn:=w.drawn+d } { W with drawn:=W.drawn+d }/\Fr E r r w { w with drawn:=w.drawn+d } W { W with drawn:=W.drawn+d } :=
 ⟨⟨h.heap,h.os,h.base,h.ok,h.env,h.big⟩,
  ⟨.rfl,λ_ _ x=>.inl x,IF _,IF _,λ_ _ _=>rfl,λB h1 h2=>absurd h1 (by simp at h2;omega),by simp,λ_ _ _=>rfl,⟨rfl,rfl⟩,rfl,rfl,⟨d,rfl,rfl⟩,rfl,λ_=>⟨rfl,rfl⟩⟩⟩
theorem zg (w:Kx)(c:Sys):w.drawn<=(w.sys c).2.drawn:=by
 unfold World.sys;have:=ql (J1 c w.os) (w:=w);generalize w.ask (J1 c w.os)=a at *
 obtain⟨⟨x,o⟩,u⟩:=a;cases x with
 | wouldBlock=>exact IF _
 | _=>exact this
theorem WR.sys {b:Nat}(hlv:E.lv)(h:WR E r w W)(ht:TA b w W)(c:Sys)(hcv:∀w:Kx,(w.sys c).2.os.env=w.os.env)(hd:(w.sys c).2.drawn<=b)(hk:∀(o:Os×Kx),w.ask (J1 c w.os)≠((.wouldBlock,o.1),o.2)):(W.sys c).1=(w.sys c).1/\WR E r (w.sys c).2 (W.sys c).2/\Fr E r r w (w.sys c).2 W (W.sys c).2:=by
 have A0:=hcv W;unfold World.sys at hd A0 ⊢;rw[h.os hlv] at A0 ⊢;have A1:(w.ask (J1 c w.os)).2.drawn<=b:=by
  generalize ha:w.ask (J1 c w.os)=a at *
  obtain⟨⟨x,o⟩,u⟩:=a;cases x with
  | wouldBlock=>exact absurd rfl (hk (o,u))
  | _=>exact hd
 obtain⟨h1,d,h2,h3⟩:=B9 (J1 c w.os) ht A1;generalize ha:w.ask (J1 c w.os)=a at *
 generalize hA:W.ask (J1 c w.os)=A at *
 obtain⟨⟨x,o⟩,u⟩:=a;obtain⟨⟨X,O⟩,U⟩:=A;simp only[Prod.mk.injEq] at h1 h2 h3;obtain⟨rfl,rfl⟩:=h1;subst h2 h3;cases X with
 | wouldBlock=>exact absurd rfl (hk (O,_))
 | _ =>have:=h.draw d;exact⟨rfl,⟨this.1.heap,λ_=>rfl,this.1.base,this.1.ok,rfl,this.1.big⟩,⟨.rfl,λ_ _ x=>.inl x,IF _,IF _,λ_ _ _=>rfl,λB h1 h2=>absurd h1 (by simp at h2;omega),by simp,λ_ _ _=>rfl,⟨rfl,rfl⟩,rfl,rfl,⟨d,rfl,rfl⟩,A0.trans (by rw[h.os hlv]),λx=>absurd hlv x⟩⟩
theorem EW (w:Kx):w.sys .env=(.strings w.os.env,w):=rfl
theorem WR.seen (h:WR E r w W){p:K0}{a A k K:Ks}{u:IH}(ha:IX r a A)(ho:K.off=k.off)(hs:K.spot=k.spot)
 {c:Array ID}{e:IH}{z:Nat×Nat}{f:Nat}(hx:w.seen p a u k at_=.ok (c,e,z,f,like,cs)) :
 ∃C,W.seen p A u K at_=.ok (C,e,z,f,like,cs)/\AR E r c C/\w.heap[a.block]?=IR (.cells c e z)/\W.heap[A.block]?=IR (.cells C e z):=by
 obtain⟨o,O,h1,h2,h3⟩:=h.heap _ _ ha.1;unfold World.seen at hx ⊢;rw[ha.2.1,ha.2.2,ho,hs];simp only[h1,h2] at hx ⊢;cases h3 with
 | cells hr =>
   rename_i x X e' z';simp only[bind,Ln,L2,Except.pure] at hx ⊢;refine⟨X,?_⟩;(repeat' split at hx);all_goals first
    | (cases hx;done)
    | (cases hx;rename_i hsc _ _ _ _ _;have A0:=fq hr _ _ _ _ _ hsc;simp_all;done)
    | (cases hx;rename_i hsc _ _ _ _;have A0:=fq hr _ _ _ _ _ hsc;simp_all;done)
    | (cases hx;rename_i hsc _ _ _;have A0:=fq hr _ _ _ _ _ hsc;simp_all;done)
    | (cases hx;rename_i hsc _ _;have A0:=fq hr _ _ _ _ _ hsc;simp_all;done)
    | (cases hx;rename_i hsc _;have A0:=fq hr _ _ _ _ _ hsc;simp_all;done)
    | (cases hx;rename_i hsc;have A0:=fq hr _ _ _ _ _ hsc;simp_all)
 | _ =>simp only[bind,Ln] at hx;(repeat' split at hx);all_goals cases hx
end
def gR (P:K0):Prop:=∀t k,P.underlying t≠IR (.float k)/\P.underlying t≠IR (.complex k)
theorem uR {E:Env}{r:Rel}(hn:gR E.P):∀d t o v,plainCell E.P d t o=IR v->VR E r v v:=by
 intro d;induction d with
 | zero=>intro t o v h;simp[plainCell] at h
 | succ d ih =>
   intro t o v h;unfold plainCell at h;split at h
   ·obtain⟨f,-,hf⟩:=Array.exists_of_findSome?_eq_some h;split at hf
    ·exact ih _ _ _ hf
    ·simp at hf
   ·simp only at h;split at h
    ·simp at h
    ·exact ih _ _ _ h
   ·split at h<;>simp at h;subst h;exact .bool _
   ·split at h<;>simp at h;subst h;exact .int _ _
   ·rename_i k hk;exact absurd hk (hn t k).1
   ·rename_i k hk;exact absurd hk (hn t k).2
   ·simp at h
section
variable {E:Env} {r:Rel} {w W:Kx}
theorem yL {p:K0}{a k:Ks}{u:IH}{c:Array ID}{e:IH}{z:Nat×Nat}{f:Nat}
 (hx:w.seen p a u k at_=.ok (c,e,z,f,like,cs)):plainCell p p.depth u k.off=IR like:=by
 unfold World.seen at hx;simp only[bind,Ln,L2,Except.pure] at hx;repeat' split at hx
 all_goals first
  | (cases hx;done)
  | (cases hx;simp_all)
def QB (r:Rel)(x X:List Ks):Prop:=x.length=X.length/\∀(i:Nat) a A,x[i]?=IR a->X[i]?=IR A->IX r a A
theorem ye {x X:Ks}(h:r x.block X.block)(l:List (Nat×Nat×List UInt8)) :
 QB r (l.map λ(i,_,_)=>({ block:=x.block,off:=i }:Ks)) (l.map λ(i,_,_)=>({ block:=X.block,off:=i }:Ks)):=by
 refine⟨by simp,λi a A h1 h2=>?_⟩;simp only[List.getElem?_map,Lq] at h1 h2;obtain⟨y,hy,rfl⟩:=h1;obtain⟨z,hz,rfl⟩:=h2;rw[hy] at hz;cases hz;exact⟨h,rfl,rfl⟩
theorem WR.viewLoad (hn:gR E.P)(h:WR E r w W){a A k K:Ks}{u:IH}(ha:IX r a A)(ho:K.off=k.off)(hs:K.spot=k.spot){v:ID}
 (hx:w.viewLoad E.P a u k at_=.ok (v,ts)):∃TS,W.viewLoad E.P A u K at_=.ok (v,TS)/\VR E r v v/\QB r ts TS:=by
 unfold World.viewLoad at hx ⊢;simp only[bind,Ln] at hx ⊢;cases hw:w.seen E.P a u k at_ with
 | error e=>simp[hw] at hx
 | ok y =>
   obtain⟨c,e,z,f,A0,cs⟩:=y;obtain⟨C,hW,-,-,-⟩:=h.seen ha ho hs hw;have hl:=uR (r:=r) hn _ _ _ _ (yL hw);simp only[hw,hW,L2,Except.pure] at hx ⊢;split at hx
   ·rename_i x hb;simp only[Except.ok.injEq,Prod.mk.injEq] at hx;obtain⟨rfl,rfl⟩:=hx;exact⟨_,rfl,(hl.ofBytes _ hb).2,ye ha.1 _⟩
   ·cases hx
theorem yP {α:Type}{g:Array ID->α->Except String (Array ID)}(hg:∀c C c' y,AR E r c C->g c y=.ok c'->∃C',g C y=.ok C'/\AR E r c' C') :
 ∀(l:List α) {c C c':Array ID},AR E r c C->l.foldlM g c=.ok c'->∃C',l.foldlM g C=.ok C'/\AR E r c' C':=by
 intro l;induction l with
 | nil=>intro c C c' h hx;cases hx;exact⟨C,rfl,h⟩
 | cons y l ih =>
   intro c C c' h hx;simp only[List.foldlM_cons,bind,Ln] at hx ⊢;cases hc:g c y with
   | error e=>simp[hc] at hx
   | ok c1 =>obtain⟨C1,h1,h2⟩:=hg c C c1 y h hc;simp only[hc,h1] at hx ⊢;exact ih h2 hx
theorem WR.viewStore (h:WR E r w W){a A k K:Ks}{u:IH}(ha:IX r a A)(ho:K.off=k.off)(hs:K.spot=k.spot){v V:ID}(hv:VR E r v V)
 (hx:w.viewStore E.P a u k v at_=.ok (w',ts)):∃W' TS,W.viewStore E.P A u K V at_=.ok (W',TS)/\WR E r w' W'/\Fr E r r w w' W W'/\QB r ts TS:=by
 unfold World.viewStore at hx ⊢;simp only[bind,Ln] at hx ⊢;split at hx
 ·cases hx
 rename_i g1;simp only[g1];cases hw:w.seen E.P a u k at_ with
 | error e=>simp[hw] at hx
 | ok y =>
   obtain⟨c,e,z,f,A0,cs⟩:=y;obtain⟨C,hW,hc,h1,h2⟩:=h.seen ha ho hs hw;simp only[hw,hW,L2,Except.pure] at hx ⊢;split at hx
   ·rename_i bytes hb;rw[hv.bytes hb];split at hx
    ·cases hx
    rename_i g2;simp only[g2];split at hx
    ·cases hx
    rename_i c' hc';cases hx;obtain⟨C',A2,hr⟩:=yP (λc C c' y hr hy=>by
     obtain⟨i,s,bs⟩:=y;simp only at hy ⊢;split at hy
     ·cases hy
     rename_i g3;simp only[g3];split at hy
     ·cases hy
     rename_i g4;simp only[g4];rcases hr.get i with⟨a1,a2⟩|⟨v,V,a1,a2,hv⟩
     ·simp only[a1] at hy;cases hy
     ·simp only[a1,a2] at hy ⊢;split at hy
      ·rename_i x hb;obtain⟨hB,A1⟩:=hv.ofBytes _ hb;cases hy;simp only[hB];exact⟨_,rfl,hr.set i A1⟩
      ·cases hy) cs hc hc'
    have:=h.put ha.1 (.cells hr (e:=e) (z:=z)) rfl rfl;refine⟨_,_,?_,this.1,this.2,ye ha.1 _⟩;simp only[A2,Bool.false_eq_true,if_false]
   ·cases hx
end
section
variable {E:Env} {r:Rel} {w W:Kx}
theorem WR.farLoad (hn:gR E.P)(h:WR E r w W){a A:Ks}(ha:IX r a A){v:ID}(hx:w.farLoad E.P a at_=.ok (v,ts)) :
 ∃TS,W.farLoad E.P A at_=.ok (v,TS)/\VR E r v v/\QB r ts TS:=by
 obtain⟨o,O,h1,h2,h3⟩:=h.heap _ _ ha.1;unfold World.farLoad at hx ⊢;simp only[h1,h2] at hx ⊢;cases h3 with
 | view hv =>
   simp only at hx ⊢;split at hx
   ·rename_i y hy;cases hx;obtain⟨TS,e1,e2,e3⟩:=h.viewLoad hn hv ha.2.1 ha.2.2 hy;simp only[e1];exact⟨TS,rfl,e2,e3⟩
   ·cases hx
 | _=>simp at hx
theorem WR.farStore (h:WR E r w W){a A:Ks}(ha:IX r a A){v V:ID}(hv:VR E r v V)(hx:w.farStore E.P a v at_=.ok (w',ts)) :
 ∃W' TS,W.farStore E.P A V at_=.ok (W',TS)/\WR E r w' W'/\Fr E r r w w' W W'/\QB r ts TS:=by
 obtain⟨o,O,h1,h2,h3⟩:=h.heap _ _ ha.1;unfold World.farStore at hx ⊢;simp only[h1,h2] at hx ⊢;cases h3 with
 | view hb =>
   simp only at hx ⊢;split at hx
   ·rename_i y hy;cases hx;obtain⟨W',TS,e1,e2⟩:=h.viewStore hb ha.2.1 ha.2.2 hv hy;simp only[e1];exact⟨W',TS,rfl,e2⟩
   ·cases hx
 | _=>simp at hx
theorem QB.events {x X:List Ks}(h:QB r x X)(b c:Bool):Jo r (x.toArray.map (⟨.cell ·,b,c⟩)) (X.toArray.map (⟨.cell ·,b,c⟩)):=by
 refine⟨by simp[h.1],λi e E h1 h2=>?_⟩;simp only[Mb,Lq,List.getElem?_toArray] at h1 h2;obtain⟨y,hy,rfl⟩:=h1;obtain⟨z,hz,rfl⟩:=h2;exact⟨.cell (h.2 i _ _ hy hz),rfl,rfl⟩
theorem WR.new (h:WR E r w W){o O:Obj}(ho:OR E r o O):(∀b,¬ r w.heap.size b)/\(∀b,¬ r b W.heap.size)/\gN<=w.heap.size/\gN<=W.heap.size /\
 WR E (r.put w.heap.size W.heap.size) { w with heap:=w.heap.push o } { W with heap:=W.heap.push O } /\
 Fr E r (r.put w.heap.size W.heap.size) w { w with heap:=w.heap.push o } W { W with heap:=W.heap.push O }:=by
 have f1:∀b,¬ r w.heap.size b:=λb hb=>absurd (h.low hb).1 (by omega);have f2:∀b,¬ r b W.heap.size:=λb hb=>absurd (h.low hb).2 (by omega);have f3:=h.big.1;have f4:=h.big.2;refine⟨f1,f2,f3,f4,⟨λb B hb=>?_,h.os,λg hg=>.inl (h.base g hg),h.ok.put f1 f2 f3 f4,h.env,by simp;omega⟩,⟨kY f1 f2 f3 f4,λb B hb=>?_,by simp,by simp,λB hB _=>?_,λB h1 h2=>?_,by simp,λb hb _=>?_,⟨rfl,rfl⟩,rfl,rfl,⟨0,rfl,rfl⟩,rfl,λ_=>⟨rfl,rfl⟩⟩⟩
 ·rcases hb with hb|⟨rfl,rfl⟩
  ·obtain⟨x,X,e1,e2,e3⟩:=h.heap b B hb;have hl:=h.low hb;refine⟨x,X,?_,?_,e3.mono (kY f1 f2 f3 f4)⟩
   ·simp only[Kf];rw[if_neg (by omega)];exact e1
   ·simp only[Kf];rw[if_neg (by omega)];exact e2
  ·exact⟨o,O,by simp,by simp,ho.mono (kY f1 f2 f3 f4)⟩
 ·rcases hb with hb|⟨rfl,rfl⟩
  ·exact .inl hb
  ·exact .inr ⟨IF _,IF _,by omega⟩
 ·simp only[Kf];rw[if_neg (by omega)]
 ·simp at h2;(have:B=W.heap.size:=by omega);exact⟨w.heap.size,.inr ⟨rfl,this⟩⟩
 ·simp only[Kf];rw[if_neg (by omega)]
def _root_.Go.Result.drawn {α:Type}:Result α->Nat
 | .ok _ w=>w.drawn
 | .halt _ w=>w.drawn
theorem oH {p:K0}{w:Kx}{a:Ks}{v:ID}{b:Bool}(h:w.farStore p a v b=.ok (w',ts)):w'.drawn=w.drawn:=by
 unfold World.farStore at h;split at h
 ·split at h
  ·rename_i y hy;cases h;unfold World.viewStore at hy;simp only[bind,Ln,L2,Except.pure] at hy;(repeat' split at hy);all_goals first
    | (cases hy;done)
    | (cases hy;rfl)
  ·cases h
 ·cases h
theorem ig {α:Type}(p:K0)(s:Sem α):∀(w:Kx) (es:Array K2),w.drawn<=(s.runT p w es).1.drawn:=by
 induction s with
 | pure a=>intro w es;exact IF _
 | load m a k ih =>
   intro w es;simp only[I3];split
   ·exact ih _ _ _
   ·split
    ·exact ih _ _ _
    ·exact IF _
 | store m a v k ih =>
   intro w es;by_cases hagg:(∃c,v=.agg c)\/∃c,v=.tuple c
   ·rcases hagg with⟨c,rfl⟩|⟨c,rfl⟩<;>exact IF _
   ·have n1:∀c,v≠.agg c:=λc h=>hagg (.inl ⟨c,h⟩);have n2:∀c,v≠.tuple c:=λc h=>hagg (.inr ⟨c,h⟩);rw[Sem.runT.eq_5 _ _ _ _ _ _ _ n1 n2];split
    ·split
     ·exact IF _
     ·exact ih (w.setCell a v) _
    ·split
     ·rename_i w' ts hx;have:=ih w' (es++ts.toArray.map (⟨.cell ·,LO,m==.atomic⟩));rw[oH hx] at this;exact this
     ·exact IF _
 | new o k ih=>intro w es;exact ih _ { w with heap:=w.heap.push o } es
 | shape r k ih=>intro w es;exact ih _ _ _
 | freeze a n k ih =>intro w es;simp only[I3];have:=ih (w.freeze a n) es;(have e:(w.freeze a n).drawn=w.drawn:=by unfold World.freeze;split<;>rfl);rw[e] at this;exact this
 | frozen a k ih=>intro w es;exact ih _ _ _
 | getObj r k ih =>
   intro w es;simp only[I3];split
   ·exact IF _
   ·exact ih _ _ _
   ·exact IF _
 | setObj r o k ih =>
   intro w es;simp only[I3];split
   ·exact IF _
   ·exact ih { w with heap:=w.heap.setIfInBounds r o } _
   ·exact IF _
 | choose q k ih =>
   intro w es;simp only[I3];split
   ·exact ih _ _ _
   ·exact Lw (by simp) (ih _ { w with drawn:=w.drawn+1 } es)
 | sys c k ih=>intro w es;exact Lw (zg w c) (ih _ _ _)
 | program k ih=>intro w es;exact ih _ _ _
 | mark m k ih=>intro w es;exact ih _ _
 | halt h=>intro w es;exact IF _
def dq (p:K0)(fn:LN)(d:Nat)(es:Array K2):Nat:=LR d (Mu p fn es)
theorem deaf_push (d:Nat)(es:Array K2)(e:K2):LR d (es.push e)=match e.loc with|.mark .disable=>LR d es+1|.mark .enable=>LR d es-1|_=>LR d es:=by
 unfold LR;rw[Array.foldl_push];obtain⟨l,x,y⟩:=e;cases l with
 | mark m=>cases m<;>rfl
 | _=>rfl
theorem lJ (p:K0)(fn:LN)(es:Array K2)(e:K2):(Mu p fn (es.push e)=Mu p fn es/\(e.sync=L3\/∃f,e.loc=.mark (.extern f)))\/Mu p fn (es.push e)=(Mu p fn es).push e:=by
 unfold Mu;dsimp only;rw[Array.foldl_push];generalize Array.foldl _ _ es=x;obtain⟨q,k⟩:=x;obtain⟨l,x,y⟩:=e;have A0:((if(q&&!y)=LO then k else k.push ⟨l,x,y⟩)=k/\(y=L3\/∃f,l=.mark (.extern f)))\/(if(q&&!y)=LO then k else k.push ⟨l,x,y⟩)=k.push ⟨l,x,y⟩:=by cases q<;>cases y<;>simp
 cases l with
 | mark m=>cases m<;>first|exact .inl ⟨rfl,.inr ⟨_,rfl⟩⟩|exact A0
 | _=>exact A0
theorem di {p:K0}{fn:LN}{d:Nat}{e:K2}(h:e.loc≠.mark .disable:=by simp)(h':e.loc≠.mark .enable:=by simp):dq p fn d (es.push e)=dq p fn d es:=by
 unfold dq;rcases lJ p fn es e with⟨h1,-⟩|h1
 ·rw[h1]
 ·rw[h1,deaf_push];obtain⟨l,x,y⟩:=e;cases l with
  | mark m=>cases m<;>first|rfl|exact absurd rfl h|exact absurd rfl h'
  | _=>rfl
theorem F3 {p:K0}{fn:LN}{d:Nat}{b:Bool}:dq p fn d (es.push ⟨.mark .disable,b,LO⟩)=dq p fn d es+1:=by
 unfold dq;rcases lJ p fn es ⟨.mark .disable,b,LO⟩ with⟨-,h|⟨f,h⟩⟩|h1
 ·cases h
 ·cases h
 ·rw[h1,deaf_push]
theorem AY {p:K0}{fn:LN}{d:Nat}{b:Bool}:dq p fn d (es.push ⟨.mark .enable,b,LO⟩)=dq p fn d es-1:=by
 unfold dq;rcases lJ p fn es ⟨.mark .enable,b,LO⟩ with⟨-,h|⟨f,h⟩⟩|h1
 ·cases h
 ·cases h
 ·rw[h1,deaf_push]
theorem uE (p:K0)(fn:LN)(d:Nat)(b c:Bool):∀(l:List Ks) (es:Array K2),dq p fn d (es++l.toArray.map (⟨.cell ·,b,c⟩))=dq p fn d es:=by
 intro l;induction l with
 | nil=>intro es;simp
 | cons a l ih =>intro es;have:=ih (es.push ⟨.cell a,b,c⟩);rw[di] at this;simpa using this
def Qy (E:Env){α β:Type}(A:Rel->α->β->Prop)(r:Rel)(w W:Kx)(H:LN->Nat->Nat->Prop)(m:Nat)(x:Result α×Array K2)(X:Result β×Array K2):Prop :=
 match x with
 | (.ok a w',es)=>∃r' b W' ES,X=(.ok b W',ES)/\WR E r' w' W'/\Fr E r r' w w' W W'/\A r' a b/\Jo r' es ES/\(E.lv->∀fn d d0,H fn d d0->dq E.P fn d es=d0+m)
 | (.halt (.panic v) w',es)=>∃r' V W' ES,X=(.halt (.panic V) W',ES)/\WR E r' w' W'/\Fr E r r' w w' W W'/\VR E.top r' v V/\Jo r' es ES
 | (.halt .blocked w',_)=>∃r' W' ES,X=(.halt .blocked W',ES)/\WR E r' w' W'/\Fr E r r' w w' W W'
 | (.halt h _,_)=>Ou h
theorem Qy.after {α β:Type}{A:Rel->α->β->Prop}{r':Rel}{x:Result α×Array K2}{X:Result β×Array K2}{m:Nat}(hf:Fr E r r' w w' W W')(h:Qy E A r' w' W' H m x X):Qy E A r w W H m x X:=by
 unfold Qy at h ⊢;split at h
 ·obtain⟨r1,b,W1,ES,h1,h2,h3,h4⟩:=h;exact⟨r1,b,W1,ES,h1,h2,hf.trans h3,h4⟩
 ·obtain⟨r1,b,W1,ES,h1,h2,h3,h4⟩:=h;exact⟨r1,b,W1,ES,h1,h2,hf.trans h3,h4⟩
 ·obtain⟨r1,W1,ES,h1,h2,h3⟩:=h;exact⟨r1,W1,ES,h1,h2,hf.trans h3⟩
 ·exact h
theorem iq {α β:Type}{A:Rel->α->β->Prop}{h:Halt}(hh:Ou h){m:Nat}{X:Result β×Array K2}:Qy E (α:=α) A r w W H m (.halt h w',es) X:=by
 unfold Qy;cases h<;>first|exact hh|exact hh.elim
theorem oa {w:Kx}{a:Ks}{s:String}{o O:Obj}(h:w.heap[a.block]?=IR o)(ho:OR E r o O):Ou (w.noCell a s):=by
 unfold World.noCell;rw[h];cases ho<;>trivial
theorem tG {p:K0}{a:Ks}{b:Bool}{h:Halt}(hl:w.farLoad p a b=.error h){o O:Obj}(hh:w.heap[a.block]?=IR o)(ho:OR E r o O):Ou h:=by
 have hb := oa (s := "load: no such cell") hh ho;unfold World.farLoad at hl;rw[hh] at hl;cases ho with
 | view hv =>
   simp only at hl;split at hl
   ·cases hl
   ·cases hl;trivial
 | _=>cases hl;exact hb
theorem qE {p:K0}{a:Ks}{x:ID}{b:Bool}{h:Halt}(hl:w.farStore p a x b=.error h){o O:Obj}(hh:w.heap[a.block]?=IR o)(ho:OR E r o O):Ou h:=by
 have hb := oa (s := "store: no such cell") hh ho;unfold World.farStore at hl;rw[hh] at hl;cases ho with
 | view hv =>
   simp only at hl;split at hl
   ·cases hl
   ·cases hl;trivial
 | _=>cases hl;exact hb
theorem xQ {v V:ID}(h:VR E r v V)(n1:∀c,v≠.agg c)(n2:∀c,v≠.tuple c):(∀c,V≠.agg c)/\∀c,V≠.tuple c:=by
 cases h with
 | jf a b=>cases V<;>first|exact absurd trivial b|simp
 | agg=>exact absurd rfl (n1 _)
 | tuple=>exact absurd rfl (n2 _)
 | _=>simp
theorem SL.runs (hn:gR E.P){α β:Type}{A:Rel->α->β->Prop}{b:Nat}{l m:Nat}{s:Sem α}{S:Sem β}(hs:SL E A m r l s S) :
 ∀{w W:Kx} {es ES:Array K2} {H:LN->Nat->Nat->Prop},(E.lv->∀fn d d0,H fn d d0->dq E.P fn d es=d0+l)->WR E r w W->TA b w W->Jo r es ES->(s.runT E.P w es).1.drawn<=b->Qy E A r w W H m (s.runT E.P w es) (S.runT E.P W ES):=by
 induction hs with
 | pure h=>intro w W es ES H A0 hw ht he hd;exact⟨_,_,_,_,rfl,hw,.rfl,h,he,A0⟩
 | @load r l o a b k K ha _ ih =>
   intro w W es ES H A0 hw ht he hd;simp only[I3];rcases hw.cell ha with⟨c1,c2⟩|⟨v,V,c1,c2,hv⟩
   ·simp only[c1,c2];cases hl:w.farLoad E.P a (o==.atomic) with
    | error e =>obtain⟨o,O,h1,h2,h3⟩:=hw.heap _ _ ha.1;exact iq (tG hl h1 h3)
    | ok y =>obtain⟨v,ts⟩:=y;obtain⟨TS,e1,e2,e3⟩:=hw.farLoad hn ha hl;simp only[e1];simp only[I3,c1,hl] at hd;exact ih v v e2 (λhl _ _ _ h=>(uE _ _ _ _ _ _ _).trans (A0 hl _ _ _ h)) hw ht (he.append (e3.events _ _)) hd
   ·simp only[c1,c2];simp only[I3,c1] at hd;exact ih v V hv (λhl _ _ _ h=>Eq.trans di (A0 hl _ _ _ h)) hw ht (he.push ⟨.cell ha,rfl,rfl⟩) hd
 | @store r l o a b v V k K ha hv _ ih =>
   intro w W es ES H A0 hw ht he hd;by_cases hagg:(∃c,v=.agg c)\/∃c,v=.tuple c
   ·rcases hagg with⟨c,rfl⟩|⟨c,rfl⟩<;>exact iq (by trivial)
   ·have n1:∀c,v≠.agg c:=λc h=>hagg (.inl ⟨c,h⟩);have n2:∀c,v≠.tuple c:=λc h=>hagg (.inr ⟨c,h⟩);have n3:=(xQ hv n1 n2).1;have n4:=(xQ hv n1 n2).2;rw[Sem.runT.eq_5 _ _ _ _ _ _ _ n1 n2] at hd;rw[Sem.runT.eq_5 _ _ _ _ _ _ _ n1 n2,Sem.runT.eq_5 _ _ _ _ _ _ _ n3 n4];rcases hw.cell ha with⟨c1,c2⟩|⟨c,C,c1,c2,hc⟩
    ·simp only[c1,c2];cases hl:w.farStore E.P a v (o==.atomic) with
     | error e =>obtain⟨o,O,h1,h2,h3⟩:=hw.heap _ _ ha.1;exact iq (qE hl h1 h3)
     | ok y =>obtain⟨w',ts⟩:=y;obtain⟨W',TS,e1,e2,e3,e4⟩:=hw.farStore ha hv hl;simp only[e1];simp only[c1,hl] at hd;exact(ih (λhl _ _ _ h=>(uE _ _ _ _ _ _ _).trans (A0 hl _ _ _ h)) e2 (ht.fr e3) (he.append (e4.events _ _)) hd).after e3
    ·simp only[c1,c2,hw.Q4 ha];split
     ·exact iq (by trivial)
     ·rename_i hfz;have:=hw.setCell ha hv c1;simp only[c1,hfz] at hd;exact(ih (λhl _ _ _ h=>(di (es:=es) (e:=⟨.cell a,LO,o==.atomic⟩)).trans (A0 hl _ _ _ h)) this.1 (ht.fr this.2) (he.push (v:=⟨.cell a,LO,o==.atomic⟩) (V:=⟨.cell b,LO,o==.atomic⟩) ⟨.cell ha,rfl,rfl⟩) hd).after this.2
 | @new r l o O k K ho _ ih =>intro w W es ES H A0 hw ht he hd;simp only[I3];obtain⟨f1,f2,f3,f4,h1,h2⟩:=hw.new ho;exact(ih _ _ f1 f2 f3 f4 A0 h1 (ht.fr h2) (he.mono (kY f1 f2 f3 f4)) hd).after h2
 | shape hb _ ih=>intro w W es ES H A0 hw ht he hd;simp only[I3,hw.TP hb] at hd ⊢;exact ih _ A0 hw ht he hd
 | @freeze r l a b n k K ha _ ih =>intro w W es ES H A0 hw ht he hd;simp only[I3];have:=hw.frz ha n;exact(ih A0 this.1 (ht.fr this.2) he hd).after this.2
 | frozen ha _ ih=>intro w W es ES H A0 hw ht he hd;simp only[I3,hw.Q4 ha] at hd ⊢;exact ih _ A0 hw ht he hd
 | @getObj r l b B k K hb _ ih =>
   intro w W es ES H A0 hw ht he hd;obtain⟨o,O,h1,h2,h3⟩:=hw.heap _ _ hb;simp only[I3,h1,h2] at hd ⊢;cases h3 with
   | cells _=>exact iq (by trivial)
   | view h=>exact ih _ _ (.view h) (λhl _ _ _ h=>Eq.trans di (A0 hl _ _ _ h)) hw ht (he.push ⟨.obj hb,rfl,rfl⟩) hd
   | number h=>exact ih _ _ (.number h) (λhl _ _ _ h=>Eq.trans di (A0 hl _ _ _ h)) hw ht (he.push ⟨.obj hb,rfl,rfl⟩) hd
   | loop h=>exact ih _ _ (.loop h) (λhl _ _ _ h=>Eq.trans di (A0 hl _ _ _ h)) hw ht (he.push ⟨.obj hb,rfl,rfl⟩) hd
   | Jz=>exact ih _ _ .Jz (λhl _ _ _ h=>Eq.trans di (A0 hl _ _ _ h)) hw ht (he.push ⟨.obj hb,rfl,rfl⟩) hd
   | JH=>exact ih _ _ .JH (λhl _ _ _ h=>Eq.trans di (A0 hl _ _ _ h)) hw ht (he.push ⟨.obj hb,rfl,rfl⟩) hd
   | Jr h=>exact ih _ _ (.Jr h) (λhl _ _ _ h=>Eq.trans di (A0 hl _ _ _ h)) hw ht (he.push ⟨.obj hb,rfl,rfl⟩) hd
 | @setObj r l b B o O k K hb ho _ ih =>
   intro w W es ES H A0 hw ht he hd;obtain⟨o',O',h1,h2,h3⟩:=hw.heap _ _ hb;have hp:=hw.put hb ho rfl rfl;(have hi:O.isChan=o.isChan:=by cases ho<;>rfl);have A2:=λhd=>(ih (H:=H) (λhl _ _ _ h=>(di (es:=es) (e:=⟨.obj b,LO,o.isChan⟩)).trans (A0 hl _ _ _ h)) hp.1 (ht.fr hp.2) (he.push (v:=⟨.obj b,LO,o.isChan⟩) (V:=⟨.obj B,LO,O.isChan⟩) ⟨.obj hb,rfl,hi⟩) hd).after hp.2;simp only[I3,h1,h2] at hd ⊢;cases h3 with
   | cells _=>exact iq (by trivial)
   | _=>exact A2 hd
 | @choose r l q k K _ ih =>
   intro w W es ES H A0 hw ht he hd;simp only[I3] at hd ⊢;split
   ·rename_i e;rw[if_pos e] at hd;exact ih _ A0 hw ht he hd
   ·rename_i e;rw[if_neg e] at hd;have A1:=ig E.P (k (q.cut (w.tape w.drawn q))) { w with drawn:=w.drawn+1 } es;have:=ht 0 q (by have h1:w.drawn+1<=_:=A1;omega);simp only[Nat.add_zero] at this;rw[<-this];exact(ih _ A0 (hw.draw 1).1 (ht.fr (hw.draw 1).2) he hd).after (hw.draw 1).2
 | @sys r l c k K hlv hc hcv _ ih =>intro w W es ES H A0 hw ht he hd;simp only[I3] at hd;have A1:=ig E.P (k (w.sys c).1) (w.sys c).2 (es.push ⟨.output,LO,L3⟩);obtain⟨h1,h2,h3⟩:=hw.sys hlv ht c hcv (Lw A1 hd) (hc w);simp only[I3,h1];exact(ih _ (λhl _ _ _ h=>(di (es:=es) (e:=⟨.output,LO,L3⟩)).trans (A0 hl _ _ _ h)) h2 (ht.fr h3) (he.push ⟨.output,rfl,rfl⟩) hd).after h3
 | JW _ ih =>intro w W es ES H A0 hw ht he hd;simp only[I3,EW] at hd ⊢;rw[hw.env];exact ih _ (λhl _ _ _ h=>(di (es:=es) (e:=⟨.output,LO,L3⟩)).trans (A0 hl _ _ _ h)) hw ht (he.push ⟨.output,rfl,rfl⟩) hd
 | program _ ih=>intro w W es ES H A0 hw ht he hd;simp only[I3] at hd ⊢;exact ih A0 hw ht he hd
 | JA _ ih=>intro w W es ES H A0 hw ht he hd;simp only[I3] at hd ⊢;exact ih A0 hw ht he hd
 | @mark r l a M k K hm n1 n2 _ ih =>intro w W es ES H A0 hw ht he hd;simp only[I3] at hd ⊢;exact ih (λhl _ _ _ h=>(di (by simpa using n1) (by simpa using n2)).trans (A0 hl _ _ _ h)) hw ht (he.push ⟨.mark hm,rfl,rfl⟩) hd
 | disable _ ih =>intro w W es ES H A0 hw ht he hd;simp only[I3] at hd ⊢;exact ih (λhl _ _ _ h=>F3.trans (by have:=A0 hl _ _ _ h;omega)) hw ht (he.push ⟨.mark .disable,rfl,rfl⟩) hd
 | enable _ ih =>intro w W es ES H A0 hw ht he hd;simp only[I3] at hd ⊢;exact ih (λhl _ _ _ h=>AY.trans (by have:=A0 hl _ _ _ h;omega)) hw ht (he.push ⟨.mark .enable,rfl,rfl⟩) hd
 | @free r l a k K hlv ha _ ih =>
   intro w W es ES H A0 hw ht he hd;simp only[I3] at hd ⊢;refine ih (λhl=>absurd hl hlv) hw ht (he.push ⟨.mark ?_,rfl,rfl⟩) hd;rcases ha with rfl|rfl
   ·exact .disable
   ·exact .enable
 | block=>intro w W es ES H A0 hw ht he hd;exact⟨_,_,_,rfl,hw,.rfl⟩
 | panic h=>intro w W es ES H A0 hw ht he hd;exact⟨_,_,_,_,rfl,hw,.rfl,h,he⟩
 | @bad r l h S hh =>intro w W es ES H A0 hw ht he hd;exact iq hh
end
def fi (E:Env):Prop:=∀t i z,E.P.info? t=IR i->i.zero=IR z->∀r,VR E r z z
section
variable {E:Env} {r:Rel}
theorem ag {α β:Type}{A:Rel->α->β->Prop}{s:String}{S:Sem β}:SR E A r (stuck s:Sem α) S:=.bad (by trivial)
theorem al {α β:Type}{A:Rel->α->β->Prop}{u:Unsupported}{S:Sem β}(hu:Ou (.unsupported u):=by exact trivial):SR E A r (L1 u:Sem α) S:=.bad hu
abbrev bc {α:Type}:Rel->α->α->Prop:=λ_ a b=>a=b
abbrev aO (E:Env):Rel->ID->ID->Prop:=λr=>VR E r
abbrev iX (E:Env):Rel->Array ID->Array ID->Prop:=λr=>AR E r
def NJ (v:ID):Prop:=∀V,v≠jf V
theorem n9 {α β:Type}{A:Rel->α->β->Prop}{t:IH}{f:TypeDesc->Sem α}{S:Sem β}(h:∀d,E.P.underlying t=IR d->SR E A r (f d) S):SR E A r (LS t >>= f) S:=by
 refine .JA ?_;show SL E A 0 r 0 (Sem.bind (match E.P.underlying t with | some d => L2 d | none => stuck "no such type") f) S;cases hd:E.P.underlying t with
 | none=>exact .bad (by trivial)
 | some d=>exact h d hd
theorem pU {α β:Type}{A:Rel->α->β->Prop}{t:IH}{f:TypeInfo->Sem α}{S:Sem β}(h:∀d,E.P.info? t=IR d->SR E A r (f d) S):SR E A r (typeInfo t >>= f) S:=by
 refine .JA ?_;show SL E A 0 r 0 (Sem.bind (match E.P.info? t with | some d => L2 d | none => stuck "no such type") f) S;cases hd:E.P.info? t with
 | none=>exact .bad (by trivial)
 | some d=>exact h d hd
theorem cF:SR E bc r program program:=.program (.pure rfl)
theorem ba (t:IH):SR E (λ_ a b=>b=a/\E.P.info? t=IR a) r (typeInfo t) (typeInfo t):=by
 refine .program ?_;show SR E _ r (match E.P.info? t with|some i=>L2 i|none=>stuck _) (match E.P.info? t with|some i=>L2 i|none=>stuck _);cases h:E.P.info? t with
 | none=>exact ag
 | some i=>refine SR.pure ?_;exact⟨rfl,rfl⟩
theorem aE (t:IH):SR E (λ_ a b=>b=a/\E.P.underlying t=IR a) r (LS t) (LS t):=by
 refine .program ?_;show SR E _ r (match E.P.underlying t with|some i=>L2 i|none=>stuck _) (match E.P.underlying t with|some i=>L2 i|none=>stuck _);cases h:E.P.underlying t with
 | none=>exact ag
 | some i=>refine SR.pure ?_;exact⟨rfl,rfl⟩
theorem bE (t:IH):SR E bc r (sizeOf t) (sizeOf t):=by
 unfold sizeOf;refine(ba t).Iy ?_;rintro r' a b-⟨rfl,-⟩;exact .pure rfl
theorem sW (t:IH):SR E bc r (isAgg t) (isAgg t):=by
 unfold isAgg;refine(aE t).Iy ?_;rintro r' a b-⟨rfl,-⟩;split<;>exact .pure rfl
theorem cM (hz:fi E)(t:IH):SR E (aO E) r (zeroValue t) (zeroValue t):=by
 unfold zeroValue;refine(ba t).Iy ?_;rintro r' a b-⟨rfl,h⟩;cases hz':b.zero with
 | none=>exact al
 | some z=>exact .pure (hz t b z h hz' r')
theorem IX.add {a A:Ks}(h:IX r a A)(n:Nat):IX r (a.add n) (A.add n):=by
 unfold Addr.add;split
 ·exact h
 ·exact⟨h.1,by simp[h.2.1],rfl⟩
theorem iD {a A:Ks}(h:IX r a A)(m:Mode:=.plain):SR E (aO E) r (load a m) (load A m):=.load h λ_ _ hv=>.pure hv
theorem gq {a A:Ks}(h:IX r a A){v V:ID}(hv:VR E r v V)(m:Mode:=.plain):SR E bc r (store a v m) (store A V m):=.store h hv (.pure rfl)
theorem uk:∀n {r a A} i {x X:Array ID},IX r a A->AR E r x X->SR E (iX E) r (loadCellsFrom a i n x) (loadCellsFrom A i n X):=by
 intro n;induction n with
 | zero=>intro r a A i x X _ h;exact .pure h
 | succ n ih =>intro r a A i x X ha h;refine(iD (ha.add i)).Iy ?_;intro r' v V hs hv;exact ih (i+1) (ha.mono hs) ((h.mono hs).push hv)
theorem gQ {a A:Ks}(h:IX r a A)(n:Nat):SR E (iX E) r (loadCells a n) (loadCells A n):=uk n 0 h .nil
theorem pj:∀(l L:List ID) {r:Rel} {a A:Ks} (i:Nat),IX r a A->AR E r l.toArray L.toArray->SR E bc r (storeCells a l i) (storeCells A L i):=by
 intro l;induction l with
 | nil =>intro L r a A i _ h;(have:L=[]:=by have:=h.1;simp at this;exact List.length_eq_zero_iff.1 this.symm);subst this;exact .pure rfl
 | cons v l ih =>
   intro L r a A i ha h;cases L with
   | nil=>have:=h.1;simp at this
   | cons V L =>
     unfold storeCells;refine(gq (ha.add i) (h.2 0 v V rfl rfl)).Iy ?_;intro r' _ _ hs _;refine ih L (i+1) (ha.mono hs) ⟨by have:=h.1;simp at this;simpa using this,λj a b h1 h2=>(h.2 (j+1) a b ?_ ?_).mono hs⟩
     ·simpa using h1
     ·simpa using h2
theorem dt {x X:Array ID}{a A:Ks}(i:Nat)(ha:IX r a A)(h:AR E r x X):SR E bc r (storeCells a x.toList i) (storeCells A X.toList i) :=
 pj _ _ i ha (by simpa using h)
theorem fN (t:IH){a A:Ks}(h:IX r a A):SR E (aO E) r (loadVar t a) (loadVar t A):=by
 unfold loadVar;refine(sW t).Iy ?_;rintro r1 a b s1 rfl;split
 ·refine(bE t).Iy ?_;rintro r2 n m s2 rfl;refine(gQ ((h.mono s1).mono s2) n).Iy ?_;intro r3 x X s3 hx;exact .pure (.agg hx.1 hx.2)
 ·exact iD (h.mono s1)
theorem tq (t:IH){a A:Ks}(h:IX r a A){v V:ID}(hv:VR E r v V):SR E bc r (storeVar t a v) (storeVar t A V):=by
 unfold storeVar;have hc:=AR.cells hv;refine(bE t).Iy ?_;rintro r1 n m s1 rfl;rw[<-hc.1];split
 ·exact(ag (A:=bc)).Iy λ_ _ _ _ _=>dt 0 (h.mono (s1.trans ‹_›)) (hc.mono (s1.trans ‹_›))
 ·exact dt 0 (h.mono s1) (hc.mono s1)
theorem cY (e:IH){x X:Array ID}(h:AR E r x X):SR E (λr=>IX r) r (newRow e x) (newRow e X) :=
 .new (.cells h) λ_ _ _ _ _ _=>.pure ⟨.inr ⟨rfl,rfl⟩,rfl,rfl⟩
theorem lQ (t:IH){v V:ID}(h:VR E r v V):SR E (λr=>IX r) r (newVar t v) (newVar t V):=cY t (AR.cells h)
theorem rL (t:IH){x X:Array ID}(h:AR E r x X)(o:Nat):SR E (aO E) r (part t x o) (part t X o):=by
 unfold part;refine(sW t).Iy ?_;rintro r1 a b s1 rfl;split
 ·refine(bE t).Iy ?_;rintro r2 n m s2 rfl;have:=((h.mono s1).mono s2).extract o (o+n);exact .pure (.agg this.1 this.2)
 ·rcases(h.mono s1).get o with⟨h1,h2⟩|⟨v,V,h1,h2,h3⟩
  ·rw[h1,h2];exact ag
  ·rw[h1,h2];exact .pure h3
theorem rI (t:IH):SR E bc r (elemOf t) (elemOf t):=by
 unfold elemOf;refine(aE t).Iy ?_;rintro r' a b-⟨rfl,-⟩;split
 ·exact .pure rfl
 ·exact ag
end
section
variable {E:Env} {r:Rel}
theorem bw {q:Question}:SR E bc r (choose q) (choose q):=.choose λ_=>.pure rfl
theorem iG {m M:Mark}(h:KP r m M)(h1:m≠.disable:=by simp)(h2:m≠.enable:=by simp):SR E bc r (mark m) (mark M):=.mark h h1 h2 (.pure rfl)
theorem cJ {b B:Nat}(h:r b B):SR E bc r (shape b) (shape B):=.shape h λ_=>.pure rfl
theorem dK {a A:Ks}(h:IX r a A):SR E bc r (frozen a) (frozen A):=.frozen h λ_=>.pure rfl
theorem yV {a A:Ks}(h:IX r a A)(n:Nat):SR E bc r (freeze a n) (freeze A n):=.freeze h (.pure rfl)
theorem dX {b B:Nat}(h:r b B):SR E (λr=>OR E r) r (getObj b) (getObj B):=.getObj h λ_ _ ho=>.pure ho
theorem fx {b B:Nat}(h:r b B){o O:Obj}(ho:OR E r o O):SR E bc r (setObj b o) (setObj B O):=.setObj h ho (.pure rfl)
theorem bh {α β:Type}{A:Rel->α->β->Prop}(e:RuntimeError)(he:∀a b c d,e≠.typeAssertion a b c d/\∀t,e≠.unhashable t):SR E A r (runtimePanic e:Sem α) (runtimePanic e:Sem β):=by
 refine .program ?_;cases e with
 | typeAssertion a b c d=>exact absurd rfl (he a b c d).1
 | unhashable t => exact absurd rfl ((he Ly Ly 0 "").2 t)
 | bounds x y s c =>
   refine .panic (.iface trivial (.agg rfl λi v V h1 h2=>?_));rw[h1] at h2;cases h2;rcases i with _|_|_|_|i
   ·cases h1;exact .int _ _
   ·cases h1;exact .int _ _
   ·cases h1;exact .bool _
   ·cases h1;exact .int _ _
   ·simp at h1
 | panicNil =>refine(rI _).bind ?_;rintro r1 a b s1 rfl;refine(lQ a (.agg rfl (by simp))).bind ?_;intro r2 a A s2 ha;exact .panic (.iface trivial (.ptr ha))
 | _=>exact .panic (.iface trivial (.string _))
theorem gF {α β:Type}{A:Rel->α->β->Prop}(k:IntKind)(x y:Int)(c:BoundsCode):SR E A r (Lo k x y c:Sem α) (Lo k x y c:Sem β):=by
 unfold Lo;dsimp only;split
 ·refine SR.Iy (A:=bc) (.choose λ_=>.pure rfl) ?_;rintro r' a b-rfl;exact bh _ (by simp)
 ·refine SR.Iy (A:=bc) (.pure rfl) ?_;rintro r' a b-rfl;exact bh _ (by simp)
theorem ij {v V:ID}(h:VR E r v V):SR E bc r (asIntOf v) (asIntOf V):=by
 cases h with
 | int k n=>exact .pure rfl
 | _=>exact .bad (by trivial)
theorem eo {v V:ID}(h:VR E r v V):SR E bc r (asInt v) (asInt V):=by
 unfold asInt;refine(ij h).Iy ?_;rintro r' a b-rfl;exact .pure rfl
theorem lO {v V:ID}(h:VR E r v V):SR E bc r (asBool v) (asBool V):=by
 cases h with
 | bool b=>exact .pure rfl
 | _=>exact .bad (by trivial)
theorem AV {v V:ID}(h:VR E r v V):SR E (iX E) r (asAgg v) (asAgg V):=by
 cases h with
 | agg a b=>exact .pure ⟨a,b⟩
 | _=>exact .bad (by trivial)
theorem dI {v V:ID}(h:VR E r v V):SR E (λr=>IX r) r (asAddr v) (asAddr V):=by
 cases h with
 | ptr h=>exact .pure h
 | Ji=>exact bh .nilDeref (by simp)
 | _=>exact .bad (by trivial)
theorem kP {v V:ID}(h:VR E r v V):SR E (λr=>IX r) r (Instr.sureAddr v) (Instr.sureAddr V):=by
 cases h with
 | ptr h=>exact .pure h
 | _=>exact .bad (by trivial)
theorem gB {b B:Nat}(h:r b B):SR E (λr x X=>(x=Ly/\X=Ly)\/∃a A t,x=IR (a,t)/\X=IR (A,t)/\IX r a A) r (viewAt b) (viewAt B):=by
 unfold viewAt;refine(cJ h).Iy ?_;rintro r1 a _ s1 rfl;split
 ·exact .pure (.inl ⟨rfl,rfl⟩)
 ·refine(dX (s1.1 _ _ h)).Iy ?_;intro r2 o O s2 ho;cases ho with
  | view h=>exact .pure (.inr ⟨_,_,_,rfl,rfl,h⟩)
  | _=>exact .pure (.inl ⟨rfl,rfl⟩)
theorem tO {b B:Nat}(h:r b B):SR E (λr x X=>(x=Ly/\X=Ly)\/∃a A t,x=IR (a,t)/\X=IR (A,t)/\IX r a A) r (numberAt b) (numberAt B):=by
 unfold numberAt;refine(cJ h).Iy ?_;rintro r1 a _ s1 rfl;split
 ·exact .pure (.inl ⟨rfl,rfl⟩)
 ·refine(dX (s1.1 _ _ h)).Iy ?_;intro r2 o O s2 ho;cases ho with
  | number h=>exact .pure (.inr ⟨_,_,_,rfl,rfl,h⟩)
  | _=>exact .pure (.inl ⟨rfl,rfl⟩)
theorem wV {b B:Nat}(h:r b B):SR E bc r (cellsIn b) (cellsIn B):=by
 unfold cellsIn;refine(cJ h).Iy ?_;rintro r1 a _ s1 rfl;split
 ·exact .pure rfl
 ·refine(dX (s1.1 _ _ h)).Iy ?_;intro r2 o O s2 ho;cases ho<;>exact .pure rfl
theorem gI {a A:Ks}(h:IX r a A):SR E bc r (noView a) (noView A):=by
 unfold noView;refine(gB h.1).Iy ?_;rintro r1 x X s1 (⟨rfl,rfl⟩|⟨_,_,_,rfl,rfl,_⟩)
 ·exact .pure rfl
 ·exact al
theorem jx {a A:Ks}(h:IX r a A):SR E (λr x X=>IX r x.1 X.1/\X.2=x.2) r (behindNumber a) (behindNumber A):=by
 unfold behindNumber;refine(tO h.1).Iy ?_;rintro r1 x X s1 (⟨rfl,rfl⟩|⟨_,_,_,rfl,rfl,h'⟩)
 ·exact .pure ⟨h.mono s1,rfl⟩
 ·exact .pure ⟨h',rfl⟩
theorem ll {a A:Ks}(h:IX r a A):SR E bc r (stringish a) (stringish A):=by
 unfold stringish;refine(dK h).Iy ?_;rintro r1 x _ s1 rfl;split
 ·exact .pure rfl
 ·refine(cJ (s1.1 _ _ h.1)).Iy ?_;rintro r2 x _ s2 rfl;split
  ·exact dK ⟨s2.1 _ _ (s1.1 _ _ h.1),rfl,rfl⟩
  ·exact .pure rfl
theorem my {a A b B:Ks}(h:IX r a A)(h':IX r b B):SR E bc r (mayBeOne a b) (mayBeOne A B):=by
 unfold mayBeOne;refine(ll h).Iy ?_;rintro r1 x _ s1 rfl;refine(ll (h'.mono s1)).Iy ?_;rintro r2 y _ s2 rfl;refine(SR.Iy (A:=bc) ((cJ ((h.mono s1).mono s2).1).Iy λ_ _ _ _ e=>?_) ?_)
 ·subst e;exact .pure rfl
 rintro r3 z _ s3 rfl;refine(SR.Iy (A:=bc) ((cJ (((h'.mono s1).mono s2).mono s3).1).Iy λ_ _ _ _ e=>?_) ?_)
 ·subst e;exact .pure rfl
 rintro r4 u _ s4 rfl;exact .pure rfl
end
section
variable {E:Env} {r:Rel}
theorem aB {α β γ:Type}{A:Rel->γ->β->Prop}{s:String}{f:α->Sem γ}{S:Sem β}:SR E A r ((stuck s:Sem α) >>= f) S:=.bad (by trivial)
theorem au {α β γ:Type}{A:Rel->γ->β->Prop}{s:Unsupported}{f:α->Sem γ}{S:Sem β}(hu:Ou (.unsupported s):=by exact trivial):SR E A r ((L1 s:Sem α) >>= f) S:=.bad hu
theorem tF (hr:r.OK){a A b B:Ks}(h:IX r a A)(h':IX r b B):SR E bc r (sameAddr a b) (sameAddr A B):=by
 unfold sameAddr;have e1:(A.block==B.block)=(a.block==b.block):=by
  by_cases e:a.block=b.block
  ·(have h2:r a.block B.block:=by rw[e];exact h'.1);have:A.block=B.block:=hr.fn h.1 h2;rw[beq_iff_eq.2 e,beq_iff_eq.2 this]
  ·have:A.block≠B.block:=λx=>e (hr.inj h.1 (by rw[x];exact h'.1));rw[beq_eq_false_iff_ne.2 e,beq_eq_false_iff_ne.2 this]
 rw[e1];split
 ·rename_i hb;(have hb:a.block=b.block:=by simpa using hb);(have hB:A.block=B.block:=by rw[beq_iff_eq.2 hb] at e1;exact beq_iff_eq.1 e1);have:(A==B)=(a==b):=by
   obtain⟨x,y,z⟩:=a;obtain⟨X,Y,Z⟩:=A;obtain⟨u,v,t⟩:=b;obtain⟨U,V,T⟩:=B;simp only at hb hB;obtain⟨-,e2,e3⟩:=h;obtain⟨-,e4,e5⟩:=h';simp only at e2 e3 e4 e5;subst hb hB e2 e3 e4 e5;by_cases e:Y=V/\Z=T
   ·obtain⟨rfl,rfl⟩:=e;simp
   ·have n1:¬ (⟨X,Y,Z⟩:Ks)=⟨X,V,T⟩:=λq=>e (by simpa using q);have n2:¬ (⟨x,Y,Z⟩:Ks)=⟨x,V,T⟩:=λq=>e (by simpa using q);rw[beq_eq_false_iff_ne.2 n1,beq_eq_false_iff_ne.2 n2]
  rw[this];exact .pure rfl
 ·refine(dK h).Iy ?_;rintro r1 x _ s1 rfl;refine(dK (h'.mono s1)).Iy ?_;rintro r2 y _ s2 rfl;dsimp only;have g1:=(h.mono s1).mono s2;have g2:=(h'.mono s1).mono s2;split
  ·exact au
  ·refine(gI g1).Iy ?_;rintro r3 _ _ s3 -
   refine(gI (g2.mono s3)).Iy ?_;rintro r4 _ _ s4 -
   refine(my ((g1.mono s3).mono s4) ((g2.mono s3).mono s4)).Iy ?_;rintro r5 z _ s5 rfl;split
   ·refine bw.Iy ?_;rintro r6 z _ s6 rfl;exact .pure rfl
   ·exact .pure rfl
theorem eI {a A:Ks}(h:IX r a A):SR E bc r (byteOf a) (byteOf A):=by
 unfold byteOf;rw[h.2.2];split
 ·exact .pure rfl
 ·refine cF.Iy ?_;rintro r1 p _ s1 rfl;refine(gI (h.mono s1)).Iy ?_;rintro r2 _ _ s2 -
  refine(cJ ((h.mono s1).mono s2).1).Iy ?_;rintro r3 x _ s3 rfl;split
  ·dsimp only;split
   ·exact .pure rfl
   ·rw[h.2.1];split
    ·exact .pure rfl
    ·exact ag
  ·exact ag
theorem yT {a A:Ks}(h:IX r a A)(c b:Nat):SR E (λr=>IX r) r (partAt a c b) (partAt A c b):=by
 unfold partAt;refine(eI h).Iy ?_;rintro r1 x _ s1 rfl;dsimp only;have h1:=h.mono s1;refine(eI (a:={ block:=a.block,off:=a.off+c }) (A:={ block:=A.block,off:=A.off+c }) ⟨h1.1,by simp[h1.2.1],rfl⟩).Iy ?_;rintro r2 y _ s2 rfl;refine .pure ?_;split
 ·exact⟨s2.1 _ _ h1.1,by simp[h1.2.1],rfl⟩
 ·exact⟨s2.1 _ _ h1.1,by simp[h1.2.1],rfl⟩
theorem gm {a A:Ks}(h:IX r a A)(f:Field):SR E (λr=>IX r) r (fieldPlace a f) (fieldPlace A f):=by
 unfold fieldPlace;refine(bE _).Iy ?_;rintro r1 x _ s1 rfl;split
 ·exact yT (h.mono s1) _ _
 ·exact .pure ((h.mono s1).add _)
theorem iP {a A:Ks}(h:IX r a A)(u:IH)(n:Nat):SR E bc r (variablesAt a u n) (variablesAt A u n):=by
 unfold variablesAt;refine cF.Iy ?_;rintro r1 p _ s1 rfl;refine(cJ (s1.1 _ _ h.1)).Iy ?_;rintro r2 x _ s2 rfl;split
 ·rw[h.2.1];exact .pure rfl
 ·exact .pure rfl
theorem wN (s:IH){v V:ID}(h:VR E r v V)(f:Nat):SR E (aO E) r (Instr.fieldAt s v f) (Instr.fieldAt s V f):=by
 unfold Instr.fieldAt;refine(aE s).Iy ?_;rintro r1 d _ s1 ⟨rfl,-⟩;split
 ·split
  ·refine(kP (h.mono s1)).Iy ?_;intro r2 a A s2 ha;refine(gm ha _).Iy ?_;intro r3 a A s3 ha;exact .pure (.ptr ha)
  ·exact ag
 ·exact ag
theorem yn (t:IH){v V:ID}(h:VR E r v V):SR E (aO E) r (Mz t v) (Mz t V):=by
 unfold Mz;refine(kP h).Iy ?_;intro r2 a A s2 ha;exact fN t ha
theorem vN (t:IH){v V x X:ID}(h:VR E r v V)(hx:VR E r x X):SR E bc r (L4 t v x) (L4 t V X):=by
 unfold L4;refine(kP h).Iy ?_;intro r2 a A s2 ha;exact tq t ha (hx.mono s2)
def BaR (r:Rel)(x X:Option Ks×Nat×IH):Prop:=X.2=x.2/\((x.1=Ly/\X.1=Ly)\/∃a A,x.1=IR a/\X.1=IR A/\IX r a A)
theorem u3 (t:IH){v V i:ID}(h:VR E r v V)(hi:VR E r i I):SR E (aO E) r (L5 t v i) (L5 t V I):=by
 unfold L5;refine(ij hi).Iy ?_;rintro r1 ⟨k,j⟩ _ s1 rfl;refine(aE t).Iy ?_;rintro r2 d _ s2 ⟨rfl,-⟩;have h2:=(h.mono s1).mono s2;dsimp only;have A0:∀r3 (x X:Option Ks×Nat×IH),BaR r3 x X->SR E (aO E) r3
  (do
    let d <-LS t;let tiny:=decide (x.2.1<=1)&&(match d with|.array ..=>LO|_=>L3)
    match x.1 with
    | some a =>
      if 0<=j/\j<x.2.1 then do L2 (.pointer (IR (a.add (j.toNat*(<-sizeOf x.2.2)))))
      else if tiny then L1 (.noEntry "op/indexAddr.an index out of range at an array of length 0 or 1 (ledger 616)")
      else Lo k j x.2.1 .index
    | none=>Lo k j 0 .index)
  (do
    let d <-LS t;let tiny:=decide (X.2.1<=1)&&(match d with|.array ..=>LO|_=>L3)
    match X.1 with
    | some a =>
      if 0<=j/\j<X.2.1 then do L2 (.pointer (IR (a.add (j.toNat*(<-sizeOf X.2.2)))))
      else if tiny then L1 (.noEntry "op/indexAddr.an index out of range at an array of length 0 or 1 (ledger 616)")
      else Lo k j X.2.1 .index
    | none=>Lo k j 0 .index):=by
  rintro r3 ⟨x,n,e⟩ ⟨X,N,E'⟩ ⟨h1,h2⟩;simp only[Prod.mk.injEq] at h1;obtain⟨rfl,rfl⟩:=h1;refine(aE t).Iy ?_;rintro r4 d _ s4 ⟨rfl,-⟩;dsimp only at h2 ⊢;rcases h2 with⟨rfl,rfl⟩|⟨a,A,rfl,rfl,ha⟩
  ·exact gF _ _ _ _
  ·dsimp only;generalize (decide (N<=1)&&_)=tiny;split
   ·refine(bE _).Iy ?_;rintro r5 n _ s5 rfl;exact .pure (.ptr (((ha.mono s4).mono s5).add _))
   ·split
    ·exact al
    ·exact gF _ _ _ _
 rename_i d;cases d with
 | array len elem =>dsimp only;refine(kP h2).Iy ?_;intro r3 a A s3 ha;exact A0 r3 (IR a,len,elem) (IR A,len,elem) ⟨rfl,.inr ⟨a,A,rfl,rfl,ha⟩⟩
 | slice elem =>
   cases h2 with
   | IU l c=>exact A0 _ (Ly,l,elem) (Ly,l,elem) ⟨rfl,.inl ⟨rfl,rfl⟩⟩
   | slice l c ha=>exact A0 _ (IR _,l,elem) (IR _,l,elem) ⟨rfl,.inr ⟨_,_,rfl,rfl,ha⟩⟩
   | _=>exact aB
 | _=>exact aB
def Ls (E:Env)(r:Rel)(x X:Option ID):Prop:=(x=Ly/\X=Ly)\/∃v V,x=IR v/\X=IR V/\VR E r v V
theorem Ls.mono {r':Rel}(s:Sub r r'){x X:Option ID}(h:Ls E r x X):Ls E r' x X:=by
 rcases h with h|⟨v,V,h1,h2,h3⟩
 ·exact .inl h
 ·exact .inr ⟨v,V,h1,h2,h3.mono s⟩
theorem Ls.some {x X:Option ID}(h:Ls E r x X):X.isSome=x.isSome:=by
 rcases h with⟨rfl,rfl⟩|⟨v,V,rfl,rfl,_⟩<;>rfl
theorem ko {v V:ID}(h:VR E r v V)(y:Nat)(c:BoundsCode):SR E bc r (K1 v y c) (K1 V y c):=by
 unfold K1;refine(ij h).Iy ?_;rintro r1 ⟨k,i⟩ _ s1 rfl;dsimp only;split
 ·exact .pure rfl
 ·exact gF _ _ _ _
theorem dE (b:Bool)(n c:Nat){l L h H m M:Option ID}(hl:Ls E r l L)(hh:Ls E r h H)(hm:Ls E r m M) :
 SR E bc r (Instr.sliceBounds b n c l h m) (Instr.sliceBounds b n c L H M):=by
 unfold Instr.sliceBounds
 have A0:∀r' (x y:Nat),Sub r r'->SR E bc r' (do
  let l <-match l with
   | some v=>K1 v x (if m.isSome then .slice3C else .sliceB)
   | none=>L2 0
  L2 (l,x,y)) (do
  let l <-match L with
   | some v=>K1 v x (if M.isSome then .slice3C else .sliceB)
   | none=>L2 0
  L2 (l,x,y)):=by
  intro r' x y s;rw[hm.some];rcases hl.mono s with⟨rfl,rfl⟩|⟨v,V,rfl,rfl,hv⟩
  ·exact .pure rfl
  ·refine(ko hv _ _).Iy ?_;rintro r2 _ _ s2 rfl;exact .pure rfl
 rcases hm with⟨rfl,rfl⟩|⟨v,V,rfl,rfl,hv⟩
 ·rcases hh with⟨rfl,rfl⟩|⟨u,U,rfl,rfl,hu⟩
  ·exact A0 r _ _ .rfl
  ·refine(ko hu _ _).Iy ?_;rintro r2 _ _ s2 rfl;exact A0 r2 _ _ s2
 ·refine(ko hv _ _).Iy ?_;rintro r2 _ _ s2 rfl;rcases hh with⟨rfl,rfl⟩|⟨u,U,rfl,rfl,hu⟩
  ·exact aB
  ·refine(ko (hu.mono s2) _ _).Iy ?_;rintro r3 _ _ s3 rfl;exact A0 r3 _ _ (s2.trans s3)
theorem IX.shift {a A:Ks}(h:IX r a A)(p:Prop) [Decidable p] (n:Nat):IX r (if p then a else a.add n) (if p then A else A.add n):=by
 split
 ·exact h
 ·exact h.add n
theorem BL (t:IH){v V:ID}{l L h H m M:Option ID}(hv:VR E r v V)(hl:Ls E r l L)(hh:Ls E r h H)(hm:Ls E r m M) :
 SR E (aO E) r (Instr.slice t v l h m) (Instr.slice t V L H M):=by
 unfold Instr.slice;refine(aE t).Iy ?_;rintro r1 d _ s1 ⟨rfl,-⟩;rename_i d;have hl:=hl.mono s1;have hh:=hh.mono s1;have hm:=hm.mono s1;have hv:=hv.mono s1;cases d with
 | string =>
   cases hv with
   | string s =>
     dsimp only;rw[hm.some];split
     ·exact aB
     ·refine(dE L3 _ _ hl hh (.inl ⟨rfl,rfl⟩)).Iy ?_;rintro r2 ⟨a,b,c⟩ _ s2 rfl;exact .pure (.string _)
   | _=>exact ag
 | slice e =>
   cases hv with
   | IU n c =>refine(dE LO _ _ hl hh hm).Iy ?_;rintro r2 ⟨a,b,c⟩ _ s2 rfl;refine(bE e).Iy ?_;rintro r3 z _ s3 rfl;(try dsimp only);refine .pure ?_;split<;>exact .IU _ _
   | slice n c ha =>
     refine(dE LO _ _ hl hh hm).Iy ?_;rintro r2 ⟨x,y,z⟩ _ s2 rfl;refine(bE e).Iy ?_;rintro r3 q _ s3 rfl;(try dsimp only);refine .pure ?_;split
     ·exact .slice _ _ ((ha.mono s2).mono s3)
     ·exact .slice _ _ (((ha.mono s2).mono s3).add _)
   | _=>exact ag
 | pointer e =>
   dsimp only;refine(dI hv).Iy ?_;intro r2 a A s2 ha;refine(aE e).Iy ?_;rintro r3 d _ s3 ⟨rfl,-⟩;rename_i d;cases d with
   | array n e' =>dsimp only;refine(dE L3 _ _ ((hl.mono s2).mono s3) ((hh.mono s2).mono s3) ((hm.mono s2).mono s3)).Iy ?_;rintro r4 ⟨x,y,z⟩ _ s4 rfl;refine(bE e').Iy ?_;rintro r5 q _ s5 rfl;dsimp only;exact .pure (.slice _ _ ((((ha.mono s3).mono s4).mono s5).shift _ _))
   | _=>exact ag
 | _=>exact ag
theorem xi (t:IH){v V:ID}{l L h H m M:Option ID}(hv:VR E r v V)(hl:Ls E r l L)(hh:Ls E r h H)(hm:Ls E r m M) :
 SR E (aO E) r (Instr.sliceAt t v l h m) (Instr.sliceAt t V L H M):=by
 unfold Instr.sliceAt;refine(aE t).Iy ?_;rintro r1 d _ s1 ⟨rfl,-⟩;rename_i d;have hl:=hl.mono s1;have hh:=hh.mono s1;have hm:=hm.mono s1;have hv:=hv.mono s1;cases d with
 | array n e' =>dsimp only;refine(kP hv).Iy ?_;intro r2 a A s2 ha;refine(dE L3 _ _ (hl.mono s2) (hh.mono s2) (hm.mono s2)).Iy ?_;rintro r4 ⟨x,y,z⟩ _ s4 rfl;refine(bE e').Iy ?_;rintro r5 q _ s5 rfl;dsimp only;exact .pure (.slice _ _ (((ha.mono s4).mono s5).shift _ _))
 | _=>exact BL t hv hl hh hm
theorem Cq (hz:fi E)(t:IH):SR E (aO E) r (Instr.alloc t LO (.tuple #[])) (Instr.alloc t LO (.tuple #[])):=by
 unfold Instr.alloc;refine(cM hz t).Iy ?_;intro r1 v V s1 hv;refine(lQ t hv).Iy ?_;intro r2 a A s2 ha;exact .pure (.ptr ha)
theorem FG (t:IH){v V:ID}(h:VR E r v V):SR E (aO E) r (Instr.box t v) (Instr.box t V):=by
 unfold Instr.box;refine(lQ t h).Iy ?_;intro r2 a A s2 ha;exact .pure (.ptr ha)
theorem B6 (t:IH){v V:ID}(h:VR E r v V)(f:Nat):SR E (aO E) r (Instr.field t v f) (Instr.field t V f):=by
 unfold Instr.field;refine(aE t).Iy ?_;rintro r1 d _ s1 ⟨rfl,-⟩;split
 ·split
  ·refine(AV (h.mono s1)).Iy ?_;intro r2 x X s2 hx;exact rL _ hx _
  ·exact ag
 ·exact ag
theorem AF (t:IH){v V i:ID}(h:VR E r v V)(hi:VR E r i I):SR E (aO E) r (MA t v i) (MA t V I):=by
 unfold MA;refine(ij hi).Iy ?_;rintro r1 ⟨k,j⟩ _ s1 rfl;refine(aE t).Iy ?_;rintro r2 d _ s2 ⟨rfl,-⟩;rename_i d;have h2:=(h.mono s1).mono s2;cases d with
 | array n e =>
   cases h2 with
   | agg a b =>
     dsimp only;split
     ·refine(bE e).Iy ?_;rintro r3 q _ s3 rfl;exact rL _ ((show AR E r2 _ _ from⟨a,b⟩).mono s3) _
     ·exact gF _ _ _ _
   | _=>exact ag
 | string =>
   cases h2 with
   | string s =>
     dsimp only;split
     ·exact .pure (.int _ _)
     ·exact gF _ _ _ _
   | _=>exact ag
 | _=>exact ag
theorem vo {v V:ID}(h:VR E r v V)(i:Nat):SR E (aO E) r (Instr.extract v i) (Instr.extract V i):=by
 unfold Instr.extract;cases h with
 | tuple a b =>
   dsimp only;rcases(show AR E r _ _ from⟨a,b⟩).get i with⟨h1,h2⟩|⟨v,V,h1,h2,h3⟩
   ·rw[h1,h2];exact ag
   ·rw[h1,h2];exact .pure h3
 | _=>exact ag
end
end Go.Proofs.Rn

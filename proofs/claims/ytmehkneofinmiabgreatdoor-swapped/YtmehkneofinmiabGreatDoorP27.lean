/-part 27-/
import Derived.Test.YtmehkneofinmiabGreatDoorP25
import Derived.Test.YtmehkneofinmiabGreatDoorP26
open Go.Proofs.Tryz renaming prog->ID
open Go.Frame renaming enter->IF
set_option maxRecDepth 100000
namespace Go.Proofs.YtmehkneofinmiabGreatDoor
open Go.RowKit Go.MuLone Go.Conc Go.Proofs.Rn
variable {P:Program}{W w:World}
theorem Rn.Reach.mono {T T':Frame->List Frame->World->Prop}{fr:Frame}{IC:List Frame}(h:Rn.Reach P T fr IC w)(hT:∀fr IC w,T fr IC w->T' fr IC w):Rn.Reach P T' fr IC w:=λcs=>by
 obtain⟨f,s,w',h1,h2⟩:=h cs
 exact⟨f,s,w',h1,hT _ _ _ h2⟩
def Jid (V V':Value):Prop:=V'=V
noncomputable abbrev Em:Rn.Env:=env ID Lm Jid
instance:IY (env ID Lg):=⟨λ_ _ h=>h.elim⟩
def Iq (i:Wt)(_:World)(d:gW):Prop:=d.m=i.N/\d.te=155/\∀j,j<i.N->d.ps[j]?=some (tp i.T j)
def WkR (i:Wt)(w2:World)(_:gW)(e:Ending)(wE:World):Prop:=e=.returned (.tuple #[])/\∃t,Oq (az w2 t) i.s i.n i.T i.rd i.M i.kc i.B (Jf i.σ i.t i.k i.bd i.tc i.N) wE
theorem qf {w2:World}{sv:Value}{T:Nat}{d:gW}(h:uN w w2 sv T d):Below w.heap.size w w2:=⟨h.os,h.tape,h.out,h.size,h.old⟩
theorem yi {args ARGS:Array Value}{w0 W0:World}{r0:Rel}(Og:Tw Em 0 r0 (IF ID 4 args .normal) [] w0 (IF ID 4 ARGS .normal) [] W0)
 (hpre:Rn.Reach ID (Bg ID (Dd (AtRet (Qe 4 10 w0)))) (IF ID 4 args .normal) [] w0):EX ID (Re W0) 0 (G (IF ID 4 ARGS .normal) []) W0:=by
 refine CG (E:=Em) (Eg:=env ID Lg) (f0:=4) (t0:=10) (X:=Iq) (Kw:=WkR) FD (FD (J:=λV V'=>V'=jf V)) (λV a b h1 h2=>h1.trans h2.symm) H9 rfl Hl F9 g_G g_O rfl wf mf Tryz.QM ?_ ?_ ?_ Tryz.func121 rfl rfl ?_ Tryz.func4 rfl (by kernel_rfl) Og hpre ?_ ?_ ?_ ?_ ?_
 ·show 122∈Lg.fs;decide
 ·show 162∈Lg.fs;decide
 ·show 121∈Lm.fs;decide
 ·show ¬ 77∈Lm.ty;decide
 ·intro i c A0 sv tv kv T w h;refine⟨λf hf=>⟨?_,(h.fl f hf).2⟩,?_⟩
  ·show ¬ f.fn∈Lm.ty;have h1:=(h.fl f hf).1;simp only[List.mem_cons,List.not_mem_nil,or_false] at h1;rcases h1 with h1|h1|h1<;>rw[h1]<;>decide
  ·rw[h.sv];trivial
 ·intro i c A0 sv tv kv T w h;rw[h.sv,h.tv,h.kv];refine Rn.Reach.mono (ym i.cp i.wk h.pr.st h.pr.tk h.pr.kl h.w0 h.w1 h.n0) λfr A0 w2 ⟨h1,d,h2,h3,h4⟩=>⟨h1,d,h2,h3,h4.m,h4.te,λj hj=>by rw[<-h.tT];exact h4.ps j hj⟩
 ·rintro i w2 d e A1 ⟨rfl,_⟩;exact⟨_,rfl⟩
 ·intro i c A0 sv tv kv T w w2 d h hm hX t;obtain⟨x1,x2,x3⟩:=hX;have hT:=h.tT;subst hT;have hs:=h.pr.shr t (qf hm) (SB:=d.SB) (ps:=d.ps) (by rw[<-x2];exact hm.cB) x3;have hc:=pG d.cp hs;rw[h.sv];(have e:d.sh=.slice (some ⟨d.SB,0,none⟩) i.N d.cp:=by rw[<-x1];rfl);rw[e];refine Calls.mono hc ?_;rintro e w' ⟨rfl,h1⟩;exact⟨rfl,t,h1⟩
 ·rintro i c A0 sv tv kv T w w2 d h hm hX v wE ⟨_,t,hj⟩ t';have hT:=h.tT;subst hT;exact h.nx t' _ (Oq.down (qf hm) hj)
open Go.RowKit Go.MuLone Go.Conc Go.Proofs.Rn Go.WideShapes
def uJ (w W:World):Prop:=∀(b:Nat) (X:Array Value) (e:TypeId) (z:Nat×Nat),W.heap[b]?=some (.cells X e z)->∃x:Array Value,w.heap[b]?=some (.cells x e z)/\x.size=X.size/\∀(i:Nat) V,X[i]?=some V->Atom V->x[i]?=some V
theorem uJ.cell (h:uJ w W){b o:Nat}{V:Value}(hc:W.cell? ⟨b,o,none⟩=some V)(ha:Atom V):w.cell? ⟨b,o,none⟩=some V:=by
 unfold World.cell? at hc ⊢;cases hb:W.heap[b]? with
 | none=>simp[hb] at hc
 | some ob =>
   cases ob with
   | cells X e z =>obtain⟨x,h1,h2,h3⟩:=h b X e z hb;simp only[hb] at hc;simp only[h1];exact h3 o V (by simpa using hc) ha
   | _=>simp[hb] at hc
theorem uJ.var (h:uJ w W){name:String}{k:IntKind}{zs:List Int}(ht:Lib.TabIs P W name k zs):Lib.TabIs P w name k zs:=by
 unfold Lib.TabIs World.var? at ht ⊢;cases hg:P.globalNamed name with
 | none=>simp[hg] at ht
 | some g =>
   simp only[hg,Option.bind_some] at ht ⊢;cases hb:W.heap[g]? with
   | none=>simp[hb] at ht
   | some ob =>
     cases ob with
     | cells X e z =>
       obtain⟨x,h1,h2,h3⟩:=h g X e z hb;simp only[hb,Option.some.injEq] at ht;simp only[h1,Option.some.injEq];rw[ht] at h2 h3;apply Array.ext_getElem?;intro i;by_cases hi:i<zs.length
       ·(have e1:(zs.map λz=>Value.int k z).toArray[i]?=some (.int k zs[i]):=by simp[hi]);rw[h3 i _ e1 trivial,e1]
       ·rw[Array.getElem?_eq_none (by rw[h2];simp;omega),Array.getElem?_eq_none (by simp;omega)]
     | _=>simp[hb] at ht
theorem uY (h:W.ShapedOpen ID):∀g,g<gN->∃X e z,W.heap[g]?=some (.cells X e z):=by
 have hs:((List.range gN).all λg=>(((begin ID (λ_ _=>0) default).world.heap[g]?).bind Obj.row?).isSome)=true:=by kernel_rfl
 intro g hg;have h1:=List.all_eq_true.1 hs g (List.mem_range.2 hg);obtain⟨⟨A0,t⟩,h2⟩:=Option.isSome_iff_exists.1 h1;obtain⟨cs,h3,_⟩:=h.1 g A0 t (by rw[m0];exact hg) h2;exact⟨cs,t,(0,0),h3⟩
theorem sU {base:Nat}{a:Addr}{len cap:Nat}(h:Value.okWide ID W .any base 38 (.slice (some a) len cap)):a.spot=none/\∃X e z,W.heap[a.block]?=some (.cells X e z):=by
 simp only[Value.okWide,Tryz.underlying38,Cell.okWide,Cell.ok] at h;obtain⟨_,_,_,h1,A0,cells,h2,_⟩:=h;refine⟨h1,?_⟩;unfold World.shape? at h2;cases hb:W.heap[a.block]? with
 | none=>simp[hb] at h2
 | some ob =>
   cases ob with
   | cells X e z=>exact⟨X,e,z,rfl⟩
   | _=>simp[hb] at h2
def Dw (v:Value)(b:Nat):Prop:=b<gN\/∃a len cap,v=.slice (some a) len cap/\b=a.block
theorem Ey (x z qz mz:Int)(v:Value)(l:List Stp)(base:Nat)(W:World)(hsh:W.ShapedOpen ID)(hM:bu W)(hT:Jm W)(hok:Value.okWide ID W .any base 38 v)(QI : -9223372036854775808<=x)(QH:x<=9223372036854775807)(Qk : -9223372036854775808<=z)(Qj:z<=9223372036854775807)(Tj : -9223372036854775808<=qz)(Ti:qz<=9223372036854775807)(Qm : -9223372036854775808<=mz)(Ql:mz<=9223372036854775807)(hv:uO W v l) :
 EX ID (Re W) 0 (G (IF ID 4 #[.int .i64 x,.int .i64 z,v,.int .i64 qz,.int .i64 mz] .normal) []) W:=by
 have hg:=uY hsh;have hb:gN<=W.heap.size:=by obtain⟨X,e,z,h6⟩:=hg 6 (by decide);have:=(gL h6);unfold gN;omega
 have hD:∀b,Dw v b->∃X e z,W.heap[b]?=some (.cells X e z):=by
  rintro b (h|⟨a,len,A0,rfl,rfl⟩)
  ·exact hg b h
  ·exact(sU hok).2
 obtain⟨w,Af,A1,Aa,Ab,Ag,Ac,A2,Ad⟩:=tw (E:=Em) (λV=>rfl) W (Dw v) (λg hg=>Or.inl (by rw[<-m0];exact hg.2)) hb hD;have hK:uJ w W:=Ad;have A6:bu w:=by obtain⟨m,hm⟩:=hM;exact⟨m,hK.cell hm trivial⟩
 have A8:Jm w:=⟨hK.cell hT.z trivial,hK.var hT.b.tab,by rw[A1];exact hT.b.lt⟩;have A4:uO w v l:=by obtain⟨o,A0,e,hc⟩:=hv.lie;refine⟨⟨o,A0,e,λh0=>?_⟩,hv.num,hv.len⟩;obtain⟨g,A9,e2,A7,A5⟩:=hc h0;refine⟨g,A9,e2,by rw[A1];exact A7,λj y hy=>?_⟩;have:=A5 j y hy;exact⟨hK.cell this.1 trivial,hK.cell this.2.1 trivial,hK.cell this.2.2.1 trivial,hK.cell this.2.2.2 trivial⟩
 have Ae:VR Em (on (Dw v)) v v:=by
  obtain⟨o,N,A0,rfl⟩:=okWide_slice Tryz.underlying38 hok;cases o with
  | none=>exact .IU _ _
  | some a=>exact .slice _ _ ⟨⟨rfl,Or.inr ⟨a,N,A0,rfl,rfl⟩⟩,rfl,rfl⟩
 have ha:AR Em (on (Dw v)) #[.int .i64 x,.int .i64 z,v,.int .i64 qz,.int .i64 mz] #[.int .i64 x,.int .i64 z,v,.int .i64 qz,.int .i64 mz]:=kQ λy hy=>by
  simp at hy;rcases hy with rfl|rfl|rfl|rfl|rfl
  ·exact .int _ _
  ·exact .int _ _
  ·exact Ae
  ·exact .int _ _
  ·exact .int _ _
 have A3:=Ck (E:=Em) FD C3 Af A1 Aa.symm Ab.symm (f:=4) (by show 4∈Lm.fs;decide) Tryz.func4 rfl ha;exact yi A3 (vH x z qz mz v l w A6 A8 QI QH Qk Qj Tj Ti Qm Ql A4)
end Go.Proofs.YtmehkneofinmiabGreatDoor

/-part 24-/
import Derived.Test.YtmehkneofinmiaaGreatDoorP23
set_option maxRecDepth 100000
set_option maxHeartbeats 4000000
namespace Go.Proofs.YtmehkneofinmiaaGreatDoor.Jd
open Go.RowKit
theorem oD (wt hm hn hs hu:Bool)(since unl tm:Int)(tag:ByteArray)(lm ln:Value)(n1 n2:Nat)(W1 W2:Nat->Bool)(T1 T2:Nat->ByteArray)(w:World)(h2:ListAt w ln n2 W2 T2) :
 Calls Tryz.prog 116 #[.agg #[.bool wt,.bool hm,.bool true,lm,.bool hn,.bool false,ln,.bool hs,.int .i64 since,.bool hu,.int .i64 unl,.bool true,.string tag,.int .i64 tm]] w
  λ e w'=>e=.returned (.int .i64 (jd wt hm (mB true true W1 T1 tag true n1) hn (mB true false W2 T2 tag false n2) hs since hu unl true tm))/\Below w.heap.size w w':=by
 have hA:=(Below.refl w.heap.size w).alloc (Nat.le_refl _);go_enter Tryz.func116,Tryz.ntmps116;go_wp2_with fail;refine (py _ n2 W2 T2 _ _ _ (h2.below (hA _))).mono ?_;rintro e w1 ⟨rfl,rfl⟩;generalize e2:hits W2 T2 tag false n2=m2;have E1:Hid (mB true true W1 T1 tag true n1=true):=by simp[Hid,mB]
 have E2:Hid (mB true false W2 T2 tag false n2=m2):=by simp[Hid,mB,e2]
 clear e2 h2;go_wp2;all_goals
  go_ret;refine⟨cu ?_,hA _⟩;rw[E1.out,E2.out];clear hA E1 E2;first|(simp[jd, *];done)|(simp_all [jd];done)|(simp_all [jd];omega)
theorem pB (wt hm hn hs hu:Bool)(since unl tm:Int)(tag:ByteArray)(lm ln:Value)(n1 n2:Nat)(W1 W2:Nat->Bool)(T1 T2:Nat->ByteArray)(w:World)(h1:ListAt w lm n1 W1 T1) :
 Calls Tryz.prog 116 #[.agg #[.bool wt,.bool hm,.bool false,lm,.bool hn,.bool true,ln,.bool hs,.int .i64 since,.bool hu,.int .i64 unl,.bool true,.string tag,.int .i64 tm]] w
  λ e w'=>e=.returned (.int .i64 (jd wt hm (mB true false W1 T1 tag true n1) hn (mB true true W2 T2 tag false n2) hs since hu unl true tm))/\Below w.heap.size w w':=by
 have hA:=(Below.refl w.heap.size w).alloc (Nat.le_refl _);go_enter Tryz.func116,Tryz.ntmps116;go_wp2_with fail;refine (py _ n1 W1 T1 _ _ _ (h1.below (hA _))).mono ?_;rintro e w1 ⟨rfl,rfl⟩;generalize e1:hits W1 T1 tag true n1=m1;have E1:Hid (mB true false W1 T1 tag true n1=m1):=by simp[Hid,mB,e1]
 have E2:Hid (mB true true W2 T2 tag false n2=true):=by simp[Hid,mB]
 clear e1 h1;go_wp2;all_goals
  go_ret;refine⟨cu ?_,hA _⟩;rw[E1.out,E2.out];clear hA E1 E2;first|(simp[jd, *];done)|(simp_all [jd];done)|(simp_all [jd];omega)
end Go.Proofs.YtmehkneofinmiaaGreatDoor.Jd
namespace Go.Proofs.YtmehkneofinmiaaGreatDoor.Jd
open Go.RowKit
theorem judge_l (wt hm am hn an hs hu th:Bool)(since unl tm:Int)(tag:ByteArray)(lm ln:Value)(n1 n2:Nat)(W1 W2:Nat->Bool)(T1 T2:Nat->ByteArray)(w:World)(h1:ListAt w lm n1 W1 T1)(h2:ListAt w ln n2 W2 T2) :
 Calls Tryz.prog 142 #[.agg #[.bool wt,.bool hm,.bool am,lm,.bool hn,.bool an,ln,.bool hs,.int .i64 since,.bool hu,.int .i64 unl,.bool th,.string tag,.int .i64 tm]] w
  λ e w'=>e=.returned (.int .i64 (jd wt hm (mB th am W1 T1 tag true n1) hn (mB th an W2 T2 tag false n2) hs since hu unl th tm))/\Below w.heap.size w w':=by
 cases hm
 ·exact vk wt am hn an hs hu th since unl tm tag lm ln n1 n2 W1 W2 T1 T2 w h2
 ·exact tK wt am hn an hs hu th since unl tm tag lm ln n1 n2 W1 W2 T1 T2 w h1 h2
theorem ref_l (wt hm am hn an hs hu th:Bool)(since unl tm:Int)(tag:ByteArray)(lm ln:Value)(n1 n2:Nat)(W1 W2:Nat->Bool)(T1 T2:Nat->ByteArray)(w:World)(h1:ListAt w lm n1 W1 T1)(h2:ListAt w ln n2 W2 T2) :
 Calls Tryz.prog 116 #[.agg #[.bool wt,.bool hm,.bool am,lm,.bool hn,.bool an,ln,.bool hs,.int .i64 since,.bool hu,.int .i64 unl,.bool th,.string tag,.int .i64 tm]] w
  λ e w'=>e=.returned (.int .i64 (jd wt hm (mB th am W1 T1 tag true n1) hn (mB th an W2 T2 tag false n2) hs since hu unl th tm))/\Below w.heap.size w w':=by
 cases th
 ·exact AG wt hm am hn an hs hu since unl tm tag lm ln n1 n2 W1 W2 T1 T2 w
 cases am<;>cases an
 ·exact vW wt hm hn hs hu since unl tm tag lm ln n1 n2 W1 W2 T1 T2 w h1 h2
 ·exact pB wt hm hn hs hu since unl tm tag lm ln n1 n2 W1 W2 T1 T2 w h1
 ·exact oD wt hm hn hs hu since unl tm tag lm ln n1 n2 W1 W2 T1 T2 w h2
 ·exact rI wt hm hn hs hu since unl tm tag lm ln n1 n2 W1 W2 T1 T2 w
end Go.Proofs.YtmehkneofinmiaaGreatDoor.Jd
namespace Go.Proofs.YtmehkneofinmiaaGreatDoor
open Go.RowKit
theorem eT:(Tryz.prog.info? 93).map (·.size)=some 14:=by kernel_rfl
abbrev eH (wt:Bool) (c:Cst):Array Value:=#[.bool wt,.bool c.hm,.bool c.am,c.lm,.bool c.hn,.bool c.an,c.ln,.bool c.hs,.int .i64 c.si,.bool c.hu,.int .i64 c.ul,.bool false,.string ⟨#[]⟩,.int .i64 0]
theorem ya (wt:Bool)(c:Cst)(v:Ver)(n1 n2:Nat)(W1 W2:Nat->Bool)(T1 T2:Nat->ByteArray)(w:World)(h1:Jd.ListAt w c.lm n1 W1 T1)(h2:Jd.ListAt w c.ln n2 W2 T2)(e1:∃ a n m,c.lm=.slice a n m)(e2:∃ a n m,c.ln=.slice a n m) :
 Calls Tryz.prog 91 #[.agg (eH wt c),aW v,.bool false] w λ e w'=>e=.returned (.int .i64 (Jd.jd wt c.hm (Jd.mB false c.am W1 T1 ⟨#[]⟩ true n1) c.hn (Jd.mB false c.an W2 T2 ⟨#[]⟩ false n2) c.hs c.si c.hu c.ul false 0))/\Below w.heap.size w w':=by
 obtain⟨a1,m1,p1,e1⟩:=e1;obtain⟨a2,m2,p2,e2⟩:=e2;have H1:Hid _:=h1;have H2:Hid _:=h2;clear h1 h2;unfold eH aW;rw[e1,e2];go_enter Tryz.func91,Tryz.ntmps91;go_wp2_with fail;have A0:Below w.heap.size w ((w.alloc (.cells #[.bool wt,.bool c.hm,.bool c.am,.slice a1 m1 p1,.bool c.hn,.bool c.an,.slice a2 m2 p2,.bool c.hs,.int .i64 c.si,.bool c.hu,.int .i64 c.ul,.bool false,.string ⟨#[]⟩,.int .i64 0] 93)).alloc (.cells #[.int .i64 v.num,.int .i64 v.time,.bool v.mark,.string ⟨v.body.toArray⟩] 174)):=((Below.refl _ _).alloc (Nat.le_refl _) _).alloc (by simp) _;have A1:Jd.ListAt ((w.alloc (.cells #[.bool wt,.bool c.hm,.bool c.am,.slice a1 m1 p1,.bool c.hn,.bool c.an,.slice a2 m2 p2,.bool c.hs,.int .i64 c.si,.bool c.hu,.int .i64 c.ul,.bool false,.string ⟨#[]⟩,.int .i64 0] 93)).alloc (.cells #[.int .i64 v.num,.int .i64 v.time,.bool v.mark,.string ⟨v.body.toArray⟩] 174)) c.lm n1 W1 T1:=Jd.ListAt.below H1.out A0;have A2:Jd.ListAt ((w.alloc (.cells #[.bool wt,.bool c.hm,.bool c.am,.slice a1 m1 p1,.bool c.hn,.bool c.an,.slice a2 m2 p2,.bool c.hs,.int .i64 c.si,.bool c.hu,.int .i64 c.ul,.bool false,.string ⟨#[]⟩,.int .i64 0] 93)).alloc (.cells #[.int .i64 v.num,.int .i64 v.time,.bool v.mark,.string ⟨v.body.toArray⟩] 174)) c.ln n2 W2 T2:=Jd.ListAt.below H2.out A0;rw[<- e1,<- e2] at *
 refine (Jd.judge_l wt c.hm c.am c.hn c.an c.hs c.hu false c.si c.ul 0 ⟨#[]⟩ c.lm c.ln n1 n2 W1 W2 T1 T2 _ A1 A2).mono ?_;rintro e w1 ⟨rfl,A3⟩;have HB:Hid (Below w.heap.size w w1):=A0.trans (A3.mono (by simp;omega));clear A3 A0 A1 A2;go_wp2;go_ret;exact⟨rfl,HB.out⟩
theorem vR (wt:Bool)(c:Cst)(v:Ver)(n1 n2:Nat)(W1 W2:Nat->Bool)(T1 T2:Nat->ByteArray)(w:World)(h1:Jd.ListAt w c.lm n1 W1 T1)(h2:Jd.ListAt w c.ln n2 W2 T2)(e1:∃ a n m,c.lm=.slice a n m)(e2:∃ a n m,c.ln=.slice a n m)(hT:Tz w)(hb:v.body.length<1000000) :
 Calls Tryz.prog 91 #[.agg (eH wt c),aW v,.bool true] w λ e w'=>e=.returned (.int .i64 (Jd.jd wt c.hm (Jd.mB true c.am W1 T1 ⟨(bQ 16 (fnv v.body)).toArray⟩ true n1) c.hn (Jd.mB true c.an W2 T2 ⟨(bQ 16 (fnv v.body)).toArray⟩ false n2) c.hs c.si c.hu c.ul true v.time))/\Below w.heap.size w w':=by
 obtain⟨tg,A6⟩:∃ x,bQ 16 (fnv v.body)=x:=⟨_,rfl⟩;have Ac:Hid (∀ y,Tz y->Calls Tryz.prog 141 #[.string ⟨v.body.toArray⟩] y λ e w'=>e=.returned (.string ⟨tg.toArray⟩)/\Below y.heap.size y w'):=by intro y hy;have:=uc ⟨v.body.toArray⟩ y (by rw[Lib.size_eq];simp;omega) hy;rw[<- A6];exact this
 rw[A6];clear A6;obtain⟨a1,m1,p1,e1⟩:=e1;obtain⟨a2,m2,p2,e2⟩:=e2;have H1:Hid _:=h1;have H2:Hid _:=h2;clear h1 h2;unfold eH aW;rw[e1,e2];go_enter Tryz.func91,Tryz.ntmps91;go_wp2_with fail;obtain⟨X,hX⟩:∃ X,X=((w.alloc (.cells #[.bool wt,.bool c.hm,.bool c.am,.slice a1 m1 p1,.bool c.hn,.bool c.an,.slice a2 m2 p2,.bool c.hs,.int .i64 c.si,.bool c.hu,.int .i64 c.ul,.bool false,.string ⟨#[]⟩,.int .i64 0] 93)).alloc (.cells #[.int .i64 v.num,.int .i64 v.time,.bool v.mark,.string ⟨v.body.toArray⟩] 174)):=⟨_,rfl⟩;rw[<- hX];have A4:Below w.heap.size w X:=by rw[hX];exact ((Below.refl _ _).alloc (Nat.le_refl _) _).alloc (by simp) _
 have hA:X.heap[w.heap.size]?=some (.cells #[.bool wt,.bool c.hm,.bool c.am,.slice a1 m1 p1,.bool c.hn,.bool c.an,.slice a2 m2 p2,.bool c.hs,.int .i64 c.si,.bool c.hu,.int .i64 c.ul,.bool false,.string ⟨#[]⟩,.int .i64 0] 93 (0,0)):=by rw[hX];exact (heap_alloc_old _ _ (by simp)).trans (heap_alloc_new _ _)
 have hV:X.heap[w.heap.size+1]?=some (.cells #[.int .i64 v.num,.int .i64 v.time,.bool v.mark,.string ⟨v.body.toArray⟩] 174 (0,0)):=by rw[hX];have:=heap_alloc_new (w.alloc (.cells #[.bool wt,.bool c.hm,.bool c.am,.slice a1 m1 p1,.bool c.hn,.bool c.an,.slice a2 m2 p2,.bool c.hs,.int .i64 c.si,.bool c.hu,.int .i64 c.ul,.bool false,.string ⟨#[]⟩,.int .i64 0] 93)) (.cells #[.int .i64 v.num,.int .i64 v.time,.bool v.mark,.string ⟨v.body.toArray⟩] 174);simpa using this
 have A5:w.heap.size+1<X.heap.size:=(gL hV);clear hX;have v1:X.cell? ⟨w.heap.size+1,1,none⟩=some (.int .i64 v.time):=by simp[World.cell?,hV]
 have v3:X.cell? ⟨w.heap.size+1,3,none⟩=some (.string ⟨v.body.toArray⟩):=by simp[World.cell?,hV]
 have Ab:Hid (Tz X):=hT.below A4;have HA:Hid _:=hA;have HV:Hid _:=hV;have HL:Hid _:=A4;clear hA hV A4 hT;go_region_held3 (λ y=>y.cell? ⟨w.heap.size+1,1,none⟩=some (.int .i64 v.time)/\y.cell? ⟨w.heap.size+1,3,none⟩=some (.string ⟨v.body.toArray⟩)) (first|assumption|go_keep) (first
  | (go_at_call 141
     refine (Ac.out X.drew Ab.out).mono ?_;rintro e w1 ⟨rfl,A1⟩;have A0:w1.heap[w.heap.size]?=some (.cells #[.bool wt,.bool c.hm,.bool c.am,.slice a1 m1 p1,.bool c.hn,.bool c.an,.slice a2 m2 p2,.bool c.hs,.int .i64 c.si,.bool c.hu,.int .i64 c.ul,.bool false,.string ⟨#[]⟩,.int .i64 0] 93 (0,0)):=(A1.block _ (Nat.lt_trans (Nat.lt_succ_self _) A5)).trans HA.out;have Af:w1.cell? ⟨w.heap.size+1,1,none⟩=some (.int .i64 v.time)/\w1.cell? ⟨w.heap.size+1,3,none⟩=some (.string ⟨v.body.toArray⟩):=⟨(A1.cell (p:=⟨w.heap.size+1,1,none⟩) A5).trans v1,(A1.cell (p:=⟨w.heap.size+1,3,none⟩) A5).trans v3⟩;have d1:w1.cell? ⟨w.heap.size,11,none⟩=some (.bool false):=(by simp[World.cell?,A0]);have d2:w1.cell? ⟨w.heap.size,12,none⟩=some (.string ⟨#[]⟩):=(by simp[World.cell?,A0]);have d3:w1.cell? ⟨w.heap.size,13,none⟩=some (.int .i64 0):=(by simp[World.cell?,A0]);have f1:w1.frozen? ⟨w.heap.size,11,none⟩=false:=(by simp[World.frozen?,A0]);have f2:w1.frozen? ⟨w.heap.size,12,none⟩=false:=(by simp[World.frozen?,A0]);have f3:w1.frozen? ⟨w.heap.size,13,none⟩=false:=(by simp[World.frozen?,A0]);have Ai:Hid _:=A0;have A2:Hid _:=A1
     clear A0 A1))
 obtain⟨Y,hY⟩:∃ Y,Y=((w1.setCell ⟨w.heap.size,11,none⟩ (.bool true)).setCell ⟨w.heap.size,12,none⟩ (.string ⟨tg.toArray⟩)).setCell ⟨w.heap.size,13,none⟩ (.int .i64 v.time):=⟨_,rfl⟩;rw[<- hY];have A7:Y.heap[w.heap.size]?=some (.cells #[.bool wt,.bool c.hm,.bool c.am,.slice a1 m1 p1,.bool c.hn,.bool c.an,.slice a2 m2 p2,.bool c.hs,.int .i64 c.si,.bool c.hu,.int .i64 c.ul,.bool true,.string ⟨tg.toArray⟩,.int .i64 v.time] 93 (0,0)):=by rw[hY,ah (ah (ah Ai.out))];rfl
 have A1:Below X.heap.size X w1:=⟨A2.out.os,A2.out.tape,A2.out.output,A2.out.size,A2.out.block⟩;have A3:Hid (Below w.heap.size w Y):=by rw[hY];exact (((HL.out.trans (A1.mono HL.out.size)).setCell (p:=⟨w.heap.size,11,none⟩) (Nat.le_refl _) _).setCell (p:=⟨w.heap.size,12,none⟩) (Nat.le_refl _) _).setCell (p:=⟨w.heap.size,13,none⟩) (Nat.le_refl _) _
 have Aa:Jd.ListAt Y c.lm n1 W1 T1:=Jd.ListAt.below H1.out A3.out;have A9:Jd.ListAt Y c.ln n2 W2 T2:=Jd.ListAt.below H2.out A3.out;have Ag:Hid _:=A7;have Ah:Hid (Jd.ListAt Y c.lm n1 W1 T1):=Aa;have Ad:Hid (Jd.ListAt Y c.ln n2 W2 T2):=A9;clear hY A7 A1 Aa A9 d1 d2 d3 f1 f2 f3 Af;go_wp2_with (refine wpList_load_row rfl 93 (.tmp 3) rfl w.heap.size rfl 93 #[.bool wt,.bool c.hm,.bool c.am,.slice a1 m1 p1,.bool c.hn,.bool c.an,.slice a2 m2 p2,.bool c.hs,.int .i64 c.si,.bool c.hu,.int .i64 c.ul,.bool true,.string ⟨tg.toArray⟩,.int .i64 v.time] (0,0) _ Ag.out Tryz.underlying93 rfl eT ?_);rw[<- e1,<- e2];refine (Jd.judge_l wt c.hm c.am c.hn c.an c.hs c.hu true c.si c.ul v.time ⟨tg.toArray⟩ c.lm c.ln n1 n2 W1 W2 T1 T2 _ Ah.out Ad.out).mono ?_;rintro e w2 ⟨rfl,A8⟩;have Ae:Hid (Below w.heap.size w w2):=A3.out.trans (A8.mono A3.out.size);clear A8;go_wp2;go_ret;exact⟨rfl,Ae.out⟩
open Go.RowKit
def xQ (t:dz)(tag:List UInt8)(strong:Bool):Bool:=t.any λ x=>decide (x.2=tag)&&!(strong&&x.1)
def rg (t:dz)(i:Nat):Bool:=(t.getD i (false,[])).1
def qZ (t:dz)(i:Nat):ByteArray:=⟨(t.getD i (false,[])).2.toArray⟩
theorem vH (t:dz)(tag:List UInt8)(strong:Bool)(n:Nat)(h:n<=t.length):Jd.hits (rg t) (qZ t) ⟨tag.toArray⟩ strong n=xQ (t.take n) tag strong:=by
 induction n with
 | zero=>rfl
 | succ n ih =>have A0:n<t.length:=h;rw[Jd.hits,ih (by omega),List.take_succ_eq_append_getElem A0];simp only[xQ,List.any_append,List.any_cons,List.any_nil,Bool.or_false];congr 1;simp only[Jd.hit,rg,qZ,List.getD_eq_getElem?_getD,List.getElem?_eq_getElem A0,Option.getD_some];congr 1;rw[ByteArray.toList_eq,ByteArray.toList_eq]
theorem qj (t:dz)(tag:List UInt8)(strong:Bool):Jd.hits (rg t) (qZ t) ⟨tag.toArray⟩ strong t.length=xQ t tag strong:=by
 rw[vH t tag strong t.length (Nat.le_refl _),List.take_length]
theorem mU (t:dz)(i:Nat)(h:i<t.length):(bW t)[i*2]?=some (.bool (rg t i))/\(bW t)[i*2+1]?=some (.string (qZ t i)):=by
 induction t generalizing i with
 | nil=>simp at h
 | cons x t ih =>
   (have e:bW (x::t)=.bool x.1::.string ⟨x.2.toArray⟩::bW t:=by simp[bW]);rw[e];cases i with
   | zero=>simp[rg,qZ]
   | succ i =>have h2:=ih i (by simpa using h);rw[show (i+1)*2=i*2+1+1 by omega];simp only[List.getElem?_cons_succ];simpa [rg,qZ] using h2
theorem sx {w:World}{base:Nat}{v:Value}{t:dz}(h:w.ownsRow base 303 2 v t.length (bW t)):Jd.ListAt w v t.length (rg t) (qZ t):=by
 rcases h.2 with ⟨rfl,h0⟩|⟨g,A1,A2,rfl,_,hg,hn,hm,hs,A0⟩
 ·exact⟨by omega,Or.inl ⟨_,_,rfl,h0⟩⟩
 ·refine⟨by omega,Or.inr ⟨g,0,A1,rfl,λ i hi=>?_,λ i hi=>?_⟩⟩
  ·have h1:=(mU t i hi).1;rw[<- A0,List.getElem?_take_of_lt (by omega)] at h1;simpa [World.cell?,hg] using h1
  ·have h1:=(mU t i hi).2;rw[<- A0,List.getElem?_take_of_lt (by omega)] at h1;simpa [World.cell?,hg] using h1
def AA:Option (Bool×dz)->Bool
 | none=>false
 | some x=>x.1
def vE:Option (Bool×dz)->dz
 | none=>[]
 | some x=>x.2
def AW:Option (Int×Bool)->Bool
 | none=>false
 | some x=>x.2
def A8:Option (Int×Bool)->Int
 | none=>0
 | some x=>x.1
def uN (v:Option Ver):List UInt8:=match v with|none=>[]|some v=>bQ 16 (fnv v.body)
def mM (v:Option Ver):Nat:=match v with|none=>0|some v=>v.time
def bB (wt:Bool)(k:Cnd)(v:Option Ver):Nat :=
 (Jd.jd wt k.m.isSome (v.isSome&&(AA k.m||xQ (vE k.m) (uN v) true)) k.n.isSome (v.isSome&&(AA k.n||xQ (vE k.n) (uN v) false)) (AW k.s) (A8 k.s) (AW k.u) (A8 k.u) v.isSome (mM v:Int)).toNat
theorem oX (wt hm m hn x hs:Bool)(since:Int)(hu:Bool)(unl:Int)(th:Bool)(tm:Int):((Jd.jd wt hm m hn x hs since hu unl th tm).toNat:Int)=Jd.jd wt hm m hn x hs since hu unl th tm:=by
 unfold Jd.jd;(repeat' split);all_goals rfl
theorem Rl.list {x:World}{g:Nat}{h a:Bool}{l:Value}{s:Bool}{o:Option (Bool×dz)}(r:Rl x g h a l s o):h=o.isSome/\a=AA o/\Jd.ListAt x l (vE o).length (rg (vE o)) (qZ (vE o))/\∃ a n m,l=.slice a n m:=by
 obtain⟨_,r2,r3⟩:=r;cases o with
 | none =>obtain⟨ra,rfl⟩:=r3;exact⟨r2,ra,⟨by simp[vE],Or.inl ⟨_,_,rfl,rfl⟩⟩,_,_,_,rfl⟩
 | some p =>
   refine⟨r2,r3.1,sx r3.2,?_⟩;rcases r3.2.2 with ⟨e,_⟩|⟨g,A1,A0,e,_⟩
   ·exact⟨_,_,_,e⟩
   ·exact⟨_,_,_,e⟩
theorem Rd2.val {h:Bool}{n:Int}{s:Bool}{o:Option (Int×Bool)}(r:Rd2 h n s o):h=AW o/\n=A8 o:=by
 obtain⟨_,r⟩:=r;cases o with
 | none=>exact r
 | some p=>exact r
theorem vB (wt:Bool)(c:Cst)(k:Cnd)(g:Nat)(v:Ver)(o:Option Ver)(w:World)(hR:Rq w g c k)(hv:∀ u,o=some u->v=u)(hT:Tz w)(hb:∀ u,o=some u->u.body.length<=400) :
 Calls Tryz.prog 91 #[.agg (eH wt c),aW v,.bool o.isSome] w λ e w'=>e=.returned (.int .i64 (bB wt k o:Nat))/\Below w.heap.size w w':=by
 obtain⟨m1,m2,m3,m4⟩:=hR.m.list;obtain⟨n1,n2,n3,n4⟩:=hR.n.list;obtain⟨s1,s2⟩:=hR.s.val;obtain⟨u1,u2⟩:=hR.u.val;cases o with
 | none =>refine (ya wt c v _ _ _ _ _ _ w m3 n3 m4 n4).mono ?_;rintro e w' ⟨rfl,hb⟩;refine⟨?_,hb⟩;simp only[bB,oX,Jd.mB,Option.isSome_none,Bool.false_and,mM,m1,n1,s1,s2,u1,u2];rfl
 | some u =>obtain rfl:=hv u rfl;refine (vR wt c v _ _ _ _ _ _ w m3 n3 m4 n4 hT (by have:=hb v rfl;omega)).mono ?_;rintro e w' ⟨rfl,hb⟩;refine⟨?_,hb⟩;simp only[bB,oX,Jd.mB,Option.isSome_some,Bool.true_and,mM,uN,qj,m1,m2,n1,n2,s1,s2,u1,u2]
theorem oS (g o p s:Nat)(k t n told:Nat)(key body:List UInt8)(w:World)
 (h:∀ y,Below w.heap.size w y->Calls Tryz.prog 143 #[.pointer (some ⟨g,o,none⟩),.pointer (some ⟨p,0,none⟩),bt k t key n body,fD s] y λ e w'=>e=.returned (.tuple #[.int .i64 told,.bool false])/\Below y.heap.size y w') :
 Calls Tryz.prog 92 #[.pointer (some ⟨g,o,none⟩),.pointer (some ⟨p,0,none⟩),bt k t key n body,fD s] w λ e w'=>e=.returned (.agg #[.int .i64 told,.slice none 0 0,.string ⟨#[]⟩])/\Below w.heap.size w w':=by
 have HC:Hid _:=h;clear h;go_enter Tryz.func92,Tryz.ntmps92;go_wp2_with fail;obtain⟨X,hX⟩:∃ X,X=((w.alloc (.cells #[.int .u8 k,.int .i64 t,.string ⟨key.toArray⟩,.int .i64 n,.string ⟨body.toArray⟩] 181)).alloc (.cells #[.int .i64 0,.slice none 0 0,.string ⟨#[]⟩] 100)):=⟨_,rfl⟩;rw[<- hX];have A2:Below w.heap.size w X:=by rw[hX];exact ((Below.refl _ _).alloc (Nat.le_refl _) _).alloc (by simp) _
 have hZ:X.heap[w.heap.size+1]?=some (.cells #[.int .i64 0,.slice none 0 0,.string ⟨#[]⟩] 100 (0,0)):=by rw[hX];have:=heap_alloc_new (w.alloc (.cells #[.int .u8 k,.int .i64 t,.string ⟨key.toArray⟩,.int .i64 n,.string ⟨body.toArray⟩] 181)) (.cells #[.int .i64 0,.slice none 0 0,.string ⟨#[]⟩] 100);simpa using this
 have A4:w.heap.size+1<X.heap.size:=(gL hZ);clear hX;refine (HC.out X A2).mono ?_;rintro e w1 ⟨rfl,A1⟩;have A5:Hid (Below w.heap.size w w1):=A2.trans (A1.mono A2.size);have A7:Hid _:=(A1.block _ A4).trans hZ;have A9:w.heap.size+1<w1.heap.size:=Nat.lt_of_lt_of_le A4 A1.size;clear A1 hZ A2;go_wp2_with fail;refine (fq told _).mono ?_;rintro e w2 ⟨rfl,A3⟩;have A0:=(A3.block _ A9).trans A7.out;have z0:w2.cell? ⟨w.heap.size+1,0,none⟩=some (.int .i64 0):=by simp[World.cell?,A0]
 have z1:w2.cell? ⟨w.heap.size+1,1,none⟩=some (.slice none 0 0):=by simp[World.cell?,A0]
 have z2:w2.cell? ⟨w.heap.size+1,2,none⟩=some (.string ⟨#[]⟩):=by simp[World.cell?,A0]
 have Ab:w2.frozen? ⟨w.heap.size+1,0,none⟩=false:=by simp[World.frozen?,A0]
 have Aa:w2.frozen? ⟨w.heap.size+1,1,none⟩=false:=by simp[World.frozen?,A0]
 have Ac:w2.frozen? ⟨w.heap.size+1,2,none⟩=false:=by simp[World.frozen?,A0]
 have A6:Hid _:=A0;have A8:Hid (Below w.heap.size w w2):=A5.out.trans (A3.mono A5.out.size);clear A3 A0;go_wp2;have hs:=ah (i:=2) (v:=.string ⟨#[]⟩) (ah (i:=1) (v:=.slice none 0 0) (ah (i:=0) (v:=.int .i64 told) A6.out));exact bodyPost_ret (v:=.agg #[.int .i64 told,.slice none 0 0,.string ⟨#[]⟩]) (aq Tryz.results92 _ _ (w.heap.size+1) 100 _ (0,0) _ rfl hs Tryz.underlying100 rfl dW) rfl ⟨rfl,((A8.out.setCell (p:=⟨w.heap.size+1,0,none⟩) (Nat.le_succ _) _).setCell (p:=⟨w.heap.size+1,1,none⟩) (Nat.le_succ _) _).setCell (p:=⟨w.heap.size+1,2,none⟩) (Nat.le_succ _) _⟩
def Loc (n:Nat)(a:World)(k:Nat):Prop:=n<=k/\∃ c f,a.heap[k]?=some (.cells c 100 f)
theorem nF (g o p s:Nat)(t n told:Nat)(key body:List UInt8)(w:World)(R:World->Prop)(hR:∀ a b,R a->Off (Loc w.heap.size a) a b->R b)(hRT:∀ a,R a->Tz a/\Tab a)(hbl:body.length<1000000)(hnl:n<1000000000000000)
 (h:∀ y,Below w.heap.size w y->Calls Tryz.prog 143 #[.pointer (some ⟨g,o,none⟩),.pointer (some ⟨p,0,none⟩),bt 1 t key n body,fD s] y λ e w'=>e=.returned (.tuple #[.int .i64 told,.bool true])/\R w'/\(∀ k,w.heap.size<=k->k<y.heap.size->w'.heap[k]?=y.heap[k]?)/\y.heap.size<=w'.heap.size) :
 Calls Tryz.prog 92 #[.pointer (some ⟨g,o,none⟩),.pointer (some ⟨p,0,none⟩),bt 1 t key n body,fD s] w λ e w'=>∃ gs,e=.returned (.agg #[.int .i64 told,.slice (some ⟨gs,0,none⟩) 2 2,.string ⟨#[]⟩])/\R w'/\w'.ownsRow 0 151 2 (.slice (some ⟨gs,0,none⟩) 2 2) 2 (cM [⟨[69,84,97,103],cD body⟩,⟨[86,101,114,115,105,111,110],Lib.decDigits n⟩]):=by
 obtain⟨tg,Aa⟩:∃ x,cD body=x:=⟨_,rfl⟩;obtain⟨nn,A5⟩:∃ x,Lib.decDigits n=x:=⟨_,rfl⟩;have Ai:Hid (∀ y,Tz y->Calls Tryz.prog 145 #[.string ⟨body.toArray⟩] y λ e w'=>e=.returned (.agg #[.string ⟨#[69,84,97,103]⟩,.string ⟨tg.toArray⟩])/\Below y.heap.size y w'):=by rw[<- Aa];exact λ y hy=>jX body y hbl hy
 have Af:Hid (∀ y,Tab y->Calls Tryz.prog 146 #[.int .i64 n] y λ e w'=>e=.returned (.agg #[.string ⟨#[86,101,114,115,105,111,110]⟩,.string ⟨nn.toArray⟩])/\Below y.heap.size y w'):=by rw[<- A5];exact λ y hy=>eN n y hnl hy
 have HF:Hid (cM [⟨[69,84,97,103],cD body⟩,⟨[86,101,114,115,105,111,110],Lib.decDigits n⟩]=[.string ⟨#[69,84,97,103]⟩,.string ⟨tg.toArray⟩,.string ⟨#[86,101,114,115,105,111,110]⟩,.string ⟨nn.toArray⟩]):=by show _=_;rw[<- Aa,<- A5];rfl
 clear Aa A5;have HC:Hid _:=h;clear h;go_enter Tryz.func92,Tryz.ntmps92;go_wp2_with fail;obtain⟨X,hX⟩:∃ X,X=((w.alloc (.cells #[.int .u8 1,.int .i64 t,.string ⟨key.toArray⟩,.int .i64 n,.string ⟨body.toArray⟩] 181)).alloc (.cells #[.int .i64 0,.slice none 0 0,.string ⟨#[]⟩] 100)):=⟨_,rfl⟩;rw[<- hX];have Ac:Below w.heap.size w X:=by rw[hX];exact ((Below.refl _ _).alloc (Nat.le_refl _) _).alloc (by simp) _
 have hQ:X.heap[w.heap.size]?=some (.cells #[.int .u8 1,.int .i64 t,.string ⟨key.toArray⟩,.int .i64 n,.string ⟨body.toArray⟩] 181 (0,0)):=by rw[hX];exact (heap_alloc_old _ _ (by simp)).trans (heap_alloc_new _ _)
 have hZ:X.heap[w.heap.size+1]?=some (.cells #[.int .i64 0,.slice none 0 0,.string ⟨#[]⟩] 100 (0,0)):=by rw[hX];have:=heap_alloc_new (w.alloc (.cells #[.int .u8 1,.int .i64 t,.string ⟨key.toArray⟩,.int .i64 n,.string ⟨body.toArray⟩] 181)) (.cells #[.int .i64 0,.slice none 0 0,.string ⟨#[]⟩] 100);simpa using this
 have Ah:w.heap.size+1<X.heap.size:=(gL hZ);clear hX;refine (HC.out X Ac).mono ?_;rintro e w1 ⟨rfl,Ad,A6,Al⟩;have A2:w1.heap[w.heap.size]?=_:=(A6 _ (Nat.le_refl _) (by omega)).trans hQ;have Ae:w1.heap[w.heap.size+1]?=_:=(A6 _ (Nat.le_succ _) Ah).trans hZ;have r0:w1.cell? ⟨w.heap.size,0,none⟩=some (.int .u8 1):=by simp[World.cell?,A2]
 have r3:w1.cell? ⟨w.heap.size,3,none⟩=some (.int .i64 n):=by simp[World.cell?,A2]
 have r4:w1.cell? ⟨w.heap.size,4,none⟩=some (.string ⟨body.toArray⟩):=by simp[World.cell?,A2]
 have Am:Hid _:=A2;have Ag:Hid _:=Ae;have A9:Hid _:=Ad;clear A2 Ae Ad A6 hQ hZ Ac;go_wp2_with fail;have Ab:w.heap.size<w1.heap.size:=by omega
 have Aj:w.heap.size+1<w1.heap.size:=by omega
 have HS:Hid (∀ y,Below w1.heap.size w1 y->(y.cell? ⟨w.heap.size,3,none⟩=some (.int .i64 n)/\y.cell? ⟨w.heap.size,4,none⟩=some (.string ⟨body.toArray⟩))/\Tz y/\Tab y):=by intro y hy;exact⟨⟨(hy.cell (p:=⟨w.heap.size,3,none⟩) Ab).trans r3,(hy.cell (p:=⟨w.heap.size,4,none⟩) Ab).trans r4⟩,(hRT _ A9.out).1.below hy,(hRT _ A9.out).2.below hy⟩
 have g0:Below w1.heap.size w1 w1.drew:=(Below.refl _ _).drew;refine wp_region_held_drew (S:=(λ y=>y.cell? ⟨w.heap.size,3,none⟩=some (.int .i64 n)/\y.cell? ⟨w.heap.size,4,none⟩=some (.string ⟨body.toArray⟩))) (by kernel_rfl) ⟨r3,r4⟩ (λ hHeld=>?_);refine tkI 0 hHeld ?_;try simp only[Act.put]
 refine tkI 1 hHeld ?_;try simp only[Act.put]
 refine tkI 2 hHeld ?_;try simp only[Act.put]
 refine tkI 4 hHeld ?_;try simp only[Act.put]
 refine tkI 5 hHeld ?_;try simp only[Act.put]
 refine rdI 3 (λ K hK=>?_);go_simp;refine (Ai.out w1.drew (HS.out _ g0).2.1).mono ?_;rintro e y1 ⟨rfl,h1⟩;have g1:Below w1.heap.size w1 y1:=g0.trans (h1.mono g0.size);clear h1;try go_wp2_with fail
 refine hK.out _ _ (HS.out _ g1).1 (λ hHeld=>?_);clear hK K;try simp only[Act.put]
 refine rdI 6 (λ K hK=>?_);go_simp;refine (Af.out y1 (HS.out _ g1).2.2).mono ?_;rintro e y2 ⟨rfl,h2⟩;have g2:Below w1.heap.size w1 y2:=g1.trans (h2.mono g1.size);clear h2;try go_wp2_with fail
 refine hK.out _ _ (HS.out _ g2).1 (λ hHeld=>?_);clear hK K;try simp only[Act.put]
 refine rdI 7 (λ K hK=>?_);go_simp;obtain⟨s3,A4⟩:∃ x,x=y2.alloc (.cells #[.string ⟨#[69,84,97,103]⟩,.string ⟨tg.toArray⟩,.string ⟨#[86,101,114,115,105,111,110]⟩,.string ⟨nn.toArray⟩] 151):=⟨_,rfl⟩;rw[<- A4];obtain⟨q3,A7⟩:∃ x,x=y2.heap.size:=⟨_,rfl⟩;rw[<- A7];have g3:Below w1.heap.size w1 s3:=by rw[A4];exact g2.alloc g2.size _
 have k3:s3.heap[q3]?=some (.cells #[.string ⟨#[69,84,97,103]⟩,.string ⟨tg.toArray⟩,.string ⟨#[86,101,114,115,105,111,110]⟩,.string ⟨nn.toArray⟩] 151 (0,0)):=by rw[A4,A7];exact heap_alloc_new _ _
 clear A4 A7;refine hK.out _ _ (HS.out _ g3).1 (λ hHeld=>?_);clear hK K;try simp only[Act.put]
 refine rdI 8 (λ K hK=>?_);go_simp;refine (dd told (some ⟨q3,0,none⟩) 2 2 s3).mono ?_;rintro e y4 ⟨rfl,h4⟩;have g4:Below w1.heap.size w1 y4:=g3.trans (h4.mono g3.size);have k4:y4.heap[q3]?=some (.cells #[.string ⟨#[69,84,97,103]⟩,.string ⟨tg.toArray⟩,.string ⟨#[86,101,114,115,105,111,110]⟩,.string ⟨nn.toArray⟩] 151 (0,0)):=(h4.block _ (gL k3)).trans k3;clear h4;try go_wp2_with fail
 refine hK.out _ _ (HS.out _ g4).1 (λ hHeld=>?_);clear hK K;try simp only[Act.put]
 refine rdI 9 (λ K hK=>?_);have A0:=(g4.block _ Aj).trans Ag.out;have c0:y4.cell? ⟨w.heap.size+1,0,none⟩=some (.int .i64 0):=by simp[World.cell?,A0]
 have c1:y4.cell? ⟨w.heap.size+1,1,none⟩=some (.slice none 0 0):=by simp[World.cell?,A0]
 have c2:y4.cell? ⟨w.heap.size+1,2,none⟩=some (.string ⟨#[]⟩):=by simp[World.cell?,A0]
 have f0:y4.frozen? ⟨w.heap.size+1,0,none⟩=false:=by simp[World.frozen?,A0]
 have f1:y4.frozen? ⟨w.heap.size+1,1,none⟩=false:=by simp[World.frozen?,A0]
 have f2:y4.frozen? ⟨w.heap.size+1,2,none⟩=false:=by simp[World.frozen?,A0]
 have A1:w.heap.size≠w.heap.size+1:=by omega
 have A3:Hid _:=A0;clear A0;go_simp;refine hK.out _ _ ⟨?_,?_⟩ (λ hHeld=>?_)
 ·rw[ae A1,ae A1,ae A1];exact (HS.out _ g4).1.1
 ·rw[ae A1,ae A1,ae A1];exact (HS.out _ g4).1.2
 clear hK K;try simp only[Act.put]
 refine wpAnyH_done (by kernel_rfl) ?_ _;go_wp2;have A8:q3≠w.heap.size+1:=ad k4 A3.out (by decide);have hs:=ah (i:=2) (v:=.string ⟨#[]⟩) (ah (i:=1) (v:=.slice (some ⟨q3,0,none⟩) 2 2) (ah (i:=0) (v:=.int .i64 told) A3.out));refine bodyPost_ret (v:=.agg #[.int .i64 told,.slice (some ⟨q3,0,none⟩) 2 2,.string ⟨#[]⟩]) (aq Tryz.results92 _ _ (w.heap.size+1) 100 _ (0,0) _ rfl hs Tryz.underlying100 rfl dW) rfl ⟨q3,rfl,?_,?_⟩
 ·have Ak:R y4:=hR _ _ A9.out (Off.of_below g4);exact hR _ _ Ak ((((Off.refl _ _).set _ 0 _ (Or.inl ⟨Nat.le_succ _,_,_,A3.out⟩)).set _ 1 _ (Or.inl ⟨Nat.le_succ _,_,_,A3.out⟩)).set _ 2 _ (Or.inl ⟨Nat.le_succ _,_,_,A3.out⟩))
 ·refine jK (l:=[⟨[69,84,97,103],cD body⟩,⟨[86,101,114,115,105,111,110],Lib.decDigits n⟩]) (cs:=#[.string ⟨#[69,84,97,103]⟩,.string ⟨tg.toArray⟩,.string ⟨#[86,101,114,115,105,111,110]⟩,.string ⟨nn.toArray⟩]) ?_ (by rw[HF.out]) rfl (by simp[maxLen]);exact (ax A8).trans ((ax A8).trans ((ax A8).trans k4))
theorem lA (g o p s:Nat)(k t n told:Nat)(key body:List UInt8)(w:World)(R:World->Prop)(hR:∀ a b,R a->Off (Loc w.heap.size a) a b->R b)(hRT:∀ a,R a->Tz a/\Tab a)(hk:((k:Int)==1)=false)(hnl:n<1000000000000000)
 (h:∀ y,Below w.heap.size w y->Calls Tryz.prog 143 #[.pointer (some ⟨g,o,none⟩),.pointer (some ⟨p,0,none⟩),bt k t key n body,fD s] y λ e w'=>e=.returned (.tuple #[.int .i64 told,.bool true])/\R w'/\(∀ k,w.heap.size<=k->k<y.heap.size->w'.heap[k]?=y.heap[k]?)/\y.heap.size<=w'.heap.size) :
 Calls Tryz.prog 92 #[.pointer (some ⟨g,o,none⟩),.pointer (some ⟨p,0,none⟩),bt k t key n body,fD s] w λ e w'=>∃ gs,e=.returned (.agg #[.int .i64 told,.slice (some ⟨gs,0,none⟩) 1 1,.string ⟨#[]⟩])/\R w'/\w'.ownsRow 0 151 2 (.slice (some ⟨gs,0,none⟩) 1 1) 1 (cM [⟨[86,101,114,115,105,111,110],Lib.decDigits n⟩]):=by
 obtain⟨nn,A3⟩:∃ x,Lib.decDigits n=x:=⟨_,rfl⟩;have Ab:Hid (∀ y,Tab y->Calls Tryz.prog 146 #[.int .i64 n] y λ e w'=>e=.returned (.agg #[.string ⟨#[86,101,114,115,105,111,110]⟩,.string ⟨nn.toArray⟩])/\Below y.heap.size y w'):=by rw[<- A3];exact λ y hy=>eN n y hnl hy
 have HF:Hid (cM [⟨[86,101,114,115,105,111,110],Lib.decDigits n⟩]=[.string ⟨#[86,101,114,115,105,111,110]⟩,.string ⟨nn.toArray⟩]):=by show _=_;rw[<- A3];rfl
 clear A3;have HC:Hid _:=h;clear h;go_enter Tryz.func92,Tryz.ntmps92;go_wp2_with fail;obtain⟨X,hX⟩:∃ X,X=((w.alloc (.cells #[.int .u8 k,.int .i64 t,.string ⟨key.toArray⟩,.int .i64 n,.string ⟨body.toArray⟩] 181)).alloc (.cells #[.int .i64 0,.slice none 0 0,.string ⟨#[]⟩] 100)):=⟨_,rfl⟩;rw[<- hX];have A6:Below w.heap.size w X:=by rw[hX];exact ((Below.refl _ _).alloc (Nat.le_refl _) _).alloc (by simp) _
 have hQ:X.heap[w.heap.size]?=some (.cells #[.int .u8 k,.int .i64 t,.string ⟨key.toArray⟩,.int .i64 n,.string ⟨body.toArray⟩] 181 (0,0)):=by rw[hX];exact (heap_alloc_old _ _ (by simp)).trans (heap_alloc_new _ _)
 have hZ:X.heap[w.heap.size+1]?=some (.cells #[.int .i64 0,.slice none 0 0,.string ⟨#[]⟩] 100 (0,0)):=by rw[hX];have:=heap_alloc_new (w.alloc (.cells #[.int .u8 k,.int .i64 t,.string ⟨key.toArray⟩,.int .i64 n,.string ⟨body.toArray⟩] 181)) (.cells #[.int .i64 0,.slice none 0 0,.string ⟨#[]⟩] 100);simpa using this
 have Ad:w.heap.size+1<X.heap.size:=(gL hZ);clear hX;refine (HC.out X A6).mono ?_;rintro e w1 ⟨rfl,A8,A4,Aj⟩;have A1:w1.heap[w.heap.size]?=_:=(A4 _ (Nat.le_refl _) (by omega)).trans hQ;have Aa:w1.heap[w.heap.size+1]?=_:=(A4 _ (Nat.le_succ _) Ad).trans hZ;have r0:w1.cell? ⟨w.heap.size,0,none⟩=some (.int .u8 k):=by simp[World.cell?,A1]
 have r3:w1.cell? ⟨w.heap.size,3,none⟩=some (.int .i64 n):=by simp[World.cell?,A1]
 have r4:w1.cell? ⟨w.heap.size,4,none⟩=some (.string ⟨body.toArray⟩):=by simp[World.cell?,A1]
 have Al:Hid _:=A1;have Ac:Hid _:=Aa;have A9:Hid _:=A8;clear A1 Aa A8 A4 hQ hZ A6;go_wp2_with fail;have Ak:w.heap.size<w1.heap.size:=by omega
 have Ag:w.heap.size+1<w1.heap.size:=by omega
 refine (Ab.out w1 (hRT _ A9.out).2).mono ?_;rintro e y2 ⟨rfl,g2⟩;have Ae:Hid _:=g2;have Ah:=g2.size;clear g2;go_wp2_with fail;have g3:Below w1.heap.size w1 (y2.alloc (.cells #[.string ⟨#[86,101,114,115,105,111,110]⟩,.string ⟨nn.toArray⟩] 151)):=Ae.out.alloc Ah _;refine (dd told (some ⟨y2.heap.size,0,none⟩) 1 1 _).mono ?_;rintro e y4 ⟨rfl,h4⟩;have g4:Below w1.heap.size w1 y4:=g3.trans (h4.mono g3.size);have k4:y4.heap[y2.heap.size]?=some (.cells #[.string ⟨#[86,101,114,115,105,111,110]⟩,.string ⟨nn.toArray⟩] 151 (0,0)):=(h4.block _ (by simp)).trans (heap_alloc_new _ _);have A0:=(g4.block _ Ag).trans Ac.out;have c0:y4.cell? ⟨w.heap.size+1,0,none⟩=some (.int .i64 0):=by simp[World.cell?,A0]
 have c1:y4.cell? ⟨w.heap.size+1,1,none⟩=some (.slice none 0 0):=by simp[World.cell?,A0]
 have c2:y4.cell? ⟨w.heap.size+1,2,none⟩=some (.string ⟨#[]⟩):=by simp[World.cell?,A0]
 have f0:y4.frozen? ⟨w.heap.size+1,0,none⟩=false:=by simp[World.frozen?,A0]
 have f1:y4.frozen? ⟨w.heap.size+1,1,none⟩=false:=by simp[World.frozen?,A0]
 have f2:y4.frozen? ⟨w.heap.size+1,2,none⟩=false:=by simp[World.frozen?,A0]
 have A2:Hid _:=A0;have A7:Hid _:=k4;have Af:Hid _:=g4;clear A0 h4 g3 k4 g4;go_wp2;have A5:y2.heap.size≠w.heap.size+1:=ad A7.out A2.out (by decide);have hs:=ah (i:=2) (v:=.string ⟨#[]⟩) (ah (i:=1) (v:=.slice (some ⟨y2.heap.size,0,none⟩) 1 1) (ah (i:=0) (v:=.int .i64 told) A2.out));refine bodyPost_ret (v:=.agg #[.int .i64 told,.slice (some ⟨y2.heap.size,0,none⟩) 1 1,.string ⟨#[]⟩]) (aq Tryz.results92 _ _ (w.heap.size+1) 100 _ (0,0) _ rfl hs Tryz.underlying100 rfl dW) rfl ⟨y2.heap.size,rfl,?_,?_⟩
 ·have Ai:R y4:=hR _ _ A9.out (Off.of_below Af.out);exact hR _ _ Ai ((((Off.refl _ _).set _ 0 _ (Or.inl ⟨Nat.le_succ _,_,_,A2.out⟩)).set _ 1 _ (Or.inl ⟨Nat.le_succ _,_,_,A2.out⟩)).set _ 2 _ (Or.inl ⟨Nat.le_succ _,_,_,A2.out⟩))
 ·refine jK (l:=[⟨[86,101,114,115,105,111,110],Lib.decDigits n⟩]) (cs:=#[.string ⟨#[86,101,114,115,105,111,110]⟩,.string ⟨nn.toArray⟩]) ?_ (by rw[HF.out]) rfl (by simp[maxLen]);exact (ax A5).trans ((ax A5).trans ((ax A5).trans A7.out))
end Go.Proofs.YtmehkneofinmiaaGreatDoor

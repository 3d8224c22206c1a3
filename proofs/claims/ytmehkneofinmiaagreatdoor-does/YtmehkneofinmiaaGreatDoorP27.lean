/-
 Texts of this proof, part 27.
-/
import Derived.Test.YtmehkneofinmiaaGreatDoorP26
set_option maxRecDepth 100000
set_option maxHeartbeats 4000000
namespace Go.Proofs.YtmehkneofinmiaaGreatDoor.Jd
open Go.RowKit
theorem ref_there (wt hm hn hs hu:Bool)(since unl tm:Int)(tag:ByteArray)(lm ln:Value)(n1 n2:Nat)(W1 W2:Nat->Bool)(T1 T2:Nat->ByteArray)(w:World)(h1:ListAt w lm n1 W1 T1)(h2:ListAt w ln n2 W2 T2) :
 Calls Tryz.prog 116 #[.agg #[.bool wt,.bool hm,.bool false,lm,.bool hn,.bool false,ln,.bool hs,.int .i64 since,.bool hu,.int .i64 unl,.bool true,.string tag,.int .i64 tm]] w
  fun e w'=>e=.returned (.int .i64 (jd wt hm (mB true false W1 T1 tag true n1) hn (mB true false W2 T2 tag false n2) hs since hu unl true tm))/\Below w.heap.size w w':=by
 have hA:=(Below.refl w.heap.size w).alloc (Nat.le_refl _)
 go_enter Tryz.func116,Tryz.ntmps116
 go_wp2_with fail
 refine (some_l _ n1 W1 T1 _ _ _ (h1.below (hA _))).mono ?_
 rintro e w1 ⟨rfl,rfl⟩
 go_wp2_with fail
 refine (some_l _ n2 W2 T2 _ _ _ (h2.below (hA _))).mono ?_
 rintro e w1 ⟨rfl,rfl⟩
 generalize e1:hits W1 T1 tag true n1=m1
 generalize e2:hits W2 T2 tag false n2=m2
 have E1:Hid (mB true false W1 T1 tag true n1=m1):=by simp[Hid,mB,e1]
 have E2:Hid (mB true false W2 T2 tag false n2=m2):=by simp[Hid,mB,e2]
 clear e1 e2 h1 h2
 go_wp2
 all_goals
  go_ret
  refine⟨ret_int ?_,hA _⟩
  rw[E1.out,E2.out]
  clear hA E1 E2
  first|(simp[jd, *];done)|(simp_all [jd];done)|(simp_all [jd];omega)
end Go.Proofs.YtmehkneofinmiaaGreatDoor.Jd

namespace Go.Proofs.YtmehkneofinmiaaGreatDoor.Jd
open Go.RowKit
theorem ref_no (wt hm am hn an hs hu:Bool)(since unl tm:Int)(tag:ByteArray)(lm ln:Value)(n1 n2:Nat)(W1 W2:Nat->Bool)(T1 T2:Nat->ByteArray)(w:World) :
 Calls Tryz.prog 116 #[.agg #[.bool wt,.bool hm,.bool am,lm,.bool hn,.bool an,ln,.bool hs,.int .i64 since,.bool hu,.int .i64 unl,.bool false,.string tag,.int .i64 tm]] w
  fun e w'=>e=.returned (.int .i64 (jd wt hm (mB false am W1 T1 tag true n1) hn (mB false an W2 T2 tag false n2) hs since hu unl false tm))/\Below w.heap.size w w':=by
 have hA:=(Below.refl w.heap.size w).alloc (Nat.le_refl _)
 go_enter Tryz.func116,Tryz.ntmps116
 have E1:Hid (mB false am W1 T1 tag true n1=false):=by simp[Hid,mB]
 have E2:Hid (mB false an W2 T2 tag false n2=false):=by simp[Hid,mB]
 go_wp2
 all_goals
  go_ret
  refine⟨ret_int ?_,hA _⟩
  rw[E1.out,E2.out]
  clear hA E1 E2
  first|(simp[jd, *];done)|(simp_all [jd];done)|(simp_all [jd];omega)
theorem ref_any_any (wt hm hn hs hu:Bool)(since unl tm:Int)(tag:ByteArray)(lm ln:Value)(n1 n2:Nat)(W1 W2:Nat->Bool)(T1 T2:Nat->ByteArray)(w:World) :
 Calls Tryz.prog 116 #[.agg #[.bool wt,.bool hm,.bool true,lm,.bool hn,.bool true,ln,.bool hs,.int .i64 since,.bool hu,.int .i64 unl,.bool true,.string tag,.int .i64 tm]] w
  fun e w'=>e=.returned (.int .i64 (jd wt hm (mB true true W1 T1 tag true n1) hn (mB true true W2 T2 tag false n2) hs since hu unl true tm))/\Below w.heap.size w w':=by
 have hA:=(Below.refl w.heap.size w).alloc (Nat.le_refl _)
 go_enter Tryz.func116,Tryz.ntmps116
 have E1:Hid (mB true true W1 T1 tag true n1=true):=by simp[Hid,mB]
 have E2:Hid (mB true true W2 T2 tag false n2=true):=by simp[Hid,mB]
 go_wp2
 all_goals
  go_ret
  refine⟨ret_int ?_,hA _⟩
  rw[E1.out,E2.out]
  clear hA E1 E2
  first|(simp[jd, *];done)|(simp_all [jd];done)|(simp_all [jd];omega)
end Go.Proofs.YtmehkneofinmiaaGreatDoor.Jd

namespace Go.Proofs.YtmehkneofinmiaaGreatDoor.Jd
open Go.RowKit
theorem ref_any_some (wt hm hn hs hu:Bool)(since unl tm:Int)(tag:ByteArray)(lm ln:Value)(n1 n2:Nat)(W1 W2:Nat->Bool)(T1 T2:Nat->ByteArray)(w:World)(h2:ListAt w ln n2 W2 T2) :
 Calls Tryz.prog 116 #[.agg #[.bool wt,.bool hm,.bool true,lm,.bool hn,.bool false,ln,.bool hs,.int .i64 since,.bool hu,.int .i64 unl,.bool true,.string tag,.int .i64 tm]] w
  fun e w'=>e=.returned (.int .i64 (jd wt hm (mB true true W1 T1 tag true n1) hn (mB true false W2 T2 tag false n2) hs since hu unl true tm))/\Below w.heap.size w w':=by
 have hA:=(Below.refl w.heap.size w).alloc (Nat.le_refl _)
 go_enter Tryz.func116,Tryz.ntmps116
 go_wp2_with fail
 refine (some_l _ n2 W2 T2 _ _ _ (h2.below (hA _))).mono ?_
 rintro e w1 ⟨rfl,rfl⟩
 generalize e2:hits W2 T2 tag false n2=m2
 have E1:Hid (mB true true W1 T1 tag true n1=true):=by simp[Hid,mB]
 have E2:Hid (mB true false W2 T2 tag false n2=m2):=by simp[Hid,mB,e2]
 clear e2 h2
 go_wp2
 all_goals
  go_ret
  refine⟨ret_int ?_,hA _⟩
  rw[E1.out,E2.out]
  clear hA E1 E2
  first|(simp[jd, *];done)|(simp_all [jd];done)|(simp_all [jd];omega)
theorem ref_some_any (wt hm hn hs hu:Bool)(since unl tm:Int)(tag:ByteArray)(lm ln:Value)(n1 n2:Nat)(W1 W2:Nat->Bool)(T1 T2:Nat->ByteArray)(w:World)(h1:ListAt w lm n1 W1 T1) :
 Calls Tryz.prog 116 #[.agg #[.bool wt,.bool hm,.bool false,lm,.bool hn,.bool true,ln,.bool hs,.int .i64 since,.bool hu,.int .i64 unl,.bool true,.string tag,.int .i64 tm]] w
  fun e w'=>e=.returned (.int .i64 (jd wt hm (mB true false W1 T1 tag true n1) hn (mB true true W2 T2 tag false n2) hs since hu unl true tm))/\Below w.heap.size w w':=by
 have hA:=(Below.refl w.heap.size w).alloc (Nat.le_refl _)
 go_enter Tryz.func116,Tryz.ntmps116
 go_wp2_with fail
 refine (some_l _ n1 W1 T1 _ _ _ (h1.below (hA _))).mono ?_
 rintro e w1 ⟨rfl,rfl⟩
 generalize e1:hits W1 T1 tag true n1=m1
 have E1:Hid (mB true false W1 T1 tag true n1=m1):=by simp[Hid,mB,e1]
 have E2:Hid (mB true true W2 T2 tag false n2=true):=by simp[Hid,mB]
 clear e1 h1
 go_wp2
 all_goals
  go_ret
  refine⟨ret_int ?_,hA _⟩
  rw[E1.out,E2.out]
  clear hA E1 E2
  first|(simp[jd, *];done)|(simp_all [jd];done)|(simp_all [jd];omega)
end Go.Proofs.YtmehkneofinmiaaGreatDoor.Jd

namespace Go.Proofs.YtmehkneofinmiaaGreatDoor.Jd
open Go.RowKit
theorem judge_l (wt hm am hn an hs hu th:Bool)(since unl tm:Int)(tag:ByteArray)(lm ln:Value)(n1 n2:Nat)(W1 W2:Nat->Bool)(T1 T2:Nat->ByteArray)(w:World)(h1:ListAt w lm n1 W1 T1)(h2:ListAt w ln n2 W2 T2) :
 Calls Tryz.prog 142 #[.agg #[.bool wt,.bool hm,.bool am,lm,.bool hn,.bool an,ln,.bool hs,.int .i64 since,.bool hu,.int .i64 unl,.bool th,.string tag,.int .i64 tm]] w
  fun e w'=>e=.returned (.int .i64 (jd wt hm (mB th am W1 T1 tag true n1) hn (mB th an W2 T2 tag false n2) hs since hu unl th tm))/\Below w.heap.size w w':=by
 cases hm
 ·exact judge_noM wt am hn an hs hu th since unl tm tag lm ln n1 n2 W1 W2 T1 T2 w h2
 ·exact judge_yesM wt am hn an hs hu th since unl tm tag lm ln n1 n2 W1 W2 T1 T2 w h1 h2
theorem ref_l (wt hm am hn an hs hu th:Bool)(since unl tm:Int)(tag:ByteArray)(lm ln:Value)(n1 n2:Nat)(W1 W2:Nat->Bool)(T1 T2:Nat->ByteArray)(w:World)(h1:ListAt w lm n1 W1 T1)(h2:ListAt w ln n2 W2 T2) :
 Calls Tryz.prog 116 #[.agg #[.bool wt,.bool hm,.bool am,lm,.bool hn,.bool an,ln,.bool hs,.int .i64 since,.bool hu,.int .i64 unl,.bool th,.string tag,.int .i64 tm]] w
  fun e w'=>e=.returned (.int .i64 (jd wt hm (mB th am W1 T1 tag true n1) hn (mB th an W2 T2 tag false n2) hs since hu unl th tm))/\Below w.heap.size w w':=by
 cases th
 ·exact ref_no wt hm am hn an hs hu since unl tm tag lm ln n1 n2 W1 W2 T1 T2 w
 cases am<;>cases an
 ·exact ref_there wt hm hn hs hu since unl tm tag lm ln n1 n2 W1 W2 T1 T2 w h1 h2
 ·exact ref_some_any wt hm hn hs hu since unl tm tag lm ln n1 n2 W1 W2 T1 T2 w h1
 ·exact ref_any_some wt hm hn hs hu since unl tm tag lm ln n1 n2 W1 W2 T1 T2 w h2
 ·exact ref_any_any wt hm hn hs hu since unl tm tag lm ln n1 n2 W1 W2 T1 T2 w
end Go.Proofs.YtmehkneofinmiaaGreatDoor.Jd

namespace Go.Proofs.YtmehkneofinmiaaGreatDoor
open Go.RowKit
theorem hiAsk:(Tryz.prog.info? 93).map (·.size)=some 14:=by kernel_rfl
abbrev askA (wt:Bool) (c:Cst):Array Value:=#[.bool wt,.bool c.hm,.bool c.am,c.lm,.bool c.hn,.bool c.an,c.ln,.bool c.hs,.int .i64 c.si,.bool c.hu,.int .i64 c.ul,.bool false,.string ⟨#[]⟩,.int .i64 0]
theorem weigh_no (wt:Bool)(c:Cst)(v:Ver)(n1 n2:Nat)(W1 W2:Nat->Bool)(T1 T2:Nat->ByteArray)(w:World)(h1:Jd.ListAt w c.lm n1 W1 T1)(h2:Jd.ListAt w c.ln n2 W2 T2)(e1:∃ a n m,c.lm=.slice a n m)(e2:∃ a n m,c.ln=.slice a n m) :
 Calls Tryz.prog 91 #[.agg (askA wt c),verAgg v,.bool false] w fun e w'=>e=.returned (.int .i64 (Jd.jd wt c.hm (Jd.mB false c.am W1 T1 ⟨#[]⟩ true n1) c.hn (Jd.mB false c.an W2 T2 ⟨#[]⟩ false n2) c.hs c.si c.hu c.ul false 0))/\Below w.heap.size w w':=by
 obtain⟨a1,m1,p1,e1⟩:=e1
 obtain⟨a2,m2,p2,e2⟩:=e2
 have H1:Hid _:=h1
 have H2:Hid _:=h2
 clear h1 h2
 unfold askA verAgg
 rw[e1,e2]
 go_enter Tryz.func91,Tryz.ntmps91
 go_wp2_with fail
 have hal:Below w.heap.size w ((w.alloc (.cells #[.bool wt,.bool c.hm,.bool c.am,.slice a1 m1 p1,.bool c.hn,.bool c.an,.slice a2 m2 p2,.bool c.hs,.int .i64 c.si,.bool c.hu,.int .i64 c.ul,.bool false,.string ⟨#[]⟩,.int .i64 0] 93)).alloc (.cells #[.int .i64 v.num,.int .i64 v.time,.bool v.mark,.string ⟨v.body.toArray⟩] 174)):=((Below.refl _ _).alloc (Nat.le_refl _) _).alloc (by simp) _
 have H1':Jd.ListAt ((w.alloc (.cells #[.bool wt,.bool c.hm,.bool c.am,.slice a1 m1 p1,.bool c.hn,.bool c.an,.slice a2 m2 p2,.bool c.hs,.int .i64 c.si,.bool c.hu,.int .i64 c.ul,.bool false,.string ⟨#[]⟩,.int .i64 0] 93)).alloc (.cells #[.int .i64 v.num,.int .i64 v.time,.bool v.mark,.string ⟨v.body.toArray⟩] 174)) c.lm n1 W1 T1:=Jd.ListAt.below H1.out hal
 have H2':Jd.ListAt ((w.alloc (.cells #[.bool wt,.bool c.hm,.bool c.am,.slice a1 m1 p1,.bool c.hn,.bool c.an,.slice a2 m2 p2,.bool c.hs,.int .i64 c.si,.bool c.hu,.int .i64 c.ul,.bool false,.string ⟨#[]⟩,.int .i64 0] 93)).alloc (.cells #[.int .i64 v.num,.int .i64 v.time,.bool v.mark,.string ⟨v.body.toArray⟩] 174)) c.ln n2 W2 T2:=Jd.ListAt.below H2.out hal
 rw[<- e1,<- e2] at *
 refine (Jd.judge_l wt c.hm c.am c.hn c.an c.hs c.hu false c.si c.ul 0 ⟨#[]⟩ c.lm c.ln n1 n2 W1 W2 T1 T2 _ H1' H2').mono ?_
 rintro e w1 ⟨rfl,hb1⟩
 have HB:Hid (Below w.heap.size w w1):=hal.trans (hb1.mono (by simp;omega))
 clear hb1 hal H1' H2'
 go_wp2
 go_ret
 exact⟨rfl,HB.out⟩
theorem weigh_yes (wt:Bool)(c:Cst)(v:Ver)(n1 n2:Nat)(W1 W2:Nat->Bool)(T1 T2:Nat->ByteArray)(w:World)(h1:Jd.ListAt w c.lm n1 W1 T1)(h2:Jd.ListAt w c.ln n2 W2 T2)(e1:∃ a n m,c.lm=.slice a n m)(e2:∃ a n m,c.ln=.slice a n m)(hT:Tz w)(hb:v.body.length<1000000) :
 Calls Tryz.prog 91 #[.agg (askA wt c),verAgg v,.bool true] w fun e w'=>e=.returned (.int .i64 (Jd.jd wt c.hm (Jd.mB true c.am W1 T1 ⟨(hexN 16 (fnv v.body)).toArray⟩ true n1) c.hn (Jd.mB true c.an W2 T2 ⟨(hexN 16 (fnv v.body)).toArray⟩ false n2) c.hs c.si c.hu c.ul true v.time))/\Below w.heap.size w w':=by
 obtain⟨tg,htg⟩:∃ x,hexN 16 (fnv v.body)=x:=⟨_,rfl⟩
 have HTg:Hid (∀ y,Tz y->Calls Tryz.prog 141 #[.string ⟨v.body.toArray⟩] y fun e w'=>e=.returned (.string ⟨tg.toArray⟩)/\Below y.heap.size y w'):=by
  intro y hy
  have:=progTag ⟨v.body.toArray⟩ y (by rw[Lib.size_eq];simp;omega) hy
  rw[<- htg]
  exact this
 rw[htg]
 clear htg
 obtain⟨a1,m1,p1,e1⟩:=e1
 obtain⟨a2,m2,p2,e2⟩:=e2
 have H1:Hid _:=h1
 have H2:Hid _:=h2
 clear h1 h2
 unfold askA verAgg
 rw[e1,e2]
 go_enter Tryz.func91,Tryz.ntmps91
 go_wp2_with fail
 obtain⟨X,hX⟩:∃ X,X=((w.alloc (.cells #[.bool wt,.bool c.hm,.bool c.am,.slice a1 m1 p1,.bool c.hn,.bool c.an,.slice a2 m2 p2,.bool c.hs,.int .i64 c.si,.bool c.hu,.int .i64 c.ul,.bool false,.string ⟨#[]⟩,.int .i64 0] 93)).alloc (.cells #[.int .i64 v.num,.int .i64 v.time,.bool v.mark,.string ⟨v.body.toArray⟩] 174)):=⟨_,rfl⟩
 rw[<- hX]
 have hal:Below w.heap.size w X:=by rw[hX];exact ((Below.refl _ _).alloc (Nat.le_refl _) _).alloc (by simp) _
 have hA:X.heap[w.heap.size]?=some (.cells #[.bool wt,.bool c.hm,.bool c.am,.slice a1 m1 p1,.bool c.hn,.bool c.an,.slice a2 m2 p2,.bool c.hs,.int .i64 c.si,.bool c.hu,.int .i64 c.ul,.bool false,.string ⟨#[]⟩,.int .i64 0] 93 (0,0)):=by
  rw[hX]
  exact (heap_alloc_old _ _ (by simp)).trans (heap_alloc_new _ _)
 have hV:X.heap[w.heap.size+1]?=some (.cells #[.int .i64 v.num,.int .i64 v.time,.bool v.mark,.string ⟨v.body.toArray⟩] 174 (0,0)):=by
  rw[hX]
  have:=heap_alloc_new (w.alloc (.cells #[.bool wt,.bool c.hm,.bool c.am,.slice a1 m1 p1,.bool c.hn,.bool c.an,.slice a2 m2 p2,.bool c.hs,.int .i64 c.si,.bool c.hu,.int .i64 c.ul,.bool false,.string ⟨#[]⟩,.int .i64 0] 93)) (.cells #[.int .i64 v.num,.int .i64 v.time,.bool v.mark,.string ⟨v.body.toArray⟩] 174)
  simpa using this
 have hXl:w.heap.size+1<X.heap.size:=(Array.getElem?_eq_some_iff.1 hV).1
 clear hX
 have v1:X.cell? ⟨w.heap.size+1,1,none⟩=some (.int .i64 v.time):=by simp[World.cell?,hV]
 have v3:X.cell? ⟨w.heap.size+1,3,none⟩=some (.string ⟨v.body.toArray⟩):=by simp[World.cell?,hV]
 have HTX:Hid (Tz X):=hT.below hal
 have HA:Hid _:=hA
 have HV:Hid _:=hV
 have HL:Hid _:=hal
 clear hA hV hal hT
 go_region_held3 (fun y=>y.cell? ⟨w.heap.size+1,1,none⟩=some (.int .i64 v.time)/\y.cell? ⟨w.heap.size+1,3,none⟩=some (.string ⟨v.body.toArray⟩)) (first|assumption|go_keep) (first
  | (go_at_call 141
     refine (HTg.out X.drew HTX.out).mono ?_
     rintro e w1 ⟨rfl,hb1⟩
     have hA1:w1.heap[w.heap.size]?=some (.cells #[.bool wt,.bool c.hm,.bool c.am,.slice a1 m1 p1,.bool c.hn,.bool c.an,.slice a2 m2 p2,.bool c.hs,.int .i64 c.si,.bool c.hu,.int .i64 c.ul,.bool false,.string ⟨#[]⟩,.int .i64 0] 93 (0,0)):=(hb1.block _ (Nat.lt_trans (Nat.lt_succ_self _) hXl)).trans HA.out
     have hS1:w1.cell? ⟨w.heap.size+1,1,none⟩=some (.int .i64 v.time)/\w1.cell? ⟨w.heap.size+1,3,none⟩=some (.string ⟨v.body.toArray⟩):=⟨(hb1.cell (p:=⟨w.heap.size+1,1,none⟩) hXl).trans v1,(hb1.cell (p:=⟨w.heap.size+1,3,none⟩) hXl).trans v3⟩
     have d1:w1.cell? ⟨w.heap.size,11,none⟩=some (.bool false):=(by simp[World.cell?,hA1])
     have d2:w1.cell? ⟨w.heap.size,12,none⟩=some (.string ⟨#[]⟩):=(by simp[World.cell?,hA1])
     have d3:w1.cell? ⟨w.heap.size,13,none⟩=some (.int .i64 0):=(by simp[World.cell?,hA1])
     have f1:w1.frozen? ⟨w.heap.size,11,none⟩=false:=(by simp[World.frozen?,hA1])
     have f2:w1.frozen? ⟨w.heap.size,12,none⟩=false:=(by simp[World.frozen?,hA1])
     have f3:w1.frozen? ⟨w.heap.size,13,none⟩=false:=(by simp[World.frozen?,hA1])
     have HA1:Hid _:=hA1
     have HB1:Hid _:=hb1
     clear hA1 hb1))
 obtain⟨Y,hY⟩:∃ Y,Y=((w1.setCell ⟨w.heap.size,11,none⟩ (.bool true)).setCell ⟨w.heap.size,12,none⟩ (.string ⟨tg.toArray⟩)).setCell ⟨w.heap.size,13,none⟩ (.int .i64 v.time):=⟨_,rfl⟩
 rw[<- hY]
 have hYA:Y.heap[w.heap.size]?=some (.cells #[.bool wt,.bool c.hm,.bool c.am,.slice a1 m1 p1,.bool c.hn,.bool c.an,.slice a2 m2 p2,.bool c.hs,.int .i64 c.si,.bool c.hu,.int .i64 c.ul,.bool true,.string ⟨tg.toArray⟩,.int .i64 v.time] 93 (0,0)):=by
  rw[hY,heap_set (heap_set (heap_set HA1.out))]
  rfl
 have hb1:Below X.heap.size X w1:=⟨HB1.out.os,HB1.out.tape,HB1.out.output,HB1.out.size,HB1.out.block⟩
 have HBY:Hid (Below w.heap.size w Y):=by
  rw[hY]
  exact (((HL.out.trans (hb1.mono HL.out.size)).setCell (p:=⟨w.heap.size,11,none⟩) (Nat.le_refl _) _).setCell (p:=⟨w.heap.size,12,none⟩) (Nat.le_refl _) _).setCell (p:=⟨w.heap.size,13,none⟩) (Nat.le_refl _) _
 have hl1:Jd.ListAt Y c.lm n1 W1 T1:=Jd.ListAt.below H1.out HBY.out
 have hl2:Jd.ListAt Y c.ln n2 W2 T2:=Jd.ListAt.below H2.out HBY.out
 have HYA:Hid _:=hYA
 have HL1:Hid (Jd.ListAt Y c.lm n1 W1 T1):=hl1
 have HL2:Hid (Jd.ListAt Y c.ln n2 W2 T2):=hl2
 clear hY hYA hb1 hl1 hl2 d1 d2 d3 f1 f2 f3 hS1
 go_wp2_with (refine wpList_load_row rfl 93 (.tmp 3) rfl w.heap.size rfl 93 #[.bool wt,.bool c.hm,.bool c.am,.slice a1 m1 p1,.bool c.hn,.bool c.an,.slice a2 m2 p2,.bool c.hs,.int .i64 c.si,.bool c.hu,.int .i64 c.ul,.bool true,.string ⟨tg.toArray⟩,.int .i64 v.time] (0,0) _ HYA.out Tryz.underlying93 rfl hiAsk ?_)
 rw[<- e1,<- e2]
 refine (Jd.judge_l wt c.hm c.am c.hn c.an c.hs c.hu true c.si c.ul v.time ⟨tg.toArray⟩ c.lm c.ln n1 n2 W1 W2 T1 T2 _ HL1.out HL2.out).mono ?_
 rintro e w2 ⟨rfl,hb2⟩
 have HB2:Hid (Below w.heap.size w w2):=HBY.out.trans (hb2.mono HBY.out.size)
 clear hb2
 go_wp2
 go_ret
 exact⟨rfl,HB2.out⟩
end Go.Proofs.YtmehkneofinmiaaGreatDoor
namespace Go.Proofs.YtmehkneofinmiaaGreatDoor
open Go.RowKit
def hitT (t:TagL)(tag:List UInt8)(strong:Bool):Bool:=t.any fun x=>decide (x.2=tag)&&!(strong&&x.1)
def tagW (t:TagL)(i:Nat):Bool:=(t.getD i (false,[])).1
def tagT (t:TagL)(i:Nat):ByteArray:=⟨(t.getD i (false,[])).2.toArray⟩
theorem hits_take (t:TagL)(tag:List UInt8)(strong:Bool)(n:Nat)(h:n<=t.length):Jd.hits (tagW t) (tagT t) ⟨tag.toArray⟩ strong n=hitT (t.take n) tag strong:=by
 induction n with
 | zero=>rfl
 | succ n ih =>
   have hlt:n<t.length:=h
   rw[Jd.hits,ih (by omega),List.take_succ_eq_append_getElem hlt]
   simp only[hitT,List.any_append,List.any_cons,List.any_nil,Bool.or_false]
   congr 1
   simp only[Jd.hit,tagW,tagT,List.getD_eq_getElem?_getD,List.getElem?_eq_getElem hlt,Option.getD_some]
   congr 1
   rw[ByteArray.toList_eq,ByteArray.toList_eq]
theorem hits_all (t:TagL)(tag:List UInt8)(strong:Bool):Jd.hits (tagW t) (tagT t) ⟨tag.toArray⟩ strong t.length=hitT t tag strong:=by
 rw[hits_take t tag strong t.length (Nat.le_refl _),List.take_length]
theorem cellsT_get (t:TagL)(i:Nat)(h:i<t.length):(cellsT t)[i*2]?=some (.bool (tagW t i))/\(cellsT t)[i*2+1]?=some (.string (tagT t i)):=by
 induction t generalizing i with
 | nil=>simp at h
 | cons x t ih =>
   have e:cellsT (x::t)=.bool x.1::.string ⟨x.2.toArray⟩::cellsT t:=by simp[cellsT]
   rw[e]
   cases i with
   | zero=>simp[tagW,tagT]
   | succ i =>
     have h2:=ih i (by simpa using h)
     rw[show (i+1)*2=i*2+1+1 by omega]
     simp only[List.getElem?_cons_succ]
     simpa [tagW,tagT] using h2
theorem listAt_row {w:World}{base:Nat}{v:Value}{t:TagL}(h:w.ownsRow base 303 2 v t.length (cellsT t)):Jd.ListAt w v t.length (tagW t) (tagT t):=by
 rcases h.2 with ⟨rfl,h0⟩|⟨g,cap,cur,rfl,_,hg,hn,hm,hs,htk⟩
 ·exact⟨by omega,Or.inl ⟨_,_,rfl,h0⟩⟩
 ·refine⟨by omega,Or.inr ⟨g,0,cap,rfl,fun i hi=>?_,fun i hi=>?_⟩⟩
  ·have h1:=(cellsT_get t i hi).1
   rw[<- htk,List.getElem?_take_of_lt (by omega)] at h1
   simpa [World.cell?,hg] using h1
  ·have h1:=(cellsT_get t i hi).2
   rw[<- htk,List.getElem?_take_of_lt (by omega)] at h1
   simpa [World.cell?,hg] using h1
def anyT:Option (Bool×TagL)->Bool
 | none=>false
 | some x=>x.1
def lstT:Option (Bool×TagL)->TagL
 | none=>[]
 | some x=>x.2
def hasD:Option (Int×Bool)->Bool
 | none=>false
 | some x=>x.2
def valD:Option (Int×Bool)->Int
 | none=>0
 | some x=>x.1
def tagOf (v:Option Ver):List UInt8:=match v with|none=>[]|some v=>hexN 16 (fnv v.body)
def timeOf (v:Option Ver):Nat:=match v with|none=>0|some v=>v.time
def condF (wt:Bool)(k:Cnd)(v:Option Ver):Nat :=
 (Jd.jd wt k.m.isSome (v.isSome&&(anyT k.m||hitT (lstT k.m) (tagOf v) true)) k.n.isSome (v.isSome&&(anyT k.n||hitT (lstT k.n) (tagOf v) false)) (hasD k.s) (valD k.s) (hasD k.u) (valD k.u) v.isSome (timeOf v:Int)).toNat
theorem jd_nat (wt hm m hn x hs:Bool)(since:Int)(hu:Bool)(unl:Int)(th:Bool)(tm:Int):((Jd.jd wt hm m hn x hs since hu unl th tm).toNat:Int)=Jd.jd wt hm m hn x hs since hu unl th tm:=by
 unfold Jd.jd
 repeat' split
 all_goals rfl
theorem Rl.list {x:World}{g:Nat}{h a:Bool}{l:Value}{s:Bool}{o:Option (Bool×TagL)}(r:Rl x g h a l s o):h=o.isSome/\a=anyT o/\Jd.ListAt x l (lstT o).length (tagW (lstT o)) (tagT (lstT o))/\∃ a n m,l=.slice a n m:=by
 obtain⟨_,r2,r3⟩:=r
 cases o with
 | none =>
   obtain⟨ra,rfl⟩:=r3
   exact⟨r2,ra,⟨by simp[lstT],Or.inl ⟨_,_,rfl,rfl⟩⟩,_,_,_,rfl⟩
 | some p =>
   refine⟨r2,r3.1,listAt_row r3.2,?_⟩
   rcases r3.2.2 with ⟨e,_⟩|⟨g,cap,cur,e,_⟩
   ·exact⟨_,_,_,e⟩
   ·exact⟨_,_,_,e⟩
theorem Rd2.val {h:Bool}{n:Int}{s:Bool}{o:Option (Int×Bool)}(r:Rd2 h n s o):h=hasD o/\n=valD o:=by
 obtain⟨_,r⟩:=r
 cases o with
 | none=>exact r
 | some p=>exact r
theorem weigh_any (wt:Bool)(c:Cst)(k:Cnd)(g:Nat)(v:Ver)(o:Option Ver)(w:World)(hR:Rq w g c k)(hv:∀ u,o=some u->v=u)(hT:Tz w)(hb:∀ u,o=some u->u.body.length<=400) :
 Calls Tryz.prog 91 #[.agg (askA wt c),verAgg v,.bool o.isSome] w fun e w'=>e=.returned (.int .i64 (condF wt k o:Nat))/\Below w.heap.size w w':=by
 obtain⟨m1,m2,m3,m4⟩:=hR.m.list
 obtain⟨n1,n2,n3,n4⟩:=hR.n.list
 obtain⟨s1,s2⟩:=hR.s.val
 obtain⟨u1,u2⟩:=hR.u.val
 cases o with
 | none =>
   refine (weigh_no wt c v _ _ _ _ _ _ w m3 n3 m4 n4).mono ?_
   rintro e w' ⟨rfl,hb⟩
   refine⟨?_,hb⟩
   simp only[condF,jd_nat,Jd.mB,Option.isSome_none,Bool.false_and,timeOf,m1,n1,s1,s2,u1,u2]
   rfl
 | some u =>
   obtain rfl:=hv u rfl
   refine (weigh_yes wt c v _ _ _ _ _ _ w m3 n3 m4 n4 hT (by have:=hb v rfl;omega)).mono ?_
   rintro e w' ⟨rfl,hb⟩
   refine⟨?_,hb⟩
   simp only[condF,jd_nat,Jd.mB,Option.isSome_some,Bool.true_and,timeOf,tagOf,hits_all,m1,m2,n1,n2,s1,s2,u1,u2]
end Go.Proofs.YtmehkneofinmiaaGreatDoor

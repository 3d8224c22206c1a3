/-
 Texts of this proof, part 27.
-/
import Derived.Test.YtmehkneofinmiabGreatDoorP26
set_option maxRecDepth 100000
set_option maxHeartbeats 4000000
namespace Go.Proofs.YtmehkneofinmiabGreatDoor
open Go.RowKit
theorem hiAsk : (Tryz.prog.info? 73).map (·.size) = some 14 := by kernel_rfl
abbrev askA (wt : Bool) (c : Cst) : Array Value := #[.bool wt, .bool c.hm, .bool c.am, c.lm, .bool c.hn, .bool c.an, c.ln, .bool c.hs, .int .i64 c.si, .bool c.hu, .int .i64 c.ul, .bool false, .string ⟨#[]⟩, .int .i64 0]
theorem weigh_no (wt : Bool) (c : Cst) (v : Ver) (n1 n2 : Nat) (W1 W2 : Nat -> Bool) (T1 T2 : Nat -> ByteArray) (w : World) (h1 : Jd.ListAt w c.lm n1 W1 T1) (h2 : Jd.ListAt w c.ln n2 W2 T2) (e1 : ∃ a n m, c.lm = .slice a n m) (e2 : ∃ a n m, c.ln = .slice a n m) :
 Calls Tryz.prog 68 #[.agg (askA wt c), verAgg v, .bool false] w fun e w' => e = .returned (.int .i64 (Jd.jd wt c.hm (Jd.mB false c.am W1 T1 ⟨#[]⟩ true n1) c.hn (Jd.mB false c.an W2 T2 ⟨#[]⟩ false n2) c.hs c.si c.hu c.ul false 0)) /\ Below w.heap.size w w' := by
 obtain ⟨a1, m1, p1, e1⟩ := e1
 obtain ⟨a2, m2, p2, e2⟩ := e2
 have H1 : Hid _ := h1
 have H2 : Hid _ := h2
 clear h1 h2
 unfold askA verAgg
 rw [e1, e2]
 go_enter Tryz.func68, Tryz.ntmps68
 go_wp2_with fail
 have hal : Below w.heap.size w ((w.alloc (.cells #[.bool wt, .bool c.hm, .bool c.am, .slice a1 m1 p1, .bool c.hn, .bool c.an, .slice a2 m2 p2, .bool c.hs, .int .i64 c.si, .bool c.hu, .int .i64 c.ul, .bool false, .string ⟨#[]⟩, .int .i64 0] 73)).alloc (.cells #[.int .i64 v.num, .int .i64 v.time, .bool v.mark, .string ⟨v.body.toArray⟩] 147)) := ((Below.refl _ _).alloc (Nat.le_refl _) _).alloc (by simp) _
 have H1' : Jd.ListAt ((w.alloc (.cells #[.bool wt, .bool c.hm, .bool c.am, .slice a1 m1 p1, .bool c.hn, .bool c.an, .slice a2 m2 p2, .bool c.hs, .int .i64 c.si, .bool c.hu, .int .i64 c.ul, .bool false, .string ⟨#[]⟩, .int .i64 0] 73)).alloc (.cells #[.int .i64 v.num, .int .i64 v.time, .bool v.mark, .string ⟨v.body.toArray⟩] 147)) c.lm n1 W1 T1 := Jd.ListAt.below H1.out hal
 have H2' : Jd.ListAt ((w.alloc (.cells #[.bool wt, .bool c.hm, .bool c.am, .slice a1 m1 p1, .bool c.hn, .bool c.an, .slice a2 m2 p2, .bool c.hs, .int .i64 c.si, .bool c.hu, .int .i64 c.ul, .bool false, .string ⟨#[]⟩, .int .i64 0] 73)).alloc (.cells #[.int .i64 v.num, .int .i64 v.time, .bool v.mark, .string ⟨v.body.toArray⟩] 147)) c.ln n2 W2 T2 := Jd.ListAt.below H2.out hal
 rw [<- e1, <- e2] at *
 refine (Jd.judge_l wt c.hm c.am c.hn c.an c.hs c.hu false c.si c.ul 0 ⟨#[]⟩ c.lm c.ln n1 n2 W1 W2 T1 T2 _ H1' H2').mono ?_
 rintro e w1 ⟨rfl, hb1⟩
 have HB : Hid (Below w.heap.size w w1) := hal.trans (hb1.mono (by simp; omega))
 clear hb1 hal H1' H2'
 go_wp2
 go_ret
 exact ⟨rfl, HB.out⟩
theorem weigh_yes (wt : Bool) (c : Cst) (v : Ver) (n1 n2 : Nat) (W1 W2 : Nat -> Bool) (T1 T2 : Nat -> ByteArray) (w : World) (h1 : Jd.ListAt w c.lm n1 W1 T1) (h2 : Jd.ListAt w c.ln n2 W2 T2) (e1 : ∃ a n m, c.lm = .slice a n m) (e2 : ∃ a n m, c.ln = .slice a n m) (hT : Tz w) (hb : v.body.length < 1000000) :
 Calls Tryz.prog 68 #[.agg (askA wt c), verAgg v, .bool true] w fun e w' => e = .returned (.int .i64 (Jd.jd wt c.hm (Jd.mB true c.am W1 T1 ⟨(hexN 16 (fnv v.body)).toArray⟩ true n1) c.hn (Jd.mB true c.an W2 T2 ⟨(hexN 16 (fnv v.body)).toArray⟩ false n2) c.hs c.si c.hu c.ul true v.time)) /\ Below w.heap.size w w' := by
 obtain ⟨tg, htg⟩ : ∃ x, hexN 16 (fnv v.body) = x := ⟨_, rfl⟩
 have HTg : Hid (∀ y, Tz y -> Calls Tryz.prog 100 #[.string ⟨v.body.toArray⟩] y fun e w' => e = .returned (.string ⟨tg.toArray⟩) /\ Below y.heap.size y w') := by
  intro y hy
  have := progTag ⟨v.body.toArray⟩ y (by rw [Lib.size_eq]; simp; omega) hy
  rw [<- htg]
  exact this
 rw [htg]
 clear htg
 obtain ⟨a1, m1, p1, e1⟩ := e1
 obtain ⟨a2, m2, p2, e2⟩ := e2
 have H1 : Hid _ := h1
 have H2 : Hid _ := h2
 clear h1 h2
 unfold askA verAgg
 rw [e1, e2]
 go_enter Tryz.func68, Tryz.ntmps68
 go_wp2_with fail
 obtain ⟨X, hX⟩ : ∃ X, X = ((w.alloc (.cells #[.bool wt, .bool c.hm, .bool c.am, .slice a1 m1 p1, .bool c.hn, .bool c.an, .slice a2 m2 p2, .bool c.hs, .int .i64 c.si, .bool c.hu, .int .i64 c.ul, .bool false, .string ⟨#[]⟩, .int .i64 0] 73)).alloc (.cells #[.int .i64 v.num, .int .i64 v.time, .bool v.mark, .string ⟨v.body.toArray⟩] 147)) := ⟨_, rfl⟩
 rw [<- hX]
 have hal : Below w.heap.size w X := by rw [hX]; exact ((Below.refl _ _).alloc (Nat.le_refl _) _).alloc (by simp) _
 have hA : X.heap[w.heap.size]? = some (.cells #[.bool wt, .bool c.hm, .bool c.am, .slice a1 m1 p1, .bool c.hn, .bool c.an, .slice a2 m2 p2, .bool c.hs, .int .i64 c.si, .bool c.hu, .int .i64 c.ul, .bool false, .string ⟨#[]⟩, .int .i64 0] 73 (0, 0)) := by
  rw [hX]
  exact (heap_alloc_old _ _ (by simp)).trans (heap_alloc_new _ _)
 have hV : X.heap[w.heap.size + 1]? = some (.cells #[.int .i64 v.num, .int .i64 v.time, .bool v.mark, .string ⟨v.body.toArray⟩] 147 (0, 0)) := by
  rw [hX]
  have := heap_alloc_new (w.alloc (.cells #[.bool wt, .bool c.hm, .bool c.am, .slice a1 m1 p1, .bool c.hn, .bool c.an, .slice a2 m2 p2, .bool c.hs, .int .i64 c.si, .bool c.hu, .int .i64 c.ul, .bool false, .string ⟨#[]⟩, .int .i64 0] 73)) (.cells #[.int .i64 v.num, .int .i64 v.time, .bool v.mark, .string ⟨v.body.toArray⟩] 147)
  simpa using this
 have hXl : w.heap.size + 1 < X.heap.size := (Array.getElem?_eq_some_iff.1 hV).1
 clear hX
 have v1 : X.cell? ⟨w.heap.size + 1, 1, none⟩ = some (.int .i64 v.time) := by simp [World.cell?, hV]
 have v3 : X.cell? ⟨w.heap.size + 1, 3, none⟩ = some (.string ⟨v.body.toArray⟩) := by simp [World.cell?, hV]
 have HTX : Hid (Tz X) := hT.below hal
 have HA : Hid _ := hA
 have HV : Hid _ := hV
 have HL : Hid _ := hal
 clear hA hV hal hT
 go_region_held3 (fun y => y.cell? ⟨w.heap.size + 1, 1, none⟩ = some (.int .i64 v.time) /\ y.cell? ⟨w.heap.size + 1, 3, none⟩ = some (.string ⟨v.body.toArray⟩)) (first | assumption | go_keep) (first
  | (go_at_call 100
     refine (HTg.out X.drew HTX.out).mono ?_
     rintro e w1 ⟨rfl, hb1⟩
     have hA1 : w1.heap[w.heap.size]? = some (.cells #[.bool wt, .bool c.hm, .bool c.am, .slice a1 m1 p1, .bool c.hn, .bool c.an, .slice a2 m2 p2, .bool c.hs, .int .i64 c.si, .bool c.hu, .int .i64 c.ul, .bool false, .string ⟨#[]⟩, .int .i64 0] 73 (0, 0)) := (hb1.block _ (Nat.lt_trans (Nat.lt_succ_self _) hXl)).trans HA.out
     have hS1 : w1.cell? ⟨w.heap.size + 1, 1, none⟩ = some (.int .i64 v.time) /\ w1.cell? ⟨w.heap.size + 1, 3, none⟩ = some (.string ⟨v.body.toArray⟩) := ⟨(hb1.cell (p := ⟨w.heap.size + 1, 1, none⟩) hXl).trans v1, (hb1.cell (p := ⟨w.heap.size + 1, 3, none⟩) hXl).trans v3⟩
     have d1 : w1.cell? ⟨w.heap.size, 11, none⟩ = some (.bool false) := (by simp [World.cell?, hA1])
     have d2 : w1.cell? ⟨w.heap.size, 12, none⟩ = some (.string ⟨#[]⟩) := (by simp [World.cell?, hA1])
     have d3 : w1.cell? ⟨w.heap.size, 13, none⟩ = some (.int .i64 0) := (by simp [World.cell?, hA1])
     have f1 : w1.frozen? ⟨w.heap.size, 11, none⟩ = false := (by simp [World.frozen?, hA1])
     have f2 : w1.frozen? ⟨w.heap.size, 12, none⟩ = false := (by simp [World.frozen?, hA1])
     have f3 : w1.frozen? ⟨w.heap.size, 13, none⟩ = false := (by simp [World.frozen?, hA1])
     have HA1 : Hid _ := hA1
     have HB1 : Hid _ := hb1
     clear hA1 hb1))
 obtain ⟨Y, hY⟩ : ∃ Y, Y = ((w1.setCell ⟨w.heap.size, 11, none⟩ (.bool true)).setCell ⟨w.heap.size, 12, none⟩ (.string ⟨tg.toArray⟩)).setCell ⟨w.heap.size, 13, none⟩ (.int .i64 v.time) := ⟨_, rfl⟩
 rw [<- hY]
 have hYA : Y.heap[w.heap.size]? = some (.cells #[.bool wt, .bool c.hm, .bool c.am, .slice a1 m1 p1, .bool c.hn, .bool c.an, .slice a2 m2 p2, .bool c.hs, .int .i64 c.si, .bool c.hu, .int .i64 c.ul, .bool true, .string ⟨tg.toArray⟩, .int .i64 v.time] 73 (0, 0)) := by
  rw [hY, heap_set (heap_set (heap_set HA1.out))]
  rfl
 have hb1 : Below X.heap.size X w1 := ⟨HB1.out.os, HB1.out.tape, HB1.out.output, HB1.out.size, HB1.out.block⟩
 have HBY : Hid (Below w.heap.size w Y) := by
  rw [hY]
  exact (((HL.out.trans (hb1.mono HL.out.size)).setCell (p := ⟨w.heap.size, 11, none⟩) (Nat.le_refl _) _).setCell (p := ⟨w.heap.size, 12, none⟩) (Nat.le_refl _) _).setCell (p := ⟨w.heap.size, 13, none⟩) (Nat.le_refl _) _
 have hl1 : Jd.ListAt Y c.lm n1 W1 T1 := Jd.ListAt.below H1.out HBY.out
 have hl2 : Jd.ListAt Y c.ln n2 W2 T2 := Jd.ListAt.below H2.out HBY.out
 have HYA : Hid _ := hYA
 have HL1 : Hid (Jd.ListAt Y c.lm n1 W1 T1) := hl1
 have HL2 : Hid (Jd.ListAt Y c.ln n2 W2 T2) := hl2
 clear hY hYA hb1 hl1 hl2 d1 d2 d3 f1 f2 f3 hS1
 go_wp2_with (refine wpList_load_row rfl 73 (.tmp 3) rfl w.heap.size rfl 73 #[.bool wt, .bool c.hm, .bool c.am, .slice a1 m1 p1, .bool c.hn, .bool c.an, .slice a2 m2 p2, .bool c.hs, .int .i64 c.si, .bool c.hu, .int .i64 c.ul, .bool true, .string ⟨tg.toArray⟩, .int .i64 v.time] (0, 0) _ HYA.out Tryz.underlying73 rfl hiAsk ?_)
 rw [<- e1, <- e2]
 refine (Jd.judge_l wt c.hm c.am c.hn c.an c.hs c.hu true c.si c.ul v.time ⟨tg.toArray⟩ c.lm c.ln n1 n2 W1 W2 T1 T2 _ HL1.out HL2.out).mono ?_
 rintro e w2 ⟨rfl, hb2⟩
 have HB2 : Hid (Below w.heap.size w w2) := HBY.out.trans (hb2.mono HBY.out.size)
 clear hb2
 go_wp2
 go_ret
 exact ⟨rfl, HB2.out⟩
def hitT (t : TagL) (tag : List UInt8) (strong : Bool) : Bool := t.any fun x => decide (x.2 = tag) && !(strong && x.1)
def tagW (t : TagL) (i : Nat) : Bool := (t.getD i (false, [])).1
def tagT (t : TagL) (i : Nat) : ByteArray := ⟨(t.getD i (false, [])).2.toArray⟩
theorem hits_take (t : TagL) (tag : List UInt8) (strong : Bool) (n : Nat) (h : n <= t.length) : Jd.hits (tagW t) (tagT t) ⟨tag.toArray⟩ strong n = hitT (t.take n) tag strong := by
 induction n with
 | zero => rfl
 | succ n ih =>
   have hlt : n < t.length := h
   rw [Jd.hits, ih (by omega), List.take_succ_eq_append_getElem hlt]
   simp only [hitT, List.any_append, List.any_cons, List.any_nil, Bool.or_false]
   congr 1
   simp only [Jd.hit, tagW, tagT, List.getD_eq_getElem?_getD, List.getElem?_eq_getElem hlt, Option.getD_some]
   congr 1
   rw [ByteArray.toList_eq, ByteArray.toList_eq]
theorem hits_all (t : TagL) (tag : List UInt8) (strong : Bool) : Jd.hits (tagW t) (tagT t) ⟨tag.toArray⟩ strong t.length = hitT t tag strong := by
 rw [hits_take t tag strong t.length (Nat.le_refl _), List.take_length]
theorem cellsT_get (t : TagL) (i : Nat) (h : i < t.length) : (cellsT t)[i * 2]? = some (.bool (tagW t i)) /\ (cellsT t)[i * 2 + 1]? = some (.string (tagT t i)) := by
 induction t generalizing i with
 | nil => simp at h
 | cons x t ih =>
   have e : cellsT (x::t) = .bool x.1::.string ⟨x.2.toArray⟩::cellsT t := by simp [cellsT]
   rw [e]
   cases i with
   | zero => simp [tagW, tagT]
   | succ i =>
     have h2 := ih i (by simpa using h)
     rw [show (i + 1) * 2 = i * 2 + 1 + 1 by omega]
     simp only [List.getElem?_cons_succ]
     simpa [tagW, tagT] using h2
theorem listAt_row {w : World} {base : Nat} {v : Value} {t : TagL} (h : w.ownsRow base 273 2 v t.length (cellsT t)) : Jd.ListAt w v t.length (tagW t) (tagT t) := by
 rcases h.2 with ⟨rfl, h0⟩ | ⟨g, cap, cur, rfl, _, hg, hn, hm, hs, htk⟩
 ·exact ⟨by omega, Or.inl ⟨_, _, rfl, h0⟩⟩
 ·refine ⟨by omega, Or.inr ⟨g, 0, cap, rfl, fun i hi => ?_, fun i hi => ?_⟩⟩
  ·have h1 := (cellsT_get t i hi).1
   rw [<- htk, List.getElem?_take_of_lt (by omega)] at h1
   simpa [World.cell?, hg] using h1
  ·have h1 := (cellsT_get t i hi).2
   rw [<- htk, List.getElem?_take_of_lt (by omega)] at h1
   simpa [World.cell?, hg] using h1
def anyT : Option (Bool × TagL) -> Bool
 | none => false
 | some x => x.1
def lstT : Option (Bool × TagL) -> TagL
 | none => []
 | some x => x.2
def hasD : Option (Int × Bool) -> Bool
 | none => false
 | some x => x.2
def valD : Option (Int × Bool) -> Int
 | none => 0
 | some x => x.1
def tagOf (v : Option Ver) : List UInt8 := match v with | none => [] | some v => hexN 16 (fnv v.body)
def timeOf (v : Option Ver) : Nat := match v with | none => 0 | some v => v.time
def condF (wt : Bool) (k : Cnd) (v : Option Ver) : Nat :=
 (Jd.jd wt k.m.isSome (v.isSome && (anyT k.m || hitT (lstT k.m) (tagOf v) true)) k.n.isSome (v.isSome && (anyT k.n || hitT (lstT k.n) (tagOf v) false)) (hasD k.s) (valD k.s) (hasD k.u) (valD k.u) v.isSome (timeOf v : Int)).toNat
theorem jd_nat (wt hm m hn x hs : Bool) (since : Int) (hu : Bool) (unl : Int) (th : Bool) (tm : Int) : ((Jd.jd wt hm m hn x hs since hu unl th tm).toNat : Int) = Jd.jd wt hm m hn x hs since hu unl th tm := by
 unfold Jd.jd
 repeat' split
 all_goals rfl
theorem Rl.list {x : World} {g : Nat} {h a : Bool} {l : Value} {s : Bool} {o : Option (Bool × TagL)} (r : Rl x g h a l s o) : h = o.isSome /\ a = anyT o /\ Jd.ListAt x l (lstT o).length (tagW (lstT o)) (tagT (lstT o)) /\ ∃ a n m, l = .slice a n m := by
 obtain ⟨_, r2, r3⟩ := r
 cases o with
 | none =>
   obtain ⟨ra, rfl⟩ := r3
   exact ⟨r2, ra, ⟨by simp [lstT], Or.inl ⟨_, _, rfl, rfl⟩⟩, _, _, _, rfl⟩
 | some p =>
   refine ⟨r2, r3.1, listAt_row r3.2, ?_⟩
   rcases r3.2.2 with ⟨e, _⟩ | ⟨g, cap, cur, e, _⟩
   ·exact ⟨_, _, _, e⟩
   ·exact ⟨_, _, _, e⟩
theorem Rd2.val {h : Bool} {n : Int} {s : Bool} {o : Option (Int × Bool)} (r : Rd2 h n s o) : h = hasD o /\ n = valD o := by
 obtain ⟨_, r⟩ := r
 cases o with
 | none => exact r
 | some p => exact r
theorem weigh_any (wt : Bool) (c : Cst) (k : Cnd) (g : Nat) (v : Ver) (o : Option Ver) (w : World) (hR : Rq w g c k) (hv : ∀ u, o = some u -> v = u) (hT : Tz w) (hb : ∀ u, o = some u -> u.body.length <= 400) :
 Calls Tryz.prog 68 #[.agg (askA wt c), verAgg v, .bool o.isSome] w fun e w' => e = .returned (.int .i64 (condF wt k o : Nat)) /\ Below w.heap.size w w' := by
 obtain ⟨m1, m2, m3, m4⟩ := hR.m.list
 obtain ⟨n1, n2, n3, n4⟩ := hR.n.list
 obtain ⟨s1, s2⟩ := hR.s.val
 obtain ⟨u1, u2⟩ := hR.u.val
 cases o with
 | none =>
   refine (weigh_no wt c v _ _ _ _ _ _ w m3 n3 m4 n4).mono ?_
   rintro e w' ⟨rfl, hb⟩
   refine ⟨?_, hb⟩
   simp only [condF, jd_nat, Jd.mB, Option.isSome_none, Bool.false_and, timeOf, m1, n1, s1, s2, u1, u2]
   rfl
 | some u =>
   obtain rfl := hv u rfl
   refine (weigh_yes wt c v _ _ _ _ _ _ w m3 n3 m4 n4 hT (by have := hb v rfl; omega)).mono ?_
   rintro e w' ⟨rfl, hb⟩
   refine ⟨?_, hb⟩
   simp only [condF, jd_nat, Jd.mB, Option.isSome_some, Bool.true_and, timeOf, tagOf, hits_all, m1, m2, n1, n2, s1, s2, u1, u2]
theorem changeKey_no (g o p s : Nat) (k t n told : Nat) (key body : List UInt8) (w : World)
 (h : ∀ y, Below w.heap.size w y -> Calls Tryz.prog 102 #[.pointer (some ⟨g, o, none⟩), .pointer (some ⟨p, 0, none⟩), recA k t key n body, bookC s] y fun e w' => e = .returned (.tuple #[.int .i64 told, .bool false]) /\ Below y.heap.size y w') :
 Calls Tryz.prog 69 #[.pointer (some ⟨g, o, none⟩), .pointer (some ⟨p, 0, none⟩), recA k t key n body, bookC s] w fun e w' => e = .returned (.agg #[.int .i64 told, .slice none 0 0, .string ⟨#[]⟩]) /\ Below w.heap.size w w' := by
 have HC : Hid _ := h
 clear h
 go_enter Tryz.func69, Tryz.ntmps69
 go_wp2_with fail
 obtain ⟨X, hX⟩ : ∃ X, X = ((w.alloc (.cells #[.int .u8 k, .int .i64 t, .string ⟨key.toArray⟩, .int .i64 n, .string ⟨body.toArray⟩] 108)).alloc (.cells #[.int .i64 0, .slice none 0 0, .string ⟨#[]⟩] 80)) := ⟨_, rfl⟩
 rw [<- hX]
 have hal : Below w.heap.size w X := by rw [hX]; exact ((Below.refl _ _).alloc (Nat.le_refl _) _).alloc (by simp) _
 have hZ : X.heap[w.heap.size + 1]? = some (.cells #[.int .i64 0, .slice none 0 0, .string ⟨#[]⟩] 80 (0, 0)) := by
  rw [hX]
  have := heap_alloc_new (w.alloc (.cells #[.int .u8 k, .int .i64 t, .string ⟨key.toArray⟩, .int .i64 n, .string ⟨body.toArray⟩] 108)) (.cells #[.int .i64 0, .slice none 0 0, .string ⟨#[]⟩] 80)
  simpa using this
 have hXl : w.heap.size + 1 < X.heap.size := (Array.getElem?_eq_some_iff.1 hZ).1
 clear hX
 refine (HC.out X hal).mono ?_
 rintro e w1 ⟨rfl, hb1⟩
 have HB1 : Hid (Below w.heap.size w w1) := hal.trans (hb1.mono hal.size)
 have HZ1 : Hid _ := (hb1.block _ hXl).trans hZ
 have hl1 : w.heap.size + 1 < w1.heap.size := Nat.lt_of_lt_of_le hXl hb1.size
 clear hb1 hZ hal
 go_wp2_with fail
 refine (refuse_any told _).mono ?_
 rintro e w2 ⟨rfl, hb2⟩
 have hZ2 := (hb2.block _ hl1).trans HZ1.out
 have z0 : w2.cell? ⟨w.heap.size + 1, 0, none⟩ = some (.int .i64 0) := by simp [World.cell?, hZ2]
 have z1 : w2.cell? ⟨w.heap.size + 1, 1, none⟩ = some (.slice none 0 0) := by simp [World.cell?, hZ2]
 have z2 : w2.cell? ⟨w.heap.size + 1, 2, none⟩ = some (.string ⟨#[]⟩) := by simp [World.cell?, hZ2]
 have zf0 : w2.frozen? ⟨w.heap.size + 1, 0, none⟩ = false := by simp [World.frozen?, hZ2]
 have zf1 : w2.frozen? ⟨w.heap.size + 1, 1, none⟩ = false := by simp [World.frozen?, hZ2]
 have zf2 : w2.frozen? ⟨w.heap.size + 1, 2, none⟩ = false := by simp [World.frozen?, hZ2]
 have HZ2 : Hid _ := hZ2
 have HB2 : Hid (Below w.heap.size w w2) := HB1.out.trans (hb2.mono HB1.out.size)
 clear hb2 hZ2
 go_wp2
 have hs := heap_set (i := 2) (v := .string ⟨#[]⟩) (heap_set (i := 1) (v := .slice none 0 0) (heap_set (i := 0) (v := .int .i64 told) HZ2.out))
 exact bodyPost_ret (v := .agg #[.int .i64 told, .slice none 0 0, .string ⟨#[]⟩]) (results_row1 Tryz.results69 _ _ (w.heap.size + 1) 80 _ (0, 0) _ rfl hs Tryz.underlying80 rfl hiAns) rfl ⟨rfl, ((HB2.out.setCell (p := ⟨w.heap.size + 1, 0, none⟩) (Nat.le_succ _) _).setCell (p := ⟨w.heap.size + 1, 1, none⟩) (Nat.le_succ _) _).setCell (p := ⟨w.heap.size + 1, 2, none⟩) (Nat.le_succ _) _⟩
def Loc (n : Nat) (a : World) (k : Nat) : Prop := n <= k /\ ∃ c f, a.heap[k]? = some (.cells c 80 f)
theorem changeKey_put (g o p s : Nat) (t n told : Nat) (key body : List UInt8) (w : World) (R : World -> Prop) (hR : ∀ a b, R a -> Off (Loc w.heap.size a) a b -> R b) (hRT : ∀ a, R a -> Tz a /\ Tab a) (hbl : body.length < 1000000) (hnl : n < 1000000000000000)
 (h : ∀ y, Below w.heap.size w y -> Calls Tryz.prog 102 #[.pointer (some ⟨g, o, none⟩), .pointer (some ⟨p, 0, none⟩), recA 1 t key n body, bookC s] y fun e w' => e = .returned (.tuple #[.int .i64 told, .bool true]) /\ R w' /\ (∀ k, w.heap.size <= k -> k < y.heap.size -> w'.heap[k]? = y.heap[k]?) /\ y.heap.size <= w'.heap.size) :
 Calls Tryz.prog 69 #[.pointer (some ⟨g, o, none⟩), .pointer (some ⟨p, 0, none⟩), recA 1 t key n body, bookC s] w fun e w' => ∃ gs, e = .returned (.agg #[.int .i64 told, .slice (some ⟨gs, 0, none⟩) 2 2, .string ⟨#[]⟩]) /\ R w' /\ w'.ownsRow 0 124 2 (.slice (some ⟨gs, 0, none⟩) 2 2) 2 (fldRow [⟨[69, 84, 97, 103], qTag body⟩, ⟨[86, 101, 114, 115, 105, 111, 110], Lib.decDigits n⟩]) := by
 obtain ⟨tg, htg⟩ : ∃ x, qTag body = x := ⟨_, rfl⟩
 obtain ⟨nn, hnn⟩ : ∃ x, Lib.decDigits n = x := ⟨_, rfl⟩
 have HC1 : Hid (∀ y, Tz y -> Calls Tryz.prog 104 #[.string ⟨body.toArray⟩] y fun e w' => e = .returned (.agg #[.string ⟨#[69, 84, 97, 103]⟩, .string ⟨tg.toArray⟩]) /\ Below y.heap.size y w') := by
  rw [<- htg]; exact fun y hy => tagField_any body y hbl hy
 have HC3 : Hid (∀ y, Tab y -> Calls Tryz.prog 105 #[.int .i64 n] y fun e w' => e = .returned (.agg #[.string ⟨#[86, 101, 114, 115, 105, 111, 110]⟩, .string ⟨nn.toArray⟩]) /\ Below y.heap.size y w') := by
  rw [<- hnn]; exact fun y hy => numberField_any n y hnl hy
 have HF : Hid (fldRow [⟨[69, 84, 97, 103], qTag body⟩, ⟨[86, 101, 114, 115, 105, 111, 110], Lib.decDigits n⟩] = [.string ⟨#[69, 84, 97, 103]⟩, .string ⟨tg.toArray⟩, .string ⟨#[86, 101, 114, 115, 105, 111, 110]⟩, .string ⟨nn.toArray⟩]) := by
  show _ = _
  rw [<- htg, <- hnn]
  rfl
 clear htg hnn
 have HC : Hid _ := h
 clear h
 go_enter Tryz.func69, Tryz.ntmps69
 go_wp2_with fail
 obtain ⟨X, hX⟩ : ∃ X, X = ((w.alloc (.cells #[.int .u8 1, .int .i64 t, .string ⟨key.toArray⟩, .int .i64 n, .string ⟨body.toArray⟩] 108)).alloc (.cells #[.int .i64 0, .slice none 0 0, .string ⟨#[]⟩] 80)) := ⟨_, rfl⟩
 rw [<- hX]
 have hal : Below w.heap.size w X := by rw [hX]; exact ((Below.refl _ _).alloc (Nat.le_refl _) _).alloc (by simp) _
 have hQ : X.heap[w.heap.size]? = some (.cells #[.int .u8 1, .int .i64 t, .string ⟨key.toArray⟩, .int .i64 n, .string ⟨body.toArray⟩] 108 (0, 0)) := by
  rw [hX]
  exact (heap_alloc_old _ _ (by simp)).trans (heap_alloc_new _ _)
 have hZ : X.heap[w.heap.size + 1]? = some (.cells #[.int .i64 0, .slice none 0 0, .string ⟨#[]⟩] 80 (0, 0)) := by
  rw [hX]
  have := heap_alloc_new (w.alloc (.cells #[.int .u8 1, .int .i64 t, .string ⟨key.toArray⟩, .int .i64 n, .string ⟨body.toArray⟩] 108)) (.cells #[.int .i64 0, .slice none 0 0, .string ⟨#[]⟩] 80)
  simpa using this
 have hXl : w.heap.size + 1 < X.heap.size := (Array.getElem?_eq_some_iff.1 hZ).1
 clear hX
 refine (HC.out X hal).mono ?_
 rintro e w1 ⟨rfl, hR1, hk1, hs1⟩
 have hQ1 : w1.heap[w.heap.size]? = _ := (hk1 _ (Nat.le_refl _) (by omega)).trans hQ
 have hZ1 : w1.heap[w.heap.size + 1]? = _ := (hk1 _ (Nat.le_succ _) hXl).trans hZ
 have r0 : w1.cell? ⟨w.heap.size, 0, none⟩ = some (.int .u8 1) := by simp [World.cell?, hQ1]
 have r3 : w1.cell? ⟨w.heap.size, 3, none⟩ = some (.int .i64 n) := by simp [World.cell?, hQ1]
 have r4 : w1.cell? ⟨w.heap.size, 4, none⟩ = some (.string ⟨body.toArray⟩) := by simp [World.cell?, hQ1]
 have HQ1 : Hid _ := hQ1
 have HZ1 : Hid _ := hZ1
 have HR1 : Hid _ := hR1
 clear hQ1 hZ1 hR1 hk1 hQ hZ hal
 go_wp2_with fail
 have hl0 : w.heap.size < w1.heap.size := by omega
 have hl1 : w.heap.size + 1 < w1.heap.size := by omega
 have HS : Hid (∀ y, Below w1.heap.size w1 y -> (y.cell? ⟨w.heap.size, 3, none⟩ = some (.int .i64 n) /\ y.cell? ⟨w.heap.size, 4, none⟩ = some (.string ⟨body.toArray⟩)) /\ Tz y /\ Tab y) := by
  intro y hy
  exact ⟨⟨(hy.cell (p := ⟨w.heap.size, 3, none⟩) hl0).trans r3, (hy.cell (p := ⟨w.heap.size, 4, none⟩) hl0).trans r4⟩, (hRT _ HR1.out).1.below hy, (hRT _ HR1.out).2.below hy⟩
 have g0 : Below w1.heap.size w1 w1.drew := (Below.refl _ _).drew
 refine wp_region_held_drew (S := (fun y => y.cell? ⟨w.heap.size, 3, none⟩ = some (.int .i64 n) /\ y.cell? ⟨w.heap.size, 4, none⟩ = some (.string ⟨body.toArray⟩))) (by kernel_rfl) ⟨r3, r4⟩ (fun hHeld => ?_)
 refine tkH 0 rfl (by kernel_rfl) (fun _ _ _ h => h) (Or.inl ⟨by rfl, fun y hSw => by go_simp; try with_reducible rfl⟩) hHeld ?_
 try simp only [Act.put]
 refine tkH 1 rfl (by kernel_rfl) (fun _ _ _ h => h) (Or.inl ⟨by rfl, fun y hSw => by go_simp; try with_reducible rfl⟩) hHeld ?_
 try simp only [Act.put]
 refine tkH 2 rfl (by kernel_rfl) (fun _ _ _ h => h) (Or.inl ⟨by rfl, fun y hSw => by go_simp; try with_reducible rfl⟩) hHeld ?_
 try simp only [Act.put]
 refine tkH 4 rfl (by kernel_rfl) (fun _ _ _ h => h) (Or.inl ⟨by rfl, fun y hSw => by go_simp; try with_reducible rfl⟩) hHeld ?_
 try simp only [Act.put]
 refine tkH 5 rfl (by kernel_rfl) (fun _ _ _ h => h) (Or.inl ⟨by rfl, fun y hSw => by go_simp; try with_reducible rfl⟩) hHeld ?_
 try simp only [Act.put]
 refine wpAnyH_ready (rs := [3]) (by kernel_rfl) (by simp) ?_
 refine AllReadyH.cons rfl (fun K hK => ?_) AllReadyH.nil
 go_simp
 refine (HC1.out w1.drew (HS.out _ g0).2.1).mono ?_
 rintro e y1 ⟨rfl, h1⟩
 have g1 : Below w1.heap.size w1 y1 := g0.trans (h1.mono g0.size)
 clear h1
 try go_wp2_with fail
 refine hK.out _ _ (HS.out _ g1).1 (fun hHeld => ?_)
 clear hK K
 try simp only [Act.put]
 refine wpAnyH_ready (rs := [6]) (by kernel_rfl) (by simp) ?_
 refine AllReadyH.cons rfl (fun K hK => ?_) AllReadyH.nil
 go_simp
 refine (HC3.out y1 (HS.out _ g1).2.2).mono ?_
 rintro e y2 ⟨rfl, h2⟩
 have g2 : Below w1.heap.size w1 y2 := g1.trans (h2.mono g1.size)
 clear h2
 try go_wp2_with fail
 refine hK.out _ _ (HS.out _ g2).1 (fun hHeld => ?_)
 clear hK K
 try simp only [Act.put]
 refine wpAnyH_ready (rs := [7]) (by kernel_rfl) (by simp) ?_
 refine AllReadyH.cons rfl (fun K hK => ?_) AllReadyH.nil
 go_simp
 obtain ⟨s3, hs3⟩ : ∃ x, x = y2.alloc (.cells #[.string ⟨#[69, 84, 97, 103]⟩, .string ⟨tg.toArray⟩, .string ⟨#[86, 101, 114, 115, 105, 111, 110]⟩, .string ⟨nn.toArray⟩] 124) := ⟨_, rfl⟩
 rw [<- hs3]
 obtain ⟨q3, hq3⟩ : ∃ x, x = y2.heap.size := ⟨_, rfl⟩
 rw [<- hq3]
 have g3 : Below w1.heap.size w1 s3 := by rw [hs3]; exact g2.alloc g2.size _
 have k3 : s3.heap[q3]? = some (.cells #[.string ⟨#[69, 84, 97, 103]⟩, .string ⟨tg.toArray⟩, .string ⟨#[86, 101, 114, 115, 105, 111, 110]⟩, .string ⟨nn.toArray⟩] 124 (0, 0)) := by rw [hs3, hq3]; exact heap_alloc_new _ _
 clear hs3 hq3
 refine hK.out _ _ (HS.out _ g3).1 (fun hHeld => ?_)
 clear hK K
 try simp only [Act.put]
 refine wpAnyH_ready (rs := [8]) (by kernel_rfl) (by simp) ?_
 refine AllReadyH.cons rfl (fun K hK => ?_) AllReadyH.nil
 go_simp
 refine (answer_any told (some ⟨q3, 0, none⟩) 2 2 s3).mono ?_
 rintro e y4 ⟨rfl, h4⟩
 have g4 : Below w1.heap.size w1 y4 := g3.trans (h4.mono g3.size)
 have k4 : y4.heap[q3]? = some (.cells #[.string ⟨#[69, 84, 97, 103]⟩, .string ⟨tg.toArray⟩, .string ⟨#[86, 101, 114, 115, 105, 111, 110]⟩, .string ⟨nn.toArray⟩] 124 (0, 0)) := (h4.block _ (Array.getElem?_eq_some_iff.1 k3).1).trans k3
 clear h4
 try go_wp2_with fail
 refine hK.out _ _ (HS.out _ g4).1 (fun hHeld => ?_)
 clear hK K
 try simp only [Act.put]
 refine wpAnyH_ready (rs := [9]) (by kernel_rfl) (by simp) ?_
 refine AllReadyH.cons rfl (fun K hK => ?_) AllReadyH.nil
 have hZ4 := (g4.block _ hl1).trans HZ1.out
 have c0 : y4.cell? ⟨w.heap.size + 1, 0, none⟩ = some (.int .i64 0) := by simp [World.cell?, hZ4]
 have c1 : y4.cell? ⟨w.heap.size + 1, 1, none⟩ = some (.slice none 0 0) := by simp [World.cell?, hZ4]
 have c2 : y4.cell? ⟨w.heap.size + 1, 2, none⟩ = some (.string ⟨#[]⟩) := by simp [World.cell?, hZ4]
 have f0 : y4.frozen? ⟨w.heap.size + 1, 0, none⟩ = false := by simp [World.frozen?, hZ4]
 have f1 : y4.frozen? ⟨w.heap.size + 1, 1, none⟩ = false := by simp [World.frozen?, hZ4]
 have f2 : y4.frozen? ⟨w.heap.size + 1, 2, none⟩ = false := by simp [World.frozen?, hZ4]
 have hne : w.heap.size ≠ w.heap.size + 1 := by omega
 have HZ4 : Hid _ := hZ4
 clear hZ4
 go_simp
 refine hK.out _ _ ⟨?_, ?_⟩ (fun hHeld => ?_)
 ·rw [cell_set_far hne, cell_set_far hne, cell_set_far hne]; exact (HS.out _ g4).1.1
 ·rw [cell_set_far hne, cell_set_far hne, cell_set_far hne]; exact (HS.out _ g4).1.2
 clear hK K
 try simp only [Act.put]
 refine wpAnyH_done (by kernel_rfl) ?_ _
 go_wp2
 have hnq : q3 ≠ w.heap.size + 1 := ne_of_types k4 HZ4.out (by decide)
 have hs := heap_set (i := 2) (v := .string ⟨#[]⟩) (heap_set (i := 1) (v := .slice (some ⟨q3, 0, none⟩) 2 2) (heap_set (i := 0) (v := .int .i64 told) HZ4.out))
 refine bodyPost_ret (v := .agg #[.int .i64 told, .slice (some ⟨q3, 0, none⟩) 2 2, .string ⟨#[]⟩]) (results_row1 Tryz.results69 _ _ (w.heap.size + 1) 80 _ (0, 0) _ rfl hs Tryz.underlying80 rfl hiAns) rfl ⟨q3, rfl, ?_, ?_⟩
 ·have hR4 : R y4 := hR _ _ HR1.out (Off.of_below g4)
  exact hR _ _ hR4 ((((Off.refl _ _).set _ 0 _ (Or.inl ⟨Nat.le_succ _, _, _, HZ4.out⟩)).set _ 1 _ (Or.inl ⟨Nat.le_succ _, _, _, HZ4.out⟩)).set _ 2 _ (Or.inl ⟨Nat.le_succ _, _, _, HZ4.out⟩))
 ·refine flds_own (l := [⟨[69, 84, 97, 103], qTag body⟩, ⟨[86, 101, 114, 115, 105, 111, 110], Lib.decDigits n⟩]) (cs := #[.string ⟨#[69, 84, 97, 103]⟩, .string ⟨tg.toArray⟩, .string ⟨#[86, 101, 114, 115, 105, 111, 110]⟩, .string ⟨nn.toArray⟩]) ?_ (by rw [HF.out]) rfl (by simp [maxLen])
  exact (heap_set_far hnq).trans ((heap_set_far hnq).trans ((heap_set_far hnq).trans k4))
theorem changeKey_other (g o p s : Nat) (k t n told : Nat) (key body : List UInt8) (w : World) (R : World -> Prop) (hR : ∀ a b, R a -> Off (Loc w.heap.size a) a b -> R b) (hRT : ∀ a, R a -> Tz a /\ Tab a) (hk : ((k : Int) == 1) = false) (hnl : n < 1000000000000000)
 (h : ∀ y, Below w.heap.size w y -> Calls Tryz.prog 102 #[.pointer (some ⟨g, o, none⟩), .pointer (some ⟨p, 0, none⟩), recA k t key n body, bookC s] y fun e w' => e = .returned (.tuple #[.int .i64 told, .bool true]) /\ R w' /\ (∀ k, w.heap.size <= k -> k < y.heap.size -> w'.heap[k]? = y.heap[k]?) /\ y.heap.size <= w'.heap.size) :
 Calls Tryz.prog 69 #[.pointer (some ⟨g, o, none⟩), .pointer (some ⟨p, 0, none⟩), recA k t key n body, bookC s] w fun e w' => ∃ gs, e = .returned (.agg #[.int .i64 told, .slice (some ⟨gs, 0, none⟩) 1 1, .string ⟨#[]⟩]) /\ R w' /\ w'.ownsRow 0 124 2 (.slice (some ⟨gs, 0, none⟩) 1 1) 1 (fldRow [⟨[86, 101, 114, 115, 105, 111, 110], Lib.decDigits n⟩]) := by
 obtain ⟨nn, hnn⟩ : ∃ x, Lib.decDigits n = x := ⟨_, rfl⟩
 have HC3 : Hid (∀ y, Tab y -> Calls Tryz.prog 105 #[.int .i64 n] y fun e w' => e = .returned (.agg #[.string ⟨#[86, 101, 114, 115, 105, 111, 110]⟩, .string ⟨nn.toArray⟩]) /\ Below y.heap.size y w') := by
  rw [<- hnn]; exact fun y hy => numberField_any n y hnl hy
 have HF : Hid (fldRow [⟨[86, 101, 114, 115, 105, 111, 110], Lib.decDigits n⟩] = [.string ⟨#[86, 101, 114, 115, 105, 111, 110]⟩, .string ⟨nn.toArray⟩]) := by
  show _ = _
  rw [<- hnn]
  rfl
 clear hnn
 have HC : Hid _ := h
 clear h
 go_enter Tryz.func69, Tryz.ntmps69
 go_wp2_with fail
 obtain ⟨X, hX⟩ : ∃ X, X = ((w.alloc (.cells #[.int .u8 k, .int .i64 t, .string ⟨key.toArray⟩, .int .i64 n, .string ⟨body.toArray⟩] 108)).alloc (.cells #[.int .i64 0, .slice none 0 0, .string ⟨#[]⟩] 80)) := ⟨_, rfl⟩
 rw [<- hX]
 have hal : Below w.heap.size w X := by rw [hX]; exact ((Below.refl _ _).alloc (Nat.le_refl _) _).alloc (by simp) _
 have hQ : X.heap[w.heap.size]? = some (.cells #[.int .u8 k, .int .i64 t, .string ⟨key.toArray⟩, .int .i64 n, .string ⟨body.toArray⟩] 108 (0, 0)) := by
  rw [hX]
  exact (heap_alloc_old _ _ (by simp)).trans (heap_alloc_new _ _)
 have hZ : X.heap[w.heap.size + 1]? = some (.cells #[.int .i64 0, .slice none 0 0, .string ⟨#[]⟩] 80 (0, 0)) := by
  rw [hX]
  have := heap_alloc_new (w.alloc (.cells #[.int .u8 k, .int .i64 t, .string ⟨key.toArray⟩, .int .i64 n, .string ⟨body.toArray⟩] 108)) (.cells #[.int .i64 0, .slice none 0 0, .string ⟨#[]⟩] 80)
  simpa using this
 have hXl : w.heap.size + 1 < X.heap.size := (Array.getElem?_eq_some_iff.1 hZ).1
 clear hX
 refine (HC.out X hal).mono ?_
 rintro e w1 ⟨rfl, hR1, hk1, hs1⟩
 have hQ1 : w1.heap[w.heap.size]? = _ := (hk1 _ (Nat.le_refl _) (by omega)).trans hQ
 have hZ1 : w1.heap[w.heap.size + 1]? = _ := (hk1 _ (Nat.le_succ _) hXl).trans hZ
 have r0 : w1.cell? ⟨w.heap.size, 0, none⟩ = some (.int .u8 k) := by simp [World.cell?, hQ1]
 have r3 : w1.cell? ⟨w.heap.size, 3, none⟩ = some (.int .i64 n) := by simp [World.cell?, hQ1]
 have r4 : w1.cell? ⟨w.heap.size, 4, none⟩ = some (.string ⟨body.toArray⟩) := by simp [World.cell?, hQ1]
 have HQ1 : Hid _ := hQ1
 have HZ1 : Hid _ := hZ1
 have HR1 : Hid _ := hR1
 clear hQ1 hZ1 hR1 hk1 hQ hZ hal
 go_wp2_with fail
 have hl0 : w.heap.size < w1.heap.size := by omega
 have hl1 : w.heap.size + 1 < w1.heap.size := by omega
 refine (HC3.out w1 (hRT _ HR1.out).2).mono ?_
 rintro e y2 ⟨rfl, g2⟩
 have HG2 : Hid _ := g2
 have hsz := g2.size
 clear g2
 go_wp2_with fail
 have g3 : Below w1.heap.size w1 (y2.alloc (.cells #[.string ⟨#[86, 101, 114, 115, 105, 111, 110]⟩, .string ⟨nn.toArray⟩] 124)) := HG2.out.alloc hsz _
 refine (answer_any told (some ⟨y2.heap.size, 0, none⟩) 1 1 _).mono ?_
 rintro e y4 ⟨rfl, h4⟩
 have g4 : Below w1.heap.size w1 y4 := g3.trans (h4.mono g3.size)
 have k4 : y4.heap[y2.heap.size]? = some (.cells #[.string ⟨#[86, 101, 114, 115, 105, 111, 110]⟩, .string ⟨nn.toArray⟩] 124 (0, 0)) := (h4.block _ (by simp)).trans (heap_alloc_new _ _)
 have hZ4 := (g4.block _ hl1).trans HZ1.out
 have c0 : y4.cell? ⟨w.heap.size + 1, 0, none⟩ = some (.int .i64 0) := by simp [World.cell?, hZ4]
 have c1 : y4.cell? ⟨w.heap.size + 1, 1, none⟩ = some (.slice none 0 0) := by simp [World.cell?, hZ4]
 have c2 : y4.cell? ⟨w.heap.size + 1, 2, none⟩ = some (.string ⟨#[]⟩) := by simp [World.cell?, hZ4]
 have f0 : y4.frozen? ⟨w.heap.size + 1, 0, none⟩ = false := by simp [World.frozen?, hZ4]
 have f1 : y4.frozen? ⟨w.heap.size + 1, 1, none⟩ = false := by simp [World.frozen?, hZ4]
 have f2 : y4.frozen? ⟨w.heap.size + 1, 2, none⟩ = false := by simp [World.frozen?, hZ4]
 have HZ4 : Hid _ := hZ4
 have HK4 : Hid _ := k4
 have HG4 : Hid _ := g4
 clear hZ4 h4 g3 k4 g4
 go_wp2
 have hnq : y2.heap.size ≠ w.heap.size + 1 := ne_of_types HK4.out HZ4.out (by decide)
 have hs := heap_set (i := 2) (v := .string ⟨#[]⟩) (heap_set (i := 1) (v := .slice (some ⟨y2.heap.size, 0, none⟩) 1 1) (heap_set (i := 0) (v := .int .i64 told) HZ4.out))
 refine bodyPost_ret (v := .agg #[.int .i64 told, .slice (some ⟨y2.heap.size, 0, none⟩) 1 1, .string ⟨#[]⟩]) (results_row1 Tryz.results69 _ _ (w.heap.size + 1) 80 _ (0, 0) _ rfl hs Tryz.underlying80 rfl hiAns) rfl ⟨y2.heap.size, rfl, ?_, ?_⟩
 ·have hR4 : R y4 := hR _ _ HR1.out (Off.of_below HG4.out)
  exact hR _ _ hR4 ((((Off.refl _ _).set _ 0 _ (Or.inl ⟨Nat.le_succ _, _, _, HZ4.out⟩)).set _ 1 _ (Or.inl ⟨Nat.le_succ _, _, _, HZ4.out⟩)).set _ 2 _ (Or.inl ⟨Nat.le_succ _, _, _, HZ4.out⟩))
 ·refine flds_own (l := [⟨[86, 101, 114, 115, 105, 111, 110], Lib.decDigits n⟩]) (cs := #[.string ⟨#[86, 101, 114, 115, 105, 111, 110]⟩, .string ⟨nn.toArray⟩]) ?_ (by rw [HF.out]) rfl (by simp [maxLen])
  exact (heap_set_far hnq).trans ((heap_set_far hnq).trans ((heap_set_far hnq).trans HK4.out))
end Go.Proofs.YtmehkneofinmiabGreatDoor

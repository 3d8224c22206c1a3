/-
  The two judges whole; the walk of 'Judged'.
-/
import Derived.Test.YtmehkneofinmiaaJ4
import Derived.Test.YtmehkneofinmiaaJ5
import Derived.Test.YtmehkneofinmiaaJ6
import Derived.Test.YtmehkneofinmiaaJ7
namespace Go.Proofs.Ytmehkneofinmiaa
open Go.RowKit

theorem judge_l (wt hm am hn an hs hu th : Bool) (since unl tm : Int) (tag : ByteArray) (lm ln : Value) (n1 n2 : Nat) (W1 W2 : Nat → Bool) (T1 T2 : Nat → ByteArray) (w : World) (h1 : ListAt w lm n1 W1 T1) (h2 : ListAt w ln n2 W2 T2) :
    Calls Try.prog 5 #[.agg #[.bool wt, .bool hm, .bool am, lm, .bool hn, .bool an, ln, .bool hs, .int .i64 since, .bool hu, .int .i64 unl, .bool th, .string tag, .int .i64 tm]] w
      fun e w' => e = .returned (.int .i64 (jd wt hm (mB th am W1 T1 tag true n1) hn (mB th an W2 T2 tag false n2) hs since hu unl th tm)) ∧ Below w.heap.size w w' := by
  cases hm
  · exact judge_noM wt am hn an hs hu th since unl tm tag lm ln n1 n2 W1 W2 T1 T2 w h2
  · exact judge_yesM wt am hn an hs hu th since unl tm tag lm ln n1 n2 W1 W2 T1 T2 w h1 h2

theorem ref_l (wt hm am hn an hs hu th : Bool) (since unl tm : Int) (tag : ByteArray) (lm ln : Value) (n1 n2 : Nat) (W1 W2 : Nat → Bool) (T1 T2 : Nat → ByteArray) (w : World) (h1 : ListAt w lm n1 W1 T1) (h2 : ListAt w ln n2 W2 T2) :
    Calls Try.prog 6 #[.agg #[.bool wt, .bool hm, .bool am, lm, .bool hn, .bool an, ln, .bool hs, .int .i64 since, .bool hu, .int .i64 unl, .bool th, .string tag, .int .i64 tm]] w
      fun e w' => e = .returned (.int .i64 (jd wt hm (mB th am W1 T1 tag true n1) hn (mB th an W2 T2 tag false n2) hs since hu unl th tm)) ∧ Below w.heap.size w w' := by
  cases th
  · exact ref_no wt hm am hn an hs hu since unl tm tag lm ln n1 n2 W1 W2 T1 T2 w
  cases am <;> cases an
  · exact ref_there wt hm hn hs hu since unl tm tag lm ln n1 n2 W1 W2 T1 T2 w h1 h2
  · exact ref_some_any wt hm hn hs hu since unl tm tag lm ln n1 n2 W1 W2 T1 T2 w h1
  · exact ref_any_some wt hm hn hs hu since unl tm tag lm ln n1 n2 W1 W2 T1 T2 w h2
  · exact ref_any_any wt hm hn hs hu since unl tm tag lm ln n1 n2 W1 W2 T1 T2 w

theorem eq_nil (w : World) (a : Option Addr) (l c : Nat) : (binOp .eql 22 (.slice a l c) (.slice none 0 0)).run Try.prog w = .ok (.bool a.isNone) w := by
  simp only [binOp]
  simp [run_equal_slice_nil w 22 32 a l c Try.underlying22]
theorem eq_some (a : Addr) (l c : Nat) (w : World) : (binOp .eql 22 (.slice (some a) l c) (.slice none 0 0)).run Try.prog w = .ok (.bool false) w := eq_nil w (some a) l c
theorem eq_none (w : World) : (binOp .eql 22 (.slice none 0 0) (.slice none 0 0)).run Try.prog w = .ok (.bool true) w := eq_nil w none 0 0

theorem TagsAt.setCell {w : World} {b off n : Nat} {W : Nat → Bool} {T : Nat → ByteArray} (h : TagsAt w b off n W T) {a : Addr} {v : Value} (hne : a.block ≠ b) : TagsAt (w.setCell a v) b off n W T := by
  have ne : ∀ o, a ≠ ⟨b, o, none⟩ := fun o e => hne (by rw [e])
  exact ⟨fun i hi => (World.cell?_setCell_other w a _ v (ne _)).trans (h.1 i hi), fun i hi => (World.cell?_setCell_other w a _ v (ne _)).trans (h.2 i hi)⟩
theorem cell_far {w : World} {a : Addr} {v u : Value} {b o : Nat} (hne : a.block ≠ b) (h : w.cell? ⟨b, o, none⟩ = some u) : (w.setCell a v).cell? ⟨b, o, none⟩ = some u :=
  (World.cell?_setCell_other w a _ v (fun e => hne (by rw [e]))).trans h

/-- What is known of memory from the second 'handed' on. -/
structure St (w x : World) (box : Array Value) (n1 n2 : Nat) (W1 W2 : Nat → Bool) (T1 T2 : Nat → ByteArray) : Prop where
  b : Below w.heap.size w x
  box : ∀ j, x.cell? ⟨w.heap.size, j, none⟩ = box[j]?
  t1 : TagsAt x (w.heap.size + 1 + 1) 0 n1 W1 T1
  t2 : TagsAt x (w.heap.size + 1 + 1 + 1) 0 n2 W2 T2
  c1 : x.cell? ⟨w.heap.size + 1 + 1, n1 * 2 + 1, none⟩ = some (.string beyond)
  d1 : x.cell? ⟨w.heap.size + 1 + 1, (n1 + 1) * 2 + 1, none⟩ = some (.string beyond)
  c2 : x.cell? ⟨w.heap.size + 1 + 1 + 1, n2 * 2 + 1, none⟩ = some (.string beyond)
  d2 : x.cell? ⟨w.heap.size + 1 + 1 + 1, (n2 + 1) * 2 + 1, none⟩ = some (.string beyond)
  z : w.heap.size + 1 + 1 + 1 < x.heap.size

theorem St.below {w x y : World} {box : Array Value} {n1 n2 : Nat} {W1 W2 : Nat → Bool} {T1 T2 : Nat → ByteArray} (h : St w x box n1 n2 W1 W2 T1 T2) (hb : Below x.heap.size x y) : St w y box n1 n2 W1 W2 T1 T2 :=
  have z := h.z
  have k := (bcell hb).1
  ⟨h.b.trans (hb.mono (by omega)), fun j => (k _ j (by omega)).trans (h.box j), h.t1.below hb, h.t2.below hb, (k _ _ (by omega)).trans h.c1, (k _ _ (by omega)).trans h.d1, (k _ _ (by omega)).trans h.c2, (k _ _ (by omega)).trans h.d2, by have := hb.size; omega⟩

theorem St.set {w x : World} {box : Array Value} {n1 n2 : Nat} {W1 W2 : Nat → Bool} {T1 T2 : Nat → ByteArray} (h : St w x box n1 n2 W1 W2 T1 T2) (j : Nat) (v : Value) : St w (x.setCell ⟨w.heap.size + 1, j, none⟩ v) box n1 n2 W1 W2 T1 T2 :=
  ⟨h.b.setCell (by simp) _, fun i => (World.cell?_setCell_other x _ _ v (by intro e; injection e; omega)).trans (h.box i), h.t1.setCell (by simp), h.t2.setCell (by simp), cell_far (by simp) h.c1, cell_far (by simp) h.d1, cell_far (by simp) h.c2, cell_far (by simp) h.d2, by simpa [World.setCell] using h.z⟩

theorem zero_of {w : World} {n cap : Nat} {W : Nat → Bool} {T : Nat → ByteArray} (h : ListAt w (.slice none n cap) n W T) : n = 0 := by
  obtain ⟨_, ⟨o, c, _, h0⟩ | ⟨b, off, c, e, _⟩⟩ := h
  · exact h0
  · simp at e

set_option maxHeartbeats 1000000 in
theorem judged_ss (wt hm am hn an hs hu th : Bool) (since unl tm : Int) (tag : ByteArray) (a1 a2 : Addr) (cap1 cap2 : Nat) (n1 n2 : Nat) (W1 W2 : Nat → Bool) (T1 T2 : Nat → ByteArray) (w : World)
    (b1 : 24 * (n1 + 2) ≤ 281474976710656) (b2 : 24 * (n2 + 2) ≤ 281474976710656) (h1 : ListAt w (.slice (some a1) n1 cap1) n1 W1 T1) (h2 : ListAt w (.slice (some a2) n2 cap2) n2 W2 T2) :
    Calls Try.prog 3 #[.agg #[.bool wt, .bool hm, .bool am, .slice (some a1) n1 cap1, .bool hn, .bool an, .slice (some a2) n2 cap2, .bool hs, .int .i64 since, .bool hu, .int .i64 unl, .bool th, .string tag, .int .i64 tm]] w
      fun e w' => e = .returned (.bool true) ∧ Below w.heap.size w w' := by
  go_enter Try.func3, Try.ntmps3
  go_wp2_with fail
  refine (handed_l _ n1 W1 T1 _ b1 (h1.below (((Below.refl _ _).alloc (Nat.le_refl _) _).alloc (by simp) _)) ⟨_, _, rfl⟩).mono ?_
  rintro e w1 ⟨rfl, hb1, hz1, ht1, hc1, hd1⟩
  obtain ⟨hcc1, hff1⟩ := bcell hb1
  simp at hb1 hz1 hcc1 hff1 ht1 hc1 hd1
  have hB1 : Below w.heap.size w w1 := ((((Below.refl _ _).alloc (Nat.le_refl _) _).alloc (by simp) _)).trans (hb1.mono (by omega))
  go_wp2_with fail
  refine (handed_l _ n2 W2 T2 _ b2 (h2.below hB1) ⟨_, _, rfl⟩).mono ?_
  rintro e w2 ⟨rfl, hb2, hz2, ht2, hc2, hd2⟩
  obtain ⟨hcc2, hff2⟩ := bcell hb2
  rw [hz1] at hb2 hz2 hcc2 hff2 ht2 hc2 hd2
  have st : St w w2 #[.bool wt, .bool hm, .bool am, .slice (some a1) n1 cap1, .bool hn, .bool an, .slice (some a2) n2 cap2, .bool hs, .int .i64 since, .bool hu, .int .i64 unl, .bool th, .string tag, .int .i64 tm] n1 n2 W1 W2 T1 T2 :=
    ⟨hB1.trans (hb2.mono (by omega)), fun j => (hcc2 w.heap.size j (by omega)).trans ((hcc1 w.heap.size j (by omega)).trans (by simp)), ht1.below (by rw [hz1]; exact hb2), ht2, (hcc2 _ _ (by omega)).trans hc1, (hcc2 _ _ (by omega)).trans hd1, hc2, hd2, by omega⟩
  clear hc1 hd1 ht1 hc2 hd2 ht2
  rw [hz1]
  have hq1 := eq_some a1 n1 cap1
  have hq2 := eq_some a2 n2 cap2
  go_wp2_with fail
  refine (judge_l _ _ _ _ _ _ _ _ _ _ _ _ _ _ n1 n2 W1 W2 T1 T2 _ ?_ ?_).mono ?_
  · exact ⟨h1.1, Or.inr ⟨_, _, _, rfl, ((st.set 3 _).set 6 _).t1⟩⟩
  · exact ⟨h2.1, Or.inr ⟨_, _, _, rfl, ((st.set 3 _).set 6 _).t2⟩⟩
  rintro e w4 ⟨rfl, hb4⟩
  have st4 := ((st.set 3 _).set 6 _).below hb4
  have hbox4 := st4.box
  clear hb4 hq1 hq2 hb2 hb1 hcc1 hcc2 hff1 hff2 hz1 hz2 st hB1
  go_wp2_with fail
  refine (ref_l _ _ _ _ _ _ _ _ _ _ _ _ _ _ n1 n2 W1 W2 T1 T2 _ (h1.below st4.b) (h2.below st4.b)).mono ?_
  rintro e w5 ⟨rfl, hb5⟩
  have st5 := st4.below hb5
  have hbox5 := st5.box
  clear hb5 st4 hbox4
  generalize jd wt hm (mB th am W1 T1 tag true n1) hn (mB th an W2 T2 tag false n2) hs since hu unl th tm = J
  go_wp2_with fail
  refine (intact_l _ n1 _ W1 T1 _ b1 (h1.below st5.b) ⟨_, _, rfl⟩ st5.t1 st5.c1 st5.d1).mono ?_
  rintro e w6 ⟨rfl, q6, rfl⟩
  have st6 := st5.below (below_drewN (Below.refl _ _) q6)
  have hbox6 := st6.box
  have B5 := st5.b
  clear st5 hbox5
  go_wp2_with fail
  refine (intact_l _ n2 _ W2 T2 _ b2 (h2.below st6.b) ⟨_, _, rfl⟩ st6.t2 st6.c2 st6.d2).mono ?_
  rintro e w7 ⟨rfl, q7, rfl⟩
  go_wp2
  go_ret
  exact ⟨rfl, below_drewN B5 _⟩
end Go.Proofs.Ytmehkneofinmiaa

/-
  Walk of the program's 'Judge'.
-/
import Derived.Test.YtmehkneofinmiaaJ2
namespace Go.Proofs.Ytmehkneofinmiaa
open Go.RowKit

def jd (wt hm m hn x hs : Bool) (since : Int) (hu : Bool) (unl : Int) (th : Bool) (tm : Int) : Int :=
  if hm && !m then 412 else if !hm && hu && th && decide (unl < tm) then 412 else if hn && x then (if wt then 412 else 304)
  else if !hn && hs && !wt && th && decide (tm ≤ since) then 304 else 0

theorem ret_int {k : IntKind} {a b : Int} (h : a = b) : Ending.returned (.int k a) = .returned (.int k b) := by rw [h]

set_option maxHeartbeats 1000000 in
theorem judge_noM (wt am hn an hs hu th : Bool) (since unl tm : Int) (tag : ByteArray) (lm ln : Value) (n1 n2 : Nat) (W1 W2 : Nat → Bool) (T1 T2 : Nat → ByteArray) (w : World) (h2 : ListAt w ln n2 W2 T2) :
    Calls Try.prog 5 #[.agg #[.bool wt, .bool false, .bool am, lm, .bool hn, .bool an, ln, .bool hs, .int .i64 since, .bool hu, .int .i64 unl, .bool th, .string tag, .int .i64 tm]] w
      fun e w' => e = .returned (.int .i64 (jd wt false (mB th am W1 T1 tag true n1) hn (mB th an W2 T2 tag false n2) hs since hu unl th tm)) ∧ Below w.heap.size w w' := by
  go_enter Try.func5, Try.ntmps5
  go_wp2_with (first | (go_at_call 9; refine (excluded_l _ _ _ _ _ _ _ _ _ _ _ _ _ _ n2 W2 T2 _ (h2.below ((Below.refl _ _).alloc (Nat.le_refl _) _))).mono ?_; rintro e w' ⟨rfl, hb⟩; obtain ⟨hc, hf⟩ := bcell hb))
  all_goals
    go_ret
    refine ⟨ret_int ?_, ?_⟩
    · first | (simp [jd, *]; done) | (simp [jd, *]; omega)
    · first | exact (Below.refl _ _).alloc (Nat.le_refl _) _ | exact ((Below.refl _ _).alloc (Nat.le_refl _) _).trans (hb.mono (by simp))
set_option maxHeartbeats 1000000 in
theorem judge_yesM (wt am hn an hs hu th : Bool) (since unl tm : Int) (tag : ByteArray) (lm ln : Value) (n1 n2 : Nat) (W1 W2 : Nat → Bool) (T1 T2 : Nat → ByteArray) (w : World) (h1 : ListAt w lm n1 W1 T1) (h2 : ListAt w ln n2 W2 T2) :
    Calls Try.prog 5 #[.agg #[.bool wt, .bool true, .bool am, lm, .bool hn, .bool an, ln, .bool hs, .int .i64 since, .bool hu, .int .i64 unl, .bool th, .string tag, .int .i64 tm]] w
      fun e w' => e = .returned (.int .i64 (jd wt true (mB th am W1 T1 tag true n1) hn (mB th an W2 T2 tag false n2) hs since hu unl th tm)) ∧ Below w.heap.size w w' := by
  go_enter Try.func5, Try.ntmps5
  go_wp2_with fail
  refine (matches_l _ _ _ _ _ _ _ _ _ _ _ _ _ _ n1 W1 T1 _ (h1.below ((Below.refl _ _).alloc (Nat.le_refl _) _))).mono ?_
  rintro e w1 ⟨rfl, hb1⟩
  obtain ⟨hc1, hf1⟩ := bcell hb1
  have hz1 : w.heap.size < w1.heap.size := by have := hb1.size; simp at this; omega
  have hb1' := ((Below.refl _ _).alloc (Nat.le_refl w.heap.size) _).trans (hb1.mono (by simp))
  have h2' := h2.below hb1'
  go_wp2_with (first | (go_at_call 9; refine (excluded_l _ _ _ _ _ _ _ _ _ _ _ _ _ _ n2 W2 T2 _ h2').mono ?_; rintro e w' ⟨rfl, hb⟩; obtain ⟨hc, hf⟩ := bcell hb))
  all_goals
    go_ret
    refine ⟨ret_int ?_, ?_⟩
    · first | (simp [jd, *]; done) | (clear hc1 hf1 hb1 hb1' h2'; simp_all [jd]; done) | (clear hc1 hf1 hb1 hb1' h2'; simp_all [jd]; omega)
    · first | exact hb1' | exact hb1'.trans (hb.mono (by omega))

end Go.Proofs.Ytmehkneofinmiaa

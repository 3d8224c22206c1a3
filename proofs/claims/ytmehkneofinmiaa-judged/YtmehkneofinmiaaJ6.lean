/-
  Walk of the document's 'Judge': the other cases of what is there and of any.
-/
import Derived.Test.YtmehkneofinmiaaJ3
namespace Go.Proofs.Ytmehkneofinmiaa
open Go.RowKit

set_option maxHeartbeats 1000000 in
theorem ref_any_some (wt hm hn hs hu : Bool) (since unl tm : Int) (tag : ByteArray) (lm ln : Value) (n1 n2 : Nat) (W1 W2 : Nat → Bool) (T1 T2 : Nat → ByteArray) (w : World) (h2 : ListAt w ln n2 W2 T2) :
    Calls Try.prog 6 #[.agg #[.bool wt, .bool hm, .bool true, lm, .bool hn, .bool false, ln, .bool hs, .int .i64 since, .bool hu, .int .i64 unl, .bool true, .string tag, .int .i64 tm]] w
      fun e w' => e = .returned (.int .i64 (jd wt hm (mB true true W1 T1 tag true n1) hn (mB true false W2 T2 tag false n2) hs since hu unl true tm)) ∧ Below w.heap.size w w' := by
  have hA := (Below.refl w.heap.size w).alloc (Nat.le_refl _)
  go_enter Try.func6, Try.ntmps6
  go_wp2_with fail
  refine (some_l _ n2 W2 T2 _ _ _ (h2.below (hA _))).mono ?_
  rintro e w1 ⟨rfl, rfl⟩
  generalize e2 : hits W2 T2 tag false n2 = m2
  have E1 : Hid (mB true true W1 T1 tag true n1 = true) := by simp [Hid, mB]
  have E2 : Hid (mB true false W2 T2 tag false n2 = m2) := by simp [Hid, mB, e2]
  clear e2 h2
  go_wp2
  all_goals
    go_ret
    refine ⟨ret_int ?_, hA _⟩
    rw [E1.out, E2.out]
    clear hA E1 E2
    first | (simp [jd, *]; done) | (simp_all [jd]; done) | (simp_all [jd]; omega)

set_option maxHeartbeats 1000000 in
theorem ref_some_any (wt hm hn hs hu : Bool) (since unl tm : Int) (tag : ByteArray) (lm ln : Value) (n1 n2 : Nat) (W1 W2 : Nat → Bool) (T1 T2 : Nat → ByteArray) (w : World) (h1 : ListAt w lm n1 W1 T1) :
    Calls Try.prog 6 #[.agg #[.bool wt, .bool hm, .bool false, lm, .bool hn, .bool true, ln, .bool hs, .int .i64 since, .bool hu, .int .i64 unl, .bool true, .string tag, .int .i64 tm]] w
      fun e w' => e = .returned (.int .i64 (jd wt hm (mB true false W1 T1 tag true n1) hn (mB true true W2 T2 tag false n2) hs since hu unl true tm)) ∧ Below w.heap.size w w' := by
  have hA := (Below.refl w.heap.size w).alloc (Nat.le_refl _)
  go_enter Try.func6, Try.ntmps6
  go_wp2_with fail
  refine (some_l _ n1 W1 T1 _ _ _ (h1.below (hA _))).mono ?_
  rintro e w1 ⟨rfl, rfl⟩
  generalize e1 : hits W1 T1 tag true n1 = m1
  have E1 : Hid (mB true false W1 T1 tag true n1 = m1) := by simp [Hid, mB, e1]
  have E2 : Hid (mB true true W2 T2 tag false n2 = true) := by simp [Hid, mB]
  clear e1 h1
  go_wp2
  all_goals
    go_ret
    refine ⟨ret_int ?_, hA _⟩
    rw [E1.out, E2.out]
    clear hA E1 E2
    first | (simp [jd, *]; done) | (simp_all [jd]; done) | (simp_all [jd]; omega)
end Go.Proofs.Ytmehkneofinmiaa

/-
  Walk of the document's 'Judge': the other cases of what is there and of any.
-/
import Derived.Test.YtmehkneofinmiaaJ3
namespace Go.Proofs.Ytmehkneofinmiaa
open Go.RowKit

set_option maxHeartbeats 1000000 in
theorem ref_no (wt hm am hn an hs hu : Bool) (since unl tm : Int) (tag : ByteArray) (lm ln : Value) (n1 n2 : Nat) (W1 W2 : Nat → Bool) (T1 T2 : Nat → ByteArray) (w : World) :
    Calls Try.prog 6 #[.agg #[.bool wt, .bool hm, .bool am, lm, .bool hn, .bool an, ln, .bool hs, .int .i64 since, .bool hu, .int .i64 unl, .bool false, .string tag, .int .i64 tm]] w
      fun e w' => e = .returned (.int .i64 (jd wt hm (mB false am W1 T1 tag true n1) hn (mB false an W2 T2 tag false n2) hs since hu unl false tm)) ∧ Below w.heap.size w w' := by
  have hA := (Below.refl w.heap.size w).alloc (Nat.le_refl _)
  go_enter Try.func6, Try.ntmps6
  have E1 : Hid (mB false am W1 T1 tag true n1 = false) := by simp [Hid, mB]
  have E2 : Hid (mB false an W2 T2 tag false n2 = false) := by simp [Hid, mB]
  go_wp2
  all_goals
    go_ret
    refine ⟨ret_int ?_, hA _⟩
    rw [E1.out, E2.out]
    clear hA E1 E2
    first | (simp [jd, *]; done) | (simp_all [jd]; done) | (simp_all [jd]; omega)

set_option maxHeartbeats 1000000 in
theorem ref_any_any (wt hm hn hs hu : Bool) (since unl tm : Int) (tag : ByteArray) (lm ln : Value) (n1 n2 : Nat) (W1 W2 : Nat → Bool) (T1 T2 : Nat → ByteArray) (w : World) :
    Calls Try.prog 6 #[.agg #[.bool wt, .bool hm, .bool true, lm, .bool hn, .bool true, ln, .bool hs, .int .i64 since, .bool hu, .int .i64 unl, .bool true, .string tag, .int .i64 tm]] w
      fun e w' => e = .returned (.int .i64 (jd wt hm (mB true true W1 T1 tag true n1) hn (mB true true W2 T2 tag false n2) hs since hu unl true tm)) ∧ Below w.heap.size w w' := by
  have hA := (Below.refl w.heap.size w).alloc (Nat.le_refl _)
  go_enter Try.func6, Try.ntmps6
  have E1 : Hid (mB true true W1 T1 tag true n1 = true) := by simp [Hid, mB]
  have E2 : Hid (mB true true W2 T2 tag false n2 = true) := by simp [Hid, mB]
  go_wp2
  all_goals
    go_ret
    refine ⟨ret_int ?_, hA _⟩
    rw [E1.out, E2.out]
    clear hA E1 E2
    first | (simp [jd, *]; done) | (simp_all [jd]; done) | (simp_all [jd]; omega)
end Go.Proofs.Ytmehkneofinmiaa

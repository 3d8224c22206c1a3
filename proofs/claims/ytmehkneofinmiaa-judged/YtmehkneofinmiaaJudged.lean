/-
  Proved: at whatever conditions, and what there is, the program's Judge gives the number that the document gives, and the lists that were handed in, and their spare room, read as before. No condition.
-/
import Derived.Test.YtmehkneofinmiaaJ9
import Derived.Test.YtmehkneofinmiaaJ10
namespace Go.Proofs.Ytmehkneofinmiaa
open Go.ChangeShapes Go.WideShapes Go.ChangeAt Go.RowKit

theorem own : ownKnob Try.prog.godebug = none := by kernel_rfl
theorem laidOut : laidOutB Try.prog = true := by kernel_rfl

theorem judged_l (wt hm am hn an hs hu th : Bool) (since unl tm : Int) (tag : ByteArray) (o1 o2 : Option Addr) (cap1 cap2 : Nat) (n1 n2 : Nat) (W1 W2 : Nat → Bool) (T1 T2 : Nat → ByteArray) (w : World)
    (b1 : 24 * (n1 + 2) ≤ 281474976710656) (b2 : 24 * (n2 + 2) ≤ 281474976710656) (h1 : ListAt w (.slice o1 n1 cap1) n1 W1 T1) (h2 : ListAt w (.slice o2 n2 cap2) n2 W2 T2) :
    Calls Try.prog 3 #[.agg #[.bool wt, .bool hm, .bool am, .slice o1 n1 cap1, .bool hn, .bool an, .slice o2 n2 cap2, .bool hs, .int .i64 since, .bool hu, .int .i64 unl, .bool th, .string tag, .int .i64 tm]] w
      fun e w' => e = .returned (.bool true) ∧ Below w.heap.size w w' := by
  cases o1 with
  | none =>
    cases o2 with
    | none => exact judged_nn wt hm am hn an hs hu th since unl tm tag cap1 cap2 n1 n2 W1 W2 T1 T2 w b1 b2 h1 h2
    | some a2 => exact judged_ns wt hm am hn an hs hu th since unl tm tag a2 cap1 cap2 n1 n2 W1 W2 T1 T2 w b1 b2 h1 h2
  | some a1 =>
    cases o2 with
    | none => exact judged_sn wt hm am hn an hs hu th since unl tm tag a1 cap1 cap2 n1 n2 W1 W2 T1 T2 w b1 b2 h1 h2
    | some a2 => exact judged_ss wt hm am hn an hs hu th since unl tm tag a1 a2 cap1 cap2 n1 n2 W1 W2 T1 T2 w b1 b2 h1 h2

set_option maxRecDepth 100000 in
theorem judged_lifted (os : Os) (started : os.Started) (H : Type) (enc : TypeId × Value → H) :
    ReturnsInHanded {} Try.checked os 3 .any (Rows.judgedSpec.pre6 enc Try.prog Try.f3 Rows.judgedRow.domain false) (Rows.judgedSpec.post enc Try.prog Try.f3 false true false false) := by
  refine returnsInHanded_of_change_sized (C := Try.checked) own started (by kernel_rfl) Try.func3
    (ChangeSpec.witness6 (enc := enc) (C := Try.checked) false ⟨#[], #[.agg #[.bool false, .bool false, .bool false, .slice none 0 0, .bool false, .bool false, .slice none 0 0, .bool false, .int .i64 0, .bool false, .int .i64 0, .bool false, .string ⟨#[]⟩, .int .i64 0]], []⟩ 8 (by kernel_rfl) (by kernel_rfl) (by kernel_rfl) (by kernel_rfl)) ?_
  intro W base args ds gs before hval0 hW _ hsz0 _
  have hval : ∀ (j : Nat) t v, Try.f3.params[j]? = some t → args[j]? = some v → Value.okWide Try.prog W .any base t v := hval0
  have hsz : (DataW.weightsEach Try.prog (Try.f3.params.toList ++ Rows.judgedSpec.plain.varTypes Try.prog) (ds ++ gs)).all (· ≤ reachBytes) = true := hsz0
  have hW' := hW
  obtain ⟨p, q, hA0, hV, rfl, hfz, hnd⟩ := hW
  have hA : DataW.TrodAll enc Try.prog W 0 (fun _ => true) true Try.f3.params.toList args.toList ds p := hA0
  rw [Try.params3] at hA hval hsz
  obtain ⟨v0, d0, rfl, rfl, h0⟩ := trodAll_one hA
  obtain ⟨rfl, rfl⟩ := trodVars_none hV
  clear hA0 hval0 hsz0
  have hlt := hW'.lt
  simp only [List.append_nil] at hW' hlt
  obtain ⟨wt, hm, am, hn, an, hs, hu, th, since, unl, tm, tag, lm, ln, k1, k2, y1, y2, rfl, t1, t2, s1, s2⟩ := open_ask (hval 0 26 v0 rfl rfl) h0
  have hall : ∀ z ∈ d0.weights Try.prog 26, z ≤ reachBytes := fun z hz => by
    have := List.all_eq_true.1 hsz z (DataW.weights_mem_each (j := 0) (t := 26) (d := d0) rfl rfl z hz)
    simpa using this
  obtain ⟨o1, n1, cap1, W1, T1, rfl, l1, b1⟩ := open_list t1 (fun z hz => hall z (s1 z hz))
  obtain ⟨o2, n2, cap2, W2, T2, rfl, l2, b2⟩ := open_list t2 (fun z hz => hall z (s2 z hz))
  refine (judged_l wt hm am hn an hs hu th since unl tm tag o1 o2 cap1 cap2 n1 n2 W1 W2 T1 T2 W b1 b2 l1 l2).mono fun e W' ⟨he, hb⟩ => ?_
  subst he
  refine ⟨_, rfl, _, _, _, [], p, [], hW', ?_, ?_, rfl, hb.frame _, fun h => by cases h⟩
  · exact trodAll_mk1 (shut_bool Try.underlying4 _)
  · exact trodAll_mk1 (Below.trod laidOut (by kernel_rfl) (of_decide_eq_true (by kernel_rfl)) h0 hb hlt)

theorem judged_holds : Rows.JudgedSaid :=
  OpenClaim.holds_of_wide 3 Try.f3 rfl rfl rfl rfl rfl rfl rfl ⟨rfl, rfl, rfl, rfl, rfl⟩ rfl rfl rfl rfl rfl (by kernel_rfl) Try.func3 (by kernel_rfl)
    (of_decide_eq_true (by kernel_rfl)) (by unfold Func.isWrapper; first | (rw [if_pos (by decide +kernel)]; kernel_rfl) | (rw [if_neg (by decide +kernel)]; exact ⟨rfl, rfl⟩))
    (fun os started H enc _ => judged_lifted os started H enc)

end Go.Proofs.Ytmehkneofinmiaa

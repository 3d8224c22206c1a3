/-
  The walk of 'Dates'.
-/
import Derived.Test.YtmehkneofinmiaaDoorD9
namespace Go.Proofs.YtmehkneofinmiaaDoor
open Go.RowKit

theorem stamp_inj {a b : Int} {l : List UInt8} (ha : Cal.IsStamp a l) (hb : Cal.IsStamp b l) (a0 : 0 ≤ a) (a1 : a ≤ 253402300799) (b0 : 0 ≤ b) (b1 : b ≤ 253402300799) : a = b := by
  obtain ⟨_, _, _, _, _, i, hi, hm, e⟩ := pieces ha a0 a1
  obtain ⟨_, _, _, _, _, j, hj, hn, f⟩ := pieces hb b0 b1
  have : i = j := by
    have := Cal.nm_months_inj ⟨i, hi⟩ ⟨j, hj⟩ (hm.trans hn.symm)
    simpa using this
  subst this
  exact e.trans f.symm

/-- Both Dates, one behind the other, tell the same. -/
theorem date_same (s : ByteArray) (w : World) :
    ∃ (n : Int) (ok : Bool), (Calls Tryd.prog 7 #[.string s] w fun e w' => e = .returned (.tuple #[.int .i64 n, .bool ok]) ∧ Below w.heap.size w w') ∧
      ∀ w, Tab w → Calls Tryd.prog 8 #[.string s] w fun e w' => e = .returned (.tuple #[.int .i64 n, .bool ok]) ∧ Below w.heap.size w w' := by
  by_cases h : NoStamp s.data.toList
  · refine ⟨0, false, ?_, fun w hT => ?_⟩
    · refine (date_any s w).mono ?_
      rintro e w' ⟨⟨sec, a, b, hs, rfl⟩ | ⟨_, rfl⟩, q, rfl⟩
      · exact absurd hs (h sec a b)
      · exact ⟨rfl, below_drewN (Below.refl _ _) q⟩
    · refine (ref_date_any s w hT).mono ?_
      rintro e w' ⟨⟨sec, a, b, hs, rfl⟩ | ⟨_, rfl⟩, hb⟩
      · exact absurd hs (h sec a b)
      · exact ⟨rfl, hb⟩
  · have h' : ∃ sec : Int, 0 ≤ sec ∧ sec ≤ 253402300799 ∧ Cal.IsStamp sec s.data.toList := by
      apply Classical.byContradiction
      intro hn
      exact h fun sec a b hs => hn ⟨sec, a, b, hs⟩
    obtain ⟨sec, s0, s1, hst⟩ := h'
    refine ⟨sec, true, ?_, fun w hT => ?_⟩
    · refine (date_any s w).mono ?_
      rintro e w' ⟨⟨sec', a, b, hs, rfl⟩ | ⟨hn, _⟩, q, rfl⟩
      · obtain rfl := stamp_inj hst hs s0 s1 a b
        exact ⟨rfl, below_drewN (Below.refl _ _) q⟩
      · exact absurd hst (hn sec s0 s1)
    · refine (ref_date_any s w hT).mono ?_
      rintro e w' ⟨⟨sec', a, b, hs, rfl⟩ | ⟨hn, _⟩, hb⟩
      · obtain rfl := stamp_inj hst hs s0 s1 a b
        exact ⟨rfl, hb⟩
      · exact absurd hst (hn sec s0 s1)

theorem stamp_same (sec : Int) : ∃ t : ByteArray, (∀ w, Tab w → Calls Tryd.prog 9 #[.int .i64 sec] w fun e w' => e = .returned (.string t) ∧ Below w.heap.size w w') ∧
      ∀ w, Tab w → Calls Tryd.prog 10 #[.int .i64 sec] w fun e w' => e = .returned (.string t) ∧ Below w.heap.size w w' := by
  by_cases h : 0 ≤ sec ∧ sec ≤ 253402300799
  · obtain ⟨h0, h1⟩ := h
    by_cases hl : ∃ l, Cal.IsStamp sec l
    · obtain ⟨l, hl⟩ := hl
      refine ⟨⟨l.toArray⟩, fun w hT => ?_, fun w hT => ?_⟩
      · refine (stamp_yes sec w h0 h1 hT).mono ?_
        rintro e w' ⟨⟨l', hl', rfl⟩, hb⟩
        rw [hl'.uniq hl]
        exact ⟨rfl, hb⟩
      · refine (ref_stamp_yes sec w h0 h1 hT).mono ?_
        rintro e w' ⟨⟨l', hl', rfl⟩, hb⟩
        rw [hl'.uniq hl]
        exact ⟨rfl, hb⟩
    · refine ⟨⟨#[]⟩, fun w hT => ?_, fun w hT => ?_⟩
      · refine (stamp_yes sec w h0 h1 hT).mono ?_
        rintro e w' ⟨⟨l', hl', _⟩, _⟩
        exact absurd ⟨l', hl'⟩ hl
      · refine (ref_stamp_yes sec w h0 h1 hT).mono ?_
        rintro e w' ⟨⟨l', hl', _⟩, _⟩
        exact absurd ⟨l', hl'⟩ hl
  · have h' : sec < 0 ∨ 253402300799 < sec := by omega
    refine ⟨⟨#[]⟩, fun w _ => ?_, fun w _ => ?_⟩
    · refine (stamp_no sec w h').mono ?_
      rintro e w' ⟨rfl, rfl⟩
      exact ⟨rfl, Below.refl _ _⟩
    · refine (ref_stamp_no sec w h').mono ?_
      rintro e w' ⟨rfl, rfl⟩
      exact ⟨rfl, Below.refl _ _⟩

set_option maxHeartbeats 1000000 in
theorem dates_walk (s : ByteArray) (sec : Int) (w : World) (hT : Tab w) :
    Calls Tryd.prog 3 #[.string s, .int .i64 sec] w fun e w' => e = .returned (.bool true) ∧ Below w.heap.size w w' := by
  obtain ⟨n, ok, hd, hr⟩ := date_same s w
  obtain ⟨t, hs, hu⟩ := stamp_same sec
  have HD : Hid _ := hd
  have HR : Hid _ := hr
  have HS : Hid _ := hs
  have HU : Hid _ := hu
  clear hd hr hs hu
  go_enter Tryd.func3, Tryd.ntmps3
  go_wp2_with fail
  refine Calls.mono HD.out ?_
  rintro e w1 ⟨rfl, hb1⟩
  go_wp2_with fail
  refine Calls.mono (HR.out _ (hT.below hb1)) ?_
  rintro e w2 ⟨rfl, hb2⟩
  have hB2 := hb1.trans (hb2.mono hb1.size)
  clear hb1 hb2
  go_wp2_with fail
  refine Calls.mono (HS.out _ (hT.below hB2)) ?_
  rintro e w3 ⟨rfl, hb3⟩
  have hB3 := hB2.trans (hb3.mono hB2.size)
  clear hB2 hb3
  go_wp2_with fail
  refine Calls.mono (HU.out _ (hT.below hB3)) ?_
  rintro e w4 ⟨rfl, hb4⟩
  have hB4 := hB3.trans (hb4.mono hB3.size)
  clear hB3 hb4
  go_wp2
  go_ret
  exact ⟨ret_bool (by simp), hB4⟩
end Go.Proofs.YtmehkneofinmiaaDoor

/-
  Walks of the small functions on years, months and digits.
-/
import Derived.Test.YtmehkneofinmiaaDoorRows
import Derived.Test.YtmehkneofinmiaaDoorD1
import Derived.WalkKit
import Derived.Lib.Strings
import Derived.WalkSpells
import Derived.WalkLawsBesides
import Derived.Deep.QuietTactic
import Derived.BigQuiet
namespace Go.Proofs.YtmehkneofinmiaaDoor
open Go.RowKit

theorem ret_int {k : IntKind} {a b : Int} (h : a = b) : Ending.returned (.int k a) = .returned (.int k b) := by rw [h]
theorem ret_bool {a b : Bool} (h : a = b) : Ending.returned (.bool a) = .returned (.bool b) := by rw [h]
theorem ret_str {a b : ByteArray} (h : a = b) : Ending.returned (.string a) = .returned (.string b) := by rw [h]

set_option maxHeartbeats 400000 in
theorem leap_any (y : Int) (w : World) (h0 : 0 ≤ y) (h1 : y ≤ 20000) :
    Calls Tryd.prog 22 #[.int .i64 y] w fun e w' => e = .returned (.bool (Cal.leap y)) ∧ w' = w := by
  go_enter Tryd.func22, Tryd.ntmps22
  go_wp2
  all_goals go_ret
  all_goals exact ⟨ret_bool (by simp_all [Cal.leap]), rfl⟩

set_option maxHeartbeats 400000 in
theorem isLeap_any (y : Int) (w : World) (h0 : 0 ≤ y) (h1 : y ≤ 20000) :
    Calls Tryd.prog 59 #[.int .i64 y] w fun e w' => e = .returned (.bool (Cal.leap y)) ∧ w' = w := by
  go_enter Tryd.func59, Tryd.ntmps59
  go_wp2
  all_goals go_ret
  all_goals refine ⟨ret_bool ?_, rfl⟩
  all_goals first | (simp_all [Cal.leap]; done) | (have h4 : (y % 400 == 0) = false := by simp; omega
                                                   have h5 : (y % 4 == 0) = false := by simp; omega
                                                   simp [Cal.leap, h4, h5])

set_option maxHeartbeats 400000 in
theorem lya_any (y : Int) (w : World) (h0 : 1 ≤ y) (h1 : y ≤ 20000) :
    Calls Tryd.prog 60 #[.int .i64 y] w fun e w' => e = .returned (.int .i64 (Cal.lya y)) ∧ w' = w := by
  go_enter Tryd.func60, Tryd.ntmps60
  go_wp2
  go_ret
  exact ⟨ret_int (by simp [Cal.lya]), rfl⟩

theorem lya_bd (y : Int) (h0 : 1 ≤ y) (h1 : y ≤ 20000) : 0 ≤ Cal.lya y ∧ Cal.lya y ≤ 20000 := by unfold Cal.lya; omega
theorem lya_1970 : Cal.lya 1970 = 477 := by decide

set_option maxHeartbeats 400000 in
theorem ahead_any (y : Int) (w : World) (h0 : 1970 ≤ y) (h1 : y ≤ 20000) :
    Calls Tryd.prog 38 #[.int .i64 y] w fun e w' => e = .returned (.int .i64 (Cal.ahead y)) ∧ w' = w := by
  have hb := lya_bd y (by omega) h1
  go_enter Tryd.func38, Tryd.ntmps38
  go_wp2_with fail
  refine (lya_any _ _ (by omega) (by omega)).mono ?_
  rintro e w1 ⟨rfl, rfl⟩
  go_wp2_with fail
  refine (lya_any _ _ (by omega) (by omega)).mono ?_
  rintro e w1 ⟨rfl, rfl⟩
  rw [lya_1970]
  go_wp2
  go_ret
  exact ⟨ret_int (by simp [Cal.ahead]), rfl⟩

set_option maxHeartbeats 400000 in
theorem monthDays_any (y m : Int) (w : World) (h0 : 0 ≤ y) (h1 : y ≤ 20000) :
    Calls Tryd.prog 37 #[.int .i64 y, .int .i64 m] w fun e w' => e = .returned (.int .i64 (Cal.ml y m)) ∧ w' = w := by
  go_enter Tryd.func37, Tryd.ntmps37
  go_wp2_with (go_at_call 59; refine (isLeap_any _ _ h0 h1).mono ?_; rintro e w' ⟨rfl, rfl⟩)
  all_goals go_ret
  all_goals exact ⟨ret_int (by simp_all [Cal.ml]), rfl⟩

set_option maxHeartbeats 400000 in
theorem long_any (m y : Int) (w : World) (h0 : 0 ≤ y) (h1 : y ≤ 20000) :
    Calls Tryd.prog 23 #[.int .i64 m, .int .i64 y] w fun e w' => e = .returned (.int .i64 (Cal.ml y m)) ∧ w' = w := by
  go_enter Tryd.func23, Tryd.ntmps23
  go_wp2_with (go_at_call 22; refine (leap_any _ _ h0 h1).mono ?_; rintro e w' ⟨rfl, rfl⟩)
  all_goals go_ret
  all_goals exact ⟨ret_int (by simp_all [Cal.ml]), rfl⟩

set_option maxHeartbeats 400000 in
theorem nameAt_any (s : ByteArray) (p : Int) (w : World) (h0 : 0 ≤ p) (h1 : 3 * p + 3 ≤ s.size) (hs : s.size ≤ 1000) :
    Calls Tryd.prog 19 #[.string s, .int .i64 p] w fun e w' => e = .returned (.string ⟨(Cal.nm s.data.toList p.toNat).toArray⟩) ∧ w' = w := by
  go_enter Tryd.func19, Tryd.ntmps19
  go_wp2
  go_ret
  refine ⟨ret_str ?_, rfl⟩
  rw [Lib.extract_eq, Cal.nm]
  rw [show (p * 3).toNat = p.toNat * 3 by omega, show ((p + 1) * 3).toNat - p.toNat * 3 = 3 by omega]

/-- the number that bytes tell -/
def dv (c : UInt8) : Int := ((c.toNat : Int) - 48) % 256
def num (l : List UInt8) : Int := l.foldl (fun n c => 10 * n + dv c) 0
theorem dv_bd (c : UInt8) : 0 ≤ dv c ∧ dv c ≤ 255 := by unfold dv; omega
theorem num_snoc (l : List UInt8) (c : UInt8) : num (l ++ [c]) = 10 * num l + dv c := by simp [num]
theorem fold_bd : ∀ (l : List UInt8) (n : Int), 0 ≤ n → 0 ≤ l.foldl (fun n c => 10 * n + dv c) n ∧ l.foldl (fun n c => 10 * n + dv c) n ≤ (n + 29) * 10 ^ l.length
  | [], n, h => by simp; omega
  | c :: l, n, h => by
    have hc := dv_bd c
    obtain ⟨a, b⟩ := fold_bd l (10 * n + dv c) (by omega)
    refine ⟨a, Int.le_trans b ?_⟩
    rw [List.length_cons, Int.pow_succ, show (n + 29) * (10 ^ l.length * 10) = ((n + 29) * 10) * 10 ^ l.length by rw [Int.mul_comm (10 ^ l.length) 10, ← Int.mul_assoc]]
    exact Int.mul_le_mul_of_nonneg_right (by omega) (Int.pow_nonneg (by omega))
theorem num_bd (l : List UInt8) (h : l.length ≤ 4) : 0 ≤ num l ∧ num l ≤ 290000 := by
  obtain ⟨a, b⟩ := fold_bd l 0 (Int.le_refl _)
  refine ⟨a, Int.le_trans b ?_⟩
  have : l.length = 0 ∨ l.length = 1 ∨ l.length = 2 ∨ l.length = 3 ∨ l.length = 4 := by omega
  rcases this with e | e | e | e | e <;> rw [e] <;> decide
theorem take_snoc (s : ByteArray) (k : Nat) (h : k < s.size) : s.data.toList.take (k + 1) = s.data.toList.take k ++ [s[k]] := by
  rw [List.take_succ_eq_append_getElem (by simpa using h)]; rfl

set_option maxHeartbeats 400000 in
theorem readNumber_any (s : ByteArray) (w : World) (hs : s.size ≤ 4) :
    Calls Tryd.prog 35 #[.string s] w fun e w' => e = .returned (.int .i64 (num s.data.toList)) ∧ w' = w := by
  go_enter Tryd.func35, Tryd.ntmps35
  go_wp2
  go_loop [3, 7] (fun n i => ∃ k : Nat, k ≤ s.size ∧ i = .int .i64 k ∧ n = .int .i64 (num (s.data.toList.take k))) (fun _ i => s.size - (intOf i).toNat)
  case atStart => exact ⟨0, Nat.zero_le _, rfl, rfl⟩
  case round =>
    obtain ⟨k, hk, rfl, rfl⟩ := hrel
    have hb := num_bd (s.data.toList.take k) (by simp; omega)
    by_cases hlt : k < s.size
    · have hd := dv_bd s[k]
      have HS : Hid (num (s.data.toList.take (k + 1)) = 10 * num (s.data.toList.take k) + dv s[k]) := by rw [take_snoc s k hlt]; exact num_snoc _ _
      unfold dv at hd HS
      go_wp2
      exact ⟨⟨k + 1, by omega, by go_num, by rw [HS.out]; go_num⟩, by simp [intOf]; omega⟩
    · go_wp2
      go_ret
      exact ⟨ret_int (by rw [List.take_of_length_le (by simp; omega)]), rfl⟩

def isD (c : UInt8) : Bool := decide (48 ≤ c.toNat) && decide (c.toNat ≤ 57)

def dgs (l : List UInt8) : Int := if l.all isD then num l else -1
theorem dgs_yes {l : List UInt8} (h : l.all isD = true) : dgs l = num l := by simp only [dgs]; rw [if_pos h]
theorem dgs_no {l : List UInt8} (h : l.all isD = false) : dgs l = -1 := by simp only [dgs]; rw [if_neg (by simp [h])]
theorem all_no {s : ByteArray} {k : Nat} (h : k < s.size) (hd : isD s[k] = false) : s.data.toList.all isD = false := by
  rw [List.all_eq_false]
  exact ⟨s[k], List.getElem_mem (l := s.data.toList) (by simpa using h), by simp [hd]⟩

set_option maxHeartbeats 400000 in
theorem digits_any (s : ByteArray) (w : World) (hs : s.size ≤ 4) :
    Calls Tryd.prog 21 #[.string s] w fun e w' => e = .returned (.int .i64 (dgs s.data.toList)) ∧ w' = w := by
  go_enter Tryd.func21, Tryd.ntmps21
  go_wp2
  go_loop [3, 4] (fun n i => ∃ k : Nat, k ≤ s.size ∧ i = .int .i64 k ∧ n = .int .i64 (num (s.data.toList.take k)) ∧ Hid ((s.data.toList.take k).all isD = true)) (fun _ i => s.size - (intOf i).toNat)
  case atStart => exact ⟨0, Nat.zero_le _, rfl, rfl, rfl⟩
  case round =>
    obtain ⟨k, hk, rfl, rfl, ha⟩ := hrel
    have hb := num_bd (s.data.toList.take k) (by simp; omega)
    by_cases hlt : k < s.size
    · have hd := dv_bd s[k]
      have HS : Hid (num (s.data.toList.take (k + 1)) = 10 * num (s.data.toList.take k) + dv s[k]) := by rw [take_snoc s k hlt]; exact num_snoc _ _
      have HA : Hid ((s.data.toList.take (k + 1)).all isD = isD s[k]) := by
        have := ha.out
        show _ = _
        rw [take_snoc s k hlt, List.all_append, this]; simp
      unfold dv at hd HS
      have HN : Hid (isD s[k] = false → dgs s.data.toList = -1) := fun h => dgs_no (all_no hlt h)
      go_wp2
      · go_ret
        exact ⟨ret_int (HN.out (by simp [isD]; omega)).symm, rfl⟩
      · exact ⟨⟨k + 1, by omega, by go_num, by rw [HS.out]; go_num, HA.out.trans (by simp [isD]; omega)⟩, by simp [intOf]; omega⟩
      · go_ret
        exact ⟨ret_int (HN.out (by simp [isD]; omega)).symm, rfl⟩
    · go_wp2
      go_ret
      have := ha.out
      rw [List.take_of_length_le (by simp; omega)] at this
      exact ⟨ret_int (by rw [List.take_of_length_le (by simp; omega), dgs_yes this]), rfl⟩
end Go.Proofs.YtmehkneofinmiaaDoor

/-
  Texts of this proof, part 1.
-/
import Derived.Test.YtmehkneofinmiabGreatDoorProg
import Derived.Lib.ItoaNum
import Derived.WalkKit
import Derived.Lib.Strings
import Derived.WalkSpells
import Derived.WalkLawsBesides
import Derived.Deep.QuietTactic
import Derived.BigQuiet
namespace Go.Proofs.YtmehkneofinmiabGreatDoor
namespace Cal
def leap (y : Int) : Bool := y % 4 == 0 && (y % 100 != 0 || y % 400 == 0)
def lya (y : Int) : Int := (y - 1) / 4 - (y - 1) / 100 + (y - 1) / 400
def ahead (y : Int) : Int := 365 * (y - 1970) + lya y - 477
def ylen (y : Int) : Int := if leap y then 366 else 365
def ml (y m : Int) : Int := if m = 1 then (if leap y then 29 else 28) else if m = 3 ∨ m = 5 ∨ m = 8 ∨ m = 10 then 30 else 31
def cum (y : Int) : Nat → Int
  | 0 => 0
  | m + 1 => cum y m + ml y m
theorem leap_iff (y : Int) : leap y = true ↔ y % 4 = 0 ∧ (y % 100 ≠ 0 ∨ y % 400 = 0) := by simp [leap]
theorem ylen_cases (y : Int) : (y % 4 = 0 ∧ (y % 100 ≠ 0 ∨ y % 400 = 0) ∧ ylen y = 366) ∨ (¬ (y % 4 = 0 ∧ (y % 100 ≠ 0 ∨ y % 400 = 0)) ∧ ylen y = 365) := by
  unfold ylen
  by_cases h : leap y = true
  · have := (leap_iff y).1 h; simp [h, this]
  · have h' : ¬ (y % 4 = 0 ∧ (y % 100 ≠ 0 ∨ y % 400 = 0)) := fun k => h ((leap_iff y).2 k)
    right; exact ⟨h', by simp [h]⟩
theorem ylen_bd (y : Int) : 365 ≤ ylen y ∧ ylen y ≤ 366 := by unfold ylen; split <;> omega
theorem ahead_succ (y : Int) : ahead (y + 1) = ahead y + ylen y := by
  unfold ahead lya
  rcases ylen_cases y with ⟨h1, h2, h3⟩ | ⟨h1, h3⟩
  · rw [h3]; omega
  · rw [h3]; omega
theorem ahead_1970 : ahead 1970 = 0 := by decide
theorem ahead_10000 : ahead 10000 = 2932897 := by decide
theorem ahead_mono {a b : Int} (h : a ≤ b) : ahead a ≤ ahead b := by unfold ahead lya; omega
theorem ml_bd (y m : Int) : 28 ≤ ml y m ∧ ml y m ≤ 31 := by unfold ml; repeat' split <;> omega
theorem cum_12 (y : Int) : cum y 12 = ylen y := by
  simp only [cum, ml, ylen]
  by_cases h : leap y = true <;> simp [h]
theorem cum_le (y : Int) {a b : Nat} (h : a ≤ b) : cum y a ≤ cum y b := by
  induction b with
  | zero => obtain rfl : a = 0 := by omega
            exact Int.le_refl _
  | succ b ih =>
    by_cases e : a = b + 1
    · rw [e]; exact Int.le_refl _
    · have := ih (by omega)
      have := ml_bd y b
      simp only [cum]; omega
theorem cum_nonneg (y : Int) (a : Nat) : 0 ≤ cum y a := by have := cum_le y (Nat.zero_le a); simpa [cum] using this
structure Sp (d y : Int) (m : Nat) (k : Int) : Prop where
  y0 : 1970 ≤ y
  m12 : m < 12
  k0 : 0 ≤ k
  k1 : k < ml y m
  eq : d = ahead y + cum y m + k
theorem Sp.year {d y : Int} {m : Nat} {k : Int} (h : Sp d y m k) : ahead y ≤ d ∧ d < ahead (y + 1) := by
  obtain ⟨_, hm, h0, h1, rfl⟩ := h
  have := cum_nonneg y m
  have := cum_le y (show m + 1 ≤ 12 by omega)
  rw [cum_12] at this
  rw [ahead_succ]
  simp only [cum] at this
  omega
theorem Sp.uniq {d y y' : Int} {m m' : Nat} {k k' : Int} (h : Sp d y m k) (h' : Sp d y' m' k') : y = y' ∧ m = m' ∧ k = k' := by
  have a := h.year
  have b := h'.year
  have e : y = y' := by
    rcases Int.lt_trichotomy y y' with l | l | l
    · have := ahead_mono (show y + 1 ≤ y' by omega); omega
    · exact l
    · have := ahead_mono (show y' + 1 ≤ y by omega); omega
  subst e
  have e1 := h.eq
  have e2 := h'.eq
  have k0 := h.k0
  have k1 := h.k1
  have k0' := h'.k0
  have k1' := h'.k1
  have em : m = m' := by
    rcases Nat.lt_trichotomy m m' with l | l | l
    · have := cum_le y (show m + 1 ≤ m' by omega)
      simp only [cum] at this; omega
    · exact l
    · have := cum_le y (show m' + 1 ≤ m by omega)
      simp only [cum] at this; omega
  subst em
  exact ⟨rfl, rfl, by omega⟩
theorem Sp.range {d y : Int} {m : Nat} {k : Int} (h : Sp d y m k) (h1 : d ≤ 2932896) : y ≤ 9999 := by
  have := h.year
  by_cases e : y ≤ 9999
  · exact e
  · have := ahead_mono (show (10000 : Int) ≤ y by omega)
    rw [ahead_10000] at this; omega
def dig (n : Int) : UInt8 := UInt8.ofNat (48 + n.toNat)
def two (n : Int) : List UInt8 := [dig (n / 10), dig (n % 10)]
def four (n : Int) : List UInt8 := [dig (n / 1000), dig (n / 100 % 10), dig (n / 10 % 10), dig (n % 10)]
def nm (s : List UInt8) (i : Nat) : List UInt8 := (s.drop (i * 3)).take 3
def week : List UInt8 := [84, 104, 117, 70, 114, 105, 83, 97, 116, 83, 117, 110, 77, 111, 110, 84, 117, 101, 87, 101, 100]
def months : List UInt8 := [74, 97, 110, 70, 101, 98, 77, 97, 114, 65, 112, 114, 77, 97, 121, 74, 117, 110, 74, 117, 108, 65, 117, 103, 83, 101, 112, 79, 99, 116, 78, 111, 118, 68, 101, 99]
def fmt (d y : Int) (m : Nat) (k s : Int) : List UInt8 :=
  nm week (d % 7).toNat ++ [44, 32] ++ two (k + 1) ++ [32] ++ nm months m ++ [32] ++ four y ++ [32] ++ two (s / 3600) ++ [58] ++ two (s % 3600 / 60) ++ [58] ++ two (s % 60) ++ [32, 71, 77, 84]
def IsStamp (sec : Int) (l : List UInt8) : Prop := ∃ y m k, Sp (sec / 86400) y m k ∧ l = fmt (sec / 86400) y m k (sec % 86400)
theorem IsStamp.uniq {sec : Int} {l l' : List UInt8} (h : IsStamp sec l) (h' : IsStamp sec l') : l = l' := by
  obtain ⟨y, m, k, s, rfl⟩ := h
  obtain ⟨y', m', k', s', rfl⟩ := h'
  obtain ⟨rfl, rfl, rfl⟩ := s.uniq s'
  rfl
theorem nm_months_inj : ∀ i j : Fin 12, nm months i = nm months j → i = j := by decide
theorem len_week : ∀ i : Fin 7, (nm week i).length = 3 := by decide
theorem len_months : ∀ i : Fin 12, (nm months i).length = 3 := by decide
end Cal
end Go.Proofs.YtmehkneofinmiabGreatDoor

namespace Go.Proofs.YtmehkneofinmiabGreatDoor
open Go.RowKit
theorem ret_int {k : IntKind} {a b : Int} (h : a = b) : Ending.returned (.int k a) = .returned (.int k b) := by rw [h]
theorem ret_bool {a b : Bool} (h : a = b) : Ending.returned (.bool a) = .returned (.bool b) := by rw [h]
theorem ret_str {a b : ByteArray} (h : a = b) : Ending.returned (.string a) = .returned (.string b) := by rw [h]
set_option maxHeartbeats 400000 in
theorem isLeap_any (y : Int) (w : World) (h0 : 0 ≤ y) (h1 : y ≤ 20000) :
    Calls Tryz.prog 243 #[.int .i64 y] w fun e w' => e = .returned (.bool (Cal.leap y)) ∧ w' = w := by
  go_enter Tryz.func243, Tryz.ntmps243
  go_wp2
  all_goals go_ret
  all_goals refine ⟨ret_bool ?_, rfl⟩
  all_goals first | (simp_all [Cal.leap]; done) | (have h4 : (y % 400 == 0) = false := by simp; omega
                                                   have h5 : (y % 4 == 0) = false := by simp; omega
                                                   simp [Cal.leap, h4, h5])
set_option maxHeartbeats 400000 in
theorem lya_any (y : Int) (w : World) (h0 : 1 ≤ y) (h1 : y ≤ 20000) :
    Calls Tryz.prog 242 #[.int .i64 y] w fun e w' => e = .returned (.int .i64 (Cal.lya y)) ∧ w' = w := by
  go_enter Tryz.func242, Tryz.ntmps242
  go_wp2
  go_ret
  exact ⟨ret_int (by simp [Cal.lya]), rfl⟩
theorem lya_bd (y : Int) (h0 : 1 ≤ y) (h1 : y ≤ 20000) : 0 ≤ Cal.lya y ∧ Cal.lya y ≤ 20000 := by unfold Cal.lya; omega
theorem lya_1970 : Cal.lya 1970 = 477 := by decide
set_option maxHeartbeats 400000 in
theorem ahead_any (y : Int) (w : World) (h0 : 1970 ≤ y) (h1 : y ≤ 20000) :
    Calls Tryz.prog 203 #[.int .i64 y] w fun e w' => e = .returned (.int .i64 (Cal.ahead y)) ∧ w' = w := by
  have hb := lya_bd y (by omega) h1
  go_enter Tryz.func203, Tryz.ntmps203
  go_wp2_with fail
  refine (lya_any _ _ (by omega) (by omega)).mono ?_
  rintro e w1 ⟨rfl, rfl⟩
  go_wp2_with fail
  refine (lya_any _ _ (by omega) (by omega)).mono ?_
  rintro e w1 ⟨rfl, rfl⟩
  rw [lya_1970]
  go_wp2
  go_ret
  exact ⟨ret_int (by simp [Cal.ahead]), rfl⟩
set_option maxHeartbeats 400000 in
theorem monthDays_any (y m : Int) (w : World) (h0 : 0 ≤ y) (h1 : y ≤ 20000) :
    Calls Tryz.prog 204 #[.int .i64 y, .int .i64 m] w fun e w' => e = .returned (.int .i64 (Cal.ml y m)) ∧ w' = w := by
  go_enter Tryz.func204, Tryz.ntmps204
  go_wp2_with (go_at_call 243; refine (isLeap_any _ _ h0 h1).mono ?_; rintro e w' ⟨rfl, rfl⟩)
  all_goals go_ret
  all_goals exact ⟨ret_int (by simp_all [Cal.ml]), rfl⟩
set_option maxHeartbeats 400000 in
theorem nameAt_any (s : ByteArray) (p : Int) (w : World) (h0 : 0 ≤ p) (h1 : 3 * p + 3 ≤ s.size) (hs : s.size ≤ 1000) :
    Calls Tryz.prog 154 #[.string s, .int .i64 p] w fun e w' => e = .returned (.string ⟨(Cal.nm s.data.toList p.toNat).toArray⟩) ∧ w' = w := by
  go_enter Tryz.func154, Tryz.ntmps154
  go_wp2
  go_ret
  refine ⟨ret_str ?_, rfl⟩
  rw [Lib.extract_eq, Cal.nm]
  rw [show (p * 3).toNat = p.toNat * 3 by omega, show ((p + 1) * 3).toNat - p.toNat * 3 = 3 by omega]
def dv (c : UInt8) : Int := ((c.toNat : Int) - 48) % 256
def num (l : List UInt8) : Int := l.foldl (fun n c => 10 * n + dv c) 0
theorem dv_bd (c : UInt8) : 0 ≤ dv c ∧ dv c ≤ 255 := by unfold dv; omega
theorem num_snoc (l : List UInt8) (c : UInt8) : num (l ++ [c]) = 10 * num l + dv c := by simp [num]
theorem fold_bd : ∀ (l : List UInt8) (n : Int), 0 ≤ n → 0 ≤ l.foldl (fun n c => 10 * n + dv c) n ∧ l.foldl (fun n c => 10 * n + dv c) n ≤ (n + 29) * 10 ^ l.length
  | [], n, h => by simp; omega
  | c :: l, n, h => by
    have hc := dv_bd c
    obtain ⟨a, b⟩ := fold_bd l (10 * n + dv c) (by omega)
    refine ⟨a, Int.le_trans b ?_⟩
    rw [List.length_cons, Int.pow_succ, show (n + 29) * (10 ^ l.length * 10) = ((n + 29) * 10) * 10 ^ l.length by rw [Int.mul_comm (10 ^ l.length) 10, ← Int.mul_assoc]]
    exact Int.mul_le_mul_of_nonneg_right (by omega) (Int.pow_nonneg (by omega))
theorem num_bd (l : List UInt8) (h : l.length ≤ 4) : 0 ≤ num l ∧ num l ≤ 290000 := by
  obtain ⟨a, b⟩ := fold_bd l 0 (Int.le_refl _)
  refine ⟨a, Int.le_trans b ?_⟩
  have : l.length = 0 ∨ l.length = 1 ∨ l.length = 2 ∨ l.length = 3 ∨ l.length = 4 := by omega
  rcases this with e | e | e | e | e <;> rw [e] <;> decide
theorem take_snoc (s : ByteArray) (k : Nat) (h : k < s.size) : s.data.toList.take (k + 1) = s.data.toList.take k ++ [s[k]] := by
  rw [List.take_succ_eq_append_getElem (by simpa using h)]; rfl
set_option maxHeartbeats 400000 in
theorem readNumber_any (s : ByteArray) (w : World) (hs : s.size ≤ 4) :
    Calls Tryz.prog 276 #[.string s] w fun e w' => e = .returned (.int .i64 (num s.data.toList)) ∧ w' = w := by
  go_enter Tryz.func276, Tryz.ntmps276
  go_wp2
  go_loop [3, 7] (fun n i => ∃ k : Nat, k ≤ s.size ∧ i = .int .i64 k ∧ n = .int .i64 (num (s.data.toList.take k))) (fun _ i => s.size - (intOf i).toNat)
  case atStart => exact ⟨0, Nat.zero_le _, rfl, rfl⟩
  case round =>
    obtain ⟨k, hk, rfl, rfl⟩ := hrel
    have hb := num_bd (s.data.toList.take k) (by simp; omega)
    by_cases hlt : k < s.size
    · have hd := dv_bd s[k]
      have HS : Hid (num (s.data.toList.take (k + 1)) = 10 * num (s.data.toList.take k) + dv s[k]) := by rw [take_snoc s k hlt]; exact num_snoc _ _
      unfold dv at hd HS
      go_wp2
      exact ⟨⟨k + 1, by omega, by go_num, by rw [HS.out]; go_num⟩, by simp [intOf]; omega⟩
    · go_wp2
      go_ret
      exact ⟨ret_int (by rw [List.take_of_length_le (by simp; omega)]), rfl⟩
def isD (c : UInt8) : Bool := decide (48 ≤ c.toNat) && decide (c.toNat ≤ 57)
def dgs (l : List UInt8) : Int := if l.all isD then num l else -1
theorem dgs_yes {l : List UInt8} (h : l.all isD = true) : dgs l = num l := by simp only [dgs]; rw [if_pos h]
end Go.Proofs.YtmehkneofinmiabGreatDoor

namespace Go.Proofs.YtmehkneofinmiabGreatDoor
open Go.RowKit
def pk (c n : Int) : Int := if c < 0 then (-(c + 1)) % n else c % n
theorem pk_bd (c n : Int) (h : 0 < n) : 0 ≤ pk c n ∧ pk c n < n := by
  unfold pk
  split
  · exact ⟨Int.emod_nonneg _ (by omega), Int.emod_lt_of_pos _ h⟩
  · exact ⟨Int.emod_nonneg _ (by omega), Int.emod_lt_of_pos _ h⟩
set_option maxHeartbeats 400000 in
theorem pick_any (c n : Int) (w : World) (hc0 : -9223372036854775808 ≤ c) (hc1 : c ≤ 9223372036854775807) (h : 0 < n) (hn : n ≤ 9223372036854775807) :
    Calls Tryz.prog 10 #[.int .i64 c, .int .i64 n] w fun e w' => e = .returned (.int .i64 (pk c n)) ∧ w' = w := by
  by_cases hc : c < 0
  · go_enter Tryz.func10, Tryz.ntmps10
    go_wp2
    go_ret
    refine ⟨ret_int ?_, rfl⟩
    unfold pk
    rw [if_pos hc, ← Int.neg_tmod, Int.tmod_eq_emod_of_nonneg (by omega)]
  · go_enter Tryz.func10, Tryz.ntmps10
    go_wp2
    go_ret
    refine ⟨ret_int ?_, rfl⟩
    unfold pk
    rw [if_neg (by omega)]
end Go.Proofs.YtmehkneofinmiabGreatDoor

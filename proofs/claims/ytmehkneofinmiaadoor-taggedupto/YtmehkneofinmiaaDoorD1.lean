/-
  The calendar, plainly: years, months and days as numbers; a date's text.
-/
import Derived.Lib.ItoaNum
namespace Go.Proofs.YtmehkneofinmiaaDoor
namespace Cal

def leap (y : Int) : Bool := y % 4 == 0 && (y % 100 != 0 || y % 400 == 0)
def lya (y : Int) : Int := (y - 1) / 4 - (y - 1) / 100 + (y - 1) / 400
def ahead (y : Int) : Int := 365 * (y - 1970) + lya y - 477
def ylen (y : Int) : Int := if leap y then 366 else 365
def ml (y m : Int) : Int := if m = 1 then (if leap y then 29 else 28) else if m = 3 ∨ m = 5 ∨ m = 8 ∨ m = 10 then 30 else 31
def cum (y : Int) : Nat → Int
  | 0 => 0
  | m + 1 => cum y m + ml y m

theorem leap_iff (y : Int) : leap y = true ↔ y % 4 = 0 ∧ (y % 100 ≠ 0 ∨ y % 400 = 0) := by simp [leap]
theorem ylen_cases (y : Int) : (y % 4 = 0 ∧ (y % 100 ≠ 0 ∨ y % 400 = 0) ∧ ylen y = 366) ∨ (¬ (y % 4 = 0 ∧ (y % 100 ≠ 0 ∨ y % 400 = 0)) ∧ ylen y = 365) := by
  unfold ylen
  by_cases h : leap y = true
  · have := (leap_iff y).1 h; simp [h, this]
  · have h' : ¬ (y % 4 = 0 ∧ (y % 100 ≠ 0 ∨ y % 400 = 0)) := fun k => h ((leap_iff y).2 k)
    right; exact ⟨h', by simp [h]⟩
theorem ylen_bd (y : Int) : 365 ≤ ylen y ∧ ylen y ≤ 366 := by unfold ylen; split <;> omega
theorem ahead_succ (y : Int) : ahead (y + 1) = ahead y + ylen y := by
  unfold ahead lya
  rcases ylen_cases y with ⟨h1, h2, h3⟩ | ⟨h1, h3⟩
  · rw [h3]; omega
  · rw [h3]; omega
theorem ahead_1970 : ahead 1970 = 0 := by decide
theorem ahead_10000 : ahead 10000 = 2932897 := by decide
theorem ahead_mono {a b : Int} (h : a ≤ b) : ahead a ≤ ahead b := by unfold ahead lya; omega
theorem ahead_lt {a b : Int} (h : a < b) : ahead a < ahead b := by unfold ahead lya; omega
theorem ml_bd (y m : Int) : 28 ≤ ml y m ∧ ml y m ≤ 31 := by unfold ml; repeat' split <;> omega
theorem cum_12 (y : Int) : cum y 12 = ylen y := by
  simp only [cum, ml, ylen]
  by_cases h : leap y = true <;> simp [h]
theorem cum_le (y : Int) {a b : Nat} (h : a ≤ b) : cum y a ≤ cum y b := by
  induction b with
  | zero => obtain rfl : a = 0 := by omega
            exact Int.le_refl _
  | succ b ih =>
    by_cases e : a = b + 1
    · rw [e]; exact Int.le_refl _
    · have := ih (by omega)
      have := ml_bd y b
      simp only [cum]; omega
theorem cum_nonneg (y : Int) (a : Nat) : 0 ≤ cum y a := by have := cum_le y (Nat.zero_le a); simpa [cum] using this

/-- the day d is the k-th (from 0) of the month m (from 0) of the year y -/
structure Sp (d y : Int) (m : Nat) (k : Int) : Prop where
  y0 : 1970 ≤ y
  m12 : m < 12
  k0 : 0 ≤ k
  k1 : k < ml y m
  eq : d = ahead y + cum y m + k

theorem Sp.year {d y : Int} {m : Nat} {k : Int} (h : Sp d y m k) : ahead y ≤ d ∧ d < ahead (y + 1) := by
  obtain ⟨_, hm, h0, h1, rfl⟩ := h
  have := cum_nonneg y m
  have := cum_le y (show m + 1 ≤ 12 by omega)
  rw [cum_12] at this
  rw [ahead_succ]
  simp only [cum] at this
  omega
theorem Sp.uniq {d y y' : Int} {m m' : Nat} {k k' : Int} (h : Sp d y m k) (h' : Sp d y' m' k') : y = y' ∧ m = m' ∧ k = k' := by
  have a := h.year
  have b := h'.year
  have e : y = y' := by
    rcases Int.lt_trichotomy y y' with l | l | l
    · have := ahead_mono (show y + 1 ≤ y' by omega); omega
    · exact l
    · have := ahead_mono (show y' + 1 ≤ y by omega); omega
  subst e
  have e1 := h.eq
  have e2 := h'.eq
  have k0 := h.k0
  have k1 := h.k1
  have k0' := h'.k0
  have k1' := h'.k1
  have em : m = m' := by
    rcases Nat.lt_trichotomy m m' with l | l | l
    · have := cum_le y (show m + 1 ≤ m' by omega)
      simp only [cum] at this; omega
    · exact l
    · have := cum_le y (show m' + 1 ≤ m by omega)
      simp only [cum] at this; omega
  subst em
  exact ⟨rfl, rfl, by omega⟩
theorem Sp.range {d y : Int} {m : Nat} {k : Int} (h : Sp d y m k) (h1 : d ≤ 2932896) : y ≤ 9999 := by
  have := h.year
  by_cases e : y ≤ 9999
  · exact e
  · have := ahead_mono (show (10000 : Int) ≤ y by omega)
    rw [ahead_10000] at this; omega

/-! Texts. -/
def dig (n : Int) : UInt8 := UInt8.ofNat (48 + n.toNat)
def two (n : Int) : List UInt8 := [dig (n / 10), dig (n % 10)]
def four (n : Int) : List UInt8 := [dig (n / 1000), dig (n / 100 % 10), dig (n / 10 % 10), dig (n % 10)]
def nm (s : List UInt8) (i : Nat) : List UInt8 := (s.drop (i * 3)).take 3
def week : List UInt8 := [84, 104, 117, 70, 114, 105, 83, 97, 116, 83, 117, 110, 77, 111, 110, 84, 117, 101, 87, 101, 100]
def weekR : List UInt8 := [83, 117, 110, 77, 111, 110, 84, 117, 101, 87, 101, 100, 84, 104, 117, 70, 114, 105, 83, 97, 116]
def months : List UInt8 := [74, 97, 110, 70, 101, 98, 77, 97, 114, 65, 112, 114, 77, 97, 121, 74, 117, 110, 74, 117, 108, 65, 117, 103, 83, 101, 112, 79, 99, 116, 78, 111, 118, 68, 101, 99]
def fmt (d y : Int) (m : Nat) (k s : Int) : List UInt8 :=
  nm week (d % 7).toNat ++ [44, 32] ++ two (k + 1) ++ [32] ++ nm months m ++ [32] ++ four y ++ [32] ++ two (s / 3600) ++ [58] ++ two (s % 3600 / 60) ++ [58] ++ two (s % 60) ++ [32, 71, 77, 84]
def IsStamp (sec : Int) (l : List UInt8) : Prop := ∃ y m k, Sp (sec / 86400) y m k ∧ l = fmt (sec / 86400) y m k (sec % 86400)

theorem IsStamp.uniq {sec : Int} {l l' : List UInt8} (h : IsStamp sec l) (h' : IsStamp sec l') : l = l' := by
  obtain ⟨y, m, k, s, rfl⟩ := h
  obtain ⟨y', m', k', s', rfl⟩ := h'
  obtain ⟨rfl, rfl, rfl⟩ := s.uniq s'
  rfl

theorem dig_inj {a b : Int} (h : dig a = dig b) (ha : 0 ≤ a) (ha' : a < 10) (hb : 0 ≤ b) (hb' : b < 10) : a = b := by
  have := congrArg UInt8.toNat h
  simp [dig] at this
  omega
theorem two_inj {a b : Int} (h : two a = two b) (ha : 0 ≤ a) (ha' : a < 100) (hb : 0 ≤ b) (hb' : b < 100) : a = b := by
  simp only [two, List.cons.injEq, and_true] at h
  have h1 := dig_inj h.1 (by omega) (by omega) (by omega) (by omega)
  have h2 := dig_inj h.2 (by omega) (by omega) (by omega) (by omega)
  omega
theorem four_inj {a b : Int} (h : four a = four b) (ha : 0 ≤ a) (ha' : a < 10000) (hb : 0 ≤ b) (hb' : b < 10000) : a = b := by
  simp only [four, List.cons.injEq, and_true] at h
  have h1 := dig_inj h.1 (by omega) (by omega) (by omega) (by omega)
  have h2 := dig_inj h.2.1 (by omega) (by omega) (by omega) (by omega)
  have h3 := dig_inj h.2.2.1 (by omega) (by omega) (by omega) (by omega)
  have h4 := dig_inj h.2.2.2 (by omega) (by omega) (by omega) (by omega)
  omega
theorem nm_months_inj : ∀ i j : Fin 12, nm months i = nm months j → i = j := by decide
theorem week_same : ∀ i : Fin 7, nm weekR ((i.val + 4) % 7) = nm week i := by decide
theorem len_week : ∀ i : Fin 7, (nm week i).length = 3 := by decide
theorem len_months : ∀ i : Fin 12, (nm months i).length = 3 := by decide
end Cal
end Go.Proofs.YtmehkneofinmiaaDoor

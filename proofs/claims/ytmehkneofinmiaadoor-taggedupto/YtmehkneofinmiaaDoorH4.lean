/-
  Plainly: the document's number in four parts of 16 bits.
-/
import Derived.Test.YtmehkneofinmiaaDoorH1
namespace Go.Proofs.YtmehkneofinmiaaDoor

/-- four parts as one number -/
def val4 (h : Nat → Nat) : Nat := h 0 + h 1 * 65536 + h 2 * 4294967296 + h 3 * 281474976710656
def pt : Nat → Nat
  | 0 => 435
  | 2 => 256
  | _ => 0

theorem xor_low (q r b : Nat) (hr : r < 256) (hb : b < 256) : (256 * q + r) ^^^ b = 256 * q + (r ^^^ b) := by
  have hx : r ^^^ b < 2 ^ 8 := Nat.xor_lt_two_pow (n := 8) hr hb
  apply Nat.eq_of_testBit_eq
  intro i
  rw [show (256 : Nat) = 2 ^ 8 from rfl, Nat.testBit_xor, Nat.testBit_two_pow_mul_add _ (show r < 2 ^ 8 from hr), Nat.testBit_two_pow_mul_add _ hx]
  split
  · rw [Nat.testBit_xor]
  · have : b.testBit i = false := Nat.testBit_lt_two_pow (Nat.lt_of_lt_of_le hb (Nat.pow_le_pow_right (n := 2) (by decide) (show 8 ≤ i by omega)))
    rw [this]
    simp
/-- what the products of parts a and b add up to at place i, up to (a, b) -/
def nAt (h : Nat → Nat) : Nat → Nat → Nat → Nat
  | 0, b, i => if i < b then h 0 * pt i else 0
  | a + 1, b, i => nAt h a (4 - a) i + (if a + 1 ≤ i ∧ i - (a + 1) < b then h (a + 1) * pt (i - (a + 1)) else 0)
theorem nAt_step (h : Nat → Nat) (a b i : Nat) : nAt h a (b + 1) i = nAt h a b i + (if i = a + b then h a * pt b else 0) := by
  cases a with
  | zero =>
    simp only [nAt]
    by_cases e : i = 0 + b
    · rw [if_pos e, if_pos (by omega), if_neg (by omega), show i = b by omega]
      simp
    · rw [if_neg e]
      by_cases e2 : i < b
      · rw [if_pos e2, if_pos (by omega)]
        simp
      · rw [if_neg e2, if_neg (by omega)]
  | succ a =>
    simp only [nAt]
    by_cases e : i = a + 1 + b
    · rw [if_pos e, if_pos (by omega), if_neg (by omega), show i - (a + 1) = b by omega]
      omega
    · rw [if_neg e]
      by_cases e2 : a + 1 ≤ i ∧ i - (a + 1) < b
      · rw [if_pos e2, if_pos (by omega)]
        simp
      · rw [if_neg e2, if_neg (by omega)]
theorem nAt_next (h : Nat → Nat) (a b i : Nat) (hb : a + b = 4) : nAt h (a + 1) 0 i = nAt h a b i := by
  rw [nAt, show 4 - a = b by omega, if_neg (by omega)]
  simp
theorem nAt_start (h : Nat → Nat) (i : Nat) : nAt h 0 0 i = 0 := by rw [nAt, if_neg (by omega)]
/-- the four sums -/
theorem nAt_end (h : Nat → Nat) : nAt h 3 1 0 = h 0 * 435 ∧ nAt h 3 1 1 = h 1 * 435 ∧ nAt h 3 1 2 = h 0 * 256 + h 2 * 435 ∧ nAt h 3 1 3 = h 1 * 256 + h 3 * 435 := by
  refine ⟨?_, ?_, ?_, ?_⟩ <;> simp [nAt, pt]
theorem nAt_le (h : Nat → Nat) (hh : ∀ i, h i < 65536) (a b i : Nat) (ha : a < 4) : nAt h a b i ≤ (a + 1) * 28507725 := by
  have hp : ∀ (x j : Nat), h x * pt j ≤ 28507725 := fun x j => by
    have h1 := hh x
    have h2 : pt j ≤ 435 := by
      unfold pt
      split <;> omega
    have h3 : h x * pt j ≤ 65535 * 435 := Nat.mul_le_mul (by omega) h2
    omega
  induction a generalizing b with
  | zero =>
    simp only [nAt]
    split
    · have := hp 0 i; omega
    · omega
  | succ a ih =>
    have := ih (4 - a) (by omega)
    simp only [nAt]
    split
    · have h4 := hp (a + 1) (i - (a + 1))
      rw [Nat.add_mul (a + 1) 1, Nat.one_mul]
      exact Nat.add_le_add this h4
    · rw [Nat.add_zero]
      exact Nat.le_trans this (Nat.mul_le_mul_right _ (by omega))
/-- carrying over gives the parts of the product -/
theorem carried (h n g : Nat → Nat) (c1 c2 c3 c4 : Nat) (hn0 : n 0 = h 0 * 435) (hn1 : n 1 = h 1 * 435) (hn2 : n 2 = h 0 * 256 + h 2 * 435) (hn3 : n 3 = h 1 * 256 + h 3 * 435)
    (e0 : g 0 + c1 * 65536 = n 0) (e1 : g 1 + c2 * 65536 = n 1 + c1) (e2 : g 2 + c3 * 65536 = n 2 + c2) (e3 : g 3 + c4 * 65536 = n 3 + c3) (hg : ∀ i, g i < 65536) :
    val4 g = val4 h * 1099511628211 % 18446744073709551616 := by
  have g0 := hg 0
  have g1 := hg 1
  have g2 := hg 2
  have g3 := hg 3
  unfold val4
  omega
theorem hexN_val (h : Nat → Nat) (hh : ∀ i, h i < 65536) : hexN 16 (val4 h) = hexN 4 (h 3) ++ (hexN 4 (h 2) ++ (hexN 4 (h 1) ++ hexN 4 (h 0))) := by
  have g0 := hh 0
  have g1 := hh 1
  have g2 := hh 2
  have g3 := hh 3
  have e : ∀ u, hexN 4 u = hexN 0 (u / 65536) ++ hexN 4 (u % 65536) := hexN_split 0
  rw [show (16 : Nat) = 12 + 4 from rfl, hexN_split 12, show (12 : Nat) = 8 + 4 from rfl, hexN_split 8, show (8 : Nat) = 4 + 4 from rfl, hexN_split 4]
  have v0 : val4 h % 65536 = h 0 := by unfold val4; omega
  have v1 : val4 h / 65536 % 65536 = h 1 := by unfold val4; omega
  have v2 : val4 h / 65536 / 65536 % 65536 = h 2 := by unfold val4; omega
  have v3 : val4 h / 65536 / 65536 / 65536 = h 3 := by unfold val4; omega
  rw [v0, v1, v2, v3]
  simp
end Go.Proofs.YtmehkneofinmiaaDoor

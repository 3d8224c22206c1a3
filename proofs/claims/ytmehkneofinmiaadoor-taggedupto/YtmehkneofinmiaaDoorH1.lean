/-
  Plainly: hexadecimal digits, and the number of a body.
-/
import Derived.Test.YtmehkneofinmiaaDoorD2
import Derived.Laws.BitsAllLaws
namespace Go.Proofs.YtmehkneofinmiaaDoor

def hexD (n : Nat) : UInt8 := UInt8.ofNat (if n < 10 then 48 + n else 87 + n)
/-- so many digits -/
def hexN : Nat → Nat → List UInt8
  | 0, _ => []
  | k + 1, u => hexN k (u / 16) ++ [hexD (u % 16)]
/-- without noughts ahead -/
def hexM : Nat → Nat → List UInt8
  | 0, _ => []
  | k + 1, u => if u < 16 then [hexD u] else hexM k (u / 16) ++ [hexD (u % 16)]
theorem hexN_len (k u : Nat) : (hexN k u).length = k := by
  induction k generalizing u with
  | zero => rfl
  | succ k ih => simp [hexN, ih]
theorem hexM_len (k u : Nat) : (hexM k u).length ≤ k := by
  induction k generalizing u with
  | zero => exact Nat.le_refl _
  | succ k ih =>
    unfold hexM
    split
    · simp
    · have := ih (u / 16)
      simp
      omega
theorem hexN_zero (k : Nat) : hexN k 0 = List.replicate k 48 := by
  induction k with
  | zero => rfl
  | succ k ih =>
    rw [hexN, Nat.zero_div, ih, List.replicate_succ']
    rfl
theorem hexM_pos (k u : Nat) : 0 < k → 0 < (hexM k u).length := by
  cases k with
  | zero => omega
  | succ k =>
    intro _
    unfold hexM
    split <;> simp
/-- noughts ahead make the one the other -/
theorem hex_pad (k u : Nat) (h : u < 16 ^ (k + 1)) : List.replicate (k + 1 - (hexM (k + 1) u).length) 48 ++ hexM (k + 1) u = hexN (k + 1) u := by
  induction k generalizing u with
  | zero =>
    have h' : u < 16 := by simpa using h
    simp [hexM, hexN, h', Nat.mod_eq_of_lt h']
  | succ k ih =>
    by_cases hu : u < 16
    · have e : hexM (k + 1 + 1) u = [hexD u] := by rw [hexM, if_pos hu]
      rw [e, hexN, Nat.div_eq_of_lt hu, hexN_zero, Nat.mod_eq_of_lt hu]
      rfl
    · have e : hexM (k + 1 + 1) u = hexM (k + 1) (u / 16) ++ [hexD (u % 16)] := by rw [hexM, if_neg hu]
      have h2 : u / 16 < 16 ^ (k + 1) := by
        rw [Nat.div_lt_iff_lt_mul (by decide), ← Nat.pow_succ]
        exact h
      rw [e, hexN, ← ih (u / 16) h2, List.length_append, List.length_singleton, ← List.append_assoc]
      congr 3
      omega
theorem hexN_split (k u : Nat) : hexN (k + 4) u = hexN k (u / 65536) ++ hexN 4 (u % 65536) := by
  show ((((hexN k (u / 16 / 16 / 16 / 16) ++ [hexD (u / 16 / 16 / 16 % 16)]) ++ [hexD (u / 16 / 16 % 16)]) ++ [hexD (u / 16 % 16)]) ++ [hexD (u % 16)]) = hexN k (u / 65536) ++ (((([] ++ [hexD (u % 65536 / 16 / 16 / 16 % 16)]) ++ [hexD (u % 65536 / 16 / 16 % 16)]) ++ [hexD (u % 65536 / 16 % 16)]) ++ [hexD (u % 65536 % 16)])
  rw [show u / 16 / 16 / 16 / 16 = u / 65536 by omega, show u % 65536 / 16 / 16 / 16 % 16 = u / 16 / 16 / 16 % 16 by omega, show u % 65536 / 16 / 16 % 16 = u / 16 / 16 % 16 by omega, show u % 65536 / 16 % 16 = u / 16 % 16 by omega, show u % 65536 % 16 = u % 16 by omega]
  simp

/-- one byte more -/
def fnvS (h : Nat) (c : UInt8) : Nat := (h ^^^ c.toNat) * 1099511628211 % 18446744073709551616
def fnv (l : List UInt8) : Nat := l.foldl fnvS 14695981039346656037
theorem fnv_snoc (l : List UInt8) (c : UInt8) : fnv (l ++ [c]) = fnvS (fnv l) c := by
  unfold fnv
  rw [List.foldl_append, List.foldl_cons, List.foldl_nil]
theorem fnvS_lt (h : Nat) (c : UInt8) : fnvS h c < 18446744073709551616 := by
  unfold fnvS
  omega
theorem fnv_lt (l : List UInt8) : fnv l < 18446744073709551616 := by
  suffices h : ∀ (l : List UInt8) (x : Nat), x < 18446744073709551616 → l.foldl fnvS x < 18446744073709551616 from h l _ (by omega)
  intro l
  induction l with
  | nil => exact fun x hx => hx
  | cons c l ih => exact fun x _ => ih _ (fnvS_lt x c)
theorem xor_step (H : Nat) (c : UInt8) (hH : H < 18446744073709551616) : IntKind.u64.wrap (bits .xor .u64 (H : Int) (c.toNat : Int) * 1099511628211) = ((fnvS H c : Nat) : Int) := by
  rw [u64_xor_nat H c.toNat hH (by have := c.toNat_lt; omega), IntKind.wrap_u64]
  unfold fnvS
  omega
end Go.Proofs.YtmehkneofinmiaaDoor

/-
  Plainly: the text that Quoted writes, tag by tag.
-/
import Derived.Test.YtmehkneofinmiaaDoorQ2
import Derived.Test.YtmehkneofinmiaaDoorP1
namespace Go.Proofs.YtmehkneofinmiaaDoor

theorem body_snoc (x : Bool × List UInt8 × List UInt8) (fin : List UInt8) : ∀ (a : Items), a ≠ [] → body (a ++ [x]) fin = body a (lastGap a ++ (44 :: (x.2.2 ++ (mk x.1 x.2.1 ++ fin))))
  | [], h => absurd rfl h
  | [(wk, t, g)], _ => by obtain ⟨wk', t', g'⟩ := x; simp [body, lastGap]
  | (wk, t, g) :: (wk', t', g') :: r, _ => by
    have ih := body_snoc x fin ((wk', t', g') :: r) (by simp)
    simp only [List.cons_append, body, lastGap] at ih ⊢
    rw [ih]
theorem lastGap_snoc (x : Bool × List UInt8 × List UInt8) : ∀ (a : Items), lastGap (a ++ [x]) = x.2.2
  | [] => rfl
  | [_] => rfl
  | _ :: y :: r => by
    have ih := lastGap_snoc x (y :: r)
    simp only [List.cons_append, lastGap] at ih ⊢
    exact ih
theorem firstGap_snoc (x : Bool × List UInt8 × List UInt8) (a : Items) (h : a ≠ []) : firstGap (a ++ [x]) = firstGap a := by
  cases a with
  | nil => exact absurd rfl h
  | cons y r => rfl
theorem out_first (x : Bool × List UInt8 × List UInt8) : outOf [x] = x.2.2 ++ (mk x.1 x.2.1 ++ x.2.2) := rfl
theorem out_more (a : Items) (x : Bool × List UInt8 × List UInt8) (h : a ≠ []) : outOf (a ++ [x]) = outOf a ++ (44 :: (x.2.2 ++ (mk x.1 x.2.1 ++ x.2.2))) := by
  unfold outOf
  rw [firstGap_snoc x a h, lastGap_snoc, body_snoc x _ a h, body_app (lastGap a) a h, body_app _ a h]
  simp

def gapOf (k : Int) : List UInt8 := if k = 0 then [] else if k = 1 then [32] else if k = 2 then [9] else [32, 32]
theorem gap_ok (k : Int) : (gapOf k).all blank = true := by
  unfold gapOf
  split
  · rfl
  · split
    · rfl
    · split <;> rfl
theorem gap_len (k : Int) : (gapOf k).length ≤ 2 := by
  unfold gapOf
  split
  · simp
  · split
    · simp
    · split <;> simp

def itemOf (weak gaps : Int) (T : Nat → ByteArray) (j : Nat) : Bool × List UInt8 × List UInt8 :=
  (pk (RowKit.wrap64 (weak + j)) 2 == 1, (T j).data.toList.filter tb, gapOf (pk (RowKit.wrap64 (gaps + j)) 4))
def its (weak gaps : Int) (T : Nat → ByteArray) : Nat → Items
  | 0 => []
  | j + 1 => its weak gaps T j ++ [itemOf weak gaps T j]
def sumSz (T : Nat → ByteArray) : Nat → Nat
  | 0 => 0
  | j + 1 => sumSz T j + (T j).size
theorem sumSz_mono (T : Nat → ByteArray) {m n : Nat} (h : m ≤ n) : sumSz T m ≤ sumSz T n := by
  induction n with
  | zero => rw [show m = 0 by omega]; exact Nat.le_refl _
  | succ n ih =>
    by_cases e : m = n + 1
    · rw [e]; exact Nat.le_refl _
    · have := ih (by omega)
      simp only [sumSz]
      omega
theorem its_len (weak gaps : Int) (T : Nat → ByteArray) (n : Nat) : (its weak gaps T n).length = n := by
  induction n with
  | zero => rfl
  | succ n ih => simp [its, ih]
theorem its_ok (weak gaps : Int) (T : Nat → ByteArray) (n : Nat) : (its weak gaps T n).all okItem = true := by
  induction n with
  | zero => rfl
  | succ n ih =>
    simp only [its, List.all_append, ih, List.all_cons, List.all_nil, Bool.and_true, Bool.true_and, okItem, itemOf, gap_ok]
    unfold okText
    rw [List.all_eq_true]
    intro c hc
    exact (List.mem_filter.1 hc).2
theorem its_get (weak gaps : Int) (T : Nat → ByteArray) (n j : Nat) (h : j < n) : (its weak gaps T n)[j]? = some (itemOf weak gaps T j) := by
  induction n with
  | zero => omega
  | succ n ih =>
    simp only [its]
    by_cases e : j < n
    · rw [List.getElem?_append_left (by rw [its_len]; exact e), ih e]
    · obtain rfl : j = n := by omega
      rw [List.getElem?_append_right (by rw [its_len]; exact Nat.le_refl _), its_len]
      simp
theorem mk_len (wk : Bool) (t : List UInt8) : (mk wk t).length ≤ 4 + t.length := by
  cases wk
  · simp [mk]; omega
  · simp [mk]; omega
theorem item_len (weak gaps : Int) (T : Nat → ByteArray) (j : Nat) : ((itemOf weak gaps T j).2.2 ++ (mk (itemOf weak gaps T j).1 (itemOf weak gaps T j).2.1 ++ (itemOf weak gaps T j).2.2)).length ≤ 8 + (T j).size := by
  have h1 := gap_len (pk (RowKit.wrap64 (gaps + j)) 4)
  have h2 := List.length_filter_le tb (T j).data.toList
  have h3 := Lib.size_eq (T j)
  have h4 := mk_len (pk (RowKit.wrap64 (weak + j)) 2 == 1) ((T j).data.toList.filter tb)
  simp only [itemOf, List.length_append]
  omega
theorem out_len (weak gaps : Int) (T : Nat → ByteArray) (n : Nat) : (outOf (its weak gaps T n)).length ≤ 9 * n + sumSz T n := by
  induction n with
  | zero => simp [its, outOf, firstGap, body, lastGap]
  | succ n ih =>
    have h := item_len weak gaps T n
    by_cases e : n = 0
    · subst e
      simp only [its, List.nil_append, out_first, sumSz]
      omega
    · have hne : its weak gaps T n ≠ [] := by
        intro h0
        have := its_len weak gaps T n
        rw [h0] at this
        simp at this
        omega
      simp only [its, out_more _ _ hne, List.length_append, List.length_cons, sumSz] at h ⊢
      omega
end Go.Proofs.YtmehkneofinmiaaDoor

/-
  Plainly: a tag at a place of a text, as the document's own reading goes.
-/
import Derived.Test.YtmehkneofinmiaaDoorU1
namespace Go.Proofs.YtmehkneofinmiaaDoor

/-- the text of a tag up to its quote, and what stands behind -/
def scan : List UInt8 → Option (List UInt8 × List UInt8)
  | [] => none
  | c :: r => if c = 34 then some ([], r) else if tb c then (scan r).map (fun x => (c :: x.1, x.2)) else none

theorem index_least (l p : List UInt8) : -1 ≤ Lib.index l p := by
  induction l with
  | nil => unfold Lib.index; split <;> decide
  | cons c r ih =>
    unfold Lib.index
    split
    · decide
    · split
      · decide
      · omega
theorem cut_cons (c : UInt8) (r : List UInt8) : Lib.cut (c :: r) [34] = if c = 34 then ([], r, true) else (c :: (Lib.cut r [34]).1, (Lib.cut r [34]).2.1, (Lib.cut r [34]).2.2) := by
  by_cases h : c = 34
  · subst h
    simp [Lib.cut, Lib.index]
  · have hne : ((34 : UInt8) == c) = false := by simp; exact fun e => h e.symm
    rw [if_neg h]
    have hi : Lib.index (c :: r) [34] = if Lib.index r [34] == -1 then -1 else Lib.index r [34] + 1 := by
      simp [Lib.index, List.isPrefixOf, hne]
    have hg := index_least r [34]
    unfold Lib.cut
    rw [hi]
    by_cases e : Lib.index r [34] = -1
    · simp [e]
    · have e' : (if (Lib.index r [34] == -1) = true then (-1 : Int) else Lib.index r [34] + 1) = Lib.index r [34] + 1 := by
        rw [if_neg]
        simpa using e
      rw [e', if_pos (show 0 ≤ Lib.index r [34] + 1 by omega), if_pos (show 0 ≤ Lib.index r [34] by omega), show (Lib.index r [34] + 1).toNat = (Lib.index r [34]).toNat + 1 by omega]
      simp
theorem scan_cut (l : List UInt8) : scan l = if (Lib.cut l [34]).2.2 && okText (Lib.cut l [34]).1 then some ((Lib.cut l [34]).1, (Lib.cut l [34]).2.1) else none := by
  induction l with
  | nil => rfl
  | cons c r ih =>
    rw [cut_cons, scan]
    by_cases h : c = 34
    · simp [h, okText]
    · rw [if_neg h, if_neg h, ih]
      cases ht : tb c with
      | false => simp [okText, ht]
      | true =>
        by_cases hb : ((Lib.cut r [34]).2.2 && okText (Lib.cut r [34]).1) = true
        · have hb' : ((Lib.cut r [34]).2.2 && okText (c :: (Lib.cut r [34]).1)) = true := by
            simp only [okText, List.all_cons, ht, Bool.true_and] at hb ⊢
            exact hb
          simp only [hb, hb', if_true]
          rfl
        · have hb' : ¬ ((Lib.cut r [34]).2.2 && okText (c :: (Lib.cut r [34]).1)) = true := by
            simp only [okText, List.all_cons, ht, Bool.true_and] at hb ⊢
            exact hb
          simp only [hb, hb', if_true]
          rfl
theorem tagF_scan (l : List UInt8) : tagF l = if Lib.hasPrefix (Lib.trimPrefix l [87, 47]) [34] then (scan (Lib.trimPrefix (Lib.trimPrefix l [87, 47]) [34])).map (fun x => (Lib.hasPrefix l [87, 47], x.1, x.2)) else none := by
  rw [tagF_def, scan_cut]
  cases Lib.hasPrefix (Lib.trimPrefix l [87, 47]) [34] with
  | false => rfl
  | true =>
    rw [Bool.true_and, if_pos rfl]
    split <;> rfl

theorem byte_eq {c : UInt8} {n : Nat} (hn : n < 256) (h : (c.toNat : Int) = (n : Int)) : c = UInt8.ofNat n := by
  apply UInt8.toNat_inj.1
  rw [UInt8.toNat_ofNat', Nat.mod_eq_of_lt hn]
  omega
theorem byte_ne {c : UInt8} {n : Nat} (hn : n < 256) (h : ¬ (c.toNat : Int) = (n : Int)) : ¬ c = UInt8.ofNat n := by
  intro e
  subst e
  rw [UInt8.toNat_ofNat', Nat.mod_eq_of_lt hn] at h
  exact h rfl

/-- A weak tag at a place. -/
theorem tag_weak (s : ByteArray) (a : Nat) (h : a + 2 < s.size) (h1 : (s[a].toNat : Int) = 87) (h2 : (s[a + 1].toNat : Int) = 47) :
    tagF (s.data.toList.drop a) = if (s[a + 2].toNat : Int) = 34 then (scan (s.data.toList.drop (a + 2 + 1))).map (fun x => (true, x.1, x.2)) else none := by
  have e1 : s[a] = 87 := byte_eq (n := 87) (by decide) h1
  have e2 : s[a + 1] = 47 := byte_eq (n := 47) (by decide) h2
  rw [tagF_scan, drop_cons s a (by omega), drop_cons s (a + 1) (by omega), drop_cons s (a + 2) (by omega), e1, e2]
  have p1 : ∀ x : List UInt8, Lib.hasPrefix (87 :: 47 :: x) [87, 47] = true := fun x => by simp [Lib.hasPrefix]
  have p2 : ∀ x : List UInt8, Lib.trimPrefix (87 :: 47 :: x) [87, 47] = x := fun x => by simp [Lib.trimPrefix, Lib.hasPrefix]
  rw [p1, p2]
  by_cases hq : (s[a + 2].toNat : Int) = 34
  · have e3 : s[a + 2] = 34 := byte_eq (n := 34) (by decide) hq
    rw [if_pos hq, e3]
    simp [Lib.trimPrefix, Lib.hasPrefix]
  · have e3 := byte_ne (n := 34) (by decide) hq
    rw [if_neg hq, if_neg]
    simp [Lib.hasPrefix]
    exact fun e => e3 e.symm
/-- A tag at a place that is not weak. -/
theorem tag_plain (s : ByteArray) (a : Nat) (hn : ∀ h : a + 2 < s.size, ¬ ((s[a].toNat : Int) = 87 ∧ (s[a + 1].toNat : Int) = 47)) :
    tagF (s.data.toList.drop a) = if h : a < s.size then (if (s[a].toNat : Int) = 34 then (scan (s.data.toList.drop (a + 1))).map (fun x => (false, x.1, x.2)) else none) else none := by
  by_cases h : a < s.size
  · rw [dif_pos h, tagF_scan, drop_cons s a h]
    by_cases hw : Lib.hasPrefix (s[a] :: s.data.toList.drop (a + 1)) [87, 47] = true
    · have h2 : a + 1 < s.size := by
        apply Classical.byContradiction
        intro hc
        rw [List.drop_of_length_le (by rw [← Lib.size_eq]; omega)] at hw
        simp [Lib.hasPrefix] at hw
      rw [drop_cons s (a + 1) h2] at hw ⊢
      have hw' : (87 : UInt8) = s[a] ∧ (47 : UInt8) = s[a + 1] := by simpa [Lib.hasPrefix] using hw
      have h3 : ¬ a + 2 < s.size := fun hc => hn hc ⟨by rw [← hw'.1]; rfl, by rw [← hw'.2]; rfl⟩
      rw [List.drop_of_length_le (by rw [← Lib.size_eq]; omega), ← hw'.1, ← hw'.2]
      rfl
    · have hw0 : Lib.hasPrefix (s[a] :: s.data.toList.drop (a + 1)) [87, 47] = false := by simpa using hw
      have ht : Lib.trimPrefix (s[a] :: s.data.toList.drop (a + 1)) [87, 47] = s[a] :: s.data.toList.drop (a + 1) := by unfold Lib.trimPrefix; rw [if_neg hw]
      rw [ht, hw0]
      by_cases hq : (s[a].toNat : Int) = 34
      · have e3 : s[a] = 34 := byte_eq (n := 34) (by decide) hq
        rw [if_pos hq, e3]
        simp [Lib.trimPrefix, Lib.hasPrefix]
      · have e3 := byte_ne (n := 34) (by decide) hq
        rw [if_neg hq, if_neg]
        simp [Lib.hasPrefix]
        exact fun e => e3 e.symm
  · rw [dif_neg h, List.drop_of_length_le (by rw [← Lib.size_eq]; omega)]
    decide
end Go.Proofs.YtmehkneofinmiaaDoor

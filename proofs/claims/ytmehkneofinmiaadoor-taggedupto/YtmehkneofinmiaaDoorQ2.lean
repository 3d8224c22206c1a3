/-
  Plainly: what Tags reads in a built list, in one with a comma more, in one with a letter more.
-/
import Derived.Test.YtmehkneofinmiaaDoorQ1
namespace Go.Proofs.YtmehkneofinmiaaDoor

abbrev Items := List (Bool × List UInt8 × List UInt8)
theorem body_app (fin : List UInt8) : ∀ (a : Items), a ≠ [] → body a fin = body a [] ++ fin
  | [], h => absurd rfl h
  | [(wk, t, g)], _ => by simp [body]
  | (wk, t, g) :: (wk', t', g') :: r, _ => by
    simp only [body]
    rw [body_app fin ((wk', t', g') :: r) (by simp)]
    simp
theorem body_last : ∀ (a : Items), a ≠ [] → ∃ y, body a [] = y ++ [34]
  | [], h => absurd rfl h
  | [(wk, t, g)], _ => ⟨(if wk then [87, 47] else []) ++ [34] ++ t, by simp [body, mk]⟩
  | (wk, t, g) :: (wk', t', g') :: r, _ => by
    obtain ⟨y, hy⟩ := body_last ((wk', t', g') :: r) (by simp)
    exact ⟨mk wk t ++ (g ++ (44 :: (g' ++ y))), by simp [body, hy]⟩
theorem body_head (a : Items) (fin : List UInt8) (h : a ≠ []) : ∃ c x, body a fin = c :: x ∧ blank c = false ∧ c ≠ 42 := by
  match a, h with
  | [(wk, t, g)], _ =>
    cases wk
    · exact ⟨34, t ++ 34 :: fin, by simp [body, mk], by decide, by decide⟩
    · exact ⟨87, 47 :: 34 :: (t ++ 34 :: fin), by simp [body, mk], by decide, by decide⟩
  | (wk, t, g) :: (wk', t', g') :: r, _ =>
    cases wk
    · exact ⟨34, _, by simp [body, mk]; rfl, by decide, by decide⟩
    · exact ⟨87, _, by simp [body, mk]; rfl, by decide, by decide⟩

theorem trimR_gap (x g : List UInt8) (h : g.all blank = true) : Lib.trimRightS (x ++ g) [32, 9] = Lib.trimRightS x [32, 9] := by
  unfold Lib.trimRightS
  rw [List.reverse_append]
  have := strip_gap g.reverse x.reverse (by simpa using h)
  unfold strip Lib.trimLeftS at this
  rw [this]
theorem trimR_last (y : List UInt8) (c : UInt8) (h : blank c = false) : Lib.trimRightS (y ++ [c]) [32, 9] = y ++ [c] := by
  unfold Lib.trimRightS
  rw [List.reverse_append, List.reverse_singleton, List.singleton_append]
  have := strip_head c y.reverse h
  unfold strip Lib.trimLeftS at this
  rw [this]
  simp
/-- blanks in front and at the end do not count -/
theorem trim_both (g x g' : List UInt8) (c d : UInt8) (x1 x2 : List UInt8) (hg : g.all blank = true) (hg' : g'.all blank = true) (h1 : x = c :: x1) (hc : blank c = false) (h2 : x = x2 ++ [d]) (hd : blank d = false) :
    Lib.trimS (g ++ (x ++ g')) [32, 9] = x := by
  unfold Lib.trimS
  rw [← List.append_assoc, trimR_gap _ _ hg', h2, ← List.append_assoc, trimR_last _ _ hd, List.append_assoc, ← h2]
  have := strip_gap g x hg
  unfold strip at this
  rw [this, h1]
  exact strip_head c x1 hc

def lastGap : Items → List UInt8
  | [] => []
  | [(_, _, g)] => g
  | _ :: x :: r => lastGap (x :: r)
def firstGap : Items → List UInt8
  | [] => []
  | (_, _, g) :: _ => g
def outOf (a : Items) : List UInt8 := firstGap a ++ body a (lastGap a)

theorem lastGap_ok : ∀ (a : Items), a.all okItem = true → (lastGap a).all blank = true
  | [], _ => rfl
  | [(wk, t, g)], h => by simp only [List.all_cons, List.all_nil, Bool.and_true, okItem, Bool.and_eq_true] at h; exact h.2
  | x :: y :: r, h => by
    simp only [lastGap]
    exact lastGap_ok (y :: r) (by rw [List.all_cons, Bool.and_eq_true] at h; exact h.2)
theorem firstGap_ok (a : Items) (h : a.all okItem = true) : (firstGap a).all blank = true := by
  match a, h with
  | [], _ => rfl
  | (wk, t, g) :: r, h => simp only [List.all_cons, okItem, Bool.and_eq_true] at h; exact h.1.2

theorem parse_out (a : Items) (hne : a ≠ []) (h : a.all okItem = true) :
    Lib.trimS (outOf a) [32, 9] = body a [] ∧ body a [] ≠ [42] ∧ tagsF ((body a []).length + 1) (body a []) = some (tagsOf a) := by
  obtain ⟨c, x, e1, hc, hc2⟩ := body_head a [] hne
  obtain ⟨y, e2⟩ := body_last a hne
  refine ⟨?_, ?_, ?_⟩
  · unfold outOf
    rw [body_app (lastGap a) a hne]
    exact trim_both _ _ _ c 34 x y (firstGap_ok a h) (lastGap_ok a h) e1 hc e2 (by decide)
  · rw [e1]; intro e; injection e; exact hc2 (by assumption)
  · have := tagsF_body [] (some []) a _ hne h (Nat.lt_succ_self _) (fun wk t ht k hk => by
      rw [List.append_nil] at hk ⊢
      have hm := tagF_mk wk t [] ht
      rw [List.append_nil] at hm
      rw [tagsF_end hk hm]; rfl)
    rw [this]; simp

/-- a list with something more behind it that is no tag is none -/
theorem parse_bad (a : Items) (fin : List UInt8) (d : UInt8) (f2 : List UInt8) (hne : a ≠ []) (h : a.all okItem = true) (hf : fin = f2 ++ [d]) (hd : blank d = false)
    (hno : ∀ wk t, okText t = true → ∀ k, tagsF k (mk wk t ++ (lastGap a ++ fin)) = none) :
    ∃ l, Lib.trimS (outOf a ++ fin) [32, 9] = l ∧ l ≠ [42] ∧ tagsF (l.length + 1) l = none := by
  obtain ⟨c, x, e1, hc, hc2⟩ := body_head a (lastGap a ++ fin) hne
  refine ⟨body a (lastGap a ++ fin), ?_, ?_, ?_⟩
  · have e : outOf a ++ fin = firstGap a ++ (body a (lastGap a ++ fin) ++ []) := by
      unfold outOf
      rw [body_app (lastGap a) a hne, body_app (lastGap a ++ fin) a hne]
      simp
    rw [e]
    refine trim_both _ _ [] c d x (body a [] ++ (lastGap a ++ f2)) (firstGap_ok a h) rfl e1 hc ?_ hd
    rw [body_app (lastGap a ++ fin) a hne, hf]
    simp
  · rw [e1]; intro e; injection e; exact hc2 (by assumption)
  · rw [tagsF_body (lastGap a ++ fin) none a _ hne h (Nat.lt_succ_self _) (fun wk t ht k hk => by rw [hno wk t ht k]; rfl)]
    rfl

theorem tagF_nil : tagF [] = none := by decide
theorem parse_comma (a : Items) (hne : a ≠ []) (h : a.all okItem = true) : ∃ l, Lib.trimS (outOf a ++ [44]) [32, 9] = l ∧ l ≠ [42] ∧ tagsF (l.length + 1) l = none :=
  parse_bad a [44] 44 [] hne h rfl (by decide) (fun wk t ht k => by
    cases k with
    | zero => rfl
    | succ k =>
      have hs : strip (lastGap a ++ [44]) = [44] := by rw [strip_gap _ _ (lastGap_ok a h)]; rfl
      rw [tagsF_on (tagF_mk wk t _ ht) (by simp) (by rw [hs]; rfl), hs, show strip (Lib.trimPrefix [44] [44]) = [] from by decide, tagsF_none tagF_nil]
      rfl)
theorem parse_a (a : Items) (hne : a ≠ []) (h : a.all okItem = true) : ∃ l, Lib.trimS (outOf a ++ [32, 97]) [32, 9] = l ∧ l ≠ [42] ∧ tagsF (l.length + 1) l = none :=
  parse_bad a [32, 97] 97 [32] hne h rfl (by decide) (fun wk t ht k => by
    have hs : strip (lastGap a ++ [32, 97]) = [97] := by rw [strip_gap _ _ (lastGap_ok a h)]; decide
    exact tagsF_bad (tagF_mk wk t _ ht) (by simp) (by rw [hs]; decide))
theorem parse_none : (Lib.trimS [] [32, 9] = [] ∧ tagsF 1 [] = none) ∧ (Lib.trimS [44] [32, 9] = [44] ∧ tagsF 2 [44] = none) ∧ (Lib.trimS [32, 97] [32, 9] = [97] ∧ tagsF 2 [97] = none) ∧ Lib.trimS [32, 42] [32, 9] = [42] := by decide
end Go.Proofs.YtmehkneofinmiaaDoor

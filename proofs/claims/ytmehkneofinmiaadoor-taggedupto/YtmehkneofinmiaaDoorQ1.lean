/-
  Plainly: tags come back from a list of them.
-/
import Derived.Test.YtmehkneofinmiaaDoorT3
namespace Go.Proofs.YtmehkneofinmiaaDoor

def blank (c : UInt8) : Bool := [32, 9].contains c
def mk (wk : Bool) (t : List UInt8) : List UInt8 := (if wk then [87, 47] else []) ++ [34] ++ t ++ [34]

theorem index_byte (t rest : List UInt8) (h : ∀ c ∈ t, c ≠ 34) : Lib.index (t ++ 34 :: rest) [34] = t.length := by
  induction t with
  | nil => simp [Lib.index]
  | cons c t ih =>
    have hc : c ≠ 34 := h c (by simp)
    have ih' := ih (fun x hx => h x (by simp [hx]))
    have hne : ((34 : UInt8) == c) = false := by simp; exact fun e => hc e.symm
    simp only [List.cons_append, Lib.index, List.isPrefixOf, hne, Bool.false_and]
    rw [ih']
    simp

theorem cut_byte (t rest : List UInt8) (h : ∀ c ∈ t, c ≠ 34) : Lib.cut (t ++ 34 :: rest) [34] = (t, rest, true) := by
  unfold Lib.cut
  rw [index_byte t rest h, if_pos (by omega)]
  simp

theorem tb_no34 {t : List UInt8} (h : okText t = true) : ∀ c ∈ t, c ≠ 34 := by
  intro c hc e
  subst e
  have := List.all_eq_true.1 h _ hc
  exact absurd this (by decide)

theorem tagF_mk (wk : Bool) (t rest : List UInt8) (h : okText t = true) : tagF (mk wk t ++ rest) = some (wk, t, rest) := by
  rw [tagF_def]
  have hc := cut_byte t rest (tb_no34 h)
  cases wk with
  | true =>
    have e1 : Lib.trimPrefix (mk true t ++ rest) [87, 47] = 34 :: (t ++ 34 :: rest) := by simp [mk, Lib.trimPrefix, Lib.hasPrefix]
    have e2 : Lib.hasPrefix (mk true t ++ rest) [87, 47] = true := by simp [mk, Lib.hasPrefix]
    have e3 : Lib.trimPrefix (34 :: (t ++ 34 :: rest)) [34] = t ++ 34 :: rest := by simp [Lib.trimPrefix, Lib.hasPrefix]
    have e4 : Lib.hasPrefix (34 :: (t ++ 34 :: rest)) [34] = true := by simp [Lib.hasPrefix]
    rw [e1, e2, e3, e4, hc]
    simp [h]
  | false =>
    have e2 : Lib.hasPrefix (mk false t ++ rest) [87, 47] = false := by
      simp only [mk, Lib.hasPrefix]
      rfl
    have e1 : Lib.trimPrefix (mk false t ++ rest) [87, 47] = 34 :: (t ++ 34 :: rest) := by
      unfold Lib.trimPrefix
      rw [e2]
      simp [mk]
    have e3 : Lib.trimPrefix (34 :: (t ++ 34 :: rest)) [34] = t ++ 34 :: rest := by simp [Lib.trimPrefix, Lib.hasPrefix]
    have e4 : Lib.hasPrefix (34 :: (t ++ 34 :: rest)) [34] = true := by simp [Lib.hasPrefix]
    rw [e1, e2, e3, e4, hc]
    simp [h]

theorem strip_gap (g x : List UInt8) (h : g.all blank = true) : strip (g ++ x) = strip x := by
  unfold strip Lib.trimLeftS
  induction g with
  | nil => rfl
  | cons c g ih =>
    simp only [List.all_cons, Bool.and_eq_true] at h
    rw [List.cons_append, List.dropWhile_cons, if_pos (show [32, 9].contains c = true from h.1)]
    exact ih h.2
theorem strip_head (c : UInt8) (x : List UInt8) (h : blank c = false) : strip (c :: x) = c :: x := by
  unfold strip Lib.trimLeftS
  rw [List.dropWhile_cons, if_neg (show ¬ [32, 9].contains c = true from by rw [show [32, 9].contains c = blank c from rfl, h]; decide)]

theorem mk_cons (wk : Bool) (t rest : List UInt8) : ∃ c x, mk wk t ++ rest = c :: x ∧ blank c = false := by
  cases wk with
  | true => exact ⟨87, 47 :: 34 :: (t ++ 34 :: rest), by simp [mk], by decide⟩
  | false => exact ⟨34, t ++ 34 :: rest, by simp [mk], by decide⟩

/-- a list of tags with the gaps around each; 'fin': what stands behind the last one -/
def body : List (Bool × List UInt8 × List UInt8) → List UInt8 → List UInt8
  | [], fin => fin
  | [(wk, t, _)], fin => mk wk t ++ fin
  | (wk, t, g) :: (wk', t', g') :: r, fin => mk wk t ++ (g ++ (44 :: (g' ++ body ((wk', t', g') :: r) fin)))

def okItem (x : Bool × List UInt8 × List UInt8) : Bool := okText x.2.1 && x.2.2.all blank
def tagsOf (a : List (Bool × List UInt8 × List UInt8)) : TagL := a.map fun x => (x.1, x.2.1)

/-- the tags of a built text, whatever more fuel there is -/
theorem tagsF_body (fin : List UInt8) (F : Option TagL) :
    ∀ (a : List (Bool × List UInt8 × List UInt8)) (k : Nat), a ≠ [] → a.all okItem = true → (body a fin).length < k →
      (∀ wk t, okText t = true → ∀ k, (mk wk t ++ fin).length < k → tagsF k (mk wk t ++ fin) = F.map ((wk, t) :: ·)) →
      tagsF k (body a fin) = F.map (tagsOf a ++ ·)
  | [], _, h, _, _, _ => absurd rfl h
  | [(wk, t, g)], k, _, ha, hk, hF => by
    simp only [List.all_cons, List.all_nil, Bool.and_true, okItem, Bool.and_eq_true] at ha
    simp only [body] at hk ⊢
    rw [hF wk t ha.1 k hk]
    rfl
  | (wk, t, g) :: (wk', t', g') :: r, k, _, ha, hk, hF => by
    have ha' := ha
    simp only [List.all_cons, Bool.and_eq_true, okItem] at ha
    obtain ⟨⟨h1, h2⟩, ⟨h3, h4⟩, h5⟩ := ha
    obtain ⟨k', rfl⟩ : ∃ k', k = k' + 1 := ⟨k - 1, by omega⟩
    simp only [body] at hk ⊢
    have hs : strip (g ++ (44 :: (g' ++ body ((wk', t', g') :: r) fin))) = 44 :: (g' ++ body ((wk', t', g') :: r) fin) := by
      rw [strip_gap _ _ h2, strip_head _ _ (by decide)]
    have hb : strip (body ((wk', t', g') :: r) fin) = body ((wk', t', g') :: r) fin := by
      cases r with
      | nil => obtain ⟨c, x, e, hc⟩ := mk_cons wk' t' fin; simp only [body]; rw [e, strip_head c x hc]
      | cons y r => obtain ⟨wk2, t2, g2⟩ := y; simp only [body]; obtain ⟨c, x, e, hc⟩ := mk_cons wk' t' (g' ++ (44 :: (g2 ++ body ((wk2, t2, g2) :: r) fin))); rw [e, strip_head c x hc]
    rw [tagsF_on (tagF_mk wk t _ h1) (by simp) (by rw [hs]; rfl), hs]
    have e : Lib.trimPrefix (44 :: (g' ++ body ((wk', t', g') :: r) fin)) [44] = g' ++ body ((wk', t', g') :: r) fin := by simp [Lib.trimPrefix, Lib.hasPrefix]
    rw [e, strip_gap _ _ h4, hb]
    rw [tagsF_body fin F ((wk', t', g') :: r) k' (by simp) (by simp only [List.all_cons, Bool.and_eq_true, okItem]; exact ⟨⟨h3, h4⟩, h5⟩) (by simp [mk] at hk; omega) hF]
    cases F <;> simp [tagsOf]
end Go.Proofs.YtmehkneofinmiaaDoor

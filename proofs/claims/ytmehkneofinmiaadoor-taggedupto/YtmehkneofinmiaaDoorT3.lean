/-
  The walk of the program's Tags.
-/
import Derived.Test.YtmehkneofinmiaaDoorT2
namespace Go.Proofs.YtmehkneofinmiaaDoor
open Go.RowKit

abbrev TagL := List (Bool × List UInt8)
/-- the tags of a text without blanks at its ends -/
def tagsF : Nat → List UInt8 → Option TagL
  | 0, _ => none
  | k + 1, l => match tagF l with
    | none => none
    | some (wk, nm, beh) => if beh = [] then some [(wk, nm)] else
      if Lib.hasPrefix (strip beh) [44] then (tagsF k (strip (Lib.trimPrefix (strip beh) [44]))).map ((wk, nm) :: ·) else none

def cellsT (a : TagL) : List Value := a.flatMap fun t => [.bool t.1, .string ⟨t.2.toArray⟩]
theorem cellsT_len (a : TagL) : (cellsT a).length = a.length * 2 := by
  induction a with
  | nil => rfl
  | cons x a ih => simp [cellsT] at ih ⊢; omega
theorem cellsT_snoc (a : TagL) (x : Bool × List UInt8) : cellsT (a ++ [x]) = cellsT a ++ [.bool x.1, .string ⟨x.2.toArray⟩] := by simp [cellsT]

theorem owns_below {w w' : World} {base : Nat} {e : TypeId} {size : Nat} {v : Value} {n : Nat} {xs : List Value} (h : w.ownsRow base e size v n xs) (hb : Below w.heap.size w w') : w'.ownsRow base e size v n xs := by
  refine ⟨h.1, ?_⟩
  rcases h.2 with h0 | ⟨g, cap, cur, hv, hg, hh, r⟩
  · exact Or.inl h0
  · have : g < w.heap.size := (Array.getElem?_eq_some_iff.1 hh).1
    exact Or.inr ⟨g, cap, cur, hv, hg, by rw [hb.block g this]; exact hh, r⟩

theorem tagF_less {l : List UInt8} {wk : Bool} {nm beh : List UInt8} (h : tagF l = some (wk, nm, beh)) : beh.length < l.length ∧ nm.length < l.length := by
  rw [tagF_def] at h
  have z1 := Lib.trimPrefix_le l [87, 47]
  generalize Lib.trimPrefix l [87, 47] = q at h z1
  cases hq : Lib.hasPrefix q [34] with
  | false => simp [hq] at h
  | true =>
    have hin : Lib.trimPrefix q [34] = q.drop 1 := by unfold Lib.trimPrefix; rw [if_pos hq]; rfl
    have hql : 1 ≤ q.length := by
      cases q with
      | nil => simp [Lib.hasPrefix] at hq
      | cons a b => simp
    rw [hin] at h
    have hc1 : (Lib.cut (q.drop 1) [34]).1.length ≤ (q.drop 1).length := cut_len _ _
    have hc2 : (Lib.cut (q.drop 1) [34]).2.1.length ≤ (q.drop 1).length := by
      unfold Lib.cut
      split
      · simp; omega
      · simp
    generalize Lib.cut (q.drop 1) [34] = c at h hc1 hc2
    split at h
    · simp only [Option.some.injEq, Prod.mk.injEq] at h
      obtain ⟨_, rfl, rfl⟩ := h
      simp at hc1 hc2
      omega
    · cases h
theorem strip_le (l : List UInt8) : (strip l).length ≤ l.length := (List.dropWhile_suffix _).length_le

/-- What lies where a result is laid, and behind it what the call owns. -/
structure Tg (w x : World) : Prop where
  b : Below (w.heap.size + 1) (w.alloc (.cells #[.bool false, .slice none 0 0] 28)) x
  z : w.heap.size + 1 ≤ x.heap.size
theorem Tg.made (w : World) : Tg w (w.alloc (.cells #[.bool false, .slice none 0 0] 28)) := ⟨Below.refl _ _, by simp⟩
theorem Tg.below {w x y : World} (h : Tg w x) (hb : Below x.heap.size x y) : Tg w y := ⟨h.b.trans (hb.mono h.z), by have := hb.size; have := h.z; omega⟩
theorem Tg.old {w x : World} (h : Tg w x) : Below w.heap.size w x := ((Below.refl _ _).alloc (Nat.le_refl _) _).trans (h.b.mono (by omega))
theorem Tg.c0 {w x : World} (h : Tg w x) : x.cell? ⟨w.heap.size, 0, none⟩ = some (.bool false) := (h.b.cell (p := ⟨_, 0, none⟩) (by simp)).trans (by simp)
theorem Tg.c1 {w x : World} (h : Tg w x) : x.cell? ⟨w.heap.size, 1, none⟩ = some (.slice none 0 0) := (h.b.cell (p := ⟨_, 1, none⟩) (by simp)).trans (by simp)
theorem Tg.f0 {w x : World} (h : Tg w x) : x.frozen? ⟨w.heap.size, 0, none⟩ = false := (h.b.frozen (p := ⟨_, 0, none⟩) (by simp)).trans (by simp)
theorem Tg.f1 {w x : World} (h : Tg w x) : x.frozen? ⟨w.heap.size, 1, none⟩ = false := (h.b.frozen (p := ⟨_, 1, none⟩) (by simp)).trans (by simp)

theorem info33m : (Tryd.prog.info? 33).map (fun i => (i.size, i.bytes, i.zero)) = some (2, 24, some (.agg #[.bool false, .string ⟨#[]⟩])) := by kernel_rfl
theorem info33 : ∃ i, Tryd.prog.info? 33 = some i ∧ i.size = 2 ∧ i.bytes = 24 ∧ i.zero = some (.agg #[.bool false, .string ⟨#[]⟩]) := by
  have h := info33m
  cases hq : Tryd.prog.info? 33 with
  | none => rw [hq] at h; cases h
  | some i =>
    rw [hq] at h
    simp only [Option.map_some, Option.some.injEq, Prod.mk.injEq] at h
    exact ⟨i, rfl, h.1, h.2.1, h.2.2⟩

/-- What Tags gives, of a text that is l without the blanks at its ends. -/
def TagsPost (l : List UInt8) (w : World) (e : Ending) (w' : World) : Prop :=
  Below w.heap.size w w' ∧
  ((l = [42] ∧ e = .returned (.tuple #[.agg #[.bool true, .slice none 0 0], .bool true])) ∨
   (l ≠ [42] ∧
     ((tagsF (l.length + 1) l = none ∧ e = .returned (.tuple #[.agg #[.bool false, .slice none 0 0], .bool false])) ∨
      ∃ a v, tagsF (l.length + 1) l = some a ∧ e = .returned (.tuple #[.agg #[.bool false, v], .bool true]) ∧ w'.ownsRow (w.heap.size + 1) 33 2 v a.length (cellsT a))))

theorem owns_set {x : World} {base : Nat} {e : TypeId} {size : Nat} {v u : Value} {n : Nat} {xs : List Value} {a : Addr} (h : x.ownsRow base e size v n xs) (ha : a.block < base) : (x.setCell a u).ownsRow base e size v n xs :=
  ownsRow_setCell_below h ha u

theorem owns_pos {x : World} {base : Nat} {e : TypeId} {size : Nat} {v : Value} {n : Nat} {xs : List Value} (h : x.ownsRow base e size v (n + 1) xs) : ∃ g cap, v = .slice (some ⟨g, 0, none⟩) (n + 1) cap := by
  rcases h.2 with ⟨_, h0⟩ | ⟨g, cap, cur, hv, _⟩
  · omega
  · exact ⟨g, cap, hv⟩
theorem owns_block {x : World} {base : Nat} {e : TypeId} {size : Nat} {v : Value} {n : Nat} {xs : List Value} (h : x.ownsRow base e size v n xs) : ∀ k, v.ownBlock = some k → base ≤ k := by
  intro k hk
  rcases h.2 with ⟨rfl, _⟩ | ⟨g, cap, cur, rfl, hg, _⟩
  · cases hk
  · cases hk; exact hg

theorem tagsF_end {k : Nat} {r : List UInt8} {wk : Bool} {nm : List UInt8} (hk : r.length < k) (ht : tagF r = some (wk, nm, [])) : tagsF k r = some [(wk, nm)] := by
  cases k with
  | zero => omega
  | succ k => simp [tagsF, ht]
theorem tagsF_none {k : Nat} {r : List UInt8} (ht : tagF r = none) : tagsF k r = none := by
  cases k with
  | zero => rfl
  | succ k => simp [tagsF, ht]
theorem tagsF_bad {k : Nat} {r beh : List UInt8} {wk : Bool} {nm : List UInt8} (ht : tagF r = some (wk, nm, beh)) (hb : beh ≠ []) (hc : Lib.hasPrefix (strip beh) [44] = false) : tagsF k r = none := by
  cases k with
  | zero => rfl
  | succ k => simp [tagsF, ht, hb, hc]
theorem tagsF_on {k : Nat} {r beh : List UInt8} {wk : Bool} {nm : List UInt8} (ht : tagF r = some (wk, nm, beh)) (hb : beh ≠ []) (hc : Lib.hasPrefix (strip beh) [44] = true) :
    tagsF (k + 1) r = (tagsF k (strip (Lib.trimPrefix (strip beh) [44]))).map ((wk, nm) :: ·) := by simp [tagsF, ht, hb, hc]

theorem map_nil_append (o : Option TagL) : o.map ([] ++ ·) = o := by cases o <;> simp

set_option maxRecDepth 100000 in
set_option maxHeartbeats 1000000 in
theorem tags_any (s : ByteArray) (l : List UInt8) (w : World) (hM : MaxIs w) (hl : Lib.trimS s.data.toList [32, 9] = l) (hs : s.size ≤ 67108864) (hz : l.length ≤ s.size) : Calls Tryd.prog 12 #[.string s] w (TagsPost l w) := by
  obtain ⟨ti, i1, i2, i3, i4⟩ := info33
  have HI : Hid _ := i1
  have HI2 : Hid _ := i2
  have HI3 : Hid _ := i3
  have HI4 : Hid _ := i4
  have HL : Hid _ := hl
  clear i1 i2 i3 i4 hl
  go_enter Tryd.func12, Tryd.ntmps12
  go_wp2_with fail
  refine (Tryd.trim_blanks _ _ (by omega)).mono ?_
  rintro e w1 ⟨rfl, hb1⟩
  rw [HL.out]
  have tg1 : Tg w w1 := (Tg.made w).below hb1
  clear hb1 HL
  by_cases hst : l = [42]
  · have k1 := tg1.c0
    have k2 := tg1.c1
    have k3 := tg1.f0
    have k4 := tg1.f1
    subst hst
    go_wp2
    exact bodyPost_ret (v := .tuple #[.agg #[.bool true, .slice none 0 0], .bool true]) (by simp [results, Tryd.results12, go_sem, k1, k2]) rfl ⟨(tg1.old.setCell (Nat.le_refl _) _).setCell (Nat.le_refl _) _, Or.inl ⟨rfl, rfl⟩⟩
  · have hne : (l == [42]) = false := by simpa using hst
    have HST : Hid _ := hst
    clear hst
    go_wp2
    go_loopw [4, 5] (fun rest lst wr => ∃ (r : List UInt8) (k : Nat) (a : TagL), rest = .string ⟨r.toArray⟩ ∧ r.length < k ∧ r.length + a.length ≤ l.length ∧ Tg w wr ∧ wr.ownsRow (w.heap.size + 1) 33 2 lst a.length (cellsT a) ∧ Hid (tagsF (l.length + 1) l = (tagsF k r).map (a ++ ·)))
      (fun rest _ _ => match rest with | .string b => b.size | _ => 0)
    case atStart => exact ⟨l, l.length + 1, [], rfl, by omega, by simp, tg1, ⟨rfl, Or.inl ⟨rfl, rfl⟩⟩, (map_nil_append _).symm⟩
    case round =>
      obtain ⟨r, k, a, rfl, hk, hra, tg, hown, hf⟩ := hrel
      have zr := Lib.size_eq (⟨r.toArray⟩ : ByteArray)
      simp only at zr
      go_wp2_with fail
      refine (cutTag_any ⟨r.toArray⟩ _ (hM.below tg.old) (by rw [zr]; omega)).mono ?_
      rintro e w2 ⟨⟨wk, nm, beh, ht, rfl⟩ | ⟨ht, rfl⟩, hb2⟩
      · have tg2 := tg.below hb2
        have own2 := owns_below hown hb2
        have hless := tagF_less ht
        have HT : Hid _ := ht
        have zz := tg2.z
        clear tg hown hb2 ht
        have hal : Below w2.heap.size w2 ((w2.alloc (.cells #[.bool wk, .string ⟨nm.toArray⟩] 33)).alloc (.cells #[.bool wk, .string ⟨nm.toArray⟩] 33)) := ((Below.refl _ _).alloc (Nat.le_refl _) _).alloc (by simp) _
        have own4 := owns_below own2 hal
        have hnews : ∀ j u, ([.bool wk, .string ⟨nm.toArray⟩] : List Value)[j]? = some u → ((w2.alloc (.cells #[.bool wk, .string ⟨nm.toArray⟩] 33)).alloc (.cells #[.bool wk, .string ⟨nm.toArray⟩] 33)).cell? ((⟨w2.heap.size + 1, 0, none⟩ : Addr).add j) = some u := by
          have := cell_two_new (w2.alloc (.cells #[.bool wk, .string ⟨nm.toArray⟩] 33)) (.bool wk) (.string ⟨nm.toArray⟩) 33
          simpa using this
        have HO : Hid _ := own4
        have HN : Hid _ := hnews
        clear own4 hnews
        by_cases hbeh : beh = []
        · subst hbeh
          go_wp2_with (first | (at_builtin; refine wpList_append_own _ rfl (.tmp 23) (.tmp 25) 26 rfl (w.heap.size + 1) 33 ti (.agg #[.bool false, .string ⟨#[]⟩]) 2 24 Tryd.underlying26 HI.out HI4.out HI2.out HI3.out rfl (by omega) u5 a.length (cellsT a) rfl HO.out ⟨w2.heap.size + 1, 0, none⟩ 1 1 [.bool wk, .string ⟨nm.toArray⟩] rfl rfl HN.out (by intro u hu; simp at hu; rcases hu with rfl | rfl <;> rfl) (by unfold maxLen; omega) (by omega) (by simp; omega) ?_; intro v' w3 hown3 hgr _; obtain ⟨g, cap, hv'⟩ := owns_pos hown3; rw [hv'] at hown3; rw [hv']; clear hv'; have tg3 : Tg w w3 := ⟨(tg2.b.trans (hal.mono zz)).grown hgr (by simp; omega) (owns_block own2), by have := hgr.size; simp at this; omega⟩; have k1 := tg3.c0; have k2 := tg3.c1; have k3 := tg3.f0; have k4 := tg3.f1))
          refine bodyPost_ret (v := .tuple #[.agg #[.bool false, .slice (some ⟨g, 0, none⟩) (a.length + 1) cap], .bool true]) (by simp [results, Tryd.results12, go_sem, k1, k2]) rfl ⟨(tg3.old.setCell (Nat.le_refl _) _).setCell (Nat.le_refl _) _, Or.inr ⟨HST.out, Or.inr ⟨a ++ [(wk, nm)], _, ?_, rfl, ?_⟩⟩⟩
          · rw [hf.out, tagsF_end hk HT.out]; rfl
          · rw [List.length_append, List.length_singleton, cellsT_snoc]
            exact owns_set (owns_set hown3 (by simp)) (by simp)
        · have hbe : (beh == []) = false := by simpa using hbeh
          go_wp2_with (first | (at_builtin; refine wpList_append_own _ rfl (.tmp 23) (.tmp 25) 26 rfl (w.heap.size + 1) 33 ti (.agg #[.bool false, .string ⟨#[]⟩]) 2 24 Tryd.underlying26 HI.out HI4.out HI2.out HI3.out rfl (by omega) u5 a.length (cellsT a) rfl HO.out ⟨w2.heap.size + 1, 0, none⟩ 1 1 [.bool wk, .string ⟨nm.toArray⟩] rfl rfl HN.out (by intro u hu; simp at hu; rcases hu with rfl | rfl <;> rfl) (by unfold maxLen; omega) (by omega) (by simp; omega) ?_; intro v' w3 hown3 hgr _; obtain ⟨g, cap, hv'⟩ := owns_pos hown3; rw [hv'] at hown3; rw [hv']; clear hv'; have tg3 : Tg w w3 := ⟨(tg2.b.trans (hal.mono zz)).grown hgr (by simp; omega) (owns_block own2), by have := hgr.size; simp at this; omega⟩; have k1 := tg3.c0; have k2 := tg3.c1; have k3 := tg3.f0; have k4 := tg3.f1))
          have HBE : Hid _ := hbeh
          clear hbeh hgr
          refine (cutComma_any ⟨beh.toArray⟩ _).mono ?_
          rintro e w4 ⟨rfl, hb4⟩
          have tg4 := tg3.below hb4
          have own5 := owns_below hown3 hb4
          have k5 := tg4.c0
          have k6 := tg4.c1
          have k7 := tg4.f0
          have k8 := tg4.f1
          clear k1 k2 k3 k4 hown3 hb4
          cases hc : Lib.hasPrefix (strip beh) [44] with
          | false =>
            have HC : Hid _ := hc
            clear hc
            go_wp2
            refine bodyPost_ret (v := .tuple #[.agg #[.bool false, .slice none 0 0], .bool false]) (by simp [results, Tryd.results12, go_sem, k5, k6]) rfl ⟨(tg4.old.setCell (Nat.le_refl _) _).setCell (Nat.le_refl _) _, Or.inr ⟨HST.out, Or.inl ⟨?_, rfl⟩⟩⟩
            rw [hf.out, tagsF_bad HT.out HBE.out HC.out]; rfl
          | true =>
            have HC : Hid _ := hc
            clear hc
            have l1 := strip_le (Lib.trimPrefix (strip beh) [44])
            have l2 := Lib.trimPrefix_le (strip beh) [44]
            have l3 := strip_le beh
            obtain ⟨r', hr'⟩ : ∃ r', strip (Lib.trimPrefix (strip beh) [44]) = r' := ⟨_, rfl⟩
            rw [hr'] at l1
            have HR : Hid _ := hr'
            go_wp2
            refine ⟨⟨r', k - 1, a ++ [(wk, nm)], rfl, by omega, by simp; omega, tg4, ?_, ?_⟩, ?_⟩
            · rw [List.length_append, List.length_singleton, cellsT_snoc]
              exact own5
            · show _ = _
              obtain ⟨k', rfl⟩ : ∃ k', k = k' + 1 := ⟨k - 1, by omega⟩
              rw [hf.out, tagsF_on HT.out HBE.out HC.out, HR.out, Nat.add_sub_cancel]
              cases tagsF k' r' <;> simp
            · show (⟨r'.toArray⟩ : ByteArray).size < (⟨r.toArray⟩ : ByteArray).size
              rw [Lib.size_eq, Lib.size_eq]
              simp
              omega
      · have tg2 := tg.below hb2
        have hal : Below w2.heap.size w2 (w2.alloc (.cells #[.bool false, .string ⟨#[]⟩] 33)) := (Below.refl _ _).alloc (Nat.le_refl _) _
        have tg3 := tg2.below hal
        have k1 := tg2.c0
        have k2 := tg2.c1
        have k3 := tg2.f0
        have k4 := tg2.f1
        have hlt : w.heap.size < w2.heap.size := by have := tg2.z; omega
        have HT : Hid _ := ht
        clear ht
        go_wp2
        refine bodyPost_ret (v := .tuple #[.agg #[.bool false, .slice none 0 0], .bool false]) (by simp [results, Tryd.results12, go_sem, k1, k2, hlt]) rfl ⟨?_, Or.inr ⟨HST.out, Or.inl ⟨?_, rfl⟩⟩⟩
        · first | exact ((tg2.old.setCell (Nat.le_refl _) _).setCell (Nat.le_refl _) _).alloc (by simp [World.setCell]; omega) _ | exact (tg3.old.setCell (Nat.le_refl _) _).setCell (Nat.le_refl _) _
        · rw [hf.out, tagsF_none HT.out]; rfl
end Go.Proofs.YtmehkneofinmiaaDoor

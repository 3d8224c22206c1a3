/-
  The walk of the document's tag.
-/
import Derived.Test.YtmehkneofinmiaaDoorU2
namespace Go.Proofs.YtmehkneofinmiaaDoor
open Go.RowKit

/-- how far a reading has come -/
def Sc (s : ByteArray) (f m : Nat) : Prop := scan (s.data.toList.drop f) = (scan (s.data.toList.drop m)).map (fun x => ((s.data.toList.drop f).take (m - f) ++ x.1, x.2))
theorem Sc.start (s : ByteArray) (f : Nat) : Sc s f f := by
  unfold Sc
  rw [Nat.sub_self, List.take_zero]
  cases scan (s.data.toList.drop f) <;> rfl
theorem Sc.quote {s : ByteArray} {f m : Nat} (h : Sc s f m) (hm : m < s.size) (hc : (s[m].toNat : Int) = 34) : scan (s.data.toList.drop f) = some ((s.data.toList.drop f).take (m - f), s.data.toList.drop (m + 1)) := by
  unfold Sc at h
  have g : s[m] = 34 := byte_eq (n := 34) (by decide) hc
  rw [h, drop_cons s m hm, scan, if_pos g]
  simp
theorem Sc.bad {s : ByteArray} {f m : Nat} (h : Sc s f m) (hm : m < s.size) (hc : (s[m].toNat : Int) < 33 ∨ (s[m].toNat : Int) = 127) : scan (s.data.toList.drop f) = none := by
  unfold Sc at h
  have h1 : ¬ s[m] = 34 := byte_ne (n := 34) (by decide) (by omega)
  have h2 : tb s[m] = false := by
    unfold tb tbI
    simp
    omega
  rw [h, drop_cons s m hm, scan, if_neg h1, h2]
  rfl
theorem Sc.go {s : ByteArray} {f m : Nat} (h : Sc s f m) (hf : f ≤ m) (hm : m < s.size) (h1 : ¬ (s[m].toNat : Int) = 34) (h2 : ¬ (s[m].toNat : Int) < 33) (h3 : ¬ (s[m].toNat : Int) = 127) : Sc s f (m + 1) := by
  unfold Sc at h ⊢
  have g1 : ¬ s[m] = 34 := byte_ne (n := 34) (by decide) h1
  have g2 : tb s[m] = true := by
    unfold tb tbI
    simp
    omega
  have g3 : (s.data.toList.drop f).take (m + 1 - f) = (s.data.toList.drop f).take (m - f) ++ [s[m]] := by
    rw [show m + 1 - f = m - f + 1 by omega, List.take_add_one, List.getElem?_drop, show f + (m - f) = m by omega, List.getElem?_eq_getElem (by rw [← Lib.size_eq]; exact hm)]
    rfl
  rw [h, drop_cons s m hm, scan, if_neg g1, if_pos g2, g3]
  cases scan (s.data.toList.drop (m + 1)) <;> simp
theorem Sc.stop {s : ByteArray} {f m : Nat} (h : Sc s f m) (hm : s.size ≤ m) : scan (s.data.toList.drop f) = none := by
  unfold Sc at h
  rw [h, show s.data.toList.drop m = [] from List.drop_of_length_le (by rw [← Lib.size_eq]; exact hm)]
  rfl

/-- What the document's tag gives. -/
def TagP (s : ByteArray) (a : Nat) (w : World) (e : Ending) (w' : World) : Prop :=
  Below w.heap.size w w' ∧
  ((∃ wk nm n, n ≤ s.size ∧ a < n ∧ tagF (s.data.toList.drop a) = some (wk, nm, s.data.toList.drop n) ∧ e = .returned (.tuple #[.agg #[.bool wk, .string ⟨nm.toArray⟩], .int .i64 (n : Int)])) ∨
   (tagF (s.data.toList.drop a) = none ∧ e = .returned (.tuple #[.agg #[.bool false, .string ⟨#[]⟩], .int .i64 (-1)])))

/-- what is at the quote's place, for a tag that begins at a -/
def Quo (s : ByteArray) (a q : Nat) (wk : Bool) : Prop := tagF (s.data.toList.drop a) = if h : q < s.size then (if (s[q].toNat : Int) = 34 then (scan (s.data.toList.drop (q + 1))).map (fun x => (wk, x.1, x.2)) else none) else none
theorem Quo.none {s : ByteArray} {a q : Nat} {wk : Bool} (h : Quo s a q wk) (hn : ∀ h : q < s.size, ¬ (s[q].toNat : Int) = 34) : tagF (s.data.toList.drop a) = none := by
  unfold Quo at h
  rw [h]
  split
  · rw [if_neg (hn _)]
  · rfl
theorem Quo.some {s : ByteArray} {a q : Nat} {wk : Bool} (h : Quo s a q wk) (hq : q < s.size) (hn : (s[q].toNat : Int) = 34) : tagF (s.data.toList.drop a) = (scan (s.data.toList.drop (q + 1))).map (fun x => (wk, x.1, x.2)) := by
  unfold Quo at h
  rw [h, dif_pos hq, if_pos hn]

theorem ex_mk (s : ByteArray) (a b : Nat) : s.extract a b = ⟨((s.data.toList.drop a).take (b - a)).toArray⟩ := by
  apply ByteArray.ext
  apply Array.toList_inj.1
  rw [ex_data]
theorem tagP_some {s : ByteArray} {a q m : Nat} {wk : Bool} {w w' : World} (hb : Below w.heap.size w w') (ha : a ≤ q) (hq : q ≤ m) (hm : m < s.size)
    (h : tagF (s.data.toList.drop a) = Option.map (fun x => (wk, x.1, x.2)) (some ((s.data.toList.drop (q + 1)).take (m - (q + 1)), s.data.toList.drop (m + 1)))) :
    TagP s a w (.returned (.tuple #[.agg #[.bool wk, .string (s.extract (q + 1) m)], .int .i64 ((m : Int) + 1)])) w' :=
  ⟨hb, Or.inl ⟨wk, _, m + 1, by omega, by omega, h, by rw [ex_mk]; rfl⟩⟩
theorem tagP_none {s : ByteArray} {a : Nat} {w w' : World} (hb : Below w.heap.size w w') (h : tagF (s.data.toList.drop a) = none) :
    TagP s a w (.returned (.tuple #[.agg #[.bool false, .string ⟨#[]⟩], .int .i64 (-1)])) w' := ⟨hb, Or.inr ⟨h, rfl⟩⟩

set_option maxHeartbeats 2000000 in
theorem tag_any (s : ByteArray) (a : Nat) (w : World) (ha : a ≤ s.size) (hs : s.size ≤ 67108864) : Calls Tryd.prog 28 #[.string s, .int .i64 (a : Int)] w (TagP s a w) := by
  by_cases h1 : a + 2 < s.size
  · by_cases h2 : (s[a].toNat : Int) = 87
    · by_cases h3 : (s[a + 1].toNat : Int) = 47
      · have HQ : Hid (Quo s a (a + 2) true) := by
          show tagF _ = _
          rw [dif_pos h1]
          exact tag_weak s a h1 h2 h3
        by_cases h4 : (s[a + 2].toNat : Int) = 34
        · go_enter Tryd.func28, Tryd.ntmps28
          go_wp2
          go_loop [8] (fun i => ∃ m : Nat, (a + 2) + 1 ≤ m ∧ m ≤ s.size ∧ i = .int .i64 m ∧ Hid (Sc s ((a + 2) + 1) m)) (fun i => s.size - (intOf i).toNat)
          case atStart => exact ⟨(a + 2) + 1, Nat.le_refl _, by omega, by go_num, Sc.start s _⟩
          case round =>
            obtain ⟨m, hqm, hm, rfl, hsc⟩ := hrel
            by_cases hlt : m < s.size
            · by_cases c1 : (s[m].toNat : Int) = 34
              · have HR : Hid _ := (HQ.out.some (by omega) h4).trans (congrArg _ (hsc.out.quote hlt c1))
                go_wp2
                exact bodyPost_ret (v := .tuple #[.agg #[.bool true, .string (s.extract ((a + 2) + 1) m)], .int .i64 ((m : Int) + 1)]) (by simp [results, Tryd.results28, go_sem]) rfl (tagP_some (by repeat (first | exact Below.refl _ _ | refine Below.setCell ?_ (by simp) _ | refine Below.alloc ?_ (by simp) _)) (by omega) (by omega) hlt HR.out)
              · by_cases c2 : (s[m].toNat : Int) < 33
                · have HR : Hid _ := (HQ.out.some (by omega) h4).trans (congrArg _ (hsc.out.bad hlt (Or.inl c2)))
                  go_wp2
                  exact bodyPost_ret (v := .tuple #[.agg #[.bool false, .string ⟨#[]⟩], .int .i64 (-1)]) (by simp [results, Tryd.results28, go_sem]) rfl (tagP_none (by repeat (first | exact Below.refl _ _ | refine Below.setCell ?_ (by simp) _ | refine Below.alloc ?_ (by simp) _)) HR.out)
                · by_cases c3 : (s[m].toNat : Int) = 127
                  · have HR : Hid _ := (HQ.out.some (by omega) h4).trans (congrArg _ (hsc.out.bad hlt (Or.inr c3)))
                    go_wp2
                    exact bodyPost_ret (v := .tuple #[.agg #[.bool false, .string ⟨#[]⟩], .int .i64 (-1)]) (by simp [results, Tryd.results28, go_sem]) rfl (tagP_none (by repeat (first | exact Below.refl _ _ | refine Below.setCell ?_ (by simp) _ | refine Below.alloc ?_ (by simp) _)) HR.out)
                  · have HG : Hid _ := hsc.out.go hqm hlt c1 c2 c3
                    go_wp2
                    exact ⟨⟨m + 1, by omega, by omega, by go_num, HG.out⟩, by simp [intOf]; omega⟩
            · have HR : Hid _ := (HQ.out.some (by omega) h4).trans (congrArg _ (hsc.out.stop (by omega)))
              go_wp2
              exact bodyPost_ret (v := .tuple #[.agg #[.bool false, .string ⟨#[]⟩], .int .i64 (-1)]) (by simp [results, Tryd.results28, go_sem]) rfl (tagP_none (by repeat (first | exact Below.refl _ _ | refine Below.setCell ?_ (by simp) _ | refine Below.alloc ?_ (by simp) _)) HR.out)
        · have h4' : ((s[a + 2].toNat : Int) != 34) = true := by simpa using h4
          have HR : Hid _ := HQ.out.none (fun _ => h4)
          go_enter Tryd.func28, Tryd.ntmps28
          go_wp2
          exact bodyPost_ret (v := .tuple #[.agg #[.bool false, .string ⟨#[]⟩], .int .i64 (-1)]) (by simp [results, Tryd.results28, go_sem]) rfl (tagP_none (by repeat (first | exact Below.refl _ _ | refine Below.setCell ?_ (by simp) _ | refine Below.alloc ?_ (by simp) _)) HR.out)
      · have HQ : Hid (Quo s a a false) := tag_plain s a (fun _ h => h3 h.2)
        have h3' : ((s[a + 1].toNat : Int) == 47) = false := by simpa using h3
        have HR : Hid _ := HQ.out.none (fun _ => by omega)
        go_enter Tryd.func28, Tryd.ntmps28
        go_wp2
        exact bodyPost_ret (v := .tuple #[.agg #[.bool false, .string ⟨#[]⟩], .int .i64 (-1)]) (by simp [results, Tryd.results28, go_sem]) rfl (tagP_none (by repeat (first | exact Below.refl _ _ | refine Below.setCell ?_ (by simp) _ | refine Below.alloc ?_ (by simp) _)) HR.out)
    · have h2' : ((s[a].toNat : Int) == 87) = false := by simpa using h2
      have HQ : Hid (Quo s a a false) := tag_plain s a (fun _ => fun h => h2 h.1)
      by_cases h5 : a < s.size
      · by_cases h4 : (s[a].toNat : Int) = 34
        · go_enter Tryd.func28, Tryd.ntmps28
          go_wp2
          go_loop [8] (fun i => ∃ m : Nat, a + 1 ≤ m ∧ m ≤ s.size ∧ i = .int .i64 m ∧ Hid (Sc s (a + 1) m)) (fun i => s.size - (intOf i).toNat)
          case atStart => exact ⟨a + 1, Nat.le_refl _, by omega, by go_num, Sc.start s _⟩
          case round =>
            obtain ⟨m, hqm, hm, rfl, hsc⟩ := hrel
            by_cases hlt : m < s.size
            · by_cases c1 : (s[m].toNat : Int) = 34
              · have HR : Hid _ := (HQ.out.some (by omega) h4).trans (congrArg _ (hsc.out.quote hlt c1))
                go_wp2
                exact bodyPost_ret (v := .tuple #[.agg #[.bool false, .string (s.extract (a + 1) m)], .int .i64 ((m : Int) + 1)]) (by simp [results, Tryd.results28, go_sem]) rfl (tagP_some (by repeat (first | exact Below.refl _ _ | refine Below.setCell ?_ (by simp) _ | refine Below.alloc ?_ (by simp) _)) (by omega) (by omega) hlt HR.out)
              · by_cases c2 : (s[m].toNat : Int) < 33
                · have HR : Hid _ := (HQ.out.some (by omega) h4).trans (congrArg _ (hsc.out.bad hlt (Or.inl c2)))
                  go_wp2
                  exact bodyPost_ret (v := .tuple #[.agg #[.bool false, .string ⟨#[]⟩], .int .i64 (-1)]) (by simp [results, Tryd.results28, go_sem]) rfl (tagP_none (by repeat (first | exact Below.refl _ _ | refine Below.setCell ?_ (by simp) _ | refine Below.alloc ?_ (by simp) _)) HR.out)
                · by_cases c3 : (s[m].toNat : Int) = 127
                  · have HR : Hid _ := (HQ.out.some (by omega) h4).trans (congrArg _ (hsc.out.bad hlt (Or.inr c3)))
                    go_wp2
                    exact bodyPost_ret (v := .tuple #[.agg #[.bool false, .string ⟨#[]⟩], .int .i64 (-1)]) (by simp [results, Tryd.results28, go_sem]) rfl (tagP_none (by repeat (first | exact Below.refl _ _ | refine Below.setCell ?_ (by simp) _ | refine Below.alloc ?_ (by simp) _)) HR.out)
                  · have HG : Hid _ := hsc.out.go hqm hlt c1 c2 c3
                    go_wp2
                    exact ⟨⟨m + 1, by omega, by omega, by go_num, HG.out⟩, by simp [intOf]; omega⟩
            · have HR : Hid _ := (HQ.out.some (by omega) h4).trans (congrArg _ (hsc.out.stop (by omega)))
              go_wp2
              exact bodyPost_ret (v := .tuple #[.agg #[.bool false, .string ⟨#[]⟩], .int .i64 (-1)]) (by simp [results, Tryd.results28, go_sem]) rfl (tagP_none (by repeat (first | exact Below.refl _ _ | refine Below.setCell ?_ (by simp) _ | refine Below.alloc ?_ (by simp) _)) HR.out)
        · have h4' : ((s[a].toNat : Int) != 34) = true := by simpa using h4
          have HR : Hid _ := HQ.out.none (fun _ => h4)
          go_enter Tryd.func28, Tryd.ntmps28
          go_wp2
          exact bodyPost_ret (v := .tuple #[.agg #[.bool false, .string ⟨#[]⟩], .int .i64 (-1)]) (by simp [results, Tryd.results28, go_sem]) rfl (tagP_none (by repeat (first | exact Below.refl _ _ | refine Below.setCell ?_ (by simp) _ | refine Below.alloc ?_ (by simp) _)) HR.out)
      · exact absurd (show a < s.size by omega) h5
  · have HQ : Hid (Quo s a a false) := tag_plain s a (fun _ => absurd (by assumption) h1)
    by_cases h5 : a < s.size
    · by_cases h4 : (s[a].toNat : Int) = 34
      · go_enter Tryd.func28, Tryd.ntmps28
        go_wp2
        go_loop [8] (fun i => ∃ m : Nat, a + 1 ≤ m ∧ m ≤ s.size ∧ i = .int .i64 m ∧ Hid (Sc s (a + 1) m)) (fun i => s.size - (intOf i).toNat)
        case atStart => exact ⟨a + 1, Nat.le_refl _, by omega, by go_num, Sc.start s _⟩
        case round =>
          obtain ⟨m, hqm, hm, rfl, hsc⟩ := hrel
          by_cases hlt : m < s.size
          · by_cases c1 : (s[m].toNat : Int) = 34
            · have HR : Hid _ := (HQ.out.some (by omega) h4).trans (congrArg _ (hsc.out.quote hlt c1))
              go_wp2
              exact bodyPost_ret (v := .tuple #[.agg #[.bool false, .string (s.extract (a + 1) m)], .int .i64 ((m : Int) + 1)]) (by simp [results, Tryd.results28, go_sem]) rfl (tagP_some (by repeat (first | exact Below.refl _ _ | refine Below.setCell ?_ (by simp) _ | refine Below.alloc ?_ (by simp) _)) (by omega) (by omega) hlt HR.out)
            · by_cases c2 : (s[m].toNat : Int) < 33
              · have HR : Hid _ := (HQ.out.some (by omega) h4).trans (congrArg _ (hsc.out.bad hlt (Or.inl c2)))
                go_wp2
                exact bodyPost_ret (v := .tuple #[.agg #[.bool false, .string ⟨#[]⟩], .int .i64 (-1)]) (by simp [results, Tryd.results28, go_sem]) rfl (tagP_none (by repeat (first | exact Below.refl _ _ | refine Below.setCell ?_ (by simp) _ | refine Below.alloc ?_ (by simp) _)) HR.out)
              · by_cases c3 : (s[m].toNat : Int) = 127
                · have HR : Hid _ := (HQ.out.some (by omega) h4).trans (congrArg _ (hsc.out.bad hlt (Or.inr c3)))
                  go_wp2
                  exact bodyPost_ret (v := .tuple #[.agg #[.bool false, .string ⟨#[]⟩], .int .i64 (-1)]) (by simp [results, Tryd.results28, go_sem]) rfl (tagP_none (by repeat (first | exact Below.refl _ _ | refine Below.setCell ?_ (by simp) _ | refine Below.alloc ?_ (by simp) _)) HR.out)
                · have HG : Hid _ := hsc.out.go hqm hlt c1 c2 c3
                  go_wp2
                  exact ⟨⟨m + 1, by omega, by omega, by go_num, HG.out⟩, by simp [intOf]; omega⟩
          · have HR : Hid _ := (HQ.out.some (by omega) h4).trans (congrArg _ (hsc.out.stop (by omega)))
            go_wp2
            exact bodyPost_ret (v := .tuple #[.agg #[.bool false, .string ⟨#[]⟩], .int .i64 (-1)]) (by simp [results, Tryd.results28, go_sem]) rfl (tagP_none (by repeat (first | exact Below.refl _ _ | refine Below.setCell ?_ (by simp) _ | refine Below.alloc ?_ (by simp) _)) HR.out)
      · have h4' : ((s[a].toNat : Int) != 34) = true := by simpa using h4
        have HR : Hid _ := HQ.out.none (fun _ => h4)
        go_enter Tryd.func28, Tryd.ntmps28
        go_wp2
        exact bodyPost_ret (v := .tuple #[.agg #[.bool false, .string ⟨#[]⟩], .int .i64 (-1)]) (by simp [results, Tryd.results28, go_sem]) rfl (tagP_none (by repeat (first | exact Below.refl _ _ | refine Below.setCell ?_ (by simp) _ | refine Below.alloc ?_ (by simp) _)) HR.out)
    · have HR : Hid _ := HQ.out.none (fun h => absurd h h5)
      go_enter Tryd.func28, Tryd.ntmps28
      go_wp2
      exact bodyPost_ret (v := .tuple #[.agg #[.bool false, .string ⟨#[]⟩], .int .i64 (-1)]) (by simp [results, Tryd.results28, go_sem]) rfl (tagP_none (by repeat (first | exact Below.refl _ _ | refine Below.setCell ?_ (by simp) _ | refine Below.alloc ?_ (by simp) _)) HR.out)
end Go.Proofs.YtmehkneofinmiaaDoor

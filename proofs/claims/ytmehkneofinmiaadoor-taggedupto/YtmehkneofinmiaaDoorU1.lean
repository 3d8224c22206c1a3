/-
  The walks of the document's trim and tag.
-/
import Derived.Test.YtmehkneofinmiaaDoorQ2
import Derived.Laws.IdiomStrings
namespace Go.Proofs.YtmehkneofinmiaaDoor
open Go.RowKit

theorem blank_iff (c : UInt8) : blank c = true ↔ (c.toNat : Int) = 32 ∨ (c.toNat : Int) = 9 := by
  unfold blank
  simp [← UInt8.toNat_inj]
  omega
theorem drop_cons (s : ByteArray) (k : Nat) (h : k < s.size) : s.data.toList.drop k = s[k] :: s.data.toList.drop (k + 1) := by
  rw [List.drop_eq_getElem_cons (by simpa using h)]
  rfl

theorem trim_all (g : List UInt8) (h : g.all blank = true) : Lib.trimS g [32, 9] = [] := by
  have : Lib.trimRightS ([] ++ g) [32, 9] = Lib.trimRightS [] [32, 9] := trimR_gap [] g h
  rw [List.nil_append] at this
  unfold Lib.trimS
  rw [this]
  rfl

theorem ex_data (s : ByteArray) (a b : Nat) : (s.extract a b).data.toList = (s.data.toList.drop a).take (b - a) := by
  obtain ⟨⟨l⟩⟩ := s
  rw [ByteArray.extract_mk]
theorem trim_cut (s : ByteArray) (k m : Nat) (hkm : k ≤ m) (hm : m ≤ s.size) (ha : (s.data.toList.take k).all blank = true) (hd : (s.data.toList.drop m).all blank = true)
    (h : k = m ∨ ((∀ h : k < s.size, blank s[k] = false) ∧ ∀ h : m - 1 < s.size, blank s[m - 1] = false)) : (⟨(Lib.trimS s.data.toList [32, 9]).toArray⟩ : ByteArray) = s.extract k m := by
  have hl := Lib.size_eq s
  apply ByteArray.ext
  apply Array.toList_inj.1
  rw [show (s.extract k m).data.toList = (s.data.toList.drop k).take (m - k) from ex_data s k m]
  show Lib.trimS s.data.toList [32, 9] = _
  by_cases e : k = m
  · subst e
    rw [Nat.sub_self, List.take_zero]
    apply trim_all
    rw [← List.take_append_drop k s.data.toList, List.all_append, ha, hd]
    rfl
  · obtain ⟨h1, h2⟩ := h.resolve_left e
    obtain ⟨n, rfl⟩ : ∃ n, m = k + (n + 1) := ⟨m - k - 1, by omega⟩
    have e0 : s.data.toList = s.data.toList.take k ++ ((s.data.toList.drop k).take (n + 1) ++ s.data.toList.drop (k + (n + 1))) := by
      rw [← List.drop_drop, List.take_append_drop, List.take_append_drop]
    rw [show k + (n + 1) - k = n + 1 by omega]
    have hx : (s.data.toList.drop k).take (n + 1) = s[k] :: (s.data.toList.drop (k + 1)).take n := by rw [drop_cons s k (by omega)]; rfl
    have hy : (s.data.toList.drop k).take (n + 1) = (s.data.toList.drop k).take n ++ [s[k + (n + 1) - 1]] := by
      rw [List.take_add_one, List.getElem?_drop, List.getElem?_eq_getElem (by omega)]
      rfl
    have := trim_both (s.data.toList.take k) ((s.data.toList.drop k).take (n + 1)) (s.data.toList.drop (k + (n + 1))) s[k] s[k + (n + 1) - 1] _ _ ha hd hx (h1 (by omega)) hy (h2 (by omega))
    rwa [← e0] at this

set_option maxHeartbeats 400000 in
theorem trim_any (s : ByteArray) (w : World) (hs : s.size ≤ 9223372036854775807) :
    Calls Tryd.prog 27 #[.string s] w fun e w' => e = .returned (.string ⟨(Lib.trimS s.data.toList [32, 9]).toArray⟩) ∧ w' = w := by
  go_enter Tryd.func27, Tryd.ntmps27
  go_wp2
  go_loop [3] (fun i => ∃ k : Nat, k ≤ s.size ∧ i = .int .i64 k ∧ Hid ((s.data.toList.take k).all blank = true)) (fun i => s.size - (intOf i).toNat)
  case atStart => exact ⟨0, Nat.zero_le _, rfl, rfl⟩
  case round =>
    obtain ⟨k, hk, rfl, ha⟩ := hrel
    by_cases hlt : k < s.size
    · have HS : Hid ((s.data.toList.take (k + 1)).all blank = blank s[k]) := by
        have := ha.out
        show _ = _
        rw [take_snoc s k hlt, List.all_append, this]; simp
      have HB : Hid _ := blank_iff s[k]
      go_wp2
      · exact ⟨⟨k + 1, by omega, by go_num, HS.out.trans (HB.out.2 (by omega))⟩, by simp [intOf]; omega⟩
      · exact ⟨⟨k + 1, by omega, by go_num, HS.out.trans (HB.out.2 (by have := ‹_ ∨ _›; simp at this; omega))⟩, by simp [intOf]; omega⟩
      · have HF : Hid (∀ h : k < s.size, blank s[k] = false) := fun _ => by
          rw [Bool.eq_false_iff, Ne, HB.out]
          have := ‹_ ∧ _›
          simp at this
          omega
        clear HB HS
        go_loop [4] (fun j => ∃ m : Nat, k ≤ m ∧ m ≤ s.size ∧ j = .int .i64 m ∧ Hid ((s.data.toList.drop m).all blank = true)) (fun j => (intOf j).toNat)
        case atStart => exact ⟨s.size, hk, Nat.le_refl _, rfl, by show _ = _; rw [List.drop_of_length_le (by rw [Lib.size_eq]; exact Nat.le_refl _)]; rfl⟩
        case round =>
          obtain ⟨m, hkm, hm, rfl, hd⟩ := hrel
          by_cases hlt2 : k < m
          · obtain ⟨m, rfl⟩ : ∃ n, m = n + 1 := ⟨m - 1, by omega⟩
            have HD : Hid ((s.data.toList.drop m).all blank = blank s[m]) := by
              have := hd.out
              show _ = _
              rw [drop_cons s m (by omega), List.all_cons, this]; simp
            have HB2 : Hid _ := blank_iff s[m]
            go_wp2
            · exact ⟨⟨m, by omega, by omega, rfl, HD.out.trans (HB2.out.2 (by omega))⟩, by simp [intOf]⟩
            · exact ⟨⟨m, by omega, by omega, rfl, HD.out.trans (HB2.out.2 (by have := ‹(_ == _) = true ∨ _›; simp at this; omega))⟩, by simp [intOf]⟩
            · go_ret
              refine ⟨ret_str (trim_cut s k (m + 1) (by omega) hm ha.out hd.out (Or.inr ⟨HF.out, fun _ => ?_⟩)).symm, rfl⟩
              show blank s[m] = false
              rw [Bool.eq_false_iff, Ne, HB2.out]
              have := ‹(_ == _) = false ∧ _›
              simp at this
              omega
          · go_wp2
            go_ret
            exact ⟨ret_str (trim_cut s k m hkm hm ha.out hd.out (Or.inl (by omega))).symm, rfl⟩
    · have HF : Hid (∀ h : k < s.size, blank s[k] = false) := fun h => absurd h hlt
      go_wp2
      go_loop [4] (fun j => ∃ m : Nat, k ≤ m ∧ m ≤ s.size ∧ j = .int .i64 m ∧ Hid ((s.data.toList.drop m).all blank = true)) (fun j => (intOf j).toNat)
      case atStart => exact ⟨s.size, hk, Nat.le_refl _, rfl, by show _ = _; rw [List.drop_of_length_le (by rw [Lib.size_eq]; exact Nat.le_refl _)]; rfl⟩
      case round =>
        obtain ⟨m, hkm, hm, rfl, hd⟩ := hrel
        have hlt2 : ¬ k < m := by omega
        go_wp2
        go_ret
        exact ⟨ret_str (trim_cut s k m hkm hm ha.out hd.out (Or.inl (by omega))).symm, rfl⟩
end Go.Proofs.YtmehkneofinmiaaDoor

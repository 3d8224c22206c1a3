/-
  The walk of the document's Tags.
-/
import Derived.Test.YtmehkneofinmiaaDoorU4
import Derived.Test.YtmehkneofinmiaaDoorQ4
namespace Go.Proofs.YtmehkneofinmiaaDoor
open Go.RowKit

theorem toList_data (s : ByteArray) : s.toList = s.data.toList := by
  obtain ⟨⟨l⟩⟩ := s
  simp

/-- where the reading stands -/
def Rd (s : ByteArray) (a : Nat) (b : Bool) (acc : TagL) : Prop :=
  match b with
  | true => ∃ k, (s.data.toList.drop a).length < k ∧ tagsF (s.data.toList.length + 1) s.data.toList = (tagsF k (s.data.toList.drop a)).map (acc ++ ·)
  | false => tagsF (s.data.toList.length + 1) s.data.toList = some acc

set_option maxRecDepth 100000 in
set_option maxHeartbeats 1000000 in
theorem refTags_any (s0 : ByteArray) (s : ByteArray) (w : World) (hl : Lib.trimS s0.data.toList [32, 9] = s.data.toList) (hs0 : s0.size ≤ 67108864) (hs : s.size ≤ 67108864) : Calls Tryd.prog 11 #[.string s0] w (TagsPost s.data.toList w) := by
  obtain ⟨ti, i1, i2, i3, i4⟩ := info33
  have HI : Hid _ := i1
  have HI2 : Hid _ := i2
  have HI3 : Hid _ := i3
  have HI4 : Hid _ := i4
  have TI : Hid (Tight s.data.toList) := by show Tight _; rw [← hl]; exact trim_tight _
  have hst : (⟨(Lib.trimS s0.data.toList [32, 9]).toArray⟩ : ByteArray) = s := by rw [hl]
  have HST : Hid _ := hst
  clear i1 i2 i3 i4 hst hl
  go_enter Tryd.func11, Tryd.ntmps11
  go_wp2_with fail
  refine (trim_any _ _ (by omega)).mono ?_
  rintro e w1 ⟨rfl, rfl⟩
  rw [HST.out]
  clear HST
  by_cases hstar : s.data.toList = [42]
  · obtain rfl : s = ⟨#[42]⟩ := by
      apply ByteArray.ext
      apply Array.toList_inj.1
      exact hstar
    go_wp2
    exact bodyPost_ret (v := .tuple #[.agg #[.bool true, .slice none 0 0], .bool true]) (by simp [results, Tryd.results11, go_sem]) rfl ⟨(by repeat (first | exact Below.refl _ _ | refine Below.setCell ?_ (by simp) _ | refine Below.alloc ?_ (by simp) _)), Or.inl ⟨rfl, rfl⟩⟩
  · have hne : (s.data.toList == [42]) = false := by simpa using hstar
    have hne2 : (s.toList == [42]) = false := by rw [toList_data]; exact hne
    have HSTAR : Hid _ := hstar
    clear hstar
    go_wp2
    go_loopw [6, 7] (fun at_ more wr => ∃ (a : Nat) (b : Bool) (acc : TagL) (bo : Option Addr) (cp : Nat), a ≤ s.size ∧ acc.length ≤ a ∧ at_ = .int .i64 a ∧ more = .bool b ∧ Ou w wr (w.heap.size + 1) (.slice bo acc.length cp) acc ∧ Hid (Rd s a b acc))
      (fun at_ more _ => s.size - (intOf at_).toNat + (match more with | .bool true => 1 | _ => 0))
    case atStart =>
      refine ⟨0, true, [], none, 0, Nat.zero_le _, Nat.le_refl _, rfl, rfl, ?_, ⟨s.data.toList.length + 1, by simp, ?_⟩⟩
      · exact ⟨by repeat (first | exact Below.refl _ _ | refine Below.alloc ?_ (by simp) _), by simp, by simp, by simp, by simp, by simp, by simp, by simp, ⟨rfl, Or.inl ⟨rfl, rfl⟩⟩, by omega, by simp⟩
      · exact (map_nil_append _).symm
    case round =>
      obtain ⟨a, b, acc, bo, cp, ha, hla, rfl, rfl, ou, hrd⟩ := hrel
      cases b with
      | false =>
        obtain ⟨q1, q2, q3, q4, q5, q6, q7, q8, q9, q10, q11⟩ := ou
        go_wp2
        exact bodyPost_ret (v := .tuple #[.agg #[.bool false, .slice bo acc.length cp], .bool true]) (by simp [results, Tryd.results11, go_sem, q2, q3]) rfl ⟨(q1.setCell (Nat.le_refl _) _).setCell (Nat.le_refl _) _, Or.inr ⟨HSTAR.out, Or.inr ⟨acc, _, hrd.out, rfl, owns_set (owns_set (owns_mono q9 (by omega)) (by simp)) (by simp)⟩⟩⟩
      | true =>
        go_wp2_with fail
        refine (tag_any s a _ ha hs).mono ?_
        rintro e w2 ⟨hb2, ⟨wk, nm, n, hn, han, hf, rfl⟩ | ⟨hf, rfl⟩⟩
        · have ou2 := ou.below hb2
          have hal : Below w2.heap.size w2 ((w2.alloc (.cells #[.bool wk, .string ⟨nm.toArray⟩] 33)).alloc (.cells #[.bool wk, .string ⟨nm.toArray⟩] 33)) := ((Below.refl _ _).alloc (Nat.le_refl _) _).alloc (by simp) _
          have HO : Hid _ := owns_below ou2.own hal
          have hnews : ∀ j u, ([.bool wk, .string ⟨nm.toArray⟩] : List Value)[j]? = some u → ((w2.alloc (.cells #[.bool wk, .string ⟨nm.toArray⟩] 33)).alloc (.cells #[.bool wk, .string ⟨nm.toArray⟩] 33)).cell? ((⟨w2.heap.size + 1, 0, none⟩ : Addr).add j) = some u := by
            have := cell_two_new (w2.alloc (.cells #[.bool wk, .string ⟨nm.toArray⟩] 33)) (.bool wk) (.string ⟨nm.toArray⟩) 33
            simpa using this
          have HN : Hid _ := hnews
          have HF : Hid _ := hf
          have hlt2 := ou2.lt
          have k0 := ou2.o0
          have k1 := ou2.o1
          clear hnews hf ou hb2
          go_wp2_with (first | (at_builtin; refine wpList_append_own _ rfl (.tmp 26) (.tmp 28) 26 rfl (w.heap.size + 1 + 1) 33 ti (.agg #[.bool false, .string ⟨#[]⟩]) 2 24 Tryd.underlying26 HI.out HI4.out HI2.out HI3.out rfl (by omega) (.slice bo acc.length cp) acc.length (cellsT acc) rfl HO.out ⟨w2.heap.size + 1, 0, none⟩ 1 1 [.bool wk, .string ⟨nm.toArray⟩] rfl rfl HN.out (by intro u hu; simp at hu; rcases hu with rfl | rfl <;> rfl) (by unfold maxLen; omega) (by omega) (by simp; omega) ?_; intro v' w3 hown3 hgr _; obtain ⟨gg, cap, hv'⟩ := owns_pos hown3; rw [hv'] at hown3; rw [hv']; clear hv'; have hB : Below (w.heap.size + 1 + 1) w2 w3 := (hal.mono (by omega)).grown hgr (by simp; omega) (owns_block ou2.own); have k2 := (hB.cell (p := ⟨w.heap.size + 1, 1, none⟩) (Nat.lt_succ_self _)).trans ou2.o1; have k3 := (hB.frozen (p := ⟨w.heap.size + 1, 1, none⟩) (Nat.lt_succ_self _)).trans ou2.of1))
          obtain ⟨w4, hw4⟩ : ∃ w4, w4 = w3.setCell ⟨w.heap.size + 1, 1, none⟩ (.slice (some ⟨gg, 0, none⟩) (acc.length + 1) cap) := ⟨_, rfl⟩
          have ou4 : Ou w w4 (w.heap.size + 1) (.slice (some ⟨gg, 0, none⟩) (acc.length + 1) cap) (acc ++ [(wk, nm)]) := by rw [hw4]; exact ou2.next hB hown3
          rw [← hw4]
          clear hw4 ou2 hB hown3 hgr k0 k1 k2 k3 hal HO HN hlt2
          have hl4 : acc.length + 1 = (acc ++ [(wk, nm)]).length := by simp
          rw [hl4] at ou4 ⊢
          obtain ⟨ac, hac⟩ : ∃ ac, acc ++ [(wk, nm)] = ac := ⟨_, rfl⟩
          have hla2 : ac.length ≤ n := by rw [← hac, ← hl4]; omega
          have HRD : Hid _ := hrd.out
          rw [hac] at ou4 ⊢
          clear hl4 hrd
          go_loop [6] (fun i => ∃ m : Nat, n ≤ m ∧ m ≤ s.size ∧ i = .int .i64 m ∧ Hid (Sk s n m)) (fun i => s.size - (intOf i).toNat)
          case atStart => exact ⟨n, Nat.le_refl _, hn, rfl, rfl⟩
          case round =>
            obtain ⟨m, hnm, hm, rfl, hsk⟩ := hrel
            by_cases hlt : m < s.size
            · by_cases hbk : (s[m].toNat : Int) = 32 ∨ (s[m].toNat : Int) = 9
              · have HG : Hid _ := hsk.out.go hlt hbk
                rcases hbk with hbk | hbk
                · go_wp2
                  all_goals exact ⟨⟨m + 1, by omega, by omega, by go_num, HG.out⟩, by simp [intOf]; omega⟩
                · go_wp2
                  all_goals exact ⟨⟨m + 1, by omega, by omega, by go_num, HG.out⟩, by simp [intOf]; omega⟩
              · have HSP : Hid _ := hsk.out.stop (fun _ => hbk)
                have n32 : ((s[m].toNat : Int) == 32) = false := by simp; omega
                have n9 : ((s[m].toNat : Int) == 9) = false := by simp; omega
                by_cases h44 : (s[m].toNat : Int) = 44
                · go_wp2
                  go_loop [6] (fun i => ∃ p : Nat, m + 1 ≤ p ∧ p ≤ s.size ∧ i = .int .i64 p ∧ Hid (Sk s (m + 1) p)) (fun i => s.size - (intOf i).toNat)
                  case atStart => exact ⟨m + 1, Nat.le_refl _, by omega, by go_num, rfl⟩
                  case round =>
                    obtain ⟨p, hmp, hp, rfl, hsk2⟩ := hrel
                    by_cases hlt2 : p < s.size
                    · by_cases hbk2 : (s[p].toNat : Int) = 32 ∨ (s[p].toNat : Int) = 9
                      · have HG : Hid _ := hsk2.out.go hlt2 hbk2
                        rcases hbk2 with hbk2 | hbk2
                        · go_wp2
                          all_goals exact ⟨⟨p + 1, by omega, by omega, by go_num, HG.out⟩, by simp [intOf]; omega⟩
                        · go_wp2
                          all_goals exact ⟨⟨p + 1, by omega, by omega, by go_num, HG.out⟩, by simp [intOf]; omega⟩
                      · have HSP2 : Hid _ := hsk2.out.stop (fun _ => hbk2)
                        have m32 : ((s[p].toNat : Int) == 32) = false := by simp; omega
                        have m9 : ((s[p].toNat : Int) == 9) = false := by simp; omega
                        go_wp2
                        refine ⟨⟨p, true, ac, _, cap, by omega, by omega, rfl, ?_, ou4, ?_⟩, ?_⟩
                        · first | rfl | simp
                          try omega
                        · obtain ⟨k, hk, h⟩ := HRD.out
                          obtain ⟨k', rfl⟩ : ∃ k', k = k' + 1 := ⟨k - 1, by omega⟩
                          refine ⟨k', ?_, ?_⟩
                          · have z := Lib.size_eq s
                            simp only [List.length_drop] at hk ⊢
                            omega
                          · rw [h, ref_on HF.out HSP.out hnm hlt h44 HSP2.out, ← hac]
                            cases tagsF k' (s.data.toList.drop p) <;> simp
                        · simp [intOf]
                          omega
                    · have HSP2 : Hid _ := hsk2.out.stop (fun h => absurd h hlt2)
                      go_wp2
                      refine ⟨⟨p, true, ac, _, cap, by omega, by omega, rfl, ?_, ou4, ?_⟩, ?_⟩
                      · first | rfl | simp
                        try omega
                      · obtain ⟨k, hk, h⟩ := HRD.out
                        obtain ⟨k', rfl⟩ : ∃ k', k = k' + 1 := ⟨k - 1, by omega⟩
                        refine ⟨k', ?_, ?_⟩
                        · have z := Lib.size_eq s
                          simp only [List.length_drop] at hk ⊢
                          omega
                        · rw [h, ref_on HF.out HSP.out hnm hlt h44 HSP2.out, ← hac]
                          cases tagsF k' (s.data.toList.drop p) <;> simp
                      · simp [intOf]
                        omega
                · have n44 : ((s[m].toNat : Int) != 44) = true := by simpa using h44
                  have HR : Hid (tagsF (s.data.toList.length + 1) s.data.toList = none) := by
                    obtain ⟨k, hk, h⟩ := HRD.out
                    show _ = _
                    rw [h, ref_bad HF.out HSP.out hnm hlt h44]
                    rfl
                  obtain ⟨q1, q2, q3, q4, q5, q6, q7, q8, q9, q10, q11⟩ := ou4
                  go_wp2
                  exact bodyPost_ret (v := .tuple #[.agg #[.bool false, .slice none 0 0], .bool false]) (by simp [results, Tryd.results11, go_sem, q2, q3]) rfl ⟨(q1.setCell (Nat.le_refl _) _).setCell (Nat.le_refl _) _, Or.inr ⟨HSTAR.out, Or.inl ⟨HR.out, rfl⟩⟩⟩
            · have HSP : Hid _ := hsk.out.stop (fun h => absurd h hlt)
              go_wp2
              refine ⟨⟨m, false, ac, _, cap, by omega, by omega, by go_num, ?_, ou4, ?_⟩, ?_⟩
              · first | rfl | simp
                try omega
              · show tagsF _ _ = _
                obtain ⟨k, hk, h⟩ := HRD.out
                rw [h, ref_end TI.out hk HF.out HSP.out (by omega), ← hac]
                rfl
              · simp [intOf]
                omega
        · obtain ⟨q1, q2, q3, q4, q5, q6, q7, q8, q9, q10, q11⟩ := ou.below hb2
          have HR : Hid (tagsF (s.data.toList.length + 1) s.data.toList = none) := by
            obtain ⟨k, hk, h⟩ := hrd.out
            show _ = _
            rw [h, tagsF_none hf]
            rfl
          clear hf hrd
          have hlt : w.heap.size < w2.heap.size := by omega
          go_wp2
          refine bodyPost_ret (v := .tuple #[.agg #[.bool false, .slice none 0 0], .bool false]) (by simp [results, Tryd.results11, go_sem, q2, q3, hlt]) rfl ⟨?_, Or.inr ⟨HSTAR.out, Or.inl ⟨HR.out, rfl⟩⟩⟩
          first | exact ((q1.setCell (Nat.le_refl _) _).setCell (Nat.le_refl _) _).alloc (by simp [World.setCell]; omega) _ | exact ((q1.alloc (by omega) _).setCell (Nat.le_refl _) _).setCell (Nat.le_refl _) _
end Go.Proofs.YtmehkneofinmiaaDoor

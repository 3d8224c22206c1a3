/-
  The document's Date.
-/
import Derived.Test.YtmehkneofinmiaaDoorD8
namespace Go.Proofs.YtmehkneofinmiaaDoor
open Go.RowKit

theorem isD_iff (a : UInt8) : isD a = true ↔ 48 ≤ a.toNat ∧ a.toNat ≤ 57 := by simp [isD]
theorem dgs2_bd (l : List UInt8) (h : l.length = 2) : -1 ≤ dgs l ∧ dgs l ≤ 99 := by
  by_cases ha : l.all isD = true
  · rw [dgs_yes ha]
    match l, h with
    | [a, b], _ =>
      simp only [List.all_cons, List.all_nil, Bool.and_true, Bool.and_eq_true, isD_iff] at ha
      rw [num2, dv_d (by omega) (by omega), dv_d (by omega) (by omega)]; omega
  · rw [dgs_no (by simpa using ha)]; omega
theorem dgs4_bd (l : List UInt8) (h : l.length = 4) : -1 ≤ dgs l ∧ dgs l ≤ 9999 := by
  by_cases ha : l.all isD = true
  · rw [dgs_yes ha]
    match l, h with
    | [a, b, c, d], _ =>
      simp only [List.all_cons, List.all_nil, Bool.and_true, Bool.and_eq_true, isD_iff] at ha
      rw [num4, dv_d (by omega) (by omega), dv_d (by omega) (by omega), dv_d (by omega) (by omega), dv_d (by omega) (by omega)]; omega
  · rw [dgs_no (by simpa using ha)]; omega

/-- the digits of a fitting text -/
theorem fits_digits {l : List UInt8} (hl : l.length = 29) (h : all2 l form.data.toList = true) :
    dgs ((l.drop 12).take 4) = num ((l.drop 12).take 4) ∧ dgs ((l.drop 5).take 2) = num ((l.drop 5).take 2) ∧ dgs ((l.drop 17).take 2) = num ((l.drop 17).take 2) ∧ dgs ((l.drop 20).take 2) = num ((l.drop 20).take 2) ∧ dgs ((l.drop 23).take 2) = num ((l.drop 23).take 2) := by
  obtain ⟨c0, c1, c2, c3, c4, c5, c6, c7, c8, c9, c10, c11, c12, c13, c14, c15, c16, c17, c18, c19, c20, c21, c22, c23, c24, c25, c26, c27, c28, rfl⟩ := list29 hl
  simp [form, all2, fitI] at h
  obtain ⟨e3, e4, ⟨p5, q5⟩, ⟨p6, q6⟩, e7, e11, ⟨p12, q12⟩, ⟨p13, q13⟩, ⟨p14, q14⟩, ⟨p15, q15⟩, e16, ⟨p17, q17⟩, ⟨p18, q18⟩, e19, ⟨p20, q20⟩, ⟨p21, q21⟩, e22, ⟨p23, q23⟩, ⟨p24, q24⟩, e25, e26, e27, e28⟩ := h
  have d : ∀ a : UInt8, (48 : Int) ≤ a.toNat → (a.toNat : Int) ≤ 57 → isD a = true := fun a x y => (isD_iff a).2 (by omega)
  simp only [List.drop_succ_cons, List.drop_zero, List.take_succ_cons, List.take_zero]
  refine ⟨dgs_yes ?_, dgs_yes ?_, dgs_yes ?_, dgs_yes ?_, dgs_yes ?_⟩
  · simp [d c12 (by omega) (by omega), d c13 (by omega) (by omega), d c14 (by omega) (by omega), d c15 (by omega) (by omega)]
  · simp [d c5 (by omega) (by omega), d c6 (by omega) (by omega)]
  · simp [d c17 (by omega) (by omega), d c18 (by omega) (by omega)]
  · simp [d c20 (by omega) (by omega), d c21 (by omega) (by omega)]
  · simp [d c23 (by omega) (by omega), d c24 (by omega) (by omega)]

def NoStamp (l : List UInt8) : Prop := ∀ sec : Int, 0 ≤ sec → sec ≤ 253402300799 → ¬ Cal.IsStamp sec l

/-- what the pieces of a date must be -/
theorem pieces {sec : Int} {l : List UInt8} (h : Cal.IsStamp sec l) (h0 : 0 ≤ sec) (h1 : sec ≤ 253402300799) :
    1970 ≤ dgs ((l.drop 12).take 4) ∧ 1 ≤ dgs ((l.drop 5).take 2) ∧ 0 ≤ dgs ((l.drop 17).take 2) ∧ 0 ≤ dgs ((l.drop 20).take 2) ∧ 0 ≤ dgs ((l.drop 23).take 2) ∧
    ∃ i, i < 12 ∧ Cal.nm Cal.months i = (l.drop 8).take 3 ∧
      sec = 86400 * (dgs ((l.drop 5).take 2) - 1 + Cal.ahead (dgs ((l.drop 12).take 4)) + Cal.cum (dgs ((l.drop 12).take 4)) i) + 3600 * dgs ((l.drop 17).take 2) + 60 * dgs ((l.drop 20).take 2) + dgs ((l.drop 23).take 2) := by
  obtain ⟨hl, hf, i, hi, hm, k1, k2, k3, hw, c1, c2, c3, e⟩ := complete h h0 h1
  obtain ⟨d1, d2, d3, d4, d5⟩ := fits_digits hl hf
  have a1 := num2_nonneg ((l.drop 17).take 2) (by simp; omega)
  have a2 := num2_nonneg ((l.drop 20).take 2) (by simp; omega)
  have a3 := num2_nonneg ((l.drop 23).take 2) (by simp; omega)
  rw [d1, d2, d3, d4, d5]
  refine ⟨k1, k2, a1, a2, a3, i, hi, hm, ?_⟩
  rw [e, dayNo, clockNo]; omega

set_option maxHeartbeats 400000 in
theorem ref_date_short (s : ByteArray) (w : World) (hs : s.size ≠ 29) :
    Calls Tryd.prog 8 #[.string s] w fun e w' => e = .returned (.tuple #[.int .i64 0, .bool false]) ∧ w' = w := by
  go_enter Tryd.func8, Tryd.ntmps8
  go_wp2
  go_ret2
  exact ⟨rfl, rfl⟩

def RefPost (s : ByteArray) (w : World) (e : Ending) (w' : World) : Prop :=
  ((∃ sec : Int, 0 ≤ sec ∧ sec ≤ 253402300799 ∧ Cal.IsStamp sec s.data.toList ∧ e = .returned (.tuple #[.int .i64 sec, .bool true])) ∨ (NoStamp s.data.toList ∧ e = .returned (.tuple #[.int .i64 0, .bool false]))) ∧ Below w.heap.size w w'

set_option maxHeartbeats 2000000 in
theorem ref_date_long (s : ByteArray) (w : World) (hs : s.size = 29) (hT : Tab w) : Calls Tryd.prog 8 #[.string s] w (RefPost s w) := by
  have HS : Hid _ := hs
  have z1 : 29 ≤ s.size := by omega
  have z2 : s.size ≤ 29 := by omega
  have x5 := ext_list s 5 7
  have x8 := ext_list s 8 11
  have x12 := ext_list s 12 16
  have x17 := ext_list s 17 19
  have x20 := ext_list s 20 22
  have x23 := ext_list s 23 25
  simp only [Nat.reduceSub] at x5 x8 x12 x17 x20 x23
  have hl : s.data.toList.length = 29 := by rw [← Lib.size_eq]; exact hs
  have b12 := dgs4_bd ((s.data.toList.drop 12).take 4) (by simp [hl])
  have b5 := dgs2_bd ((s.data.toList.drop 5).take 2) (by simp [hl])
  have b17 := dgs2_bd ((s.data.toList.drop 17).take 2) (by simp [hl])
  have b20 := dgs2_bd ((s.data.toList.drop 20).take 2) (by simp [hl])
  have b23 := dgs2_bd ((s.data.toList.drop 23).take 2) (by simp [hl])
  have HP : Hid (∀ sec : Int, 0 ≤ sec → sec ≤ 253402300799 → Cal.IsStamp sec s.data.toList → _) := fun sec a b h => pieces h a b
  have c12 := fun w => digits_any (s.extract 12 16) w (by rw [size_ext s _ _ hs (by omega)]; omega)
  have c5 := fun w => digits_any (s.extract 5 7) w (by rw [size_ext s _ _ hs (by omega)]; omega)
  have c17 := fun w => digits_any (s.extract 17 19) w (by rw [size_ext s _ _ hs (by omega)]; omega)
  have c20 := fun w => digits_any (s.extract 20 22) w (by rw [size_ext s _ _ hs (by omega)]; omega)
  have c23 := fun w => digits_any (s.extract 23 25) w (by rw [size_ext s _ _ hs (by omega)]; omega)
  rw [x12] at c12
  rw [x5] at c5
  rw [x17] at c17
  rw [x20] at c20
  rw [x23] at c23
  generalize dgs ((s.data.toList.drop 12).take 4) = Y at *
  generalize dgs ((s.data.toList.drop 5).take 2) = D at *
  generalize dgs ((s.data.toList.drop 17).take 2) = hh at *
  generalize dgs ((s.data.toList.drop 20).take 2) = mm at *
  generalize dgs ((s.data.toList.drop 23).take 2) = ss at *
  have C12 : Hid _ := c12
  have C5 : Hid _ := c5
  have C17 : Hid _ := c17
  have C20 : Hid _ := c20
  have C23 : Hid _ := c23
  have X8 : Hid _ := x8
  clear c12 c5 c17 c20 c23 x5 x8 x12 x17 x20 x23 hs hl
  go_enter Tryd.func8, Tryd.ntmps8
  go_wp2_with fail
  refine Calls.mono (C12.out _) ?_
  rintro e w1 ⟨rfl, rfl⟩
  go_wp2_with fail
  refine Calls.mono (C5.out _) ?_
  rintro e w1 ⟨rfl, rfl⟩
  go_wp2_with fail
  refine Calls.mono (C17.out _) ?_
  rintro e w1 ⟨rfl, rfl⟩
  go_wp2_with fail
  refine Calls.mono (C20.out _) ?_
  rintro e w1 ⟨rfl, rfl⟩
  go_wp2_with fail
  refine Calls.mono (C23.out _) ?_
  rintro e w1 ⟨rfl, rfl⟩
  clear C12 C5 C17 C20 C23
  go_wp2
  go_loopw [9, 10] (fun mo i wr => ∃ k : Nat, k ≤ 12 ∧ i = .int .i64 k ∧ Hid (∃ q, wr = w1.drewN q) ∧ ∃ M : Int, mo = .int .i64 M ∧ -1 ≤ M ∧ M < 12 ∧ Hid ((M = -1 ∧ ∀ j, j < k → Cal.nm Cal.months j ≠ (s.data.toList.drop 8).take 3) ∨ ∃ j : Nat, j < k ∧ M = j ∧ Cal.nm Cal.months j = (s.data.toList.drop 8).take 3)) (fun _ i _ => 12 - (intOf i).toNat)
  case atStart => exact ⟨0, Nat.zero_le _, rfl, ⟨0, rfl⟩, -1, rfl, by omega, by omega, Or.inl ⟨rfl, fun j hj => absurd hj (by omega)⟩⟩
  case round =>
    obtain ⟨k, hk, rfl, hq, M, rfl, hM0, hM1, hM⟩ := hrel
    by_cases hlt : k < 12
    · have hs2 := fun w => cut_const mons 12 k rfl hlt w k rfl
      obtain ⟨m0, m1, m2, hmo⟩ := list3 (Cal.len_months ⟨k, hlt⟩)
      simp only at hmo
      rw [mons_list, hmo] at hs2
      unfold mons at hs2
      have HM : Hid _ := hmo
      clear hmo
      go_wp2
      go_quiet (fail)
      go_wp2
      · have he := ‹((s.extract 8 11).toList == _) = true›
        refine ⟨⟨k + 1, by omega, by go_num, drew_some hq.out, k, rfl, by omega, by omega, Or.inr ⟨k, by omega, rfl, ?_⟩⟩, by simp [intOf]; omega⟩
        rw [HM.out, ← X8.out, ← Lib.toList_data]
        exact (beq_iff_eq.1 he).symm
      · have he := ‹((s.extract 8 11).toList == _) = false›
        refine ⟨⟨k + 1, by omega, by go_num, drew_some hq.out, M, rfl, hM0, hM1, ?_⟩, by simp [intOf]; omega⟩
        rcases hM.out with ⟨e, hn⟩ | ⟨j, hj, e, hn⟩
        · refine Or.inl ⟨e, fun j hj => ?_⟩
          by_cases ej : j = k
          · subst ej
            rw [HM.out, ← X8.out, ← Lib.toList_data]
            exact fun e => beq_eq_false_iff_ne.1 he e.symm
          · exact hn j (by omega)
        · exact Or.inr ⟨j, by omega, e, hn⟩
    · have hw : ∀ e, (NoStamp s.data.toList ∧ e = Ending.returned (.tuple #[.int .i64 0, .bool false])) → RefPost s w1 e wr := fun e h => ⟨Or.inr h, by
        obtain ⟨q, hq⟩ := hq.out
        rw [hq]
        exact below_drewN (Below.refl _ _) q⟩
      have HW : Hid _ := hw
      clear hw
      have h12 : k = 12 := by omega
      have HK : Hid _ := h12
      by_cases g1 : Y < 1970
      · go_wp2
        go_ret2
        exact HW.out _ ⟨fun sec a b h => by have := HP.out sec a b h; omega, rfl⟩
      by_cases g2 : D < 1
      · go_wp2
        go_ret2
        exact HW.out _ ⟨fun sec a b h => by have := HP.out sec a b h; omega, rfl⟩
      by_cases g3 : hh < 0
      · go_wp2
        go_ret2
        exact HW.out _ ⟨fun sec a b h => by have := HP.out sec a b h; omega, rfl⟩
      by_cases g4 : mm < 0
      · go_wp2
        go_ret2
        exact HW.out _ ⟨fun sec a b h => by have := HP.out sec a b h; omega, rfl⟩
      by_cases g5 : ss < 0
      · go_wp2
        go_ret2
        exact HW.out _ ⟨fun sec a b h => by have := HP.out sec a b h; omega, rfl⟩
      by_cases g6 : M < 0
      · go_wp2
        go_ret2
        refine HW.out _ ⟨fun sec a b h => ?_, rfl⟩
        obtain ⟨_, _, _, _, _, i, hi, hm, _⟩ := HP.out sec a b h
        rcases hM.out with ⟨e, hn⟩ | ⟨j, hj, e, hn⟩
        · exact hn i (by omega) hm
        · omega
      obtain ⟨j, hj, hMj, hmn⟩ : ∃ j : Nat, j < 12 ∧ M = j ∧ Cal.nm Cal.months j = (s.data.toList.drop 8).take 3 := by
        rcases hM.out with ⟨e, _⟩ | ⟨j, hj, e, hn⟩
        · omega
        · exact ⟨j, by omega, e, hn⟩
      subst hMj
      have HN : Hid _ := hmn
      have HB : Hid (Below w1.heap.size w1 wr) := by
        obtain ⟨q, hq⟩ := hq.out
        rw [hq]
        exact below_drewN (Below.refl _ _) q
      clear hmn hM hM0 hM1 g6 HK hq X8
      go_wp2
      go_loop [11, 12] (fun n y => ∃ y' : Int, 1970 ≤ y' ∧ y' ≤ Y ∧ y = .int .i64 y' ∧ n = .int .i64 (D - 1 + Cal.ahead y')) (fun _ y => (Y - intOf y).toNat)
      case atStart => exact ⟨1970, by omega, by omega, rfl, by rw [Cal.ahead_1970]; simp⟩
      case round =>
        obtain ⟨y, hy0, hy1, rfl, rfl⟩ := hrel
        have ab := ahead_bd y hy0 (by omega)
        by_cases hlt : y < Y
        · have hsucc := Cal.ahead_succ y
          have HSC : Hid (Cal.ahead (y + 1) = Cal.ahead y + Cal.ylen y) := hsucc
          have hyc : (Cal.leap y = true ∧ Cal.ylen y = 366) ∨ (Cal.leap y = false ∧ Cal.ylen y = 365) := by
            unfold Cal.ylen; cases Cal.leap y <;> simp
          clear hsucc
          rcases hyc with ⟨hlp, hy6⟩ | ⟨hlp, hy6⟩
          · go_wp2_with (go_at_call 22; refine (leap_any _ _ (by omega) (by omega)).mono ?_; rintro e w' ⟨rfl, rfl⟩)
            exact ⟨⟨y + 1, by omega, by omega, rfl, val_int (by rw [HSC.out]; omega)⟩, by simp [intOf]; omega⟩
          · go_wp2_with (go_at_call 22; refine (leap_any _ _ (by omega) (by omega)).mono ?_; rintro e w' ⟨rfl, rfl⟩)
            exact ⟨⟨y + 1, by omega, by omega, rfl, val_int (by rw [HSC.out]; omega)⟩, by simp [intOf]; omega⟩
        · obtain rfl : y = Y := by omega
          clear hlt hy1
          go_wp2
          go_loop [11, 14] (fun n t => ∃ k : Nat, k ≤ j ∧ t = .int .i64 k ∧ n = .int .i64 (D - 1 + Cal.ahead y + Cal.cum y k)) (fun _ t => j - (intOf t).toNat)
          case atStart => exact ⟨0, Nat.zero_le _, rfl, by simp [Cal.cum]⟩
          case round =>
            obtain ⟨k, hk, rfl, rfl⟩ := hrel
            have cb := cum_bd y k (by omega)
            by_cases hlt : k < j
            · have mb := Cal.ml_bd y k
              have cs : Hid (Cal.cum y (k + 1) = Cal.cum y k + Cal.ml y k) := rfl
              go_wp2_with (go_at_call 23; refine (long_any _ _ _ (by omega) (by omega)).mono ?_; rintro e w' ⟨rfl, rfl⟩)
              exact ⟨⟨k + 1, by omega, by go_num, val_int (by rw [cs.out]; omega)⟩, by simp [intOf]; omega⟩
            · obtain rfl : k = j := by omega
              clear hlt hk
              have HX : Hid (∀ sec, 0 ≤ sec → sec ≤ 253402300799 → Cal.IsStamp sec s.data.toList → sec = 86400 * (D - 1 + Cal.ahead y + Cal.cum y k) + 3600 * hh + 60 * mm + ss) := by
                intro sec a b h
                obtain ⟨_, _, _, _, _, i, hi, hm, e⟩ := HP.out sec a b h
                have : i = k := by
                  have := Cal.nm_months_inj ⟨i, hi⟩ ⟨k, hj⟩ (hm.trans HN.out.symm)
                  simpa using this
                rw [e, this]
              clear HP HN HW
              by_cases hsec : 86400 * (D - 1 + Cal.ahead y + Cal.cum y k) + 3600 * hh + 60 * mm + ss ≤ 253402300799
              · go_wp2_with fail
                refine (ref_stamp_yes _ _ (by omega) (by omega) (hT.below HB.out)).mono ?_
                rintro e w3 ⟨⟨l, hl, rfl⟩, hb3⟩
                have hB3 : Below w1.heap.size w1 w3 := HB.out.trans (hb3.mono HB.out.size)
                by_cases heq : l = s.data.toList
                · have ht : (l == s.toList) = true := by rw [Lib.toList_data]; simp [heq]
                  have HE : Hid _ := heq
                  clear heq
                  go_wp2
                  go_ret2
                  refine ⟨Or.inl ⟨_, ?_, hsec, ?_, rfl⟩, hB3⟩
                  · omega
                  · rw [← HE.out]; exact hl
                · have ht : (l == s.toList) = false := by rw [Lib.toList_data]; simpa using heq
                  have HE : Hid _ := heq
                  clear heq
                  go_wp2
                  go_ret2
                  refine ⟨Or.inr ⟨fun sec a b h => HE.out ?_, rfl⟩, hB3⟩
                  have := HX.out sec a b h
                  subst this
                  exact hl.uniq h
              · go_wp2_with fail
                refine (ref_stamp_no _ _ (Or.inr (by omega))).mono ?_
                rintro e w3 ⟨rfl, rfl⟩
                have ht : ([] == s.toList) = false := by
                  rw [Lib.toList_data, beq_eq_false_iff_ne]
                  intro e
                  have h29 : s.size = 0 := by rw [Lib.size_eq, ← e]; rfl
                  omega
                go_wp2
                go_ret2
                refine ⟨Or.inr ⟨fun sec a b h => ?_, rfl⟩, HB.out⟩
                have := HX.out sec a b h
                omega
theorem ref_date_any (s : ByteArray) (w : World) (hT : Tab w) : Calls Tryd.prog 8 #[.string s] w (RefPost s w) := by
  by_cases hs : s.size = 29
  · exact ref_date_long s w hs hT
  · refine (ref_date_short s w hs).mono ?_
    rintro e w' ⟨rfl, rfl⟩
    refine ⟨Or.inr ⟨fun sec a b h => hs ?_, rfl⟩, Below.refl _ _⟩
    rw [Lib.size_eq]
    exact (complete h a b).1
end Go.Proofs.YtmehkneofinmiaaDoor

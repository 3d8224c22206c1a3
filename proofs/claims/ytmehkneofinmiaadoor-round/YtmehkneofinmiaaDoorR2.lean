/-
  The walk of 'Round'.
-/
import Derived.Test.YtmehkneofinmiaaDoorR1
import Derived.OpenShut
namespace Go.Proofs.YtmehkneofinmiaaDoor
open Go.RowKit

/-- What is known of the new row of bytes. -/
structure Row (w x : World) (g : Nat) (S : ByteArray) : Prop where
  b : Below w.heap.size w x
  c : ∀ j, j < S.size → x.cell? ⟨g, j, none⟩ = some (.int .u8 (S.data.toList.getD j 0).toNat)
  f : ∀ j, j < S.size → x.frozen? ⟨g, j, none⟩ = false
  lt : g < x.heap.size
  le : w.heap.size ≤ g

theorem row_made (w : World) (S : ByteArray) : Row w (Lib.bytesWorld w 5 S) w.heap.size S := by
  refine ⟨⟨rfl, rfl, rfl, by rw [Lib.bytesWorld_size]; omega, fun k hk => Lib.bytesWorld_at_old w 5 S k hk⟩, fun j hj => Lib.bytesWorld_cell w 5 S j hj, fun j hj => ?_, by rw [Lib.bytesWorld_size]; omega, Nat.le_refl _⟩
  have hsz : S.size ≤ (Lib.bytesCells w 5 S).size := by
    unfold Lib.bytesCells
    simp
  simp only [World.frozen?, Lib.bytesWorld_at_new]
  simp
  omega

theorem byte_of (a b : Int) : ∃ u : UInt8, bits BinOp.xor IntKind.u8 a b = (u.toNat : Int) := by
  have h := wf_bits BinOp.xor IntKind.u8 a b
  have h' : 0 ≤ bits BinOp.xor IntKind.u8 a b ∧ bits BinOp.xor IntKind.u8 a b ≤ 255 := by
    simpa [Lit.wf, IntKind.min, IntKind.max, IntKind.signed, IntKind.bits] using h
  refine ⟨UInt8.ofNat (bits BinOp.xor IntKind.u8 a b).toNat, ?_⟩
  simp
  omega

theorem Row.set {w x : World} {g i : Nat} {S : ByteArray} (h : Row w x g S) (u : UInt8) (hi : i < S.size) :
    Row w (x.setCell ⟨g, i, none⟩ (.int .u8 (u.toNat : Int))).drew g ⟨(S.data.toList.set i u).toArray⟩ := by
  have hsz : (⟨(S.data.toList.set i u).toArray⟩ : ByteArray).size = S.size := by rw [Lib.size_eq, Lib.size_eq]; simp
  refine ⟨(h.b.setCell h.le _).drew, fun j hj => ?_, fun j hj => ?_, ?_, h.le⟩
  · rw [hsz] at hj
    show (x.setCell _ _).cell? _ = _
    by_cases e : i = j
    · subst e
      rw [World.cell?_setCell_same _ _ _ (h.c i hi)]
      have : i < S.data.toList.length := by rw [← Lib.size_eq]; exact hi
      rw [List.getD, List.getElem?_set_self this]
      rfl
    · rw [World.cell?_setCell_other _ _ _ _ (by intro e'; injection e'; exact e (by assumption)), h.c j hj]
      simp [List.getD, e]
  · rw [hsz] at hj
    show (x.setCell _ _).frozen? _ = _
    rw [World.frozen?_setCell]
    exact h.f j hj
  · show g < (x.setCell _ _).heap.size
    simpa [World.setCell] using h.lt

theorem Row.below {w x y : World} {g : Nat} {S : ByteArray} (h : Row w x g S) (hb : Below x.heap.size x y) : Row w y g S := by
  have k := hb.size
  have lt := h.lt
  have le := h.le
  exact ⟨h.b.trans (hb.mono (by omega)), fun j hj => (hb.cell (p := ⟨g, j, none⟩) lt).trans (h.c j hj), fun j hj => (hb.frozen (p := ⟨g, j, none⟩) lt).trans (h.f j hj), by omega, le⟩

theorem Row.back {w x : World} {g n cp : Nat} {S : ByteArray} (h : Row w x g S) (hn : S.size = n) : (convert 37 9 (.slice (some ⟨g, 0, none⟩) n cp)).run Tryd.prog x = .ok (.string S) x := by
  have := run_convert_bytes_back (P := Tryd.prog) x 37 9 5 ⟨g, 0, none⟩ cp S.data.toList Tryd.underlying37 Tryd.underlying5 Tryd.underlying9 (fun j hj => by
    rw [Go.WideShapes.add_plain, Nat.zero_add, h.c j (by rw [Lib.size_eq]; exact hj)]
    rw [List.getD, List.getElem?_eq_getElem hj]
    rfl)
  rw [← Lib.size_eq, hn, Lib.mk_data] at this
  exact this

theorem slice_from (S : ByteArray) (h : 17 ≤ S.size) (w : World) : (Instr.slice 9 (.string S) (some (.int .i64 17)) none none).run Tryd.prog w = .ok (.string (S.extract 17 S.size)) w := by
  rw [run_slice_string_from_if w 9 S .i64 17 Tryd.underlying9, if_pos ⟨by omega, by omega⟩]
  rfl
theorem slice_to (S : ByteArray) (h : 3 ≤ S.size) (w : World) : (Instr.slice 9 (.string S) none (some (.int .i64 3)) none).run Tryd.prog w = .ok (.string (S.extract 0 3)) w := by
  rw [run_slice_string_to_if w 9 S .i64 3 Tryd.underlying9, if_pos ⟨by omega, by omega⟩]
  rfl

set_option maxHeartbeats 2000000 in
theorem round_walk (sec at_ by_ : Int) (text : ByteArray) (w : World) (hT : Tab w) (a0 : -9223372036854775808 ≤ sec) (a1 : sec ≤ 9223372036854775807) (b0 : -9223372036854775808 ≤ at_) (b1 : at_ ≤ 9223372036854775807)
    (d0 : -9223372036854775808 ≤ by_) (d1 : by_ ≤ 9223372036854775807) :
    Calls Tryd.prog 5 #[.int .i64 sec, .int .i64 at_, .int .i64 by_, .string text] w fun e w' => e = .returned (.bool true) ∧ Below w.heap.size w w' := by
  have hp := pk_bd sec 253402214400 (by omega)
  have HPK := fun w => pick_any sec 253402214400 w a0 a1 (by omega) (by omega)
  generalize pk sec 253402214400 = n at hp HPK
  obtain ⟨S, hS⟩ := stamp_ex n hp.1 (by omega) w hT
  obtain ⟨T, hTt⟩ := stamp_ex (n + 86400) (by omega) (by omega) w hT
  obtain ⟨l1, l2, h17, h3⟩ := next_day hp.1 (by omega) hS hTt
  rw [← Lib.size_eq] at l1 l2
  have z1 : S.size ≤ 29 := by omega
  have z2 : 29 ≤ S.size := by omega
  have z3 : T.size ≤ 29 := by omega
  have z4 : 29 ≤ T.size := by omega
  have k17 : ((S.extract 17 S.size).toList != (T.extract 17 T.size).toList) = false := by
    rw [Lib.extract_toList, Lib.extract_toList, List.take_of_length_le (by simp), List.take_of_length_le (by simp), h17]
    simp
  have k18 : ((S.extract 17 S.size).toList == (T.extract 17 T.size).toList) = true := by
    rw [Lib.extract_toList, Lib.extract_toList, List.take_of_length_le (by simp), List.take_of_length_le (by simp), h17]
    simp
  have k3 : ((S.extract 0 3).toList == (T.extract 0 3).toList) = false := by
    rw [Lib.extract_toList, Lib.extract_toList]
    simpa using h3
  have H1 : Hid _ := HPK
  have H2 : Hid _ := fun w hT => stamp_of S n hp.1 (by omega) hS w hT
  have H3 : Hid _ := fun w hT => stamp_of T (n + 86400) (by omega) (by omega) hTt w hT
  have H4 : Hid _ := fun w => date_of S n hp.1 (by omega) hS w
  have H5 : Hid _ := fun w => date_of T (n + 86400) (by omega) (by omega) hTt w
  have L1 : Hid _ := l1
  clear HPK hS hTt h17 h3 l1 l2
  go_enter Tryd.func5, Tryd.ntmps5
  go_wp2_with fail
  refine Calls.mono (H1.out _) ?_
  rintro e w1 ⟨rfl, rfl⟩
  go_wp2_with fail
  refine Calls.mono (H2.out _ hT) ?_
  rintro e w2 ⟨rfl, hb2⟩
  go_wp2_with fail
  refine Calls.mono (H3.out _ (hT.below hb2)) ?_
  rintro e w3 ⟨rfl, hb3⟩
  have hB3 := hb2.trans (hb3.mono hb2.size)
  clear hb2 hb3
  go_wp2_with fail
  refine Calls.mono (H4.out _) ?_
  rintro e w4 ⟨rfl, q4, hq4⟩
  have hB4 : Below w1.heap.size w1 w4 := by rw [hq4]; exact below_drewN hB3 q4
  clear hq4 hB3
  go_wp2_with fail
  refine Calls.mono (H5.out _) ?_
  rintro e w5 ⟨rfl, q5, hq5⟩
  have hB5 : Below w1.heap.size w1 w5 := by rw [hq5]; exact below_drewN hB4 q5
  clear hq5 hB4 H1 H2 H3 H4 H5
  have hp0 := hp.1
  have hp1 := hp.2
  have k1 : IntKind.i64.wrap (n + 86400) = n + 86400 := by rw [IntKind.wrap_i64]; omega
  have sl1 := slice_from S (by omega)
  have sl2 := slice_from T (by omega)
  have sl3 := slice_to S (by omega)
  have sl4 := slice_to T (by omega)
  have k29 : ((S.size : Int) != 29) = false := by simp; omega
  have k30 : ((T.size : Int) != 29) = false := by simp; omega
  go_wp2
  go_quiet (fail)
  obtain ⟨w6, hw6⟩ : ∃ w6, w6 = w5.drewN nq := ⟨_, rfl⟩
  rw [← hw6]
  have hB6 : Below w1.heap.size w1 w6 := by rw [hw6]; exact below_drewN hB5 nq
  clear hw6 hB5 k17 k18 k3 k1 k29 k30 sl1 sl2 sl3 sl4
  obtain ⟨W7, hW7⟩ : ∃ W7, W7 = Lib.bytesWorld w6 5 S := ⟨_, rfl⟩
  obtain ⟨cp, hcp⟩ : ∃ cp, cp = grownCap w6 S.size 0 5 := ⟨_, rfl⟩
  have hcv := Lib.run_convert_string_bytes (P := Tryd.prog) w6 9 37 5 S Tryd.underlying9 Tryd.underlying37 Tryd.underlying5
  rw [← hW7, ← hcp] at hcv
  have rw7 : Row w6 W7 w6.heap.size S := by rw [hW7]; exact row_made w6 S
  clear hW7 hcp
  have hpi := pk_bd at_ S.size (by omega)
  have h6 := fun w => pick_any at_ S.size w b0 b1 (by omega) (by omega)
  obtain ⟨i, hi⟩ : ∃ i : Nat, pk at_ S.size = (i : Int) := ⟨(pk at_ S.size).toNat, by omega⟩
  rw [hi] at hpi h6
  have hi1 : i < S.size := by omega
  have H6 : Hid _ := h6
  have hpb := pk_bd by_ 255 (by omega)
  have h7 := fun w => pick_any by_ 255 w d0 d1 (by omega) (by omega)
  generalize pk by_ 255 = B at hpb h7
  have H7 : Hid _ := h7
  have hB0 := hpb.1
  have hB1 := hpb.2
  obtain ⟨cv, ci⟩ : ∃ cv : Int, W7.cell? ⟨w6.heap.size, i, none⟩ = some (.int .u8 cv) := ⟨_, rw7.c i hi1⟩
  have fi := rw7.f i hi1
  clear hi h6 h7 hpi hpb
  go_wp2_with fail
  refine Calls.mono (H6.out _) ?_
  rintro e w8 ⟨rfl, rfl⟩
  go_wp2
  go_region_with (first | (go_at_call 16; refine Calls.mono (H7.out _) ?_; rintro e w' ⟨rfl, rfl⟩))
  all_goals
    obtain ⟨u, hu⟩ := byte_of cv (IntKind.u8.wrap (IntKind.i64.wrap (1 + B)))
    rw [hu]
    obtain ⟨w9, hw9⟩ : ∃ w9, w9 = (w8.setCell ⟨w6.heap.size, i, none⟩ (.int .u8 (u.toNat : Int))).drew := ⟨_, rfl⟩
    rw [← hw9]
    have rw9 : Row w6 w9 w6.heap.size ⟨(S.data.toList.set i u).toArray⟩ := by rw [hw9]; exact rw7.set u hi1
    have hB9 : Below w1.heap.size w1 w9 := hB6.trans (rw9.b.mono hB6.size)
    obtain ⟨S2, hS2⟩ : ∃ S2 : ByteArray, S2 = ⟨(S.data.toList.set i u).toArray⟩ := ⟨_, rfl⟩
    rw [← hS2] at rw9
    have hz2 : S2.size = S.size := by rw [hS2, Lib.size_eq, Lib.size_eq]; simp
    clear hw9 hS2 hu ci fi rw7 H6 H7 hcv
    obtain ⟨P, sm, hd2, hc2⟩ := date_fn S2
    obtain ⟨Q, an, hd3, hc3⟩ := date_fn text
    have hbk := rw9.back (cp := cp) hz2
    have H8 : Hid _ := hd2
    have H9 : Hid _ := hc2
    have H10 : Hid _ := hd3
    have H11 : Hid _ := hc3
    clear hd2 hc2 hd3 hc3
    go_wp2_with fail
    refine Calls.mono (H8.out _) ?_
    rintro e w10 ⟨rfl, q10, hq10⟩
    have hb10 : Below w9.heap.size w9 w10 := by rw [hq10]; exact below_drewN (Below.refl _ _) q10
    have rw10 := rw9.below hb10
    have hB10 := hB9.trans (hb10.mono hB9.size)
    clear hq10 hb10 rw9 hB9 hbk
    cases sm with
    | false =>
      go_wp2
      go_quiet (fail)
      obtain ⟨w11, hw11⟩ : ∃ w11, w11 = w10.drewN nq := ⟨_, rfl⟩
      rw [← hw11]
      have hB11 : Below w1.heap.size w1 w11 := by rw [hw11]; exact below_drewN hB10 nq
      clear hw11 hB10
      go_wp2_with fail
      refine Calls.mono (H10.out _) ?_
      rintro e w12 ⟨rfl, q12, hq12⟩
      have hB12 : Below w1.heap.size w1 w12 := by rw [hq12]; exact below_drewN hB11 q12
      clear hq12 hB11
      cases an with
      | false =>
        go_wp2
        go_ret
        exact ⟨rfl, hB12⟩
      | true =>
        obtain ⟨t0, t1, ht⟩ := H11.out rfl
        have HT : Hid _ := ht
        clear ht
        go_wp2_with fail
        refine (stamp_of text Q t0 t1 HT.out _ (hT.below hB12)).mono ?_
        rintro e w13 ⟨rfl, hb13⟩
        have hB13 := hB12.trans (hb13.mono hB12.size)
        clear hb13 hB12
        go_wp2
        go_ret
        exact ⟨ret_bool (by simp), hB13⟩
    | true =>
      obtain ⟨p0, p1, hpp⟩ := H9.out rfl
      have hcl := fun (d : Nat) (os : Array Obj) => Calls.regrown_of (stamp_of S2 P p0 p1 hpp (Sort.grow (redrawn w10 d) os) ((hT.below hB10).below (below_regrown w10 d os)))
      have hbk := fun (d : Nat) (os : Array Obj) => (rw10.below (below_regrown w10 d os)).back (cp := cp) hz2
      have HCL : Hid _ := hcl
      have ks : (S2.toList != S2.toList) = false := by simp
      have ks' : (S2.toList == S2.toList) = true := by simp
      clear hcl hpp
      go_wp2
      refine wp_region_quiet_below (by kernel_rfl) (by kernel_rfl) ?_
      repeat (first | go_big_quiet_step ((go_at_call 9; exact HCL.out _ _)) | quiet_step ((go_at_call 9; exact HCL.out _ _)))
      refine wpQuiet_nil ?_
      intro w11 hw'
      have hB11 : Below w1.heap.size w1 w11 := by
        obtain ⟨⟨dq, osq⟩, hw''⟩ := hw'
        rw [hw'']
        exact hB10.trans ((below_regrown w10 dq osq).mono hB10.size)
      clear hw' HCL hbk hB10 ks ks'
      go_wp2_with fail
      refine Calls.mono (H10.out _) ?_
      rintro e w12 ⟨rfl, q12, hq12⟩
      have hB12 : Below w1.heap.size w1 w12 := by rw [hq12]; exact below_drewN hB11 q12
      clear hq12 hB11
      cases an with
      | false =>
        go_wp2
        go_ret
        exact ⟨rfl, hB12⟩
      | true =>
        obtain ⟨t0, t1, ht⟩ := H11.out rfl
        have HT : Hid _ := ht
        clear ht
        go_wp2_with fail
        refine (stamp_of text Q t0 t1 HT.out _ (hT.below hB12)).mono ?_
        rintro e w13 ⟨rfl, hb13⟩
        have hB13 := hB12.trans (hb13.mono hB12.size)
        clear hb13 hB12
        go_wp2
        go_ret
        exact ⟨ret_bool (by simp), hB13⟩
end Go.Proofs.YtmehkneofinmiaaDoor

/-
  Texts of this proof, part 40.
-/
import Derived.Test.YtmehkneofinmiabGreatDoorP39
import Derived.Test.YtmehkneofinmiabGreatDoorP01
import Derived.Test.YtmehkneofinmiabGreatDoorP11
import Derived.Deep.Slices
import Derived.ChangeArms
import Derived.OpenShut
import Derived.ProofKit
import Derived.Deep.RegionHeld3
namespace Go.Proofs.YtmehkneofinmiabGreatDoor
open Go.ChangeShapes Go.WideShapes Go.ChangeAt Go.RowKit

theorem cells84 : Tryz.prog.cellsOf 58 = 4 := by kernel_rfl
theorem cells3 : Tryz.prog.cellsOf 3 = 1 := by kernel_rfl
set_option maxRecDepth 100000 in
theorem open_steps {H : Type} {enc : TypeId × Value → H} {W : World} {r : Reach} {b0 : Nat} {v : Value} {d : DataW H} {p : List MemPlace} (hv : Value.okWide Tryz.prog W r b0 38 v) (h : DataW.Trod enc Tryz.prog W 0 (fun _ => true) true 38 v d p) : ∃ l, StpAt W v l := by
  obtain ⟨o, N, cap, rfl⟩ : ∃ o N cap, v = .slice o N cap := okWide_slice Tryz.underlying38 hv
  obtain ⟨fuel, hf⟩ := h
  rcases Deep.open_slice Tryz.underlying38 hf with ⟨e, hx⟩ | ⟨a, len, cp, m, n, D, Pl, e, _, hl, hml, hm, hx, hc⟩
  · simp [Value.cells] at e
    obtain ⟨rfl, rfl, rfl⟩ := e
    exact ⟨[], ⟨none, 0, rfl, fun h => absurd h (by simp)⟩, by simp, by simp⟩
  · simp [Value.cells] at e hm
    obtain ⟨rfl, rfl, rfl⟩ := e
    subst hm
    have each : ∀ i, i < m → ∃ q : Int × Int × Int × Int, (W.cell? (a.add (i * 4)) = some (.int .i64 q.1) ∧ W.cell? (a.add (i * 4 + 1)) = some (.int .i64 q.2.1) ∧ W.cell? (a.add (i * 4 + 2)) = some (.int .i64 q.2.2.1) ∧ W.cell? (a.add (i * 4 + 3)) = some (.int .i64 q.2.2.2)) ∧ I64 q.1 ∧ I64 q.2.1 ∧ I64 q.2.2.1 ∧ I64 q.2.2.2 := by
      intro i hi
      obtain ⟨cs', h1, h2⟩ := hc i hi
      rw [cells84] at h1
      obtain ⟨_, hlen, hcell⟩ := World.cells?_some h1
      obtain ⟨xs, k, hk, hxy, _, hxl, hf⟩ := DataW.trod_struct Tryz.underlying58 h2
      have e0 := hcell 0 (by omega)
      have e1 := hcell 1 (by omega)
      have e2 := hcell 2 (by omega)
      have e3 := hcell 3 (by omega)
      rw [Deep.add_add] at e0 e1 e2 e3
      match xs, hxl, cs', hlen with
      | [y0, y1, y2, y3], _, [v0, v1, v2, v3], _ =>
        have g0 := hf 0 _ rfl
        have g1 := hf 1 _ rfl
        have g2 := hf 2 _ rfl
        have g3 := hf 3 _ rfl
        simp [cells3] at g0 g1 g2 g3
        obtain ⟨n0, q0, _, w0⟩ := DataW.trod_int Tryz.underlying3 g0
        obtain ⟨n1, q1, _, w1⟩ := DataW.trod_int Tryz.underlying3 g1
        obtain ⟨n2, q2, _, w2⟩ := DataW.trod_int Tryz.underlying3 g2
        obtain ⟨n3, q3, _, w3⟩ := DataW.trod_int Tryz.underlying3 g3
        simp only [List.cons.injEq, and_true] at q0 q1 q2 q3
        subst q0 q1 q2 q3
        exact ⟨(n0, n1, n2, n3), ⟨by simpa using e0, by simpa using e1, by simpa using e2, by simpa using e3⟩, bounds_i64 w0, bounds_i64 w1, bounds_i64 w2, bounds_i64 w3⟩
    obtain ⟨q, hq⟩ := Deep.choose_lt each
    refine ⟨(List.range N).map fun i => ⟨(q i).1, (q i).2.1, (q i).2.2.1, (q i).2.2.2⟩, ⟨some a, m, by simp, fun h0 => ?_⟩, fun x hx => ?_, ?_⟩
    · have h0' : 0 < N := by simpa using h0
      obtain ⟨b, off, spot⟩ := a
      have hspot : spot = none := by simpa [Addr.add] using World.cell?_spot (hq 0 (by omega)).1.1
      subst hspot
      have hlt : b < W.heap.size := by
        have := (hq 0 (by omega)).1.1
        rw [add_plain] at this
        exact cell_lt this
      refine ⟨b, off, rfl, hlt, fun j x hx => ?_⟩
      have hjN : j < N := by
        have := (List.getElem?_eq_some_iff.1 hx).1
        simpa using this
      rw [List.getElem?_map, List.getElem?_range hjN] at hx
      cases hx
      have := (hq j (by omega)).1
      simp only [add_plain] at this
      exact this
    · obtain ⟨i, hi, rfl⟩ := List.mem_map.1 hx
      exact (hq i (by have := List.mem_range.1 hi; omega)).2
    · simp
      unfold maxLen at hml
      omega
end Go.Proofs.YtmehkneofinmiabGreatDoor

namespace Go.Proofs.YtmehkneofinmiabGreatDoor
open Go.RowKit

theorem addB (a b : List UInt8) (h : a.length + b.length ≤ 100000000000) : ∀ w : World, (Op.stringOp .add ⟨a.toArray⟩ ⟨b.toArray⟩).run Tryz.prog w = .ok (.string ⟨(a ++ b).toArray⟩) w := by
  intro w
  have := run_string_add_sum (P := Tryz.prog) w ⟨a.toArray⟩ ⟨b.toArray⟩ (by simp [ByteArray.size]; omega)
  rw [mk_app] at this
  exact this
/-- what a store gives: I holds of the memory; D R T: the request R is answered T, and nothing changes -/
structure Dsk (B s : Nat) (I : World → Prop) (D : List UInt8 → List UInt8 → Prop) (t : Nat) (lg : List UInt8) (KK : Nat → List UInt8) : Prop where
  bel : ∀ y z, I y → Below y.heap.size y z → I z
  asks : ∀ R T, D R T → ∀ y, I y → Calls Tryz.prog 11 #[.pointer (some ⟨s, 0, none⟩), .string ⟨R.toArray⟩] y fun e w' => e = .returned (.string ⟨T.toArray⟩) ∧ I w' ∧ Off (fun k => B ≤ k) y w'
  clk : ∀ y, I y → Calls Tryz.prog 25 #[.pointer (some ⟨s, 0, none⟩)] y fun e w' => e = .returned (.int .i64 t) ∧ w' = y
  log : ∀ y, I y → Calls Tryz.prog 22 #[.pointer (some ⟨s, 0, none⟩)] y fun e w' => e = .returned (.string ⟨lg.toArray⟩) ∧ I w' ∧ Off (fun k => B ≤ k) y w'
  itoa : ∀ y, I y → Calls Tryz.prog 13 #[.int .i64 t] y fun e w' => e = .returned (.string ⟨(Lib.decDigits t).toArray⟩) ∧ Below y.heap.size y w'
  nm : ∀ i : Nat, i < 5 → ∀ y : World, Calls Tryz.prog 28 #[.int .i64 i] y fun e w' => e = .returned (.string ⟨(KK i).toArray⟩) ∧ Below y.heap.size y w'
  kl : ∀ i, i < 5 → (KK i).length ≤ 40
theorem Dsk.drw {B s : Nat} {I : World → Prop} {D : List UInt8 → List UInt8 → Prop} {t : Nat} {lg : List UInt8} {KK : Nat → List UInt8} (h : Dsk B s I D t lg KK) {y : World} (hy : I y) : I y.drew := h.bel _ _ hy (Below.refl _ _).drew
def dmpF (T0 : List UInt8) (TA TH : Nat → List UInt8) : Nat → List UInt8
  | 0 => T0
  | k + 1 => dmpF T0 TA TH k ++ TA k ++ TH k
theorem dmpF_len {T0 : List UInt8} {TA TH : Nat → List UInt8} (h0 : T0.length ≤ 1000000000) (ha : ∀ i, i < 5 → (TA i).length ≤ 1000000000) (hh : ∀ i, i < 5 → (TH i).length ≤ 1000000000) (k : Nat) (hk : k ≤ 5) : (dmpF T0 TA TH k).length ≤ 1000000000 + k * 2000000000 := by
  induction k with
  | zero => simpa [dmpF] using h0
  | succ k ih =>
    have := ih (by omega)
    have := ha k (by omega)
    have := hh k (by omega)
    simp only [dmpF, List.length_append]
    omega
def versQ : List UInt8 := [63, 118, 101, 114, 115, 105, 111, 110, 115]
set_option maxRecDepth 100000 in
set_option maxHeartbeats 16000000 in
theorem dump_walk {B s : Nat} {I : World → Prop} {D : List UInt8 → List UInt8 → Prop} {t : Nat} {lg : List UInt8} {KK : Nat → List UInt8} (hs : Dsk B s I D t lg KK) (T0 : List UInt8) (TA TH : Nat → List UInt8) (w : World) (hw : I w)
    (d0 : D (reqB [71, 69, 84] [47] [] []) T0) (da : ∀ i, i < 5 → D (reqB [71, 69, 84] (47 :: KK i) [] []) (TA i)) (dh : ∀ i, i < 5 → D (reqB [71, 69, 84] (47 :: KK i ++ versQ) [] []) (TH i))
    (h0 : T0.length ≤ 1000000000) (ha : ∀ i, i < 5 → (TA i).length ≤ 1000000000) (hh : ∀ i, i < 5 → (TH i).length ≤ 1000000000) (hl : lg.length ≤ 1000000000) (ht : (Lib.decDigits t).length ≤ 20) :
    Calls Tryz.prog 20 #[.pointer (some ⟨s, 0, none⟩)] w fun e w' => e = .returned (.string ⟨(dmpF T0 TA TH 5 ++ lg ++ Lib.decDigits t).toArray⟩) ∧ I w' ∧ Off (fun k => B ≤ k) w w' := by
  have HS : Hid _ := hs
  have HI0 : Hid _ := hw
  have HD0 : Hid _ := d0
  have HDA : Hid _ := da
  have HDH : Hid _ := dh
  have HL : Hid _ := dmpF_len h0 ha hh
  have HLA : Hid _ := ha
  have HLH : Hid _ := hh
  clear hs hw d0 da dh h0 ha hh
  have HQ1 : Hid (∀ y, Calls Tryz.prog 12 #[.string ⟨#[71, 69, 84]⟩, .string ⟨#[47]⟩, .string ⟨#[]⟩, .string ⟨#[]⟩] y fun e w' => e = .returned (.string ⟨(reqB [71, 69, 84] [47] [] []).toArray⟩) ∧ w' = y) :=
    fun y => request_any [71, 69, 84] [47] [] [] y (by decide) (by decide) (by decide) (by decide)
  obtain ⟨R0, hR0⟩ : ∃ R, reqB [71, 69, 84] [47] [] [] = R := ⟨_, rfl⟩
  rw [hR0] at HD0 HQ1
  clear hR0
  go_enter Tryz.func20, Tryz.ntmps20
  go_wp2_with (first
    | (go_at_call 12; refine Calls.mono (HQ1.out _) ?_; rintro e w2 ⟨rfl, hw2⟩; rw [hw2]; clear hw2)
    | (go_at_call 11; refine Calls.mono (HS.out.asks _ _ HD0.out _ HI0.out) ?_; rintro e w3 ⟨rfl, i3, o3⟩))
  have HI3 : Hid (I w3) := i3
  have HO3 : Hid _ := o3
  clear i3 o3 HD0 HQ1 HI0
  go_loopw [3, 4, 5, 6] (fun ou iv _ _ wr => ∃ i : Nat, i ≤ 5 ∧ iv = .int .i64 i ∧ ou = .string ⟨(dmpF T0 TA TH i).toArray⟩ ∧ I wr ∧ Off (fun k => B ≤ k) w wr) (fun _ iv _ _ _ => 5 - (intOf iv).toNat)
  case atStart => exact ⟨0, by omega, rfl, rfl, HI3.out, HO3.out⟩
  case round =>
    obtain ⟨i, hi, rfl, rfl, hIr, hOr⟩ := hrel
    have HIR : Hid _ := hIr
    have HOR : Hid _ := hOr
    clear hIr hOr
    have hdl := HL.out i hi
    by_cases hi5 : i < 5
    · have hiI : (i : Int) < 5 := by omega
      have hkl := HS.out.kl i hi5
      have hda := HDA.out i hi5
      have hdh := HDH.out i hi5
      have hla := HLA.out i hi5
      have hlh := HLH.out i hi5
      have HNM : Hid _ := HS.out.nm i hi5
      have HST : Hid (dmpF T0 TA TH (i + 1) = dmpF T0 TA TH i ++ TA i ++ TH i) := rfl
      obtain ⟨K, hK⟩ : ∃ K, KK i = K := ⟨_, rfl⟩
      obtain ⟨A, hA⟩ : ∃ A, TA i = A := ⟨_, rfl⟩
      obtain ⟨H, hH⟩ : ∃ A, TH i = A := ⟨_, rfl⟩
      obtain ⟨O, hO⟩ : ∃ A, dmpF T0 TA TH i = A := ⟨_, rfl⟩
      rw [hK] at hkl hda hdh HNM
      rw [hA] at hda hla HST
      rw [hH] at hdh hlh HST
      rw [hO] at hdl HST ⊢
      have a1 : ∀ w : World, (Op.stringOp .add ⟨#[47]⟩ ⟨K.toArray⟩).run Tryz.prog w = .ok (.string ⟨(47 :: K).toArray⟩) w := addB [47] K (by simp; omega)
      have a2 : ∀ w : World, (Op.stringOp .add ⟨(47 :: K).toArray⟩ ⟨#[63, 118, 101, 114, 115, 105, 111, 110, 115]⟩).run Tryz.prog w = .ok (.string ⟨(47 :: K ++ versQ).toArray⟩) w := addB (47 :: K) versQ (by simp [versQ]; omega)
      have a3 : ∀ w : World, (Op.stringOp .add ⟨O.toArray⟩ ⟨A.toArray⟩).run Tryz.prog w = .ok (.string ⟨(O ++ A).toArray⟩) w := addB O A (by omega)
      have a4 : ∀ w : World, (Op.stringOp .add ⟨(O ++ A).toArray⟩ ⟨H.toArray⟩).run Tryz.prog w = .ok (.string ⟨(O ++ A ++ H).toArray⟩) w := addB (O ++ A) H (by rw [List.length_append]; omega)
      have HQ2 : Hid (∀ T, T = 47 :: K ∨ T = 47 :: K ++ versQ → ∀ y, Calls Tryz.prog 12 #[.string ⟨#[71, 69, 84]⟩, .string ⟨T.toArray⟩, .string ⟨#[]⟩, .string ⟨#[]⟩] y fun e w' => e = .returned (.string ⟨(reqB [71, 69, 84] T [] []).toArray⟩) ∧ w' = y) := by
        rintro T hT y
        have : T.length < 1000 := by rcases hT with rfl | rfl <;> simp [versQ] <;> omega
        exact request_any [71, 69, 84] T [] [] y (by decide) (by omega) (by decide) (by decide)
      obtain ⟨U2, hU2⟩ : ∃ x, 47 :: K ++ versQ = x := ⟨_, rfl⟩
      obtain ⟨U1, hU1⟩ : ∃ x, 47 :: K = x := ⟨_, rfl⟩
      rw [hU2] at a2 HQ2 hdh
      rw [hU1] at a1 a2 HQ2 hda
      obtain ⟨Z2, hZ2⟩ : ∃ x, O ++ A ++ H = x := ⟨_, rfl⟩
      obtain ⟨Z1, hZ1⟩ : ∃ x, O ++ A = x := ⟨_, rfl⟩
      rw [hZ2] at a4 HST
      rw [hZ1] at a3 a4
      have HDD : Hid (∀ T, T = U1 ∨ T = U2 → ∀ y, I y → ∃ Q, (T = U1 → Q = A) ∧ (T = U2 → U1 ≠ U2 → Q = H) ∧ D (reqB [71, 69, 84] T [] []) Q) := by
        rintro T hT y hy
        by_cases e : T = U1
        · exact ⟨A, fun _ => rfl, fun h1 h2 => absurd (e.symm.trans h1) h2, by rw [e]; exact hda⟩
        · exact ⟨H, fun h => absurd h e, fun _ _ => rfl, by rw [hT.resolve_left e]; exact hdh⟩
      clear HDD
      have HD1 : Hid _ := hda
      have HD2 : Hid _ := hdh
      clear hda hdh hK hA hH hO hU1 hU2 hZ1 hZ2 hdl
      obtain ⟨R1, hR1⟩ : ∃ R, reqB [71, 69, 84] U1 [] [] = R := ⟨_, rfl⟩
      obtain ⟨R2, hR2⟩ : ∃ R, reqB [71, 69, 84] U2 [] [] = R := ⟨_, rfl⟩
      have HQA : Hid (∀ y, Calls Tryz.prog 12 #[.string ⟨#[71, 69, 84]⟩, .string ⟨U1.toArray⟩, .string ⟨#[]⟩, .string ⟨#[]⟩] y fun e w' => e = .returned (.string ⟨R1.toArray⟩) ∧ w' = y) := by rw [← hR1]; exact HQ2.out U1 (Or.inl rfl)
      have HQB : Hid (∀ y, Calls Tryz.prog 12 #[.string ⟨#[71, 69, 84]⟩, .string ⟨U2.toArray⟩, .string ⟨#[]⟩, .string ⟨#[]⟩] y fun e w' => e = .returned (.string ⟨R2.toArray⟩) ∧ w' = y) := by rw [← hR2]; exact HQ2.out U2 (Or.inr rfl)
      rw [hR1] at HD1
      rw [hR2] at HD2
      clear hR1 hR2 HQ2
      go_wp2_with fail
      refine Calls.mono (HNM.out _) ?_
      rintro e w4 ⟨rfl, b4⟩
      have HI4 : Hid (I w4) := HS.out.bel _ _ HIR.out b4
      have HO4 : Hid (Off (fun k => B ≤ k) w w4) := HOR.out.trans (Off.of_below b4)
      clear b4
      go_wp2_with fail
      refine Calls.mono (HQA.out _) ?_
      rintro e w5 ⟨rfl, rfl⟩
      go_wp2_with fail
      refine Calls.mono (HS.out.asks _ _ HD1.out _ HI4.out) ?_
      rintro e w6 ⟨rfl, i6, o6⟩
      have HI6 : Hid (I w6) := i6
      have HO6 : Hid (Off (fun k => B ≤ k) w w6) := HO4.out.trans o6
      clear i6 o6 HI4 HO4
      go_wp2_with fail
      refine Calls.mono (HNM.out _) ?_
      rintro e w7 ⟨rfl, b7⟩
      have HI7 : Hid (I w7) := HS.out.bel _ _ HI6.out b7
      have HO7 : Hid (Off (fun k => B ≤ k) w w7) := HO6.out.trans (Off.of_below b7)
      clear b7
      go_wp2_with fail
      refine Calls.mono (HQB.out _) ?_
      rintro e w8 ⟨rfl, rfl⟩
      go_wp2_with fail
      refine Calls.mono (HS.out.asks _ _ HD2.out _ HI7.out) ?_
      rintro e w9 ⟨rfl, i9, o9⟩
      have HI9 : Hid (I w9) := i9
      have HO9 : Hid (Off (fun k => B ≤ k) w w9) := HO7.out.trans o9
      clear i9 o9 HI7 HO7
      go_wp2_with fail
      exact ⟨⟨i + 1, by omega, by go_num, by rw [HST.out], HI9.out, HO9.out⟩, by simp [intOf]; omega⟩
    · obtain rfl : i = 5 := by omega
      obtain ⟨O, hO⟩ : ∃ A, dmpF T0 TA TH 5 = A := ⟨_, rfl⟩
      obtain ⟨Dt, hDt⟩ : ∃ A, Lib.decDigits t = A := ⟨_, rfl⟩
      have HIT := HS.out.itoa
      rw [hDt] at HIT ht
      rw [hO] at hdl ⊢
      have a1 : ∀ w : World, (Op.stringOp .add ⟨O.toArray⟩ ⟨lg.toArray⟩).run Tryz.prog w = .ok (.string ⟨(O ++ lg).toArray⟩) w := addB O lg (by omega)
      have a2 : ∀ w : World, (Op.stringOp .add ⟨(O ++ lg).toArray⟩ ⟨Dt.toArray⟩).run Tryz.prog w = .ok (.string ⟨(O ++ lg ++ Dt).toArray⟩) w := addB (O ++ lg) Dt (by rw [List.length_append]; omega)
      obtain ⟨Z2, hZ2⟩ : ∃ x, O ++ lg ++ Dt = x := ⟨_, rfl⟩
      obtain ⟨Z1, hZ1⟩ : ∃ x, O ++ lg = x := ⟨_, rfl⟩
      rw [hZ2] at a2
      rw [hZ1] at a1 a2
      have HZ : Hid (dmpF T0 TA TH 5 ++ lg ++ Lib.decDigits t = Z2) := by show _ = _; rw [hO, hDt, hZ2]
      have HIT : Hid _ := HIT
      clear hO hDt hZ1 hZ2 hdl
      go_wp2_with fail
      refine Calls.mono (HS.out.clk _ HIR.out) ?_
      rintro e w4 ⟨rfl, rfl⟩
      go_wp2_with fail
      refine Calls.mono (HS.out.log _ HIR.out) ?_
      rintro e w6 ⟨rfl, i6, o6⟩
      have HI6 : Hid (I w6) := i6
      have HO6 : Hid (Off (fun k => B ≤ k) w w6) := HOR.out.trans o6
      clear i6 o6
      go_wp2_with fail
      refine Calls.mono (HIT.out _ HI6.out) ?_
      rintro e w7 ⟨rfl, b7⟩
      have HI7 : Hid (I w7) := HS.out.bel _ _ HI6.out b7
      have HO7 : Hid (Off (fun k => B ≤ k) w w7) := HO6.out.trans (Off.of_below b7)
      go_wp2
      go_ret
      exact ⟨by rw [HZ.out]; rfl, HI7.out, HO7.out⟩
end Go.Proofs.YtmehkneofinmiabGreatDoor

namespace Go.Proofs.YtmehkneofinmiabGreatDoor
open Go.RowKit

def CodeR (T : List UInt8) (n : Int) : Prop := ∀ y : World, Calls Tryz.prog 14 #[.string ⟨T.toArray⟩] y fun e w' => e = .returned (.int .i64 n) ∧ w' = y
def HeadR (T : List UInt8) (n : Nat) : Prop := ∀ y : World, Calls Tryz.prog 21 #[.string ⟨T.toArray⟩] y fun e w' => e = .returned (.int .i64 n) ∧ w' = y
def AskR (s B : Nat) (R T : List UInt8) (I I' : World → Prop) : Prop := ∀ y, I y → Calls Tryz.prog 11 #[.pointer (some ⟨s, 0, none⟩), .string ⟨R.toArray⟩] y fun e w' => e = .returned (.string ⟨T.toArray⟩) ∧ I' w' ∧ Off (fun k => B ≤ k) y w'
def DumpR (s B : Nat) (Z : List UInt8) (I : World → Prop) : Prop := ∀ y, I y → Calls Tryz.prog 20 #[.pointer (some ⟨s, 0, none⟩)] y fun e w' => e = .returned (.string ⟨Z.toArray⟩) ∧ I w' ∧ Off (fun k => B ≤ k) y w'
def badL : List UInt8 := [80, 85, 84, 32, 47, 97, 13, 10, 13, 13, 10, 120]
def nonL : List UInt8 := [73, 102, 45, 77, 97, 116, 99, 104, 58, 32, 120, 13, 10]
structure Rsk (B b s : Nat) (I I' : World → Prop) (any Z Z' TA TB TN TF : List UInt8) (c : Int) (n : Nat) : Prop where
  ca : CodeR TA c
  ch : HeadR TA n
  cb : CodeR TB 400
  cn : CodeR TN 400
  cf : CodeR TF 405
  bel : ∀ y z, I y → Below y.heap.size y z → I z
  bel' : ∀ y z, I' y → Below y.heap.size y z → I' z
  sz : ∀ y, I y → b < y.heap.size
  sz' : ∀ y, I' y → b < y.heap.size
  c0 : ∀ y, I y → y.cell? ⟨b, 0, none⟩ = some (.pointer (some ⟨s, 0, none⟩))
  c0' : ∀ y, I' y → y.cell? ⟨b, 0, none⟩ = some (.pointer (some ⟨s, 0, none⟩))
  dmp : DumpR s B Z I
  dmp' : DumpR s B Z' I'
  any : AskR s B any TA I I'
  bad : AskR s B badL TB I' I'
  non : AskR s B (reqB [71, 69, 84] [47, 97] nonL []) TN I' I'
  for1 : AskR s B (reqB [68, 69, 76, 69, 84, 69] [47] [] []) TF I' I'

set_option maxRecDepth 100000 in
set_option maxHeartbeats 16000000 in
theorem refused_core (x : Int) (v : Value) (any : List UInt8) (w : World) (Z Z' TA TB TN TF : List UInt8) (c : Int) (n : Nat)
    (hBF : ¬ TB = TF) (hNF : ¬ TN = TF)
    (h1 : n = 7 ∨ c = 200 ∨ c = 201 ∨ c = 204) (h2 : c = 200 ∨ c = 201 ∨ c = 204 ∨ Z = Z')
    (hP : Calls Tryz.prog 17 #[.int .i64 x, v] w fun e w' => ∃ (b s : Nat) (I I' : World → Prop), e = .returned (.pointer (some ⟨b, 0, none⟩)) ∧ Rsk w.heap.size b s I I' any Z Z' TA TB TN TF c n ∧ I w' ∧ Off (fun k => w.heap.size ≤ k) w w')
    (hv : ∃ a n m, v = .slice a n m) :
    Calls Tryz.prog 5 #[.int .i64 x, v, .string ⟨any.toArray⟩] w fun e w' => e = .returned (.bool true) ∧ Off (fun k => w.heap.size ≤ k) w w' := by
  obtain ⟨a0, n0, m0, rfl⟩ := hv
  have HPL : Hid _ := hP
  have H1 : Hid _ := h1
  have H2 : Hid _ := h2
  clear hP h1 h2
  go_enter Tryz.func5, Tryz.ntmps5
  go_wp2_with fail
  refine Calls.mono HPL.out ?_
  rintro e w1 ⟨b, s, I, I', rfl, hs, i1, o1⟩
  have HA : Hid (CodeR TA c) := hs.ca
  have HH : Hid (HeadR TA n) := hs.ch
  obtain ⟨cd, hcB, hcN, hcF⟩ : ∃ cd : List UInt8 → Int, cd TB = 400 ∧ cd TN = 400 ∧ cd TF = 405 :=
    ⟨fun T => if T = TF then 405 else 400, if_neg hBF, if_neg hNF, if_pos rfl⟩
  have HCD : Hid (∀ T, T = TB ∨ T = TN ∨ T = TF → ∀ y, Calls Tryz.prog 14 #[.string ⟨T.toArray⟩] y fun e w' => e = .returned (.int .i64 (cd T)) ∧ w' = y) := by
    rintro T (rfl | rfl | rfl) y
    · rw [hcB]; exact hs.cb y
    · rw [hcN]; exact hs.cn y
    · rw [hcF]; exact hs.cf y
  have HS : Hid _ := hs
  have HI1 : Hid _ := i1
  have HO1 : Hid _ := o1
  have lt1 := hs.sz _ i1
  have c1 := hs.c0 _ i1
  clear hs i1 o1 HPL hBF hNF
  -- BODY
  have HQ1 : Hid (∀ y, Calls Tryz.prog 12 #[.string ⟨#[71, 69, 84]⟩, .string ⟨#[47, 97]⟩, .string ⟨#[73, 102, 45, 77, 97, 116, 99, 104, 58, 32, 120, 13, 10]⟩, .string ⟨#[]⟩] y fun e w' => e = .returned (.string ⟨(reqB [71, 69, 84] [47, 97] nonL []).toArray⟩) ∧ w' = y) :=
    fun y => request_any [71, 69, 84] [47, 97] nonL [] y (by decide) (by decide) (by decide) (by decide)
  have HQ2 : Hid (∀ y, Calls Tryz.prog 12 #[.string ⟨#[68, 69, 76, 69, 84, 69]⟩, .string ⟨#[47]⟩, .string ⟨#[]⟩, .string ⟨#[]⟩] y fun e w' => e = .returned (.string ⟨(reqB [68, 69, 76, 69, 84, 69] [47] [] []).toArray⟩) ∧ w' = y) :=
    fun y => request_any [68, 69, 76, 69, 84, 69] [47] [] [] y (by decide) (by decide) (by decide) (by decide)
  go_wp2_with fail
  refine Calls.mono (HS.out.dmp _ HI1.out) ?_
  rintro e w2 ⟨rfl, i2, o2⟩
  have HI2 : Hid (I w2) := i2
  have HO2 : Hid (Off (fun k => w.heap.size ≤ k) w w2) := HO1.out.trans o2
  have lt2 := HS.out.sz _ i2
  have c2 := HS.out.c0 _ i2
  clear i2 o2 HI1 HO1 c1 lt1
  go_wp2_with fail
  refine Calls.mono (HS.out.any _ HI2.out) ?_
  rintro e w3 ⟨rfl, i3, o3⟩
  have HI3 : Hid (I' w3) := i3
  have HO3 : Hid (Off (fun k => w.heap.size ≤ k) w w3) := HO2.out.trans o3
  have lt3 := HS.out.sz' _ i3
  have c3 := HS.out.c0' _ i3
  clear i3 o3 HI2 HO2 c2 lt2
  go_wp2_with fail
  refine Calls.mono (HS.out.dmp' _ HI3.out) ?_
  rintro e w4 ⟨rfl, i4, o4⟩
  have HI4 : Hid (I' w4) := i4
  have HO4 : Hid (Off (fun k => w.heap.size ≤ k) w w4) := HO3.out.trans o4
  have lt4 := HS.out.sz' _ i4
  have c4 := HS.out.c0' _ i4
  clear i4 o4 HI3 HO3 c3 lt3
  go_wp2_with fail
  refine Calls.mono (HA.out _) ?_
  rintro e w5 ⟨rfl, rfl⟩
  go_wp2_with fail
  refine Calls.mono (HH.out _) ?_
  rintro e w5' ⟨rfl, rfl⟩
  obtain ⟨w5, hw5⟩ : ∃ x, x = w5' := ⟨_, rfl⟩
  rw [← hw5] at HI4 HO4 lt4 c4 ⊢
  clear hw5
  have HI5 : Hid _ := HI4.out
  have HO5 : Hid _ := HO4.out
  have lt5 := lt4
  have c5 := c4
  clear HI4 HO4 lt4 c4
  have hn0 : ¬ (n : Int) < 0 := by omega
  by_cases hc1 : c = 200
  · subst hc1
    by_cases hn : (n : Int) = 7
    · go_wp2_with fail
      refine Calls.mono (HS.out.bad _ HI5.out) ?_
      rintro e w6 ⟨rfl, i6, o6⟩
      have HI6 : Hid (I' w6) := i6
      have HO6 : Hid (Off (fun k => w.heap.size ≤ k) w w6) := HO5.out.trans o6
      have lt6 := HS.out.sz' _ i6
      have c6 := HS.out.c0' _ i6
      clear i6 o6 HI5 HO5 c5 lt5
      go_wp2_with fail
      go_region_held3 (fun y => y.cell? ⟨b, 0, none⟩ = some (.pointer (some ⟨s, 0, none⟩))) (first | assumption | go_keep) (first
        | (go_at_call 12
           refine Calls.mono (HQ1.out _) ?_
           rintro e w2 ⟨rfl, rfl⟩)
        | (go_at_call 11
           refine Calls.mono (HS.out.non _ (HS.out.bel' _ _ HI6.out (Below.refl _ _).drew)) ?_
           rintro e w7 ⟨rfl, i7, o7⟩
           have c7 := HS.out.c0' _ i7))
      have HI7 : Hid (I' w7) := i7
      have HO7 : Hid (Off (fun k => w.heap.size ≤ k) w w7) := (HO6.out.trans (Off.of_below (Below.refl _ _).drew)).trans o7
      have lt7 := HS.out.sz' _ i7
      clear i7 o7 HI6 HO6 c6 lt6
      go_wp2_with fail
      go_region_held3 (fun y => y.cell? ⟨b, 0, none⟩ = some (.pointer (some ⟨s, 0, none⟩))) (first | assumption | go_keep) (first
        | (go_at_call 12
           refine Calls.mono (HQ2.out _) ?_
           rintro e w2 ⟨rfl, rfl⟩)
        | (go_at_call 11
           refine Calls.mono (HS.out.for1 _ (HS.out.bel' _ _ HI7.out (Below.refl _ _).drew)) ?_
           rintro e w8 ⟨rfl, i8, o8⟩
           have c8 := HS.out.c0' _ i8))
      have HI8 : Hid (I' w8) := i8
      have HO8 : Hid (Off (fun k => w.heap.size ≤ k) w w8) := (HO7.out.trans (Off.of_below (Below.refl _ _).drew)).trans o8
      have lt8 := HS.out.sz' _ i8
      clear i8 o8 HI7 HO7 c7 lt7
      go_wp2_with fail
      refine Calls.mono (HS.out.dmp' _ HI8.out) ?_
      rintro e w9 ⟨rfl, i9, o9⟩
      have HO9 : Hid (Off (fun k => w.heap.size ≤ k) w w9) := HO8.out.trans o9
      clear i9 o9 HI8 HO8 c8 lt8
      go_wp2_with (go_at_call 14; refine Calls.mono (HCD.out _ (by first | exact Or.inl rfl | exact Or.inr (Or.inl rfl) | exact Or.inr (Or.inr rfl)) _) ?_; rintro e w2 ⟨rfl, rfl⟩; simp only [hcB, hcN, hcF])
      go_ret
      exact ⟨rfl, HO9.out⟩
    · go_wp2_with fail
      refine Calls.mono (HS.out.bad _ HI5.out) ?_
      rintro e w6 ⟨rfl, i6, o6⟩
      have HI6 : Hid (I' w6) := i6
      have HO6 : Hid (Off (fun k => w.heap.size ≤ k) w w6) := HO5.out.trans o6
      have lt6 := HS.out.sz' _ i6
      have c6 := HS.out.c0' _ i6
      clear i6 o6 HI5 HO5 c5 lt5
      go_wp2_with fail
      go_region_held3 (fun y => y.cell? ⟨b, 0, none⟩ = some (.pointer (some ⟨s, 0, none⟩))) (first | assumption | go_keep) (first
        | (go_at_call 12
           refine Calls.mono (HQ1.out _) ?_
           rintro e w2 ⟨rfl, rfl⟩)
        | (go_at_call 11
           refine Calls.mono (HS.out.non _ (HS.out.bel' _ _ HI6.out (Below.refl _ _).drew)) ?_
           rintro e w7 ⟨rfl, i7, o7⟩
           have c7 := HS.out.c0' _ i7))
      have HI7 : Hid (I' w7) := i7
      have HO7 : Hid (Off (fun k => w.heap.size ≤ k) w w7) := (HO6.out.trans (Off.of_below (Below.refl _ _).drew)).trans o7
      have lt7 := HS.out.sz' _ i7
      clear i7 o7 HI6 HO6 c6 lt6
      go_wp2_with fail
      go_region_held3 (fun y => y.cell? ⟨b, 0, none⟩ = some (.pointer (some ⟨s, 0, none⟩))) (first | assumption | go_keep) (first
        | (go_at_call 12
           refine Calls.mono (HQ2.out _) ?_
           rintro e w2 ⟨rfl, rfl⟩)
        | (go_at_call 11
           refine Calls.mono (HS.out.for1 _ (HS.out.bel' _ _ HI7.out (Below.refl _ _).drew)) ?_
           rintro e w8 ⟨rfl, i8, o8⟩
           have c8 := HS.out.c0' _ i8))
      have HI8 : Hid (I' w8) := i8
      have HO8 : Hid (Off (fun k => w.heap.size ≤ k) w w8) := (HO7.out.trans (Off.of_below (Below.refl _ _).drew)).trans o8
      have lt8 := HS.out.sz' _ i8
      clear i8 o8 HI7 HO7 c7 lt7
      go_wp2_with fail
      refine Calls.mono (HS.out.dmp' _ HI8.out) ?_
      rintro e w9 ⟨rfl, i9, o9⟩
      have HO9 : Hid (Off (fun k => w.heap.size ≤ k) w w9) := HO8.out.trans o9
      clear i9 o9 HI8 HO8 c8 lt8
      go_wp2_with (go_at_call 14; refine Calls.mono (HCD.out _ (by first | exact Or.inl rfl | exact Or.inr (Or.inl rfl) | exact Or.inr (Or.inr rfl)) _) ?_; rintro e w2 ⟨rfl, rfl⟩; simp only [hcB, hcN, hcF])
      go_ret
      exact ⟨rfl, HO9.out⟩
  · by_cases hc2 : c = 201
    · subst hc2
      by_cases hn : (n : Int) = 7
      · go_wp2_with fail
        refine Calls.mono (HS.out.bad _ HI5.out) ?_
        rintro e w6 ⟨rfl, i6, o6⟩
        have HI6 : Hid (I' w6) := i6
        have HO6 : Hid (Off (fun k => w.heap.size ≤ k) w w6) := HO5.out.trans o6
        have lt6 := HS.out.sz' _ i6
        have c6 := HS.out.c0' _ i6
        clear i6 o6 HI5 HO5 c5 lt5
        go_wp2_with fail
        go_region_held3 (fun y => y.cell? ⟨b, 0, none⟩ = some (.pointer (some ⟨s, 0, none⟩))) (first | assumption | go_keep) (first
          | (go_at_call 12
             refine Calls.mono (HQ1.out _) ?_
             rintro e w2 ⟨rfl, rfl⟩)
          | (go_at_call 11
             refine Calls.mono (HS.out.non _ (HS.out.bel' _ _ HI6.out (Below.refl _ _).drew)) ?_
             rintro e w7 ⟨rfl, i7, o7⟩
             have c7 := HS.out.c0' _ i7))
        have HI7 : Hid (I' w7) := i7
        have HO7 : Hid (Off (fun k => w.heap.size ≤ k) w w7) := (HO6.out.trans (Off.of_below (Below.refl _ _).drew)).trans o7
        have lt7 := HS.out.sz' _ i7
        clear i7 o7 HI6 HO6 c6 lt6
        go_wp2_with fail
        go_region_held3 (fun y => y.cell? ⟨b, 0, none⟩ = some (.pointer (some ⟨s, 0, none⟩))) (first | assumption | go_keep) (first
          | (go_at_call 12
             refine Calls.mono (HQ2.out _) ?_
             rintro e w2 ⟨rfl, rfl⟩)
          | (go_at_call 11
             refine Calls.mono (HS.out.for1 _ (HS.out.bel' _ _ HI7.out (Below.refl _ _).drew)) ?_
             rintro e w8 ⟨rfl, i8, o8⟩
             have c8 := HS.out.c0' _ i8))
        have HI8 : Hid (I' w8) := i8
        have HO8 : Hid (Off (fun k => w.heap.size ≤ k) w w8) := (HO7.out.trans (Off.of_below (Below.refl _ _).drew)).trans o8
        have lt8 := HS.out.sz' _ i8
        clear i8 o8 HI7 HO7 c7 lt7
        go_wp2_with fail
        refine Calls.mono (HS.out.dmp' _ HI8.out) ?_
        rintro e w9 ⟨rfl, i9, o9⟩
        have HO9 : Hid (Off (fun k => w.heap.size ≤ k) w w9) := HO8.out.trans o9
        clear i9 o9 HI8 HO8 c8 lt8
        go_wp2_with (go_at_call 14; refine Calls.mono (HCD.out _ (by first | exact Or.inl rfl | exact Or.inr (Or.inl rfl) | exact Or.inr (Or.inr rfl)) _) ?_; rintro e w2 ⟨rfl, rfl⟩; simp only [hcB, hcN, hcF])
        go_ret
        exact ⟨rfl, HO9.out⟩
      · go_wp2_with fail
        refine Calls.mono (HS.out.bad _ HI5.out) ?_
        rintro e w6 ⟨rfl, i6, o6⟩
        have HI6 : Hid (I' w6) := i6
        have HO6 : Hid (Off (fun k => w.heap.size ≤ k) w w6) := HO5.out.trans o6
        have lt6 := HS.out.sz' _ i6
        have c6 := HS.out.c0' _ i6
        clear i6 o6 HI5 HO5 c5 lt5
        go_wp2_with fail
        go_region_held3 (fun y => y.cell? ⟨b, 0, none⟩ = some (.pointer (some ⟨s, 0, none⟩))) (first | assumption | go_keep) (first
          | (go_at_call 12
             refine Calls.mono (HQ1.out _) ?_
             rintro e w2 ⟨rfl, rfl⟩)
          | (go_at_call 11
             refine Calls.mono (HS.out.non _ (HS.out.bel' _ _ HI6.out (Below.refl _ _).drew)) ?_
             rintro e w7 ⟨rfl, i7, o7⟩
             have c7 := HS.out.c0' _ i7))
        have HI7 : Hid (I' w7) := i7
        have HO7 : Hid (Off (fun k => w.heap.size ≤ k) w w7) := (HO6.out.trans (Off.of_below (Below.refl _ _).drew)).trans o7
        have lt7 := HS.out.sz' _ i7
        clear i7 o7 HI6 HO6 c6 lt6
        go_wp2_with fail
        go_region_held3 (fun y => y.cell? ⟨b, 0, none⟩ = some (.pointer (some ⟨s, 0, none⟩))) (first | assumption | go_keep) (first
          | (go_at_call 12
             refine Calls.mono (HQ2.out _) ?_
             rintro e w2 ⟨rfl, rfl⟩)
          | (go_at_call 11
             refine Calls.mono (HS.out.for1 _ (HS.out.bel' _ _ HI7.out (Below.refl _ _).drew)) ?_
             rintro e w8 ⟨rfl, i8, o8⟩
             have c8 := HS.out.c0' _ i8))
        have HI8 : Hid (I' w8) := i8
        have HO8 : Hid (Off (fun k => w.heap.size ≤ k) w w8) := (HO7.out.trans (Off.of_below (Below.refl _ _).drew)).trans o8
        have lt8 := HS.out.sz' _ i8
        clear i8 o8 HI7 HO7 c7 lt7
        go_wp2_with fail
        refine Calls.mono (HS.out.dmp' _ HI8.out) ?_
        rintro e w9 ⟨rfl, i9, o9⟩
        have HO9 : Hid (Off (fun k => w.heap.size ≤ k) w w9) := HO8.out.trans o9
        clear i9 o9 HI8 HO8 c8 lt8
        go_wp2_with (go_at_call 14; refine Calls.mono (HCD.out _ (by first | exact Or.inl rfl | exact Or.inr (Or.inl rfl) | exact Or.inr (Or.inr rfl)) _) ?_; rintro e w2 ⟨rfl, rfl⟩; simp only [hcB, hcN, hcF])
        go_ret
        exact ⟨rfl, HO9.out⟩
    · by_cases hc3 : c = 204
      · subst hc3
        by_cases hn : (n : Int) = 7
        · go_wp2_with fail
          refine Calls.mono (HS.out.bad _ HI5.out) ?_
          rintro e w6 ⟨rfl, i6, o6⟩
          have HI6 : Hid (I' w6) := i6
          have HO6 : Hid (Off (fun k => w.heap.size ≤ k) w w6) := HO5.out.trans o6
          have lt6 := HS.out.sz' _ i6
          have c6 := HS.out.c0' _ i6
          clear i6 o6 HI5 HO5 c5 lt5
          go_wp2_with fail
          go_region_held3 (fun y => y.cell? ⟨b, 0, none⟩ = some (.pointer (some ⟨s, 0, none⟩))) (first | assumption | go_keep) (first
            | (go_at_call 12
               refine Calls.mono (HQ1.out _) ?_
               rintro e w2 ⟨rfl, rfl⟩)
            | (go_at_call 11
               refine Calls.mono (HS.out.non _ (HS.out.bel' _ _ HI6.out (Below.refl _ _).drew)) ?_
               rintro e w7 ⟨rfl, i7, o7⟩
               have c7 := HS.out.c0' _ i7))
          have HI7 : Hid (I' w7) := i7
          have HO7 : Hid (Off (fun k => w.heap.size ≤ k) w w7) := (HO6.out.trans (Off.of_below (Below.refl _ _).drew)).trans o7
          have lt7 := HS.out.sz' _ i7
          clear i7 o7 HI6 HO6 c6 lt6
          go_wp2_with fail
          go_region_held3 (fun y => y.cell? ⟨b, 0, none⟩ = some (.pointer (some ⟨s, 0, none⟩))) (first | assumption | go_keep) (first
            | (go_at_call 12
               refine Calls.mono (HQ2.out _) ?_
               rintro e w2 ⟨rfl, rfl⟩)
            | (go_at_call 11
               refine Calls.mono (HS.out.for1 _ (HS.out.bel' _ _ HI7.out (Below.refl _ _).drew)) ?_
               rintro e w8 ⟨rfl, i8, o8⟩
               have c8 := HS.out.c0' _ i8))
          have HI8 : Hid (I' w8) := i8
          have HO8 : Hid (Off (fun k => w.heap.size ≤ k) w w8) := (HO7.out.trans (Off.of_below (Below.refl _ _).drew)).trans o8
          have lt8 := HS.out.sz' _ i8
          clear i8 o8 HI7 HO7 c7 lt7
          go_wp2_with fail
          refine Calls.mono (HS.out.dmp' _ HI8.out) ?_
          rintro e w9 ⟨rfl, i9, o9⟩
          have HO9 : Hid (Off (fun k => w.heap.size ≤ k) w w9) := HO8.out.trans o9
          clear i9 o9 HI8 HO8 c8 lt8
          go_wp2_with (go_at_call 14; refine Calls.mono (HCD.out _ (by first | exact Or.inl rfl | exact Or.inr (Or.inl rfl) | exact Or.inr (Or.inr rfl)) _) ?_; rintro e w2 ⟨rfl, rfl⟩; simp only [hcB, hcN, hcF])
          go_ret
          exact ⟨rfl, HO9.out⟩
        · go_wp2_with fail
          refine Calls.mono (HS.out.bad _ HI5.out) ?_
          rintro e w6 ⟨rfl, i6, o6⟩
          have HI6 : Hid (I' w6) := i6
          have HO6 : Hid (Off (fun k => w.heap.size ≤ k) w w6) := HO5.out.trans o6
          have lt6 := HS.out.sz' _ i6
          have c6 := HS.out.c0' _ i6
          clear i6 o6 HI5 HO5 c5 lt5
          go_wp2_with fail
          go_region_held3 (fun y => y.cell? ⟨b, 0, none⟩ = some (.pointer (some ⟨s, 0, none⟩))) (first | assumption | go_keep) (first
            | (go_at_call 12
               refine Calls.mono (HQ1.out _) ?_
               rintro e w2 ⟨rfl, rfl⟩)
            | (go_at_call 11
               refine Calls.mono (HS.out.non _ (HS.out.bel' _ _ HI6.out (Below.refl _ _).drew)) ?_
               rintro e w7 ⟨rfl, i7, o7⟩
               have c7 := HS.out.c0' _ i7))
          have HI7 : Hid (I' w7) := i7
          have HO7 : Hid (Off (fun k => w.heap.size ≤ k) w w7) := (HO6.out.trans (Off.of_below (Below.refl _ _).drew)).trans o7
          have lt7 := HS.out.sz' _ i7
          clear i7 o7 HI6 HO6 c6 lt6
          go_wp2_with fail
          go_region_held3 (fun y => y.cell? ⟨b, 0, none⟩ = some (.pointer (some ⟨s, 0, none⟩))) (first | assumption | go_keep) (first
            | (go_at_call 12
               refine Calls.mono (HQ2.out _) ?_
               rintro e w2 ⟨rfl, rfl⟩)
            | (go_at_call 11
               refine Calls.mono (HS.out.for1 _ (HS.out.bel' _ _ HI7.out (Below.refl _ _).drew)) ?_
               rintro e w8 ⟨rfl, i8, o8⟩
               have c8 := HS.out.c0' _ i8))
          have HI8 : Hid (I' w8) := i8
          have HO8 : Hid (Off (fun k => w.heap.size ≤ k) w w8) := (HO7.out.trans (Off.of_below (Below.refl _ _).drew)).trans o8
          have lt8 := HS.out.sz' _ i8
          clear i8 o8 HI7 HO7 c7 lt7
          go_wp2_with fail
          refine Calls.mono (HS.out.dmp' _ HI8.out) ?_
          rintro e w9 ⟨rfl, i9, o9⟩
          have HO9 : Hid (Off (fun k => w.heap.size ≤ k) w w9) := HO8.out.trans o9
          clear i9 o9 HI8 HO8 c8 lt8
          go_wp2_with (go_at_call 14; refine Calls.mono (HCD.out _ (by first | exact Or.inl rfl | exact Or.inr (Or.inl rfl) | exact Or.inr (Or.inr rfl)) _) ?_; rintro e w2 ⟨rfl, rfl⟩; simp only [hcB, hcN, hcF])
          go_ret
          exact ⟨rfl, HO9.out⟩
      · have hn : (n : Int) = 7 := by
          rcases H1.out with h | h | h | h
          · omega
          · exact absurd h hc1
          · exact absurd h hc2
          · exact absurd h hc3
        obtain rfl : Z = Z' := by
          rcases H2.out with h | h | h | h
          · exact absurd h hc1
          · exact absurd h hc2
          · exact absurd h hc3
          · exact h
        go_wp2_with fail
        refine Calls.mono (HS.out.bad _ HI5.out) ?_
        rintro e w6 ⟨rfl, i6, o6⟩
        have HI6 : Hid (I' w6) := i6
        have HO6 : Hid (Off (fun k => w.heap.size ≤ k) w w6) := HO5.out.trans o6
        have lt6 := HS.out.sz' _ i6
        have c6 := HS.out.c0' _ i6
        clear i6 o6 HI5 HO5 c5 lt5
        go_wp2_with fail
        go_region_held3 (fun y => y.cell? ⟨b, 0, none⟩ = some (.pointer (some ⟨s, 0, none⟩))) (first | assumption | go_keep) (first
          | (go_at_call 12
             refine Calls.mono (HQ1.out _) ?_
             rintro e w2 ⟨rfl, rfl⟩)
          | (go_at_call 11
             refine Calls.mono (HS.out.non _ (HS.out.bel' _ _ HI6.out (Below.refl _ _).drew)) ?_
             rintro e w7 ⟨rfl, i7, o7⟩
             have c7 := HS.out.c0' _ i7))
        have HI7 : Hid (I' w7) := i7
        have HO7 : Hid (Off (fun k => w.heap.size ≤ k) w w7) := (HO6.out.trans (Off.of_below (Below.refl _ _).drew)).trans o7
        have lt7 := HS.out.sz' _ i7
        clear i7 o7 HI6 HO6 c6 lt6
        go_wp2_with fail
        go_region_held3 (fun y => y.cell? ⟨b, 0, none⟩ = some (.pointer (some ⟨s, 0, none⟩))) (first | assumption | go_keep) (first
          | (go_at_call 12
             refine Calls.mono (HQ2.out _) ?_
             rintro e w2 ⟨rfl, rfl⟩)
          | (go_at_call 11
             refine Calls.mono (HS.out.for1 _ (HS.out.bel' _ _ HI7.out (Below.refl _ _).drew)) ?_
             rintro e w8 ⟨rfl, i8, o8⟩
             have c8 := HS.out.c0' _ i8))
        have HI8 : Hid (I' w8) := i8
        have HO8 : Hid (Off (fun k => w.heap.size ≤ k) w w8) := (HO7.out.trans (Off.of_below (Below.refl _ _).drew)).trans o8
        have lt8 := HS.out.sz' _ i8
        clear i8 o8 HI7 HO7 c7 lt7
        go_wp2_with fail
        refine Calls.mono (HS.out.dmp' _ HI8.out) ?_
        rintro e w9 ⟨rfl, i9, o9⟩
        have HO9 : Hid (Off (fun k => w.heap.size ≤ k) w w9) := HO8.out.trans o9
        clear i9 o9 HI8 HO8 c8 lt8
        go_wp2_with (go_at_call 14; refine Calls.mono (HCD.out _ (by first | exact Or.inl rfl | exact Or.inr (Or.inl rfl) | exact Or.inr (Or.inr rfl)) _) ?_; rintro e w2 ⟨rfl, rfl⟩; simp only [hcB, hcN, hcF])
        go_ret
        exact ⟨rfl, HO9.out⟩
end Go.Proofs.YtmehkneofinmiabGreatDoor

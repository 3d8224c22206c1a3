/-
  Texts of this proof, part 56.
-/
import Derived.Test.YtmehkneofinmiabGreatDoorP02
import Derived.Test.YtmehkneofinmiabGreatDoorP16
import Derived.Test.YtmehkneofinmiabGreatDoorP49
import Derived.Test.YtmehkneofinmiabGreatDoorP48
import Derived.Test.YtmehkneofinmiabGreatDoorP42
import Derived.Deep.RegionHeld3
namespace Go.Proofs.YtmehkneofinmiabGreatDoor
open Go.RowKit
theorem addB (a b : List UInt8) (h : a.length + b.length ≤ 1000000000000000) : ∀ w : World, (Op.stringOp .add ⟨a.toArray⟩ ⟨b.toArray⟩).run Tryz.prog w = .ok (.string ⟨(a ++ b).toArray⟩) w := by
  intro w
  have := run_string_add_sum (P := Tryz.prog) w ⟨a.toArray⟩ ⟨b.toArray⟩ (by simp [ByteArray.size]; omega)
  rw [mk_app] at this
  exact this
structure Dsk (B s : Nat) (I : World → Prop) (D : List UInt8 → List UInt8 → Prop) (t : Nat) (lg : List UInt8) (KK : Nat → List UInt8) : Prop where
  bel : ∀ y z, I y → Below y.heap.size y z → I z
  asks : ∀ R T, D R T → ∀ y, I y → Calls Tryz.prog 11 #[.pointer (some ⟨s, 0, none⟩), .string ⟨R.toArray⟩] y fun e w' => e = .returned (.string ⟨T.toArray⟩) ∧ I w' ∧ Off (fun k => B ≤ k) y w'
  clk : ∀ y, I y → Calls Tryz.prog 25 #[.pointer (some ⟨s, 0, none⟩)] y fun e w' => e = .returned (.int .i64 t) ∧ w' = y
  log : ∀ y, I y → Calls Tryz.prog 22 #[.pointer (some ⟨s, 0, none⟩)] y fun e w' => e = .returned (.string ⟨lg.toArray⟩) ∧ I w' ∧ Off (fun k => B ≤ k) y w'
  itoa : ∀ y, I y → Calls Tryz.prog 13 #[.int .i64 t] y fun e w' => e = .returned (.string ⟨(Lib.decDigits t).toArray⟩) ∧ Below y.heap.size y w'
  nm : ∀ i : Nat, i < 5 → ∀ y : World, Calls Tryz.prog 28 #[.int .i64 i] y fun e w' => e = .returned (.string ⟨(KK i).toArray⟩) ∧ Below y.heap.size y w'
  kl : ∀ i, i < 5 → (KK i).length ≤ 40
def dmpF (T0 : List UInt8) (TA TH : Nat → List UInt8) : Nat → List UInt8
  | 0 => T0
  | k + 1 => dmpF T0 TA TH k ++ TA k ++ TH k
theorem dmpF_len {T0 : List UInt8} {TA TH : Nat → List UInt8} (h0 : T0.length ≤ 1000000000) (ha : ∀ i, i < 5 → (TA i).length ≤ 1000000000) (hh : ∀ i, i < 5 → (TH i).length ≤ 1000000000) (k : Nat) (hk : k ≤ 5) : (dmpF T0 TA TH k).length ≤ 1000000000 + k * 2000000000 := by
  induction k with
  | zero => simpa [dmpF] using h0
  | succ k ih =>
    have := ih (by omega)
    have := ha k (by omega)
    have := hh k (by omega)
    simp only [dmpF, List.length_append]
    omega
def versQ : List UInt8 := [63, 118, 101, 114, 115, 105, 111, 110, 115]
set_option maxRecDepth 100000 in
set_option maxHeartbeats 16000000 in
theorem dump_walk {B s : Nat} {I : World → Prop} {D : List UInt8 → List UInt8 → Prop} {t : Nat} {lg : List UInt8} {KK : Nat → List UInt8} (hs : Dsk B s I D t lg KK) (T0 : List UInt8) (TA TH : Nat → List UInt8) (w : World) (hw : I w)
    (d0 : D (reqB [71, 69, 84] [47] [] []) T0) (da : ∀ i, i < 5 → D (reqB [71, 69, 84] (47 :: KK i) [] []) (TA i)) (dh : ∀ i, i < 5 → D (reqB [71, 69, 84] (47 :: KK i ++ versQ) [] []) (TH i))
    (h0 : T0.length ≤ 1000000000) (ha : ∀ i, i < 5 → (TA i).length ≤ 1000000000) (hh : ∀ i, i < 5 → (TH i).length ≤ 1000000000) (hl : lg.length ≤ 140000000000000) (ht : (Lib.decDigits t).length ≤ 20) :
    Calls Tryz.prog 20 #[.pointer (some ⟨s, 0, none⟩)] w fun e w' => e = .returned (.string ⟨(dmpF T0 TA TH 5 ++ lg ++ Lib.decDigits t).toArray⟩) ∧ I w' ∧ Off (fun k => B ≤ k) w w' := by
  have HS : Hid _ := hs
  have HI0 : Hid _ := hw
  have HD0 : Hid _ := d0
  have HDA : Hid _ := da
  have HDH : Hid _ := dh
  have HL : Hid _ := dmpF_len h0 ha hh
  have HLA : Hid _ := ha
  have HLH : Hid _ := hh
  clear hs hw d0 da dh h0 ha hh
  have HQ1 : Hid (∀ y, Calls Tryz.prog 12 #[.string ⟨#[71, 69, 84]⟩, .string ⟨#[47]⟩, .string ⟨#[]⟩, .string ⟨#[]⟩] y fun e w' => e = .returned (.string ⟨(reqB [71, 69, 84] [47] [] []).toArray⟩) ∧ w' = y) :=
    fun y => request_any [71, 69, 84] [47] [] [] y (by decide) (by decide) (by decide) (by decide)
  obtain ⟨R0, hR0⟩ : ∃ R, reqB [71, 69, 84] [47] [] [] = R := ⟨_, rfl⟩
  rw [hR0] at HD0 HQ1
  clear hR0
  go_enter Tryz.func20, Tryz.ntmps20
  go_wp2_with (first
    | (go_at_call 12; refine Calls.mono (HQ1.out _) ?_; rintro e w2 ⟨rfl, hw2⟩; rw [hw2]; clear hw2)
    | (go_at_call 11; refine Calls.mono (HS.out.asks _ _ HD0.out _ HI0.out) ?_; rintro e w3 ⟨rfl, i3, o3⟩))
  have HI3 : Hid (I w3) := i3
  have HO3 : Hid _ := o3
  clear i3 o3 HD0 HQ1 HI0
  go_loopw [3, 4, 5, 6] (fun ou iv _ _ wr => ∃ i : Nat, i ≤ 5 ∧ iv = .int .i64 i ∧ ou = .string ⟨(dmpF T0 TA TH i).toArray⟩ ∧ I wr ∧ Off (fun k => B ≤ k) w wr) (fun _ iv _ _ _ => 5 - (intOf iv).toNat)
  case atStart => exact ⟨0, by omega, rfl, rfl, HI3.out, HO3.out⟩
  case round =>
    obtain ⟨i, hi, rfl, rfl, hIr, hOr⟩ := hrel
    have HIR : Hid _ := hIr
    have HOR : Hid _ := hOr
    clear hIr hOr
    have hdl := HL.out i hi
    by_cases hi5 : i < 5
    · have hiI : (i : Int) < 5 := by omega
      have hkl := HS.out.kl i hi5
      have hda := HDA.out i hi5
      have hdh := HDH.out i hi5
      have hla := HLA.out i hi5
      have hlh := HLH.out i hi5
      have HNM : Hid _ := HS.out.nm i hi5
      have HST : Hid (dmpF T0 TA TH (i + 1) = dmpF T0 TA TH i ++ TA i ++ TH i) := rfl
      obtain ⟨K, hK⟩ : ∃ K, KK i = K := ⟨_, rfl⟩
      obtain ⟨A, hA⟩ : ∃ A, TA i = A := ⟨_, rfl⟩
      obtain ⟨H, hH⟩ : ∃ A, TH i = A := ⟨_, rfl⟩
      obtain ⟨O, hO⟩ : ∃ A, dmpF T0 TA TH i = A := ⟨_, rfl⟩
      rw [hK] at hkl hda hdh HNM
      rw [hA] at hda hla HST
      rw [hH] at hdh hlh HST
      rw [hO] at hdl HST ⊢
      have a1 : ∀ w : World, (Op.stringOp .add ⟨#[47]⟩ ⟨K.toArray⟩).run Tryz.prog w = .ok (.string ⟨(47 :: K).toArray⟩) w := addB [47] K (by simp; omega)
      have a2 : ∀ w : World, (Op.stringOp .add ⟨(47 :: K).toArray⟩ ⟨#[63, 118, 101, 114, 115, 105, 111, 110, 115]⟩).run Tryz.prog w = .ok (.string ⟨(47 :: K ++ versQ).toArray⟩) w := addB (47 :: K) versQ (by simp [versQ]; omega)
      have a3 : ∀ w : World, (Op.stringOp .add ⟨O.toArray⟩ ⟨A.toArray⟩).run Tryz.prog w = .ok (.string ⟨(O ++ A).toArray⟩) w := addB O A (by omega)
      have a4 : ∀ w : World, (Op.stringOp .add ⟨(O ++ A).toArray⟩ ⟨H.toArray⟩).run Tryz.prog w = .ok (.string ⟨(O ++ A ++ H).toArray⟩) w := addB (O ++ A) H (by rw [List.length_append]; omega)
      have HQ2 : Hid (∀ T, T = 47 :: K ∨ T = 47 :: K ++ versQ → ∀ y, Calls Tryz.prog 12 #[.string ⟨#[71, 69, 84]⟩, .string ⟨T.toArray⟩, .string ⟨#[]⟩, .string ⟨#[]⟩] y fun e w' => e = .returned (.string ⟨(reqB [71, 69, 84] T [] []).toArray⟩) ∧ w' = y) := by
        rintro T hT y
        have : T.length < 1000 := by rcases hT with rfl | rfl <;> simp [versQ] <;> omega
        exact request_any [71, 69, 84] T [] [] y (by decide) (by omega) (by decide) (by decide)
      obtain ⟨U2, hU2⟩ : ∃ x, 47 :: K ++ versQ = x := ⟨_, rfl⟩
      obtain ⟨U1, hU1⟩ : ∃ x, 47 :: K = x := ⟨_, rfl⟩
      rw [hU2] at a2 HQ2 hdh
      rw [hU1] at a1 a2 HQ2 hda
      obtain ⟨Z2, hZ2⟩ : ∃ x, O ++ A ++ H = x := ⟨_, rfl⟩
      obtain ⟨Z1, hZ1⟩ : ∃ x, O ++ A = x := ⟨_, rfl⟩
      rw [hZ2] at a4 HST
      rw [hZ1] at a3 a4
      have HDD : Hid (∀ T, T = U1 ∨ T = U2 → ∀ y, I y → ∃ Q, (T = U1 → Q = A) ∧ (T = U2 → U1 ≠ U2 → Q = H) ∧ D (reqB [71, 69, 84] T [] []) Q) := by
        rintro T hT y hy
        by_cases e : T = U1
        · exact ⟨A, fun _ => rfl, fun h1 h2 => absurd (e.symm.trans h1) h2, by rw [e]; exact hda⟩
        · exact ⟨H, fun h => absurd h e, fun _ _ => rfl, by rw [hT.resolve_left e]; exact hdh⟩
      clear HDD
      have HD1 : Hid _ := hda
      have HD2 : Hid _ := hdh
      clear hda hdh hK hA hH hO hU1 hU2 hZ1 hZ2 hdl
      obtain ⟨R1, hR1⟩ : ∃ R, reqB [71, 69, 84] U1 [] [] = R := ⟨_, rfl⟩
      obtain ⟨R2, hR2⟩ : ∃ R, reqB [71, 69, 84] U2 [] [] = R := ⟨_, rfl⟩
      have HQA : Hid (∀ y, Calls Tryz.prog 12 #[.string ⟨#[71, 69, 84]⟩, .string ⟨U1.toArray⟩, .string ⟨#[]⟩, .string ⟨#[]⟩] y fun e w' => e = .returned (.string ⟨R1.toArray⟩) ∧ w' = y) := by rw [← hR1]; exact HQ2.out U1 (Or.inl rfl)
      have HQB : Hid (∀ y, Calls Tryz.prog 12 #[.string ⟨#[71, 69, 84]⟩, .string ⟨U2.toArray⟩, .string ⟨#[]⟩, .string ⟨#[]⟩] y fun e w' => e = .returned (.string ⟨R2.toArray⟩) ∧ w' = y) := by rw [← hR2]; exact HQ2.out U2 (Or.inr rfl)
      rw [hR1] at HD1
      rw [hR2] at HD2
      clear hR1 hR2 HQ2
      go_wp2_with fail
      refine Calls.mono (HNM.out _) ?_
      rintro e w4 ⟨rfl, b4⟩
      have HI4 : Hid (I w4) := HS.out.bel _ _ HIR.out b4
      have HO4 : Hid (Off (fun k => B ≤ k) w w4) := HOR.out.trans (Off.of_below b4)
      clear b4
      go_wp2_with fail
      refine Calls.mono (HQA.out _) ?_
      rintro e w5 ⟨rfl, rfl⟩
      go_wp2_with fail
      refine Calls.mono (HS.out.asks _ _ HD1.out _ HI4.out) ?_
      rintro e w6 ⟨rfl, i6, o6⟩
      have HI6 : Hid (I w6) := i6
      have HO6 : Hid (Off (fun k => B ≤ k) w w6) := HO4.out.trans o6
      clear i6 o6 HI4 HO4
      go_wp2_with fail
      refine Calls.mono (HNM.out _) ?_
      rintro e w7 ⟨rfl, b7⟩
      have HI7 : Hid (I w7) := HS.out.bel _ _ HI6.out b7
      have HO7 : Hid (Off (fun k => B ≤ k) w w7) := HO6.out.trans (Off.of_below b7)
      clear b7
      go_wp2_with fail
      refine Calls.mono (HQB.out _) ?_
      rintro e w8 ⟨rfl, rfl⟩
      go_wp2_with fail
      refine Calls.mono (HS.out.asks _ _ HD2.out _ HI7.out) ?_
      rintro e w9 ⟨rfl, i9, o9⟩
      have HI9 : Hid (I w9) := i9
      have HO9 : Hid (Off (fun k => B ≤ k) w w9) := HO7.out.trans o9
      clear i9 o9 HI7 HO7
      go_wp2_with fail
      exact ⟨⟨i + 1, by omega, by go_num, by rw [HST.out], HI9.out, HO9.out⟩, by simp [intOf]; omega⟩
    · obtain rfl : i = 5 := by omega
      obtain ⟨O, hO⟩ : ∃ A, dmpF T0 TA TH 5 = A := ⟨_, rfl⟩
      obtain ⟨Dt, hDt⟩ : ∃ A, Lib.decDigits t = A := ⟨_, rfl⟩
      have HIT := HS.out.itoa
      rw [hDt] at HIT ht
      rw [hO] at hdl ⊢
      have a1 : ∀ w : World, (Op.stringOp .add ⟨O.toArray⟩ ⟨lg.toArray⟩).run Tryz.prog w = .ok (.string ⟨(O ++ lg).toArray⟩) w := addB O lg (by omega)
      have a2 : ∀ w : World, (Op.stringOp .add ⟨(O ++ lg).toArray⟩ ⟨Dt.toArray⟩).run Tryz.prog w = .ok (.string ⟨(O ++ lg ++ Dt).toArray⟩) w := addB (O ++ lg) Dt (by rw [List.length_append]; omega)
      obtain ⟨Z2, hZ2⟩ : ∃ x, O ++ lg ++ Dt = x := ⟨_, rfl⟩
      obtain ⟨Z1, hZ1⟩ : ∃ x, O ++ lg = x := ⟨_, rfl⟩
      rw [hZ2] at a2
      rw [hZ1] at a1 a2
      have HZ : Hid (dmpF T0 TA TH 5 ++ lg ++ Lib.decDigits t = Z2) := by show _ = _; rw [hO, hDt, hZ2]
      have HIT : Hid _ := HIT
      clear hO hDt hZ1 hZ2 hdl
      go_wp2_with fail
      refine Calls.mono (HS.out.clk _ HIR.out) ?_
      rintro e w4 ⟨rfl, rfl⟩
      go_wp2_with fail
      refine Calls.mono (HS.out.log _ HIR.out) ?_
      rintro e w6 ⟨rfl, i6, o6⟩
      have HI6 : Hid (I w6) := i6
      have HO6 : Hid (Off (fun k => B ≤ k) w w6) := HOR.out.trans o6
      clear i6 o6
      go_wp2_with fail
      refine Calls.mono (HIT.out _ HI6.out) ?_
      rintro e w7 ⟨rfl, b7⟩
      have HI7 : Hid (I w7) := HS.out.bel _ _ HI6.out b7
      have HO7 : Hid (Off (fun k => B ≤ k) w w7) := HO6.out.trans (Off.of_below b7)
      go_wp2
      go_ret
      exact ⟨by rw [HZ.out]; rfl, HI7.out, HO7.out⟩
end Go.Proofs.YtmehkneofinmiabGreatDoor

namespace Go.Proofs.YtmehkneofinmiabGreatDoor
open Go.RowKit
def AskR (s B : Nat) (R T : List UInt8) (I I' : World → Prop) : Prop := ∀ y, I y → Calls Tryz.prog 11 #[.pointer (some ⟨s, 0, none⟩), .string ⟨R.toArray⟩] y fun e w' => e = .returned (.string ⟨T.toArray⟩) ∧ I' w' ∧ Off (fun k => B ≤ k) y w'
def DumpR (s B : Nat) (Z : List UInt8) (I : World → Prop) : Prop := ∀ y, I y → Calls Tryz.prog 20 #[.pointer (some ⟨s, 0, none⟩)] y fun e w' => e = .returned (.string ⟨Z.toArray⟩) ∧ I w' ∧ Off (fun k => B ≤ k) y w'
end Go.Proofs.YtmehkneofinmiabGreatDoor

namespace Go.Proofs.YtmehkneofinmiabGreatDoor
def NoBr (l : List UInt8) : Prop := ∀ c ∈ l, c ≠ 13 ∧ c ≠ 10
theorem NoBr.app {a b : List UInt8} (h : NoBr a) (h' : NoBr b) : NoBr (a ++ b) := fun c hc => (List.mem_append.1 hc).elim (h c) (h' c)
theorem ask_r {σ : St} {m : Nat} {t : Tgt} {k : Cnd} {body : List UInt8} (h3 : t.kind ≠ 3) (hw : isW m = false) : askF σ m t k body = (if condF false k (aimF (findE σ.ents t.key) t) ≠ 0 then ⟨condF false k (aimF (findE σ.ents t.key) t), [], []⟩ else
    match aimF (findE σ.ents t.key) t with
    | none => ⟨404, [], []⟩
    | some v => ⟨200, verFlds v (stampL v.time), if m = 0 then v.body else []⟩, σ) := by
  unfold askF
  rw [if_neg h3, hw]
  by_cases h : condF false k (aimF (findE σ.ents t.key) t) ≠ 0
  · rw [if_pos h, if_pos h]
  · rw [if_neg h, if_neg h]
    simp only [Bool.false_eq_true, if_false]
    cases aimF (findE σ.ents t.key) t <;> rfl
theorem get_none {σ : St} {l key : List UInt8} {m : Nat} (hr : readF l = .ok (m, ⟨1, key, 0⟩, k0, [])) (hw : isW m = false) (h : curOf (findE σ.ents key) = none) : ansF σ l = (⟨404, [], []⟩, σ) := by
  rw [ans_of hr (by simp), ask_r (by simp) hw]
  have e : aimF (findE σ.ents key) ⟨1, key, 0⟩ = none := h
  simp only [e, condF0]
  rfl
theorem get_some {σ : St} {l key : List UInt8} {m : Nat} {k : Cnd} {v : Ver} (hr : readF l = .ok (m, ⟨1, key, 0⟩, k, [])) (hw : isW m = false) (h : curOf (findE σ.ents key) = some v) (hc : condF false k (some v) = 0) : ansF σ l = (⟨200, verFlds v (stampL v.time), if m = 0 then v.body else []⟩, σ) := by
  rw [ans_of hr (by simp), ask_r (by simp) hw]
  have e : aimF (findE σ.ents key) ⟨1, key, 0⟩ = some v := h
  simp only [e, hc]
  rfl
theorem read_key0 {mt key : List UInt8} {m : Nat} (hm : methF mt = some m ∧ ∀ c ∈ mt, c ≠ 32 ∧ c ≠ 13) (hl : mt.length < 10) (hf : fitsF m 1 = true) (h : keyOK key = true) : readF (reqB mt (47 :: key) [] []) = .ok (m, ⟨1, key, 0⟩, k0, []) :=
  rf6 (by have := (key_no h).2.1; rw [reqB_len]; simp; omega) (parse_req0 hm.1 hm.2 (key13 h) (target_key h)) (by simp) (by simp) hf
end Go.Proofs.YtmehkneofinmiabGreatDoor

namespace Go.Proofs.YtmehkneofinmiabGreatDoor
open Go.RowKit
theorem asks {B : Nat} {b s n : Nat} {σ : St} {M : Mem} {vs : Nat → Value} {d c : Nat} (R : List UInt8) (a : Ans) (y : World) (h : Bk B y b s n σ M vs d c) (hR : ansF σ R = (a, σ)) (hl : R.length < 3000) (hc : c ≤ 400) :
    Calls Tryz.prog 11 #[.pointer (some ⟨s, 0, none⟩), .string ⟨R.toArray⟩] y fun e w' => e = .returned (.string ⟨(textF a.told a.flds a.body).toArray⟩) ∧ (∃ M', Bk B w' b s n σ M' vs d c) ∧ Off (fun k => B ≤ k) y w' ∧ (∀ (k : Nat) (cs : Array Value) (f : Nat × Nat), y.heap[k]? = some (.cells cs 42 f) → w'.heap[k]? = some (.cells cs 42 f)) := by
  refine (do_sto R h.sto (by have := h.lg; omega) (by omega) hR).mono ?_
  rintro e w' ⟨rfl, _, M2, hS2, hO2, hP2⟩
  refine ⟨rfl, ⟨M2, ⟨hS2, h.bk.did h.sto.st hO2, h.bB, h.vB, h.ks, h.tm, h.lg, h.ls, h.dn⟩⟩, hP2, fun k cs f hk => ?_⟩
  rw [hO2.block k (Array.getElem?_eq_some_iff.1 hk).1 (fun ho => (own_book h.sto.st ho).2 hk)]
  exact hk
variable {σ : St} {key : List UInt8} {v : Ver}
theorem hd_get (hk : keyOK key = true) (hc : curOf (findE σ.ents key) = some v) : ansF σ (reqB getM (47 :: key) [] []) = (⟨200, verFlds v (stampL v.time), v.body⟩, σ) :=
  get_some (read_key0 m_get (by decide) rfl hk) rfl hc (condF0 _ _)
theorem hd_get0 (hk : keyOK key = true) (hc : curOf (findE σ.ents key) = none) : ansF σ (reqB getM (47 :: key) [] []) = (⟨404, [], []⟩, σ) :=
  get_none (read_key0 m_get (by decide) rfl hk) rfl hc
end Go.Proofs.YtmehkneofinmiabGreatDoor

namespace Go.Proofs.YtmehkneofinmiabGreatDoor
structure Good (σ : St) (c : Nat) : Prop where
  t : σ.time ≤ c * 5000
  e : ∀ E ∈ σ.ents, E.last ≤ c ∧ ∀ v ∈ E.vers, 0 < v.num ∧ v.num ≤ c ∧ v.time ≤ σ.time ∧ v.body.length ≤ 400
theorem Good.more {σ : St} {c : Nat} (h : Good σ c) : Good σ (c + 1) :=
  ⟨Nat.le_trans h.t (Nat.mul_le_mul_right _ (Nat.le_succ _)), fun E hE => ⟨by have := (h.e E hE).1; omega, fun v hv => by have := (h.e E hE).2 v hv; exact ⟨this.1, by omega, this.2.2⟩⟩⟩
theorem findE_or (l : List Ent) (key : List UInt8) : findE l key ∈ l ∨ findE l key = ⟨key, 0, []⟩ := by
  unfold findE
  cases hf : l.find? (fun E => E.key == key) with
  | none => exact Or.inr rfl
  | some E => exact Or.inl (List.mem_of_find?_eq_some hf)
theorem Good.find {σ : St} {c : Nat} (h : Good σ c) (key : List UInt8) : (findE σ.ents key).last ≤ c ∧ ∀ v ∈ (findE σ.ents key).vers, 0 < v.num ∧ v.num ≤ c ∧ v.time ≤ σ.time ∧ v.body.length ≤ 400 := by
  rcases findE_or σ.ents key with hm | hm
  · exact h.e _ hm
  · rw [hm]
    exact ⟨Nat.zero_le _, fun v hv => by cases hv⟩
theorem Good.chg {σ σ' : St} {key body : List UInt8} {k n told c : Nat} (h : Good σ c) (hn : k ≠ 3 → n = (findE σ.ents key).last + 1 ∧ body.length ≤ 400) (hc : chgF σ key k n body = (told, some σ')) : Good σ' (c + 1) := by
  unfold chgF at hc
  split at hc
  · simp at hc
  · split at hc
    · simp at hc
    · simp only [Prod.mk.injEq, Option.some.injEq] at hc
      rw [← hc.2]
      have hf := h.find key
      refine ⟨h.more.t, fun E hE => ?_⟩
      rcases putE_mem hE with rfl | hE
      · unfold applyF
        split
        · exact ⟨Nat.le_succ_of_le hf.1, fun v hv => by
            have := hf.2 v (List.mem_of_mem_eraseIdx hv)
            exact ⟨this.1, by omega, this.2.2⟩⟩
        · rename_i h3
          have hn' := hn h3
          refine ⟨by show n ≤ c + 1; omega, fun v hv => ?_⟩
          rcases List.mem_append.1 hv with hv | hv
          · have := hf.2 v hv
            exact ⟨this.1, by omega, this.2.2⟩
          · rw [List.mem_singleton] at hv
            rw [hv]
            exact ⟨by show 0 < n; omega, by show n ≤ c + 1; omega, Nat.le_refl _, hn'.2⟩
      · exact h.more.e E hE
theorem want_is (E : Ent) (m : Nat) (t : Tgt) (body : List UInt8) (hb : body.length ≤ 400) : (wantF E m t body).1 ≠ 3 → (wantF E m t body).2.1 = E.last + 1 ∧ (wantF E m t body).2.2.length ≤ 400 := by
  unfold wantF
  repeat' split
  all_goals simp [hb]
theorem read_body {l body : List UInt8} {m : Nat} {t : Tgt} {k : Cnd} (h : readF l = .ok (m, t, k, body)) : body.length ≤ 400 := by
  unfold readF at h
  split at h
  · cases h
  · split at h
    · cases h
    · split at h
      · cases h
      · split at h
        · cases h
        · split at h
          · rename_i h4 _
            cases h
            omega
          · cases h
theorem Good.ans {σ : St} {c : Nat} (h : Good σ c) (l : List UInt8) : Good (ansF σ l).2 (c + 1) := by
  unfold ansF
  split
  · exact h.more
  · rename_i m t k body hrd
    have hbd := read_body hrd
    split
    · exact h.more
    · unfold askF
      split
      · exact h.more
      · split
        · exact h.more
        · split
          · split
            · exact h.more
            · rename_i hc
              exact h.chg (want_is _ _ _ _ hbd) hc
          · split
            · exact h.more
            · exact h.more
theorem Good.step {σ : St} {c : Nat} (h : Good σ c) (k a b d : Int) : Good (stepF σ k a b d) (c + 1) := by
  unfold stepF
  split
  · exact h.ans _
  · split
    · exact h.ans _
    · split
      · exact h.ans _
      · split
        · exact h.ans _
        · split
          · exact h.ans _
          · have hp := pk_bd b 5000 (by omega)
            refine ⟨by have := h.t; rw [Nat.add_mul]; show σ.time + (pk b 5000).toNat ≤ _; omega, fun E hE => ⟨(h.more.e E hE).1, fun v hv => ?_⟩⟩
            have := (h.more.e E hE).2 v hv
            exact ⟨this.1, this.2.1, by show v.time ≤ σ.time + (pk b 5000).toNat; omega, this.2.2.2⟩
end Go.Proofs.YtmehkneofinmiabGreatDoor

namespace Go.Proofs.YtmehkneofinmiabGreatDoor
theorem read_list {σ : St} : ansF σ (reqB getM [47] [] []) = (listA σ [], σ) := by
  have hr : readF (reqB getM [47] [] []) = .ok (0, ⟨0, [], 0⟩, k0, []) := rf6 (by decide) (parse_req0 m_get.1 m_get.2 (by decide) target_list) (by simp) (by simp) rfl
  unfold ansF
  rw [hr]
  rfl
end Go.Proofs.YtmehkneofinmiabGreatDoor

namespace Go.Proofs.YtmehkneofinmiabGreatDoor
end Go.Proofs.YtmehkneofinmiabGreatDoor

namespace Go.Proofs.YtmehkneofinmiabGreatDoor
def versW : List UInt8 := [118, 101, 114, 115, 105, 111, 110, 115]
end Go.Proofs.YtmehkneofinmiabGreatDoor

namespace Go.Proofs.YtmehkneofinmiabGreatDoor
theorem read_vers {key : List UInt8} (h : keyOK key = true) : readF (reqB getM (47 :: (key ++ [63] ++ versW)) [] []) = .ok (0, ⟨3, key, 0⟩, k0, []) := by
  refine rf6 (by have := (key_no h).2.1; rw [reqB_len]; simp [getM, versW]; omega) (parse_req0 m_get.1 m_get.2 ?_ (target_versions h)) (by simp) (by simp) rfl
  intro c hc
  rcases List.mem_cons.1 hc with rfl | hc
  · decide
  · rcases List.mem_append.1 hc with hc | hc
    · rcases List.mem_append.1 hc with hc | hc
      · exact ((key_no h).2.2 c hc).1
      · rw [List.mem_singleton.1 hc]; decide
    · exact (by decide : ∀ c ∈ versW, c ≠ 13) c hc
theorem kp_all {σ : St} {key : List UInt8} (h : keyOK key = true) : ansF σ (reqB getM (47 :: (key ++ [63] ++ versW)) [] []) = (if (findE σ.ents key).vers = [] then ⟨404, [], []⟩ else ⟨200, [], (findE σ.ents key).vers.reverse.flatMap lineF2⟩, σ) := by
  rw [ans_of (read_vers h) (by simp)]
  unfold askF
  rw [if_pos rfl]
end Go.Proofs.YtmehkneofinmiabGreatDoor

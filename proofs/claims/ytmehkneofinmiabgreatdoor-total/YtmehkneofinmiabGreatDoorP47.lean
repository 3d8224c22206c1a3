/-
  Texts of this proof, part 47.
-/
import Derived.Test.YtmehkneofinmiabGreatDoorP40
import Derived.Test.YtmehkneofinmiabGreatDoorP46
import Derived.Test.YtmehkneofinmiabGreatDoorP39
import Derived.Test.YtmehkneofinmiabGreatDoorP34
import Derived.Test.YtmehkneofinmiabGreatDoorP41
namespace Go.Proofs.YtmehkneofinmiabGreatDoor
theorem read_list {σ : St} : ansF σ (reqB getM [47] [] []) = (listA σ [], σ) := by
  have hr : readF (reqB getM [47] [] []) = .ok (0, ⟨0, [], 0⟩, k0, []) := rf6 (by decide) (parse_req0 m_get.1 m_get.2 (by decide) target_list) (by simp) (by simp) rfl
  unfold ansF
  rw [hr]
  rfl
end Go.Proofs.YtmehkneofinmiabGreatDoor

namespace Go.Proofs.YtmehkneofinmiabGreatDoor
end Go.Proofs.YtmehkneofinmiabGreatDoor

namespace Go.Proofs.YtmehkneofinmiabGreatDoor
def versW : List UInt8 := [118, 101, 114, 115, 105, 111, 110, 115]
end Go.Proofs.YtmehkneofinmiabGreatDoor

namespace Go.Proofs.YtmehkneofinmiabGreatDoor
theorem read_vers {key : List UInt8} (h : keyOK key = true) : readF (reqB getM (47 :: (key ++ [63] ++ versW)) [] []) = .ok (0, ⟨3, key, 0⟩, k0, []) := by
  refine rf6 (by have := (key_no h).2.1; rw [reqB_len]; simp [getM, versW]; omega) (parse_req0 m_get.1 m_get.2 ?_ (target_versions h)) (by simp) (by simp) rfl
  intro c hc
  rcases List.mem_cons.1 hc with rfl | hc
  · decide
  · rcases List.mem_append.1 hc with hc | hc
    · rcases List.mem_append.1 hc with hc | hc
      · exact ((key_no h).2.2 c hc).1
      · rw [List.mem_singleton.1 hc]; decide
    · exact (by decide : ∀ c ∈ versW, c ≠ 13) c hc
theorem kp_all {σ : St} {key : List UInt8} (h : keyOK key = true) : ansF σ (reqB getM (47 :: (key ++ [63] ++ versW)) [] []) = (if (findE σ.ents key).vers = [] then ⟨404, [], []⟩ else ⟨200, [], (findE σ.ents key).vers.reverse.flatMap lineF2⟩, σ) := by
  rw [ans_of (read_vers h) (by simp)]
  unfold askF
  rw [if_pos rfl]
end Go.Proofs.YtmehkneofinmiabGreatDoor

namespace Go.Proofs.YtmehkneofinmiabGreatDoor
open Go.RowKit
def Std (B b s n : Nat) (σ : St) (bc : Array Value) (y : World) : Prop := ∃ M, Sto B y s n σ M ∧ y.heap[b]? = some (.cells bc 31 (0, 0))
theorem Std.bel {B b s n : Nat} {σ : St} {bc : Array Value} {y z : World} (h : Std B b s n σ bc y) (hb : Below y.heap.size y z) : Std B b s n σ bc z := by
  obtain ⟨M, h1, h2⟩ := h
  exact ⟨M, h1.below hb, (hb.block b (Array.getElem?_eq_some_iff.1 h2).1).trans h2⟩
theorem Std.ask {B b s n : Nat} {σ σ' : St} {bc : Array Value} (R : List UInt8) (a : Ans) (hR : ansF σ R = (a, σ')) (hl : R.length ≤ 9223372036854775807) (hlog : σ.log.length < 140000000000000) : AskR s B R (textF a.told a.flds a.body) (Std B b s n σ bc) (Std B b s n σ' bc) := by
  rintro y ⟨M, h1, h2⟩
  refine (do_sto R h1 (by omega) hl hR).mono ?_
  rintro e w' ⟨rfl, _, M2, hS2, hO2, hP2⟩
  exact ⟨rfl, ⟨M2, hS2, (hO2.block b (Array.getElem?_eq_some_iff.1 h2).1 (fun ho => (own_book h1.st ho).1 h2)).trans h2⟩, hP2⟩
theorem Std.len {B b s n : Nat} {σ : St} {bc : Array Value} {y : World} (h : Std B b s n σ bc y) (hlog : σ.log.length < 140000000000000) (R : List UInt8) : (textF (ansF σ R).1.told (ansF σ R).1.flds (ansF σ R).1.body).length ≤ 1000000000 := by
  obtain ⟨M, h1, h2⟩ := h
  exact text_len (ans_ok h1.st (by omega) R)
noncomputable def txtR (σ : St) (R : List UInt8) : List UInt8 := textF (ansF σ R).1.told (ansF σ R).1.flds (ansF σ R).1.body
noncomputable def dumpF (σ : St) : List UInt8 := dmpF (txtR σ (reqB [71, 69, 84] [47] [] [])) (fun i => txtR σ (reqB [71, 69, 84] (47 :: nmK i) [] [])) (fun i => txtR σ (reqB [71, 69, 84] (47 :: nmK i ++ versQ) [] [])) 5 ++ σ.log ++ Lib.decDigits σ.time
theorem same_get (σ : St) (i : Nat) : (ansF σ (reqB [71, 69, 84] (47 :: nmK i) [] [])).2 = σ := by
  cases hc : curOf (findE σ.ents (nmK i)) with
  | none => exact congrArg Prod.snd (hd_get0 (nmK_ok i) hc)
  | some v => exact congrArg Prod.snd (hd_get (nmK_ok i) hc)
theorem same_vers (σ : St) (i : Nat) : (ansF σ (reqB [71, 69, 84] (47 :: nmK i ++ versQ) [] [])).2 = σ := by
  have h := kp_all (σ := σ) (nmK_ok i)
  have e : (47 :: (nmK i ++ [63] ++ versW) : List UInt8) = 47 :: nmK i ++ versQ := by simp [versW, versQ]
  rw [e] at h
  exact congrArg Prod.snd h
theorem Std.dump {B b s n : Nat} {σ : St} {bc : Array Value} (hlog : σ.log.length < 140000000000000) : DumpR s B (dumpF σ) (Std B b s n σ bc) := by
  intro w hw
  have hd : Dsk B s (Std B b s n σ bc) (fun R T => (ansF σ R).2 = σ ∧ T = txtR σ R ∧ R.length < 3000) σ.time σ.log nmK := by
    refine ⟨fun y z h hb => h.bel hb, ?_, ?_, ?_, ?_, fun i hi y => named_any i y hi, fun i _ => (key_no (nmK_ok i)).2.1⟩
    · rintro R T ⟨h1, rfl, h3⟩ y hy
      have hR : ansF σ R = ((ansF σ R).1, σ) := Prod.ext rfl h1
      exact Std.ask R (ansF σ R).1 hR (by omega) hlog y hy
    · rintro y ⟨M, h1, h2⟩
      exact clock_any y h1.st
    · rintro y ⟨M, h1, h2⟩
      refine (log_store y h1.st).mono ?_
      rintro e w' ⟨rfl, hS, hO⟩
      have hB : B ≤ s := h1.own s (Or.inl rfl)
      have hO2 : Off (fun k => B ≤ k) y w' := hO.mono (fun k hk => by rw [hk]; exact hB)
      exact ⟨rfl, ⟨M, ⟨h1.env.off hO2, hS, h1.own⟩, (hO.block b (Array.getElem?_eq_some_iff.1 h2).1 (fun e => (own_book h1.st (k := b) (Or.inl e)).1 h2)).trans h2⟩, hO2⟩
    · rintro y ⟨M, h1, h2⟩
      have := h1.st.time
      exact itoaN σ.time y (by omega) h1.env.tb.b
  have hsm := (Std.len hw hlog)
  have htm : σ.time ≤ 253402300799 := by obtain ⟨M, h1, _⟩ := hw; exact h1.st.time
  refine dump_walk hd _ _ _ w hw ⟨congrArg Prod.snd (read_list (σ := σ)), rfl, by decide⟩ (fun i _ => ⟨same_get σ i, rfl, ?_⟩) (fun i _ => ⟨same_vers σ i, rfl, ?_⟩) (hsm _) (fun i _ => hsm _) (fun i _ => hsm _) (by omega) (dec_len10 (by omega) (by omega))
  · have := (key_no (nmK_ok i)).2.1
    rw [reqB_len]
    simp
    omega
  · have := (key_no (nmK_ok i)).2.1
    rw [reqB_len]
    simp [versQ]
    omega
end Go.Proofs.YtmehkneofinmiabGreatDoor

namespace Go.Proofs.YtmehkneofinmiabGreatDoor
open Go.RowKit
def Two (B s n : Nat) (σ : St) (s2 n2 : Nat) (σ2 : St) (y : World) : Prop :=
  ∃ M M2, Sto B y s n σ M ∧ StoreAt y s2 n2 0 (fun _ => 0) σ2 M2 ∧ (∀ k, M.own s n k → ¬ M2.own s2 n2 k) ∧ ∀ k, M2.own s2 n2 k → B ≤ k
theorem Two.swap {B s n : Nat} {σ : St} {s2 n2 : Nat} {σ2 : St} {y : World} (h : Two B s n σ s2 n2 σ2 y) : Two B s2 n2 σ2 s n σ y := by
  obtain ⟨M, M2, h1, h2, h3, h4⟩ := h
  exact ⟨M2, M, ⟨h1.env, h2, h4⟩, h1.st, fun k hk h => h3 k h hk, h1.own⟩
theorem Two.bel {B s n : Nat} {σ : St} {s2 n2 : Nat} {σ2 : St} {y z : World} (h : Two B s n σ s2 n2 σ2 y) (hb : Below y.heap.size y z) : Two B s n σ s2 n2 σ2 z := by
  obtain ⟨M, M2, h1, h2, h3, h4⟩ := h
  exact ⟨M, M2, h1.below hb, h2.below hb, h3, h4⟩
theorem Two.ask {B s n : Nat} {σ : St} {s2 n2 : Nat} {σ2 : St} (R : List UInt8) (hR : (ansF σ R).2 = σ) (hl : R.length ≤ 9223372036854775807) (hlog : σ.log.length < 140000000000000) : AskR s B R (txtR σ R) (Two B s n σ s2 n2 σ2) (Two B s n σ s2 n2 σ2) := by
  rintro y ⟨M, M2, h1, h2, h3, h4⟩
  have hd := do_store R y h1.st h1.env.mx h1.env.tb (fun k hk => h1.env.high (h1.own k hk)) hlog hl
  refine hd.mono ?_
  rintro e w' ⟨rfl, M', hS, hO, hW⟩
  have hS' : StoreAt w' s n 0 (fun _ => 0) (ansF σ R).2 M' := hS
  rw [hR] at hS'
  have hO2 : Off (fun k => B ≤ k) y w' := hO.mono (fun k hk => h1.own k hk)
  refine ⟨rfl, ⟨M', M2, ⟨h1.env.off hO2, hS', fun k hk => (hW k hk).elim (h1.own k) (fun h => Nat.le_trans h1.env.sz h)⟩, h2.off hO (fun k hk h => h3 k h hk), fun k hk h => ?_, h4⟩, hO2⟩
  rcases hW k hk with h5 | h5
  · exact h3 k h5 h
  · have := h2.own_lt h
    omega
theorem Two.dump {B s n : Nat} {σ : St} {s2 n2 : Nat} {σ2 : St} (hlog : σ.log.length < 140000000000000) : DumpR s B (dumpF σ) (Two B s n σ s2 n2 σ2) := by
  intro w hw
  have hd : Dsk B s (Two B s n σ s2 n2 σ2) (fun R T => (ansF σ R).2 = σ ∧ T = txtR σ R ∧ R.length < 3000) σ.time σ.log nmK := by
    refine ⟨fun y z h hb => h.bel hb, ?_, ?_, ?_, ?_, fun i hi y => named_any i y hi, fun i _ => (key_no (nmK_ok i)).2.1⟩
    · rintro R T ⟨h1, rfl, h3⟩ y hy
      exact Two.ask R h1 (by omega) hlog y hy
    · rintro y ⟨M, M2, h1, _⟩
      exact clock_any y h1.st
    · rintro y ⟨M, M2, h1, h2, h3, h4⟩
      refine (log_store y h1.st).mono ?_
      rintro e w' ⟨rfl, hS, hO⟩
      have hB : B ≤ s := h1.own s (Or.inl rfl)
      have hO2 : Off (fun k => B ≤ k) y w' := hO.mono (fun k hk => by rw [hk]; exact hB)
      exact ⟨rfl, ⟨M, M2, ⟨h1.env.off hO2, hS, h1.own⟩, h2.off hO (fun k hk e => h3 k (Or.inl e) hk), h3, h4⟩, hO2⟩
    · rintro y ⟨M, M2, h1, _⟩
      have := h1.st.time
      exact itoaN σ.time y (by omega) h1.env.tb.b
  have hsm : ∀ R, (txtR σ R).length ≤ 1000000000 := fun R => by
    obtain ⟨M, M2, h1, _⟩ := hw
    exact text_len (ans_ok h1.st hlog R)
  have htm : σ.time ≤ 253402300799 := by obtain ⟨M, M2, h1, _⟩ := hw; exact h1.st.time
  refine dump_walk hd _ _ _ w hw ⟨congrArg Prod.snd (read_list (σ := σ)), rfl, by decide⟩ (fun i _ => ⟨same_get σ i, rfl, ?_⟩) (fun i _ => ⟨same_vers σ i, rfl, ?_⟩) (hsm _) (fun i _ => hsm _) (fun i _ => hsm _) (by omega) (dec_len10 (by omega) (by omega))
  · have := (key_no (nmK_ok i)).2.1
    rw [reqB_len]
    simp
    omega
  · have := (key_no (nmK_ok i)).2.1
    rw [reqB_len]
    simp [versQ]
    omega
end Go.Proofs.YtmehkneofinmiabGreatDoor

namespace Go.Proofs.YtmehkneofinmiabGreatDoor
open Go.RowKit
set_option maxRecDepth 100000 in
set_option maxHeartbeats 4000000 in
theorem total_walk (log : List UInt8) (x : Int) (w : World) (hM : MaxIs w) (hT : Tbl w) (ix0 : -9223372036854775808 ≤ x) (ix1 : x ≤ 9223372036854775807) (hl : log.length ≤ 9223372036854775807) :
    Calls Tryz.prog 8 #[.string ⟨log.toArray⟩, .int .i64 x] w fun e w' => e = .returned (.bool true) ∧ Off (fun k => w.heap.size ≤ k) w w' := by
  have p8 := pk_bd x 8 (by omega)
  obtain ⟨m, hm⟩ : ∃ n : Nat, pk x 8 = n := ⟨(pk x 8).toNat, by omega⟩
  have hm8 : m < 8 := by omega
  have hw1 : IntKind.i64.wrap (1 + (m : Int)) = ((1 + m : Nat) : Int) := by rw [IntKind.wrap_i64]; omega
  obtain ⟨N, hN⟩ : ∃ N, 1 + m = N := ⟨_, rfl⟩
  rw [hN] at hw1
  have hN1 : 1 ≤ N := by omega
  have hN8 : N ≤ 8 := by omega
  obtain ⟨σ, r, hF⟩ : ∃ σ r, foundF log = (σ, r) := ⟨_, _, rfl⟩
  have hfl := found_log log
  have hfs := found_short log
  rw [hF] at hfl hfs
  dsimp only at hfl hfs
  have hlog := hfs.short
  have HOP : Hid _ := opened_any x w hM hT ix0 ix1
  have HE : Hid _ := Env.made hM hT
  have HO1 : Hid (∀ y, Calls Tryz.prog 23 #[.string ⟨log.toArray⟩, .int .i64 N] y fun e w' => ∃ s M, e = .returned (.tuple #[.pointer (some ⟨s, 0, none⟩), .int .i64 ((σ.log.length : Nat) : Int), .int .i64 0]) ∧ StoreAt w' s N 0 (fun _ => 0) σ M ∧ Below y.heap.size y w' ∧ ∀ k, M.own s N k → y.heap.size ≤ k) := fun y => by
    have := open_any log N y hN1 hN8 hl
    rw [hF] at this
    exact this
  have HO2 : Hid (∀ y, Calls Tryz.prog 23 #[.string ⟨σ.log.toArray⟩, .int .i64 1] y fun e w' => ∃ s M, e = .returned (.tuple #[.pointer (some ⟨s, 0, none⟩), .int .i64 ((σ.log.length : Nat) : Int), .int .i64 0]) ∧ StoreAt w' s 1 0 (fun _ => 0) σ M ∧ Below y.heap.size y w' ∧ ∀ k, M.own s 1 k → y.heap.size ≤ k) := fun y => by
    have := open_any σ.log 1 y (by omega) (by omega) (by omega)
    rw [hfl.2] at this
    exact this
  have hused : σ.log.length ≤ log.length := by
    have := congrArg List.length hfl.1
    rw [List.length_append] at this
    omega
  have hcut : (⟨log.toArray⟩ : ByteArray).extract 0 σ.log.length = ⟨σ.log.toArray⟩ := by
    rw [extL, List.drop_zero, Nat.sub_zero]
    have : log.take σ.log.length = σ.log := by
      have h := congrArg (List.take σ.log.length) hfl.1
      rw [List.take_left] at h
      exact h
    rw [this]
  have hsz : (⟨log.toArray⟩ : ByteArray).size = log.length := by rw [Lib.size_eq]
  have HD : Hid (∀ s n s2 n2, DumpR s w.heap.size (dumpF σ) (Two w.heap.size s n σ s2 n2 σ)) := fun s n s2 n2 => Two.dump hlog
  obtain ⟨Z, hZ⟩ : ∃ Z, dumpF σ = Z := ⟨_, rfl⟩
  rw [hZ] at HD
  obtain ⟨J, hJ⟩ : ∃ J, σ.log = J := ⟨_, rfl⟩
  have HJ : Hid _ := hJ
  rw [hJ] at HO1 HO2 hused hcut hlog
  have HCU : Hid _ := hcut
  clear hfl hfs hF hZ hJ hN p8 hcut
  go_enter Tryz.func8, Tryz.ntmps8
  go_wp2_with (go_at_call 10; refine (pick_any _ _ _ (by omega) (by omega) (by omega) (by omega)).mono ?_; rintro e w' ⟨rfl, rfl⟩; rw [hm])
  refine Calls.mono HOP.out ?_
  rintro e w1 ⟨b, s0, n0, M0, vs, rfl, _, hB, hb⟩
  have HB1 : Hid _ := hb
  have HEB : Hid _ := HE.out.below hb
  clear hB hb HOP
  go_wp2_with fail
  refine Calls.mono (HO1.out _) ?_
  rintro e w2 ⟨s, M, rfl, hS2, hb2, hO2⟩
  have HS2 : Hid _ := hS2
  have HB2 : Hid _ := hb2
  have HW2 : Hid _ := hO2
  clear hS2 hb2 hO2 HO1
  go_wp2_with fail
  refine Calls.mono (log_store w2 HS2.out) ?_
  rintro e w3 ⟨rfl, hS3, hO3⟩
  rw [HJ.out]
  have HS3 : Hid _ := hS3
  have HO3 : Hid _ := hO3
  clear hS3 hO3
  go_wp2_with fail
  refine Calls.mono (HO2.out _) ?_
  rintro e w4 ⟨y, M4, rfl, hS4, hb4, hO4⟩
  have hwA : Off (fun k => w'.heap.size ≤ k) w' w3 := (Off.of_below (HB1.out.trans (HB2.out.mono HB1.out.size))).trans' HO3.out (fun k hk e => by have := HW2.out s (Or.inl rfl); have := HB1.out.size; omega)
  have hown : ∀ k, M.own s N k → w'.heap.size ≤ k := fun k hk => Nat.le_trans HB1.out.size (HW2.out k hk)
  have hTW : Two w'.heap.size s N σ y 1 σ w4 := ⟨M, M4, ⟨(HE.out.off hwA).below hb4, HS3.out.below hb4, hown⟩, hS4, fun k hk h => by have h1 := hO4 k h; have h2 := HS3.out.own_lt hk; omega, fun k hk => Nat.le_trans hwA.size (hO4 k hk)⟩
  have HTW : Hid _ := hTW
  have HOW : Hid (Off (fun k => w'.heap.size ≤ k) w' w4) := hwA.trans (Off.of_below hb4)
  have hcv := HCU.out
  obtain ⟨LB, hLB⟩ : ∃ B : ByteArray, (⟨log.toArray⟩ : ByteArray) = B := ⟨_, rfl⟩
  obtain ⟨JB, hJB⟩ : ∃ B : ByteArray, (⟨J.toArray⟩ : ByteArray) = B := ⟨_, rfl⟩
  rw [hLB, hJB] at hcv
  rw [hLB] at hsz
  rw [hLB, hJB]
  have heq : (JB.toList == (LB.extract 0 J.length).toList) = true := by rw [hcv]; simp
  obtain ⟨q, hq⟩ : ∃ q, J.length = q := ⟨_, rfl⟩
  rw [hq] at heq hused ⊢
  have hqL : (q : Int) ≤ (LB.size : Int) := by omega
  have hqL2 : q ≤ LB.size := by omega
  clear hS4 hb4 hO4 hwA hown hTW HO2 HS2 HS3 HO3 HB1 HB2 HW2 HE HEB hcv hsz hused hLB hJB hq HCU hlog hl
  go_wp2_with fail
  refine Calls.mono (HD.out s N y 1 w4 HTW.out) ?_
  rintro e w5 ⟨rfl, t5, o5⟩
  have HT5 : Hid (Two w'.heap.size y 1 σ s N σ w5) := Two.swap t5
  have HO5 : Hid _ := HOW.out.trans o5
  clear t5 o5 HTW HOW
  go_wp2_with fail
  refine Calls.mono (HD.out y 1 s N w5 HT5.out) ?_
  rintro e w6 ⟨rfl, t6, o6⟩
  have HO6 : Hid _ := HO5.out.trans o6
  clear t6 o6 HT5 HO5
  go_wp2
  go_ret
  exact ⟨rfl, HO6.out⟩
end Go.Proofs.YtmehkneofinmiabGreatDoor

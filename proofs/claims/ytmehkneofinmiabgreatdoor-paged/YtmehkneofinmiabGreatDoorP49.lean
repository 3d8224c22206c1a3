/-
  Texts of this proof, part 49.
-/
import Derived.Test.YtmehkneofinmiabGreatDoorP48
import Derived.Test.YtmehkneofinmiabGreatDoorP02
import Derived.Test.YtmehkneofinmiabGreatDoorP16
import Derived.Test.YtmehkneofinmiabGreatDoorProg
import Derived.Deep.Slices
import Derived.ChangeArms
import Derived.OpenShut
import Derived.ProofKit
import Derived.Deep.RegionHeld3
import Derived.WalkKit
import Derived.Below
namespace Go.Proofs.YtmehkneofinmiabGreatDoor
def delM : List UInt8 := [68, 69, 76, 69, 84, 69]
def getM : List UInt8 := [71, 69, 84]
theorem key13 {key : List UInt8} (h : keyOK key = true) : ∀ c ∈ 47 :: key, c ≠ 13 := by
  intro c hc
  rcases List.mem_cons.1 hc with rfl | hc
  · decide
  · exact ((key_no h).2.2 c hc).1
theorem read_put0 {key what : List UInt8} (h : keyOK key = true) (hw : what.length < 100) : readF (reqB putM (47 :: key) [] what) = .ok (2, ⟨1, key, 0⟩, k0, what) :=
  rf6 (by have := (key_no h).2.1; rw [reqB_len]; simp [putM]; omega) (parse_req0 m_put.1 m_put.2 (key13 h) (target_key h)) (by simp) (by omega) rfl
def lineM (t : List UInt8) : List UInt8 := [73, 102, 45, 77, 97, 116, 99, 104, 58, 32] ++ (34 :: t ++ [34])
def lineS : List UInt8 := [73, 102, 45, 78, 111, 110, 101, 45, 77, 97, 116, 99, 104, 58, 32, 42]
theorem enK_put {σ : St} {l : List Ent} (hr : RiseL l) (E : Ent) (i : Nat) (hi : i < 5) (he : E.key = nmK i) (σ' : St) (hs : σ'.ents = putE l E) (hl : σ.ents = l) (j : Nat) (hj : j < 5) : enK σ' j = if j = i then E else enK σ j := by
  unfold enK
  rw [hs, findE_put hr, he, hl]
  by_cases e : j = i
  · rw [if_pos (by rw [e]), if_pos e]
  · rw [if_neg (fun h => e (nmK_inj j hj i hi h.symm)), if_neg e]
end Go.Proofs.YtmehkneofinmiabGreatDoor

namespace Go.Proofs.YtmehkneofinmiabGreatDoor
open Go.RowKit
attribute [local go_sem ↓] appS_is
attribute [local go_sem] app_run
end Go.Proofs.YtmehkneofinmiabGreatDoor

namespace Go.Proofs.YtmehkneofinmiabGreatDoor
open Go.RowKit
attribute [local go_sem ↓] appS_is
attribute [local go_sem] app_run
end Go.Proofs.YtmehkneofinmiabGreatDoor

namespace Go.Proofs.YtmehkneofinmiabGreatDoor
open Go.RowKit
theorem nmK_le (i : Nat) : ∃ j, j < 5 ∧ nmK i = nmK j := by
  match i with
  | 0 => exact ⟨0, by omega, rfl⟩
  | 1 => exact ⟨1, by omega, rfl⟩
  | 2 => exact ⟨2, by omega, rfl⟩
  | 3 => exact ⟨3, by omega, rfl⟩
  | _ + 4 => exact ⟨4, by omega, rfl⟩
theorem Bk.of {B : Nat} {w w' : World} {b s n : Nat} {σ σ' : St} {M M' : Mem} {vs vs' : Nat → Value} {d d' c : Nat} (h : Bk B w b s n σ M vs d c) (hS : Sto B w' s n σ' M') (i : Nat) (hi : i < 5) (E : Ent) (hE : E.key = nmK i) (hs : σ'.ents = putE σ.ents E) (ht : σ'.time = σ.time) (hl : σ'.log.length ≤ σ.log.length + 1000) (hL : E.last ≤ c + 1)
    (hb : BookAt w' b s (fun j => if j = i then E else enK σ j) vs' σ.time d') (hd : d' ≤ c + 1) (hv : ∀ j, j < 5 → ∀ g, (vs' j).ownBlock = some g → B ≤ g) : Bk B w' b s n σ' M' vs' d' (c + 1) := by
  have hen : ∀ j, j < 5 → enK σ' j = if j = i then E else enK σ j := fun j hj => enK_put h.sto.st.rise E i hi hE σ' hs rfl j hj
  refine ⟨hS, ?_, h.bB, hv, fun x hx => ?_, ?_, ?_, fun j => ?_, hd⟩
  · rw [ht]
    exact hb.ext (fun j hj => ⟨(hen j hj).symm, rfl⟩)
  · rw [hs] at hx
    rcases putE_mem hx with rfl | hx
    · exact ⟨i, hi, hE⟩
    · exact h.ks x hx
  · have := h.tm; omega
  · have := h.lg; omega
  · obtain ⟨k, hk, e⟩ := nmK_le j
    have e2 : enK σ' j = enK σ' k := by unfold enK; rw [e]
    rw [e2, hen k hk]
    have := h.ls k
    split
    · exact hL
    · omega
end Go.Proofs.YtmehkneofinmiabGreatDoor

namespace Go.Proofs.YtmehkneofinmiabGreatDoor
open Go.RowKit
attribute [local go_sem ↓] appS_is
attribute [local go_sem] app_run
end Go.Proofs.YtmehkneofinmiabGreatDoor

namespace Go.Proofs.YtmehkneofinmiabGreatDoor
open Go.RowKit
def noneT : List UInt8 := [110, 111, 110, 101]
def pickT (E : Ent) (C : Int) : List UInt8 :=
  match E.vers[(pk C E.vers.length).toNat]? with
  | none => noneT
  | some v => if v.mark then noneT else hexN 16 (fnv v.body)
noncomputable def stepF (σ : St) (k a b c : Int) : St :=
  if pk k 8 ≤ 2 then (ansF σ (reqB putM (47 :: nmK (pk a 5).toNat) [] (txtK b))).2
  else if pk k 8 = 3 then (ansF σ (reqB putM (47 :: nmK (pk a 5).toNat) (lineS ++ crlf) (txtK b))).2
  else if pk k 8 = 4 then (ansF σ (reqB putM (47 :: nmK (pk a 5).toNat) (lineM (pickT (enK σ (pk a 5).toNat) c) ++ crlf) (txtK b))).2
  else if pk k 8 = 5 then (ansF σ (reqB delM (47 :: nmK (pk a 5).toNat) [] [])).2
  else if pk k 8 = 6 then (ansF σ (reqB delM (47 :: (nmK (pk a 5).toNat ++ [63] ++ ([118, 61] ++ Lib.decDigits (1 + (pk b ((enK σ (pk a 5).toNat).last + 2 : Nat)).toNat)))) [] [])).2
  else ⟨σ.time + (pk b 5000).toNat, σ.ents, σ.log⟩
def I64 (x : Int) : Prop := -9223372036854775808 ≤ x ∧ x ≤ 9223372036854775807
end Go.Proofs.YtmehkneofinmiabGreatDoor

namespace Go.Proofs.YtmehkneofinmiabGreatDoor
open Go.RowKit
end Go.Proofs.YtmehkneofinmiabGreatDoor

namespace Go.Proofs.YtmehkneofinmiabGreatDoor
open Go.RowKit
def reqY : List UInt8 := [80, 85, 84, 32, 47, 107, 13, 10, 13, 10, 97]
def ansY : List UInt8 := [50, 48, 49, 13, 10, 69, 84, 97, 103, 58, 32, 34, 97, 102, 54, 51, 100, 99, 52, 99, 56, 54, 48, 49, 101, 99, 56, 99, 34, 13, 10, 86, 101, 114, 115, 105, 111, 110, 58, 32, 49, 13, 10, 13, 10]
theorem ans_y : (ansF st0 reqY).1 = ⟨201, [⟨eTag, qTag [97]⟩, ⟨versN, Lib.decDigits 1⟩], []⟩ := by
  have hr : readF reqY = .ok (2, ⟨1, [107], 0⟩, k0, [97]) := read_put0 (key := [107]) (what := [97]) (by decide) (by decide)
  rw [put_done hr (by rw [condF0]) (by decide) (Or.inr (by decide))]
  rfl
theorem text_y : textF 201 [⟨eTag, qTag [97]⟩, ⟨versN, Lib.decDigits 1⟩] [] = ansY := by kernel_rfl
theorem StoreAt.own_lt {w : World} {s n : Nat} {rd : Int} {lk : Nat → Int} {σ : St} {M : Mem} (h : StoreAt w s n rd lk σ M) {k : Nat} (hk : M.own s n k) : k < w.heap.size := by
  have lt : ∀ {k : Nat} {o : Obj}, w.heap[k]? = some o → k < w.heap.size := fun h => (Array.getElem?_eq_some_iff.1 h).1
  rcases hk with rfl | rfl | ⟨i, hi, hb⟩ | ⟨i, hi, hb⟩ | ⟨i, p, hi, hp, hb⟩ | hb
  · exact lt h.blk
  · obtain ⟨cs, hc, _⟩ := h.row
    exact lt hc
  · obtain ⟨c, hc⟩ := own_block (h.kt i hi).k.row hb
    exact lt hc
  · exact lt (h.ent i hi k hb).blk
  · obtain ⟨c, hc⟩ := own_block (h.ent i hi p hp).row hb
    exact lt hc
  · obtain ⟨c, hc⟩ := own_block h.jrn hb
    exact lt hc
theorem bookCells_key (s : Nat) (en : Nat → Ent) (vs : Nat → Value) (t d : Nat) (K : List UInt8) : ∀ i, i < 5 → (bookCells s en vs t d).setIfInBounds (1 + i * 3) (.string ⟨K.toArray⟩) = bookCells s (fun j => if j = i then ⟨K, (en j).last, (en j).vers⟩ else en j) vs t d := by
  refine five ?_ ?_ ?_ ?_ ?_ <;> simp [bookCells]
def enO (k : Nat) (j : Nat) : Ent := ⟨if j < k then nmK j else [], 0, []⟩
theorem enO_all (j : Nat) (hj : j < 5) : enO 5 j = enK st0 j := by
  simp [enO, enK, st0, findE, hj]
set_option maxRecDepth 100000 in
set_option maxHeartbeats 8000000 in
theorem opened_any (x : Int) (w : World) (hM : MaxIs w) (hT : Tbl w) (ix0 : -9223372036854775808 ≤ x) (ix1 : x ≤ 9223372036854775807) :
    Calls Tryz.prog 9 #[.int .i64 x] w fun e w' => ∃ b s n M vs, e = .returned (.pointer (some ⟨b, 0, none⟩)) ∧ n = 1 + (pk x 8).toNat ∧ Bk w.heap.size w' b s n st0 M vs 0 0 ∧ Below w.heap.size w w' := by
  have p8 := pk_bd x 8 (by omega)
  obtain ⟨m, hm⟩ : ∃ n : Nat, pk x 8 = n := ⟨(pk x 8).toNat, by omega⟩
  have hm8 : m < 8 := by omega
  have hme : (1 : Int) + (m : Int) = ((1 + m : Nat) : Int) := by omega
  have HE : Hid _ := Env.made hM hT
  have HY : Hid _ := ans_y
  have HTY : Hid _ := text_y
  go_enter Tryz.func9, Tryz.ntmps9
  have hw1 : IntKind.i64.wrap (1 + (m : Int)) = ((1 + m : Nat) : Int) := by rw [IntKind.wrap_i64]; omega
  obtain ⟨N, hN⟩ : ∃ N, 1 + m = N := ⟨_, rfl⟩
  rw [hN] at hw1
  have HN : Hid (Calls Tryz.prog 27 #[.int .i64 N] w fun e w' => ∃ s M, e = .returned (.tuple #[.pointer (some ⟨s, 0, none⟩), .int .i64 0]) ∧ StoreAt w' s N 0 (fun _ => 0) st0 M ∧ Below w.heap.size w w' ∧ ∀ k, M.own s N k → w.heap.size ≤ k) := new_yes N w (by omega) (by omega)
  go_wp2_with (first
    | (go_at_call 10; refine (pick_any _ _ _ (by omega) (by omega) (by omega) (by omega)).mono ?_; rintro e w' ⟨rfl, rfl⟩; rw [hm]))
  refine Calls.mono HN.out ?_
  rintro e w1 ⟨s, M, rfl, hS1, hb1, hO1⟩
  go_wp2_with fail
  refine Calls.mono (new_yes 1 w1 (by omega) (by omega)) ?_
  rintro e w2 ⟨y, My, rfl, hS2, hb2, hO2⟩
  have hbw2 : Below w'.heap.size w' w2 := hb1.trans (hb2.mono hb1.size)
  have hSy : Sto w'.heap.size w2 y 1 st0 My := ⟨HE.out.below hbw2, hS2, fun k hk => Nat.le_trans hb1.size (hO2 k hk)⟩
  have HDO : Hid (Calls Tryz.prog 11 #[.pointer (some ⟨y, 0, none⟩), .string ⟨#[80, 85, 84, 32, 47, 107, 13, 10, 13, 10, 97]⟩] w2 fun e w3 => e = .returned (.string ⟨#[50, 48, 49, 13, 10, 69, 84, 97, 103, 58, 32, 34, 97, 102, 54, 51, 100, 99, 52, 99, 56, 54, 48, 49, 101, 99, 56, 99, 34, 13, 10, 86, 101, 114, 115, 105, 111, 110, 58, 32, 49, 13, 10, 13, 10]⟩) ∧ Sto w'.heap.size w3 s N st0 M ∧ Off (fun k => w'.heap.size ≤ k) w' w3) := by
    have hd := do_sto reqY hSy (by decide) (by decide) (a := (ansF st0 reqY).1) (σ' := (ansF st0 reqY).2) rfl
    rw [HY.out] at hd
    refine hd.mono ?_
    rintro e w3 ⟨rfl, _, M', hS3, hO3, hP3⟩
    refine ⟨?_, ⟨hS3.env, (hS1.below hb2).off hO3 (fun k hk hk2 => ?_), hO1⟩, (Off.of_below hbw2).trans hP3⟩
    · show Ending.returned (.string ⟨(textF 201 [⟨eTag, qTag [97]⟩, ⟨versN, Lib.decDigits 1⟩] []).toArray⟩) = _
      rw [HTY.out]
      rfl
    · have h1 := hS1.own_lt hk
      have h2 := hO2 k hk2
      omega
  have HHH : Hid (w'.heap.size ≤ w1.heap.size) := hb1.size
  clear hS1 hS2 hb1 hb2 hO1 hO2 hbw2 hSy HN
  go_wp2_with fail
  refine Calls.mono HDO.out ?_
  rintro e w3 ⟨rfl, hS3, hO3⟩
  have HS3 : Hid _ := hS3
  have HO3 : Hid _ := hO3
  clear hS3 hO3 HDO
  go_wp2_with fail
  have hh := heap_alloc_new w3 (.cells (bookCells s (enO 0) (fun _ => .slice none 0 0) 0 0) 31)
  have hbk0 : BookAt (w3.alloc (.cells (bookCells s (enO 0) (fun _ => .slice none 0 0) 0 0) 31)) w3.heap.size s (enO 0) (fun _ => .slice none 0 0) 0 0 :=
    ⟨hh, fun i hi => ⟨rfl, Or.inl ⟨rfl, rfl⟩⟩, fun i j _ _ _ g hg => by cases hg⟩
  have hbX : Below w3.heap.size w3 (w3.alloc (.cells (bookCells s (enO 0) (fun _ => .slice none 0 0) 0 0) 31)) := (Below.refl _ _).alloc (Nat.le_refl _) _
  obtain ⟨X, hX⟩ : ∃ x, x = w3.alloc (.cells (bookCells s (enO 0) (fun _ => .slice none 0 0) 0 0) 31) := ⟨_, rfl⟩
  rw [← hX] at hbk0 hbX
  change Code.wp _ _ _ _ (w3.alloc (.cells (bookCells s (enO 0) (fun _ => .slice none 0 0) 0 0) 31))
  rw [← hX]
  clear hX hh
  have HBX : Hid _ := hbX
  have hB3 := HS3.out.env.sz
  obtain ⟨b, hbb⟩ : ∃ b, w3.heap.size = b := ⟨_, rfl⟩
  rw [hbb] at hbk0 ⊢
  go_loopw [8] (fun iv wr => ∃ k : Nat, k ≤ 5 ∧ iv = .int .i64 k ∧ BookAt wr b s (enO k) (fun _ => .slice none 0 0) 0 0 ∧ Off (fun q => q = b) X wr)
    (fun iv _ => 5 - (intOf iv).toNat)
  case atStart => exact ⟨0, by omega, rfl, hbk0, Off.refl _ _⟩
  case round =>
    obtain ⟨k, hk, rfl, hbk, hOk⟩ := hrel
    have hltb := hbk.lt
    have hfz := hbk.fz
    by_cases hk5 : k < 5
    · have HBK : Hid _ := hbk
      have HOK : Hid _ := hOk
      clear hbk hOk hbk0
      go_wp2_with fail
      go_region_held3 (fun _ => True) (first | trivial | go_keep) (first
        | (go_at_call 28
           refine (named_any k _ hk5).mono ?_
           rintro e w5 ⟨rfl, hb5⟩
           have f5 := (HBK.out.below (show Below wr.heap.size wr w5 from ⟨hb5.os, hb5.tape, hb5.output, hb5.size, hb5.block⟩)).fz
           have l5 := (HBK.out.below (show Below wr.heap.size wr w5 from ⟨hb5.os, hb5.tape, hb5.output, hb5.size, hb5.block⟩)).lt
           have c5 := ((HBK.out.below (show Below wr.heap.size wr w5 from ⟨hb5.os, hb5.tape, hb5.output, hb5.size, hb5.block⟩)).ck k hk5).1))
      go_wp2
      have hb6 : Below wr.heap.size wr w5 := ⟨hb5.os, hb5.tape, hb5.output, hb5.size, hb5.block⟩
      refine ⟨⟨k + 1, by omega, by go_num, ?_, (HOK.out.trans (Off.of_below hb6)).set b _ _ (Or.inl rfl)⟩, by simp [intOf]; omega⟩
      refine ((HBK.out.below hb6).set _ _ (bookCells_key _ _ _ _ _ (nmK k) k hk5) (fun j _ => by split <;> rfl)).ext (fun j hj => ⟨?_, rfl⟩)
      by_cases e : j = k
      · subst e
        simp [enO]
      · simp only [if_neg e, enO]
        have hjk : (j < k) = (j < k + 1) := propext (by omega)
        simp only [hjk]
    · obtain rfl : k = 5 := by omega
      have hST : Sto w'.heap.size wr s N st0 M := by
        refine ⟨(HS3.out.env.below (hbb ▸ HBX.out)).off (hOk.mono (fun q hq => by omega)), ((HS3.out.st.below (hbb ▸ HBX.out)).off hOk (fun q hq hq2 => ?_)), HS3.out.own⟩
        have := HS3.out.st.own_lt hq
        omega
      have HF : Hid (Bk w'.heap.size wr b s N st0 M (fun _ => .slice none 0 0) 0 0) := by
        refine ⟨hST, hbk.ext (fun j hj => ⟨enO_all j hj, rfl⟩), by omega, fun i _ g hg => (by cases hg), fun E hE => (by cases hE), Nat.zero_le _, Nat.zero_le _, fun i => Nat.le_refl _, Nat.le_refl _⟩
      have HOF : Hid (Below w'.heap.size w' wr) := by
        have h1 := (HO3.out.trans (Off.of_below (S := fun k => w'.heap.size ≤ k) (hbb ▸ HBX.out))).trans (hOk.mono (fun q hq => by omega))
        exact ⟨h1.os, h1.tape, h1.output, h1.size, fun q hq => h1.block q hq (by omega)⟩
      clear hbk hOk hbk0 hST
      go_wp2
      go_ret
      exact ⟨b, s, N, M, _, rfl, by omega, HF.out, HOF.out⟩
end Go.Proofs.YtmehkneofinmiabGreatDoor

namespace Go.Proofs.YtmehkneofinmiabGreatDoor
open Go.RowKit
structure Stp where
  k : Int
  a : Int
  b : Int
  c : Int
def Stp.ok (o : Stp) : Prop := I64 o.k ∧ I64 o.a ∧ I64 o.b ∧ I64 o.c
structure StpAt (w : World) (v : Value) (l : List Stp) : Prop where
  lie : ∃ o cap, v = .slice o l.length cap ∧ (0 < l.length → ∃ g off, o = some ⟨g, off, none⟩ ∧ g < w.heap.size ∧ ∀ j x, l[j]? = some x → w.cell? ⟨g, off + j * 4, none⟩ = some (.int .i64 x.k) ∧ w.cell? ⟨g, off + j * 4 + 1, none⟩ = some (.int .i64 x.a) ∧ w.cell? ⟨g, off + j * 4 + 2, none⟩ = some (.int .i64 x.b) ∧ w.cell? ⟨g, off + j * 4 + 3, none⟩ = some (.int .i64 x.c))
  num : ∀ x ∈ l, x.ok
  len : l.length ≤ 9223372036854775807
theorem StpAt.off {w x : World} {v : Value} {l : List Stp} {B : Nat} (h : StpAt w v l) (hB : w.heap.size ≤ B) (ho : Off (fun k => B ≤ k) w x) : StpAt x v l := by
  obtain ⟨o, cap, e, hc⟩ := h.lie
  refine ⟨⟨o, cap, e, fun h0 => ?_⟩, h.num, h.len⟩
  obtain ⟨g, off, e2, hg, hcc⟩ := hc h0
  refine ⟨g, off, e2, Nat.lt_of_lt_of_le hg ho.size, fun j y hy => ?_⟩
  have hb := ho.block g hg (by omega)
  have := hcc j y hy
  simp only [World.cell?] at this ⊢
  rw [hb]
  exact this
end Go.Proofs.YtmehkneofinmiabGreatDoor

namespace Go.Proofs.YtmehkneofinmiabGreatDoor
open Go.ChangeShapes Go.WideShapes Go.ChangeAt Go.RowKit
end Go.Proofs.YtmehkneofinmiabGreatDoor

namespace Go.Proofs.YtmehkneofinmiabGreatDoor
open Go.RowKit
theorem addB (a b : List UInt8) (h : a.length + b.length ≤ 100000000000) : ∀ w : World, (Op.stringOp .add ⟨a.toArray⟩ ⟨b.toArray⟩).run Tryz.prog w = .ok (.string ⟨(a ++ b).toArray⟩) w := by
  intro w
  have := run_string_add_sum (P := Tryz.prog) w ⟨a.toArray⟩ ⟨b.toArray⟩ (by simp [ByteArray.size]; omega)
  rw [mk_app] at this
  exact this
end Go.Proofs.YtmehkneofinmiabGreatDoor

namespace Go.Proofs.YtmehkneofinmiabGreatDoor
open Go.RowKit
def CodeR (T : List UInt8) (n : Int) : Prop := ∀ y : World, Calls Tryz.prog 14 #[.string ⟨T.toArray⟩] y fun e w' => e = .returned (.int .i64 n) ∧ w' = y
def AskR (s B : Nat) (R T : List UInt8) (I I' : World → Prop) : Prop := ∀ y, I y → Calls Tryz.prog 11 #[.pointer (some ⟨s, 0, none⟩), .string ⟨R.toArray⟩] y fun e w' => e = .returned (.string ⟨T.toArray⟩) ∧ I' w' ∧ Off (fun k => B ≤ k) y w'
end Go.Proofs.YtmehkneofinmiabGreatDoor

namespace Go.Proofs.YtmehkneofinmiabGreatDoor
open Go.RowKit
def cutAt (n : Nat) : Code → Option Code
  | .seq (.region id ops d) b => if id = n then some (.seq (.region id ops d) b) else cutAt n b
  | .seq a b => match cutAt n a with
    | some c => some c
    | none => cutAt n b
  | .loop c => cutAt n c
  | .block _ c => cutAt n c
  | .scope c => cutAt n c
  | .cond _ a b => match cutAt n a with
    | some c => some c
    | none => cutAt n b
  | _ => none
theorem seq_hid {P : Program} {x y : Code} {Q : Exit → Act → World → Prop} {a : Act} {w : World} (h : ∀ K : Act → World → Prop, Hid (∀ a w, y.wp P Q a w → K a w) → x.wp P (Exit.then K Q) a w) : (Code.seq x y).wp P Q a w := wp_seq_k h
end Go.Proofs.YtmehkneofinmiabGreatDoor

namespace Go.Proofs.YtmehkneofinmiabGreatDoor
open Go.RowKit
def lnP (t k : List UInt8) : List UInt8 := k ++ t ++ [10]
def bodyP (t : List UInt8) (ks : List (List UInt8)) : List UInt8 := ks.flatMap (lnP t)
def offP (t : List UInt8) (ks : List (List UInt8)) (j : Nat) : Nat := (bodyP t (ks.take j)).length
theorem bodyP_cut (t : List UInt8) {ks : List (List UInt8)} {j : Nat} {k : List UInt8} (h : ks[j]? = some k) : bodyP t ks = bodyP t (ks.take j) ++ (lnP t k ++ bodyP t (ks.drop (j + 1))) := by
  have hj := (List.getElem?_eq_some_iff.1 h)
  have e : ks = ks.take j ++ k :: ks.drop (j + 1) := by
    rw [← hj.2, List.getElem_cons_drop, List.take_append_drop]
  have : bodyP t ks = bodyP t (ks.take j ++ k :: ks.drop (j + 1)) := by rw [← e]
  rw [this]
  simp [bodyP]
theorem offP_succ (t : List UInt8) {ks : List (List UInt8)} {j : Nat} {k : List UInt8} (h : ks[j]? = some k) : offP t ks (j + 1) = offP t ks j + (k.length + t.length + 1) := by
  unfold offP
  rw [List.take_add_one, h]
  simp [bodyP, lnP]
  omega
theorem offP_le (t : List UInt8) (ks : List (List UInt8)) (j : Nat) : offP t ks j ≤ (bodyP t ks).length := by
  unfold offP
  have : bodyP t ks = bodyP t (ks.take j) ++ bodyP t (ks.drop j) := by
    unfold bodyP
    rw [← List.flatMap_append, List.take_append_drop]
  rw [this, List.length_append]
  omega
theorem offP_all (t : List UInt8) (ks : List (List UInt8)) : offP t ks ks.length = (bodyP t ks).length := by unfold offP; rw [List.take_length]
theorem bodyP_get (t : List UInt8) {ks : List (List UInt8)} {j : Nat} {k : List UInt8} (h : ks[j]? = some k) (r : Nat) (hr : r < k.length + t.length + 1) : (bodyP t ks)[offP t ks j + r]? = (lnP t k)[r]? := by
  rw [bodyP_cut t h, List.getElem?_append_right (by unfold offP; omega)]
  unfold offP
  rw [show (bodyP t (List.take j ks)).length + r - (bodyP t (List.take j ks)).length = r by omega, List.getElem?_append_left (by simp [lnP]; omega)]
theorem bodyP_key (t : List UInt8) {ks : List (List UInt8)} {j : Nat} {k : List UInt8} (h : ks[j]? = some k) : ((bodyP t ks).drop (offP t ks j)).take k.length = k := by
  rw [bodyP_cut t h]
  unfold offP
  rw [List.drop_left]
  simp [lnP]
theorem bodyP_len (t : List UInt8) (ks : List (List UInt8)) (h : ∀ k ∈ ks, k.length ≤ 40) : (bodyP t ks).length ≤ ks.length * (41 + t.length) := by
  induction ks with
  | nil => simp [bodyP]
  | cons a ks ih =>
    have h1 := ih (fun k hk => h k (List.mem_cons_of_mem _ hk))
    have h2 := h a List.mem_cons_self
    have e : (bodyP t (a :: ks)).length = a.length + t.length + 1 + (bodyP t ks).length := by simp [bodyP, lnP]; omega
    rw [e, List.length_cons, Nat.add_mul]
    omega
theorem lnP_end (t k : List UInt8) : (lnP t k)[k.length + t.length]? = some 10 := by
  unfold lnP
  rw [List.getElem?_append_right (by simp)]
  simp
theorem lnP_in (t k : List UInt8) (ht : ∀ c ∈ t, c ≠ 10) (hk : ∀ c ∈ k, c ≠ 10) (r : Nat) (hr : r < k.length + t.length) : ∃ c, (lnP t k)[r]? = some c ∧ c ≠ 10 := by
  unfold lnP
  rw [List.getElem?_append_left (by simp; omega)]
  obtain ⟨c, hc⟩ : ∃ c, (k ++ t)[r]? = some c := ⟨_, List.getElem?_eq_getElem (by simp; omega)⟩
  refine ⟨c, hc, ?_⟩
  rcases List.mem_append.1 (List.mem_of_getElem? hc) with h | h
  · exact hk c h
  · exact ht c h
theorem at_list2 (L : List UInt8) (j : Nat) (h : j < (⟨L.toArray⟩ : ByteArray).size) : (⟨L.toArray⟩ : ByteArray)[j] = L[j]'(by rw [Lib.size_eq] at h; simpa using h) := rfl
theorem ext_take2 (L : List UInt8) (j m : Nat) : ((⟨L.toArray⟩ : ByteArray).extract j (j + m)).data.toList = (L.drop j).take m := by
  rw [Lib.extract_data]
  simp
def lastP (l0 : List UInt8) (ks : List (List UInt8)) : Nat → List UInt8
  | 0 => l0
  | j + 1 => ks.getD j []
def BodyR (T L : List UInt8) : Prop := ∀ y : World, Calls Tryz.prog 15 #[.string ⟨T.toArray⟩] y fun e w' => e = .returned (.string ⟨L.toArray⟩) ∧ w' = y
def MoreR (T L : List UInt8) : Prop := ∀ y : World, Calls Tryz.prog 16 #[.string ⟨T.toArray⟩, .string ⟨#[77, 111, 114, 101]⟩] y fun e w' => e = .returned (.string ⟨L.toArray⟩) ∧ w' = y
structure Pgs (s B N : Nat) (t : List UInt8) (J : World → Prop) (np : Nat) (tg : Nat → List UInt8) (sn : Nat → Nat) (la : Nat → List UInt8) (ks : Nat → List (List UInt8)) (G mo : Nat → List UInt8) : Prop where
  np1 : 1 ≤ np
  np2 : np ≤ 2
  tg0 : tg 0 = [47]
  sn0 : sn 0 = 0
  la0 : la 0 = []
  tl : ∀ p, p < np → (tg p).length ≤ 100
  sb : ∀ p, p < np → sn p ≤ 100
  ask : ∀ p, p < np → AskR s B (reqB [71, 69, 84] (tg p) [] []) (G p) J J
  body : ∀ p, p < np → BodyR (G p) (bodyP t (ks p))
  code : ∀ p, p < np → CodeR (G p) 200
  more : ∀ p, p < np → MoreR (G p) (mo p)
  len : ∀ p, p < np → (ks p).length ≤ 50
  key : ∀ p, p < np → ∀ k ∈ ks p, 1 ≤ k.length ∧ k.length ≤ 40 ∧ ∀ c ∈ k, c ≠ 10
  ord : ∀ p, p < np → ∀ j k, (ks p)[j]? = some k → Op.bytesLess k (lastP (la p) (ks p) j) = false ∧ (k == lastP (la p) (ks p) j) = false
  nxt : ∀ p, p + 1 < np → mo p = lastP (la p) (ks p) (ks p).length ∧ mo p ≠ [] ∧ (ks p).length = 50 ∧ sn (p + 1) = sn p + 50 ∧ sn (p + 1) < N ∧ tg (p + 1) = [47, 63, 97, 102, 116, 101, 114, 61] ++ mo p ∧ la (p + 1) = mo p ∧ (mo p).length ≤ 40
  fin : ∀ p, p + 1 = np → mo p = [] ∧ sn p + (ks p).length = N
  tc : ∀ c ∈ t, c ≠ 10
  tl19 : t.length = 19
structure Psk (B b s n N : Nat) (K T : Nat → List UInt8) (I : Nat → World → Prop) (J : World → Prop) (TO : List UInt8) : Prop where
  bel : ∀ k y z, I k y → Below y.heap.size y z → I k z
  sz : ∀ k y, I k y → b < y.heap.size
  c0 : ∀ k y, I k y → y.cell? ⟨b, 0, none⟩ = some (.pointer (some ⟨s, 0, none⟩))
  belJ : ∀ y z, J y → Below y.heap.size y z → J z
  szJ : ∀ y, J y → b < y.heap.size
  cJ : ∀ y, J y → y.cell? ⟨b, 0, none⟩ = some (.pointer (some ⟨s, 0, none⟩))
  kl : ∀ k, k < n → (K k).length ≤ 40
  itoa : ∀ k, k < n → ∀ y, I k y → Calls Tryz.prog 13 #[.int .i64 (1000 + (k * 37) % 60 : Nat)] y fun e w' => e = .returned (.string ⟨(K k).toArray⟩) ∧ Below y.heap.size y w'
  ask : ∀ k, k < n → AskR s B (reqB [80, 85, 84] (47 :: K k) [] []) (T k) (I k) (I (k + 1))
  code : ∀ k, k < n → CodeR (T k) 201
  one : AskR s B (reqB [80, 85, 84] [47, 111, 110, 101, 45, 109, 111, 114, 101] [] []) TO (I n) J
  oc : (n = 60 ∧ CodeR TO 507 ∧ N = 60) ∨ (n < 60 ∧ CodeR TO 201 ∧ N = n + 1)
noncomputable def pagedTail : Code := (Tryz.f3.body.bind (cutAt 16)).getD .skip
end Go.Proofs.YtmehkneofinmiabGreatDoor

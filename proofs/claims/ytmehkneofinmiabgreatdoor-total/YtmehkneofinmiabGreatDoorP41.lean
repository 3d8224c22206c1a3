/-
  Texts of this proof, part 41.
-/
import Derived.Test.YtmehkneofinmiabGreatDoorP40
import Derived.Test.YtmehkneofinmiabGreatDoorP27
import Derived.Deep.Slices
import Derived.ChangeArms
import Derived.OpenShut
import Derived.ProofKit
namespace Go.Proofs.YtmehkneofinmiabGreatDoor
open Go.RowKit
def reqY : List UInt8 := [80, 85, 84, 32, 47, 107, 13, 10, 13, 10, 97]
def ansY : List UInt8 := [50, 48, 49, 13, 10, 69, 84, 97, 103, 58, 32, 34, 97, 102, 54, 51, 100, 99, 52, 99, 56, 54, 48, 49, 101, 99, 56, 99, 34, 13, 10, 86, 101, 114, 115, 105, 111, 110, 58, 32, 49, 13, 10, 13, 10]
theorem ans_y : (ansF st0 reqY).1 = ⟨201, [⟨eTag, qTag [97]⟩, ⟨versN, Lib.decDigits 1⟩], []⟩ := by
  have hr : readF reqY = .ok (2, ⟨1, [107], 0⟩, k0, [97]) := read_put0 (key := [107]) (what := [97]) (by decide) (by decide)
  rw [put_done hr (by rw [condF0]) (by decide) (Or.inr (by decide))]
  rfl
theorem text_y : textF 201 [⟨eTag, qTag [97]⟩, ⟨versN, Lib.decDigits 1⟩] [] = ansY := by kernel_rfl
theorem StoreAt.own_lt {w : World} {s n : Nat} {rd : Int} {lk : Nat → Int} {σ : St} {M : Mem} (h : StoreAt w s n rd lk σ M) {k : Nat} (hk : M.own s n k) : k < w.heap.size := by
  have lt : ∀ {k : Nat} {o : Obj}, w.heap[k]? = some o → k < w.heap.size := fun h => (Array.getElem?_eq_some_iff.1 h).1
  rcases hk with rfl | rfl | ⟨i, hi, hb⟩ | ⟨i, hi, hb⟩ | ⟨i, p, hi, hp, hb⟩ | hb
  · exact lt h.blk
  · obtain ⟨cs, hc, _⟩ := h.row
    exact lt hc
  · obtain ⟨c, hc⟩ := own_block (h.kt i hi).k.row hb
    exact lt hc
  · exact lt (h.ent i hi k hb).blk
  · obtain ⟨c, hc⟩ := own_block (h.ent i hi p hp).row hb
    exact lt hc
  · obtain ⟨c, hc⟩ := own_block h.jrn hb
    exact lt hc
theorem bookCells_key (s : Nat) (en : Nat → Ent) (vs : Nat → Value) (t d : Nat) (K : List UInt8) : ∀ i, i < 5 → (bookCells s en vs t d).setIfInBounds (1 + i * 3) (.string ⟨K.toArray⟩) = bookCells s (fun j => if j = i then ⟨K, (en j).last, (en j).vers⟩ else en j) vs t d := by
  refine five ?_ ?_ ?_ ?_ ?_ <;> simp [bookCells]
def enO (k : Nat) (j : Nat) : Ent := ⟨if j < k then nmK j else [], 0, []⟩
theorem enO_all (j : Nat) (hj : j < 5) : enO 5 j = enK st0 j := by
  simp [enO, enK, st0, findE, hj]
set_option maxRecDepth 100000 in
set_option maxHeartbeats 8000000 in
theorem opened_any (x : Int) (w : World) (hM : MaxIs w) (hT : Tbl w) (ix0 : -9223372036854775808 ≤ x) (ix1 : x ≤ 9223372036854775807) :
    Calls Tryz.prog 9 #[.int .i64 x] w fun e w' => ∃ b s n M vs, e = .returned (.pointer (some ⟨b, 0, none⟩)) ∧ n = 1 + (pk x 8).toNat ∧ Bk w.heap.size w' b s n st0 M vs 0 0 ∧ Below w.heap.size w w' := by
  have p8 := pk_bd x 8 (by omega)
  obtain ⟨m, hm⟩ : ∃ n : Nat, pk x 8 = n := ⟨(pk x 8).toNat, by omega⟩
  have hm8 : m < 8 := by omega
  have hme : (1 : Int) + (m : Int) = ((1 + m : Nat) : Int) := by omega
  have HE : Hid _ := Env.made hM hT
  have HY : Hid _ := ans_y
  have HTY : Hid _ := text_y
  go_enter Tryz.func9, Tryz.ntmps9
  have hw1 : IntKind.i64.wrap (1 + (m : Int)) = ((1 + m : Nat) : Int) := by rw [IntKind.wrap_i64]; omega
  obtain ⟨N, hN⟩ : ∃ N, 1 + m = N := ⟨_, rfl⟩
  rw [hN] at hw1
  have HN : Hid (Calls Tryz.prog 27 #[.int .i64 N] w fun e w' => ∃ s M, e = .returned (.tuple #[.pointer (some ⟨s, 0, none⟩), .int .i64 0]) ∧ StoreAt w' s N 0 (fun _ => 0) st0 M ∧ Below w.heap.size w w' ∧ ∀ k, M.own s N k → w.heap.size ≤ k) := new_yes N w (by omega) (by omega)
  go_wp2_with (first
    | (go_at_call 10; refine (pick_any _ _ _ (by omega) (by omega) (by omega) (by omega)).mono ?_; rintro e w' ⟨rfl, rfl⟩; rw [hm]))
  refine Calls.mono HN.out ?_
  rintro e w1 ⟨s, M, rfl, hS1, hb1, hO1⟩
  go_wp2_with fail
  refine Calls.mono (new_yes 1 w1 (by omega) (by omega)) ?_
  rintro e w2 ⟨y, My, rfl, hS2, hb2, hO2⟩
  have hbw2 : Below w'.heap.size w' w2 := hb1.trans (hb2.mono hb1.size)
  have hSy : Sto w'.heap.size w2 y 1 st0 My := ⟨HE.out.below hbw2, hS2, fun k hk => Nat.le_trans hb1.size (hO2 k hk)⟩
  have HDO : Hid (Calls Tryz.prog 11 #[.pointer (some ⟨y, 0, none⟩), .string ⟨#[80, 85, 84, 32, 47, 107, 13, 10, 13, 10, 97]⟩] w2 fun e w3 => e = .returned (.string ⟨#[50, 48, 49, 13, 10, 69, 84, 97, 103, 58, 32, 34, 97, 102, 54, 51, 100, 99, 52, 99, 56, 54, 48, 49, 101, 99, 56, 99, 34, 13, 10, 86, 101, 114, 115, 105, 111, 110, 58, 32, 49, 13, 10, 13, 10]⟩) ∧ Sto w'.heap.size w3 s N st0 M ∧ Off (fun k => w'.heap.size ≤ k) w' w3) := by
    have hd := do_sto reqY hSy (by decide) (by decide) (a := (ansF st0 reqY).1) (σ' := (ansF st0 reqY).2) rfl
    rw [HY.out] at hd
    refine hd.mono ?_
    rintro e w3 ⟨rfl, _, M', hS3, hO3, hP3⟩
    refine ⟨?_, ⟨hS3.env, (hS1.below hb2).off hO3 (fun k hk hk2 => ?_), hO1⟩, (Off.of_below hbw2).trans hP3⟩
    · show Ending.returned (.string ⟨(textF 201 [⟨eTag, qTag [97]⟩, ⟨versN, Lib.decDigits 1⟩] []).toArray⟩) = _
      rw [HTY.out]
      rfl
    · have h1 := hS1.own_lt hk
      have h2 := hO2 k hk2
      omega
  have HHH : Hid (w'.heap.size ≤ w1.heap.size) := hb1.size
  clear hS1 hS2 hb1 hb2 hO1 hO2 hbw2 hSy HN
  go_wp2_with fail
  refine Calls.mono HDO.out ?_
  rintro e w3 ⟨rfl, hS3, hO3⟩
  have HS3 : Hid _ := hS3
  have HO3 : Hid _ := hO3
  clear hS3 hO3 HDO
  go_wp2_with fail
  have hh := heap_alloc_new w3 (.cells (bookCells s (enO 0) (fun _ => .slice none 0 0) 0 0) 31)
  have hbk0 : BookAt (w3.alloc (.cells (bookCells s (enO 0) (fun _ => .slice none 0 0) 0 0) 31)) w3.heap.size s (enO 0) (fun _ => .slice none 0 0) 0 0 :=
    ⟨hh, fun i hi => ⟨rfl, Or.inl ⟨rfl, rfl⟩⟩, fun i j _ _ _ g hg => by cases hg⟩
  have hbX : Below w3.heap.size w3 (w3.alloc (.cells (bookCells s (enO 0) (fun _ => .slice none 0 0) 0 0) 31)) := (Below.refl _ _).alloc (Nat.le_refl _) _
  obtain ⟨X, hX⟩ : ∃ x, x = w3.alloc (.cells (bookCells s (enO 0) (fun _ => .slice none 0 0) 0 0) 31) := ⟨_, rfl⟩
  rw [← hX] at hbk0 hbX
  change Code.wp _ _ _ _ (w3.alloc (.cells (bookCells s (enO 0) (fun _ => .slice none 0 0) 0 0) 31))
  rw [← hX]
  clear hX hh
  have HBX : Hid _ := hbX
  have hB3 := HS3.out.env.sz
  obtain ⟨b, hbb⟩ : ∃ b, w3.heap.size = b := ⟨_, rfl⟩
  rw [hbb] at hbk0 ⊢
  go_loopw [8] (fun iv wr => ∃ k : Nat, k ≤ 5 ∧ iv = .int .i64 k ∧ BookAt wr b s (enO k) (fun _ => .slice none 0 0) 0 0 ∧ Off (fun q => q = b) X wr)
    (fun iv _ => 5 - (intOf iv).toNat)
  case atStart => exact ⟨0, by omega, rfl, hbk0, Off.refl _ _⟩
  case round =>
    obtain ⟨k, hk, rfl, hbk, hOk⟩ := hrel
    have hltb := hbk.lt
    have hfz := hbk.fz
    by_cases hk5 : k < 5
    · have HBK : Hid _ := hbk
      have HOK : Hid _ := hOk
      clear hbk hOk hbk0
      go_wp2_with fail
      go_region_held3 (fun _ => True) (first | trivial | go_keep) (first
        | (go_at_call 28
           refine (named_any k _ hk5).mono ?_
           rintro e w5 ⟨rfl, hb5⟩
           have f5 := (HBK.out.below (show Below wr.heap.size wr w5 from ⟨hb5.os, hb5.tape, hb5.output, hb5.size, hb5.block⟩)).fz
           have l5 := (HBK.out.below (show Below wr.heap.size wr w5 from ⟨hb5.os, hb5.tape, hb5.output, hb5.size, hb5.block⟩)).lt
           have c5 := ((HBK.out.below (show Below wr.heap.size wr w5 from ⟨hb5.os, hb5.tape, hb5.output, hb5.size, hb5.block⟩)).ck k hk5).1))
      go_wp2
      have hb6 : Below wr.heap.size wr w5 := ⟨hb5.os, hb5.tape, hb5.output, hb5.size, hb5.block⟩
      refine ⟨⟨k + 1, by omega, by go_num, ?_, (HOK.out.trans (Off.of_below hb6)).set b _ _ (Or.inl rfl)⟩, by simp [intOf]; omega⟩
      refine ((HBK.out.below hb6).set _ _ (bookCells_key _ _ _ _ _ (nmK k) k hk5) (fun j _ => by split <;> rfl)).ext (fun j hj => ⟨?_, rfl⟩)
      by_cases e : j = k
      · subst e
        simp [enO]
      · simp only [if_neg e, enO]
        have hjk : (j < k) = (j < k + 1) := propext (by omega)
        simp only [hjk]
    · obtain rfl : k = 5 := by omega
      have hST : Sto w'.heap.size wr s N st0 M := by
        refine ⟨(HS3.out.env.below (hbb ▸ HBX.out)).off (hOk.mono (fun q hq => by omega)), ((HS3.out.st.below (hbb ▸ HBX.out)).off hOk (fun q hq hq2 => ?_)), HS3.out.own⟩
        have := HS3.out.st.own_lt hq
        omega
      have HF : Hid (Bk w'.heap.size wr b s N st0 M (fun _ => .slice none 0 0) 0 0) := by
        refine ⟨hST, hbk.ext (fun j hj => ⟨enO_all j hj, rfl⟩), by omega, fun i _ g hg => (by cases hg), fun E hE => (by cases hE), Nat.zero_le _, Nat.zero_le _, fun i => Nat.le_refl _, Nat.le_refl _⟩
      have HOF : Hid (Below w'.heap.size w' wr) := by
        have h1 := (HO3.out.trans (Off.of_below (S := fun k => w'.heap.size ≤ k) (hbb ▸ HBX.out))).trans (hOk.mono (fun q hq => by omega))
        exact ⟨h1.os, h1.tape, h1.output, h1.size, fun q hq => h1.block q hq (by omega)⟩
      clear hbk hOk hbk0 hST
      go_wp2
      go_ret
      exact ⟨b, s, N, M, _, rfl, by omega, HF.out, HOF.out⟩
end Go.Proofs.YtmehkneofinmiabGreatDoor

namespace Go.Proofs.YtmehkneofinmiabGreatDoor
open Go.RowKit
structure Stp where
  k : Int
  a : Int
  b : Int
  c : Int
def Stp.ok (o : Stp) : Prop := I64 o.k ∧ I64 o.a ∧ I64 o.b ∧ I64 o.c
structure StpAt (w : World) (v : Value) (l : List Stp) : Prop where
  lie : ∃ o cap, v = .slice o l.length cap ∧ (0 < l.length → ∃ g off, o = some ⟨g, off, none⟩ ∧ g < w.heap.size ∧ ∀ j x, l[j]? = some x → w.cell? ⟨g, off + j * 4, none⟩ = some (.int .i64 x.k) ∧ w.cell? ⟨g, off + j * 4 + 1, none⟩ = some (.int .i64 x.a) ∧ w.cell? ⟨g, off + j * 4 + 2, none⟩ = some (.int .i64 x.b) ∧ w.cell? ⟨g, off + j * 4 + 3, none⟩ = some (.int .i64 x.c))
  num : ∀ x ∈ l, x.ok
  len : l.length ≤ 9223372036854775807
theorem StpAt.off {w x : World} {v : Value} {l : List Stp} {B : Nat} (h : StpAt w v l) (hB : w.heap.size ≤ B) (ho : Off (fun k => B ≤ k) w x) : StpAt x v l := by
  obtain ⟨o, cap, e, hc⟩ := h.lie
  refine ⟨⟨o, cap, e, fun h0 => ?_⟩, h.num, h.len⟩
  obtain ⟨g, off, e2, hg, hcc⟩ := hc h0
  refine ⟨g, off, e2, Nat.lt_of_lt_of_le hg ho.size, fun j y hy => ?_⟩
  have hb := ho.block g hg (by omega)
  have := hcc j y hy
  simp only [World.cell?] at this ⊢
  rw [hb]
  exact this
end Go.Proofs.YtmehkneofinmiabGreatDoor

namespace Go.Proofs.YtmehkneofinmiabGreatDoor
open Go.ChangeShapes Go.WideShapes Go.ChangeAt Go.RowKit
end Go.Proofs.YtmehkneofinmiabGreatDoor

namespace Go.Proofs.YtmehkneofinmiabGreatDoor
open Go.RowKit
abbrev bookP (s : Nat) : Value := .iface 219 (.agg #[.pointer (some ⟨s, 7, none⟩)])
set_option maxRecDepth 100000 in
set_option maxHeartbeats 2000000 in
theorem penter_any (b : Nat) (cs : Array Value) (kc : Int) (t0 t kd n : Nat) (key body : List UInt8) (jr : Value) (J : List UInt8) (w : World)
    (hb : w.heap[b]? = some (.cells cs 99 (0, 0))) (h0 : cs[7]? = some (.int .i32 0)) (h2 : cs[9]? = some (.int .i64 t0)) (h3 : cs[10]? = some (.int .i64 kc)) (h4 : cs[11]? = some jr) (hj : Byt w 0 jr J) (hjb : jr.ownBlock ≠ some b)
    (hk : kd < 256) (ht0 : t0 ≤ t) (ht : t ≤ 253402300799) (hn : n < 9223372036854775807) (hkl : key.length < 100000) (hbl : body.length < 100000) (hJ : J.length < 140000000000000) :
    Calls Tryz.prog 305 #[.agg #[.pointer (some ⟨b, 7, none⟩)], recA kd t key n body] w fun e w' => e = .returned (.int .i64 t) ∧
      ∃ jr', w'.heap[b]? = some (.cells ((cs.setIfInBounds 9 (.int .i64 t)).setIfInBounds 11 jr') 99 (0, 0)) ∧ Byt w' 0 jr' (J ++ recF kd t key n body) ∧ (jr'.ownBlock = jr.ownBlock ∨ ∃ g, jr'.ownBlock = some g ∧ w.heap.size ≤ g) ∧ Off (fun k => k = b ∨ jr.ownBlock = some k) w w' := by
  go_enter Tryz.func305, Tryz.ntmps305
  go_wp2_with fail
  obtain ⟨X, hX⟩ : ∃ X, X = (w.alloc (.cells #[.pointer (some ⟨b, 7, none⟩)] 219)).alloc (.cells #[.int .u8 kd, .int .i64 t, .string ⟨key.toArray⟩, .int .i64 n, .string ⟨body.toArray⟩] 108) := ⟨_, rfl⟩
  rw [← hX]
  have hbl' : b < w.heap.size := (Array.getElem?_eq_some_iff.1 hb).1
  have hlow : Below w.heap.size w X := by rw [hX]; exact ((Below.refl _ _).alloc (Nat.le_refl _) _).alloc (by simp) _
  have hp0 : X.heap[w.heap.size]? = some (.cells #[.pointer (some ⟨b, 7, none⟩)] 219 (0, 0)) := by rw [hX]; exact (heap_alloc_old _ _ (by simp)).trans (heap_alloc_new _ _)
  have hr0 : X.heap[w.heap.size + 1]? = some (.cells #[.int .u8 kd, .int .i64 t, .string ⟨key.toArray⟩, .int .i64 n, .string ⟨body.toArray⟩] 108 (0, 0)) := by
    rw [hX]
    have := heap_alloc_new (w.alloc (.cells #[.pointer (some ⟨b, 7, none⟩)] 219)) (.cells #[.int .u8 kd, .int .i64 t, .string ⟨key.toArray⟩, .int .i64 n, .string ⟨body.toArray⟩] 108)
    simpa using this
  have hbX : X.heap[b]? = some (.cells cs 99 (0, 0)) := (hlow.block b hbl').trans hb
  have HJX : Hid (Byt X 0 jr J) := Byt.below (base := 0) hj hlow
  have HC : Hid (Cmn X.drew b 7 t0 kc) := cmn_of hbX h0 h2 h3
  have HBX : Hid _ := hbX
  have HP0 : Hid _ := hp0
  have HR0 : Hid _ := hr0
  have HLX : Hid _ := hlow
  have lX : w.heap.size + 1 < X.heap.size := (Array.getElem?_eq_some_iff.1 hr0).1
  have sX : X.cell? ⟨w.heap.size, 0, none⟩ = some (.pointer (some ⟨b, 7, none⟩)) ∧ X.cell? ⟨w.heap.size + 1, 1, none⟩ = some (.int .i64 t) := ⟨by simp [World.cell?, hp0], by simp [World.cell?, hr0]⟩
  clear hX hlow hp0 hr0 hbX hj hb
  have hwt : IntKind.i64.wrap ((t : Int) - (t0 : Int)) = (t : Int) - (t0 : Int) := by rw [IntKind.wrap_i64]; omega
  have hwt2 : (t0 : Int) + ((t : Int) - (t0 : Int)) = (t : Int) := by omega
  go_region_held3 (fun y => y.cell? ⟨w.heap.size, 0, none⟩ = some (.pointer (some ⟨b, 7, none⟩)) ∧ y.cell? ⟨w.heap.size + 1, 1, none⟩ = some (.int .i64 t)) (first | assumption | go_keep) (first
    | (go_at_call 45
       refine Calls.mono (now_any b 7 t0 kc _ HC.out) ?_
       rintro e w2 ⟨rfl, rfl⟩)
    | (go_at_call 46
       refine Calls.mono (pass_yes b 7 t0 kc _ _ HC.out (by omega) (by omega) (by omega) (by omega)) ?_
       rintro e w3 ⟨rfl, e3⟩
       have hO3 : Off (fun k => k = b) X w3 := by rw [e3]; exact (Off.refl (fun k => k = b) X).drew.set b 9 _ (Or.inl rfl)
       have hb3 : w3.heap[b]? = some (.cells (cs.setIfInBounds 9 (.int .i64 t)) 99 (0, 0)) := by rw [e3, hwt2]; exact heap_set HBX.out
       have hp3 := (hO3.block _ (by omega) (by omega)).trans HP0.out
       have hr3 := (hO3.block _ lX (by omega)).trans HR0.out
       have s3 : w3.cell? ⟨w.heap.size, 0, none⟩ = some (.pointer (some ⟨b, 7, none⟩)) ∧ w3.cell? ⟨w.heap.size + 1, 1, none⟩ = some (.int .i64 t) := ⟨by simp [World.cell?, hp3], by simp [World.cell?, hr3]⟩
       clear e3))
  have HJ3 : Hid (Byt w3 0 jr J) := Byt.off (base := 0) HJX.out hO3 (fun g hg e => hjb (e ▸ hg))
  have HB3 : Hid _ := hb3
  have HO3 : Hid (Off (fun k => k = b ∨ jr.ownBlock = some k) w w3) := (Off.of_below HLX.out).trans' hO3 (fun k _ h => Or.inl h)
  have h73 : (cs.setIfInBounds 9 (.int .i64 t))[7]? = some (.int .i32 0) := by rw [Array.getElem?_setIfInBounds_ne (by omega)]; exact h0
  have h93 : (cs.setIfInBounds 9 (.int .i64 t))[9]? = some (.int .i64 t) := by
    have : 9 < cs.size := (Array.getElem?_eq_some_iff.1 h2).1
    simp [this]
  have h113 : (cs.setIfInBounds 9 (.int .i64 t))[11]? = some jr := by rw [Array.getElem?_setIfInBounds_ne (by omega)]; exact h4
  have p0 := s3.1
  have r0 : w3.cell? ⟨w.heap.size + 1, 0, none⟩ = some (.int .u8 kd) := by simp [World.cell?, hr3]
  have r1 := s3.2
  have r2 : w3.cell? ⟨w.heap.size + 1, 2, none⟩ = some (.string ⟨key.toArray⟩) := by simp [World.cell?, hr3]
  have r3 : w3.cell? ⟨w.heap.size + 1, 3, none⟩ = some (.int .i64 n) := by simp [World.cell?, hr3]
  have r4 : w3.cell? ⟨w.heap.size + 1, 4, none⟩ = some (.string ⟨body.toArray⟩) := by simp [World.cell?, hr3]
  have HSZ : Hid (w.heap.size ≤ w3.heap.size) := Nat.le_trans HLX.out.size hO3.size
  clear hO3 hb3 hp3 hr3 s3 sX HC HBX HP0 HR0 HLX lX HJX hwt hwt2
  go_wp2_with fail
  refine (enter_any b 7 _ 99 t kd t n key body jr J _ HB3.out h73 h93 h113 HJ3.out hjb hk (by omega) hn hkl hbl hJ).mono ?_
  rintro e w4 ⟨rfl, jr', hs4, hj4, ha4, ho4⟩
  have H1 : Hid _ := hs4
  have H2 : Hid _ := hj4
  have H3 : Hid (jr'.ownBlock = jr.ownBlock ∨ ∃ g, jr'.ownBlock = some g ∧ w.heap.size ≤ g) := ha4.imp_right (fun ⟨g, h1, h2⟩ => ⟨g, h1, Nat.le_trans HSZ.out h2⟩)
  have H4 : Hid _ := HO3.out.trans ho4
  clear hs4 hj4 ha4 ho4
  go_wp2_with fail
  go_ret
  exact ⟨rfl, jr', H1.out, H2.out, H3.out, H4.out⟩
end Go.Proofs.YtmehkneofinmiabGreatDoor

/-
  The walks of FormatUint at the base 16.
-/
import Derived.Test.YtmehkneofinmiaaDoorH1
import Derived.Lib.ConvBytes
import Derived.Laws.IdiomStrings
namespace Go.Proofs.YtmehkneofinmiaaDoor
open Go.RowKit

/-- the library's table of trailing noughts, at the place of 16 -/
def Tz (w : World) : Prop := w.cell? ⟨5, 15, none⟩ = some (.int .u8 4)
theorem Tz.below {w w' : World} (h : Tz w) (hb : Below w.heap.size w w') : Tz w' := (hb.cell (p := ⟨5, 15, none⟩) (World.block_lt_of_cell? _ _ h)).trans h

set_option maxHeartbeats 400000 in
theorem pow2_16 (w : World) : Calls Tryd.prog 87 #[.int .i64 16] w fun e w' => e = .returned (.bool true) ∧ w' = w := by
  go_enter Tryd.func87, Tryd.ntmps87
  go_wp2
  go_ret
  exact ⟨rfl, rfl⟩
set_option maxHeartbeats 400000 in
theorem tz64_16 (w : World) (h : Tz w) : Calls Tryd.prog 98 #[.int .u64 16] w fun e w' => e = .returned (.int .i64 4) ∧ w' = w := by
  unfold Tz at h
  have e4 : IntKind.u64.wrap (bits .and .u64 16 (IntKind.u64.wrap (-16)) * 285870213051353865) / 288230376151711744 = 15 := by decide +kernel
  go_enter Tryd.func98, Tryd.ntmps98
  go_wp2
  go_ret
  exact ⟨rfl, rfl⟩
set_option maxHeartbeats 400000 in
theorem tz_16 (w : World) (h : Tz w) : Calls Tryd.prog 88 #[.int .u64 16] w fun e w' => e = .returned (.int .i64 4) ∧ w' = w := by
  go_enter Tryd.func88, Tryd.ntmps88
  go_wp2_with fail
  refine (tz64_16 _ h).mono ?_
  rintro e w1 ⟨rfl, rfl⟩
  go_wp2
  go_ret
  exact ⟨rfl, rfl⟩

def digs : ByteArray := ⟨#[48, 49, 50, 51, 52, 53, 54, 55, 56, 57, 97, 98, 99, 100, 101, 102, 103, 104, 105, 106, 107, 108, 109, 110, 111, 112, 113, 114, 115, 116, 117, 118, 119, 120, 121, 122]⟩
theorem digs_at : ∀ k : Fin 16, digs[k.val]'(by have : digs.size = 36 := rfl; omega) = hexD k.val := by decide
theorem digs_run (k : Nat) (h : k < 16) (w : World) : (Instr.index 9 (.string digs) (.int .u64 (k : Int))).run Tryd.prog w = .ok (.int .u8 ((hexD k).toNat : Int)) w := by
  have hd : digs.size = 36 := rfl
  rw [run_index_string _ 9 digs .u64 k Tryd.underlying9, dif_pos ⟨by omega, by rw [hd]; omega⟩]
  exact congrArg (fun z : UInt8 => Result.ok (Value.int .u8 (z.toNat : Int)) w) (digs_at ⟨k, h⟩)

/-- The row of digits, filled from its end. -/
structure Ar (w x : World) (D : List UInt8) : Prop where
  b : Below w.heap.size w x
  c : ∀ j, j < 65 → ∃ v : UInt8, x.cell? ⟨w.heap.size, j, none⟩ = some (.int .u8 (v.toNat : Int))
  d : ∀ j, j < D.length → x.cell? ⟨w.heap.size, 65 - D.length + j, none⟩ = some (.int .u8 ((D.getD j 0).toNat : Int))
  f : ∀ j, j < 65 → x.frozen? ⟨w.heap.size, j, none⟩ = false
  lt : w.heap.size < x.heap.size
theorem Ar.push {w x : World} {D : List UInt8} (h : Ar w x D) (c : UInt8) (hD : D.length < 65) : Ar w (x.setCell ⟨w.heap.size, 64 - D.length, none⟩ (.int .u8 (c.toNat : Int))) (c :: D) := by
  obtain ⟨v, hv⟩ := h.c (64 - D.length) (by omega)
  have same := World.cell?_setCell_same x ⟨w.heap.size, 64 - D.length, none⟩ (.int .u8 (c.toNat : Int)) hv
  have other : ∀ j, j ≠ 64 - D.length → (x.setCell ⟨w.heap.size, 64 - D.length, none⟩ (.int .u8 (c.toNat : Int))).cell? ⟨w.heap.size, j, none⟩ = x.cell? ⟨w.heap.size, j, none⟩ := fun j hj =>
    World.cell?_setCell_other _ _ _ _ (by intro e; injection e; omega)
  refine ⟨h.b.setCell (Nat.le_refl _) _, fun j hj => ?_, fun j hj => ?_, fun j hj => ?_, ?_⟩
  · by_cases e : j = 64 - D.length
    · rw [e]; exact ⟨c, same⟩
    · rw [other j e]; exact h.c j hj
  · cases j with
    | zero =>
      rw [show 65 - (c :: D).length + 0 = 64 - D.length by simp]
      exact same
    | succ j =>
      have hj' : j < D.length := by simpa using hj
      rw [show 65 - (c :: D).length + (j + 1) = 65 - D.length + j by simp; omega, other _ (by omega), h.d j hj']
      simp
  · rw [World.frozen?_setCell]
    exact h.f j hj
  · simpa [World.setCell] using h.lt
theorem Ar.text {w x : World} {D : List UInt8} (h : Ar w x D) (n cp : Nat) (hn : n = D.length) : (convert 37 9 (.slice (some ⟨w.heap.size, 65 - D.length, none⟩) n cp)).run Tryd.prog x = .ok (.string ⟨D.toArray⟩) x := by
  subst hn
  exact run_convert_bytes_back (P := Tryd.prog) x 37 9 5 ⟨w.heap.size, 65 - D.length, none⟩ cp D Tryd.underlying37 Tryd.underlying5 Tryd.underlying9 (fun j hj => by
    rw [Go.WideShapes.add_plain, h.d j hj]
    rw [List.getD, List.getElem?_eq_getElem hj]
    rfl)

theorem zero105 : Tryd.zeroCells105 = Array.replicate 65 (.int .u8 0) := by kernel_rfl
theorem Ar.made (w : World) : Ar w (w.alloc (.cells Tryd.zeroCells105 105)) [] := by
  refine ⟨(Below.refl _ _).alloc (Nat.le_refl _) _, fun j hj => ⟨0, ?_⟩, fun j hj => absurd hj (by simp), fun j hj => ?_, by simp⟩
  · rw [zero105]
    simp [hj]
  · rw [zero105]
    simp
theorem slice65 (W : World) (g j : Nat) (h : j < 65) : (Instr.sliceAt 105 (.pointer (some ⟨g, 0, none⟩)) (some (.int .i64 (j : Int))) none none).run Tryd.prog W = .ok (.slice (some ⟨g, j, none⟩) (65 - j) (65 - j)) W := by
  have hu : Tryd.prog.underlying 105 = some (.array (Tryd.prog.arrayLen 105) (Tryd.prog.elem 105)) := by kernel_rfl
  have hl : Tryd.prog.arrayLen 105 = 65 := by kernel_rfl
  have he : Tryd.prog.elem 105 = 5 := by kernel_rfl
  rw [run_sliceAt_array_l W 105 ⟨g, 0, none⟩ hu .i64 (j : Int) (by omega) (by rw [hl]; omega), hl, he, Tryd.sizeOf5]
  simp only [Result.andThen, slicedAt, Int.toNat_natCast, Nat.mul_one]
  rw [if_neg (by omega), Go.WideShapes.add_plain, Nat.zero_add]
theorem and15 (u : Nat) (h : u < 18446744073709551616) : bits .and .u64 (u : Int) 15 = ((u % 16 : Nat) : Int) := by
  have := u64_and_nat u 15 h (by omega)
  rw [show (u &&& 15 : Nat) = u % 16 from Nat.and_two_pow_sub_one_eq_mod u 4] at this
  exact this

set_option maxRecDepth 100000 in
set_option maxHeartbeats 1000000 in
theorem formatBits_16 (U : Nat) (w : World) (hU : U < 18446744073709551616) (h : Tz w) : Calls Tryd.prog 73 #[.slice none 0 0, .int .u64 (U : Int), .int .i64 16, .bool false, .bool false] w fun e w' => e = .returned (.tuple #[.slice none 0 0, .string ⟨(hexM 16 U).toArray⟩]) ∧ Below w.heap.size w w' := by
  go_enter Tryd.func73, Tryd.ntmps73
  go_wp2_with fail
  refine (pow2_16 _).mono ?_
  rintro e w1 ⟨rfl, hw1⟩
  have ar1 : Ar w w1 [] := by rw [hw1]; exact Ar.made w
  clear hw1
  go_wp2_with fail
  refine (tz_16 _ (h.below ar1.b)).mono ?_
  rintro e w2 ⟨rfl, rfl⟩
  go_wp2
  go_loopw [1, 13] (fun u i wr => ∃ (n k : Nat) (D : List UInt8), u = .int .u64 (n : Int) ∧ i = .int .i64 ((65 - D.length : Nat) : Int) ∧ D.length + k = 16 ∧ 0 < k ∧ n < 16 ^ k ∧ Hid (hexM 16 U = hexM k n ++ D) ∧ Ar w wr D) (fun u _ _ => (intOf u).toNat)
  case atStart => exact ⟨U, 16, [], rfl, rfl, rfl, by omega, by omega, (List.append_nil _).symm, ar1⟩
  case round =>
    obtain ⟨n, k, D, rfl, rfl, hk, hk0, hn, hx, ar⟩ := hrel
    have hn64 : n < 18446744073709551616 := by
      have : 16 ^ k ≤ 16 ^ 16 := Nat.pow_le_pow_right (by decide) (by omega)
      omega
    obtain ⟨j, hj⟩ : ∃ j, 64 - D.length = j := ⟨_, rfl⟩
    have e65 : ((65 - D.length : Nat) : Int) = (j : Int) + 1 := by omega
    have hj65 : j < 65 := by omega
    obtain ⟨v0, hv0⟩ := ar.c j hj65
    have hf0 := ar.f j hj65
    rw [e65]
    by_cases hge : 16 ≤ n
    · have ha := and15 n hn64
      have hd := digs_run (n % 16) (by omega)
      unfold digs at hd
      have HE : Hid (digs[n % 16]'(by have : digs.size = 36 := rfl; omega) = hexD (n % 16)) := digs_at ⟨n % 16, by omega⟩
      have HA : Hid _ := ar.push (hexD (n % 16)) (by omega)
      clear hd
      go_wp2
      refine ⟨⟨n / 16, k - 1, hexD (n % 16) :: D, by go_num, by simp; omega, by simp; omega, ?_, ?_, ?_, ?_⟩, by simp [intOf]; omega⟩
      · apply Classical.byContradiction
        intro hc
        obtain rfl : k = 1 := by omega
        omega
      · obtain ⟨k', rfl⟩ : ∃ k', k = k' + 1 := ⟨k - 1, by omega⟩
        rw [Nat.add_sub_cancel, Nat.div_lt_iff_lt_mul (by decide), ← Nat.pow_succ]
        exact hn
      · show _ = _
        obtain ⟨k', rfl⟩ : ∃ k', k = k' + 1 := ⟨k - 1, by omega⟩
        rw [hx.out, Nat.add_sub_cancel, hexM, if_neg (by omega)]
        simp
      · have := HA.out
        rw [hj] at this
        have e := HE.out
        unfold digs at e
        rw [e]
        exact this
    · have hd := digs_run n (by omega)
      unfold digs at hd
      have HA : Hid _ := ar.push (hexD n) (by omega)
      have hsl := fun W => slice65 W w.heap.size j hj65
      have har := (ar.push (hexD n) (by omega))
      rw [hj] at har
      have htx := har.text (65 - j) (65 - j) (by simp; omega)
      rw [show 65 - (hexD n :: D).length = j by simp; omega] at htx
      have HR : Hid (hexM 16 U = hexD n :: D) := by
        show _ = _
        obtain ⟨k', rfl⟩ : ∃ k', k = k' + 1 := ⟨k - 1, by omega⟩
        rw [hx.out, hexM, if_pos (by omega)]
        rfl
      have hbb := har.b
      clear HA
      go_wp2
      rw [HR.out]
      go_ret2
      exact ⟨rfl, hbb⟩

set_option maxHeartbeats 400000 in
theorem formatUint_in (U : Nat) (w : World) (hU : U < 18446744073709551616) (h : Tz w) : Calls Tryd.prog 52 #[.int .u64 (U : Int), .int .i64 16] w fun e w' => e = .returned (.string ⟨(hexM 16 U).toArray⟩) ∧ Below w.heap.size w w' := by
  go_enter Tryd.func52, Tryd.ntmps52
  go_wp2_with fail
  refine (formatBits_16 U _ hU h).mono ?_
  rintro e w1 ⟨rfl, hb⟩
  go_wp2
  go_ret
  exact ⟨rfl, hb⟩
set_option maxHeartbeats 400000 in
theorem formatUint (U : Nat) (w : World) (hU : U < 18446744073709551616) (h : Tz w) : Calls Tryd.prog 32 #[.int .u64 (U : Int), .int .i64 16] w fun e w' => e = .returned (.string ⟨(hexM 16 U).toArray⟩) ∧ Below w.heap.size w w' := by
  go_enter Tryd.func32, Tryd.ntmps32
  go_wp2_with fail
  refine (formatUint_in U _ hU h).mono ?_
  rintro e w1 ⟨rfl, hb⟩
  go_wp2
  go_ret
  exact ⟨rfl, hb⟩
end Go.Proofs.YtmehkneofinmiaaDoor

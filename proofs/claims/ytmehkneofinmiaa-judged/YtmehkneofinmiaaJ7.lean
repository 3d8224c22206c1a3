/-
  Walks of 'handed' and 'intact'.
-/
import Derived.Test.YtmehkneofinmiaaJ2
import Derived.Laws.CopyRow
import Derived.Laws.CopyOwn
namespace Go.Proofs.Ytmehkneofinmiaa
open Go.RowKit

theorem run_copy_two {P : Program} (w : World) (dT sT ty elem : TypeId) (g dLen dCap : Nat) (a : Addr) (sLen sCap : Nat) (cur : Array Value) (t : TypeId) (cs : List Value)
    (hu : P.underlying dT = some (.slice elem)) (hs : (P.info? elem).map (·.size) = some 2)
    (hg : w.heap[g]? = some (.cells cur t (0, 0))) (hn : cs.length = sLen * 2) (hle : sLen ≤ dLen)
    (hsrc : ∀ j v, cs[j]? = some v → w.cell? (a.add j) = some v) (hfit : cs.length ≤ cur.size) (h1 : ∀ v ∈ cs, v.oneCell' = true) :
    (Builtin.copy_ #[dT, sT] ty #[.slice (some ⟨g, 0, none⟩) dLen dCap, .slice (some a) sLen sCap]).run P w =
      .ok (goInt sLen) (w.setRow g (cs ++ cur.toList.drop cs.length).toArray) := by
  have hl := run_loadCells_list (P := P) w a cs hsrc
  have hst := run_storeCells_at P g 0 t cs 0 cur w hg (by simpa using hfit) h1
  have hmin : min sLen dLen = sLen := by omega
  simp only [Nat.add_zero, Nat.zero_add, List.take_zero, List.nil_append] at hst
  cases hq : P.info? elem with
  | none => simp [hq] at hs
  | some i =>
    have hi : i.size = 2 := by simpa [hq] using hs
    simp [Builtin.copy_, run_underlying hu, Builtin.lenOf, Builtin.firstCells, sizeOf, typeInfo, hq, hi, hmin, ← hn, hl, hst]

theorem run_copy_zero {P : Program} (w : World) (dT sT ty elem : TypeId) (d : Addr) (dLen dCap : Nat) (o : Option Addr) (sCap : Nat)
    (hu : P.underlying dT = some (.slice elem)) (hs : (P.info? elem).map (·.size) = some 2) :
    (Builtin.copy_ #[dT, sT] ty #[.slice (some d) dLen dCap, .slice o 0 sCap]).run P w = .ok (goInt 0) w := by
  cases hq : P.info? elem with
  | none => simp [hq] at hs
  | some i =>
    cases o with
    | none => simp [Builtin.copy_, run_underlying hu, Builtin.lenOf, Builtin.firstCells, sizeOf, typeInfo, hq, storeCells]
    | some a =>
      have hl : (loadCells a 0).run P w = .ok #[] w := run_loadCells_list (P := P) w a [] (by simp)
      simp [Builtin.copy_, run_underlying hu, Builtin.lenOf, Builtin.firstCells, sizeOf, typeInfo, hq, hl, storeCells]

/-- the cells of n tags -/
def tagCells (n : Nat) (W : Nat → Bool) (T : Nat → ByteArray) : List Value := (List.range (n * 2)).map fun j => if j % 2 = 0 then .bool (W (j / 2)) else .string (T (j / 2))
def zs (n : Nat) : Array Value := madeCells #[.bool false, .string ⟨#[]⟩] ((n + 2) * 2)
def beyond : ByteArray := ⟨#[98, 101, 121, 111, 110, 100]⟩

theorem info32m : (Try.prog.info? 32).map (fun i => (i.size, i.bytes, i.zero)) = some (2, 24, some (.agg #[.bool false, .string ⟨#[]⟩])) := by kernel_rfl
theorem info32 : ∃ i, Try.prog.info? 32 = some i ∧ i.size = 2 ∧ i.bytes = 24 ∧ i.zero = some (.agg #[.bool false, .string ⟨#[]⟩]) := by
  have h := info32m
  cases hq : Try.prog.info? 32 with
  | none => rw [hq] at h; cases h
  | some i =>
    rw [hq] at h
    simp only [Option.map_some, Option.some.injEq, Prod.mk.injEq] at h
    exact ⟨i, rfl, h.1, h.2.1, h.2.2⟩
theorem size32 : (Try.prog.info? 32).map (·.size) = some 2 := by kernel_rfl

theorem make_tags (n : Nat) (hn : 24 * (n + 2) ≤ 281474976710656) (w : World) :
    (Instr.makeSlice 22 (.int .i64 ((n : Int) + 2)) (.int .i64 ((n : Int) + 2))).run Try.prog w = .ok (.slice (some ⟨w.heap.size, 0, none⟩) (n + 2) (n + 2)) (w.alloc (.cells (zs n) 32)) := by
  obtain ⟨i, h1, h2, h3, h4⟩ := info32
  have h := run_make (P := Try.prog) w 22 32 i _ Try.underlying22 h1 h4 .i64 .i64 ((n : Int) + 2) ((n : Int) + 2) (by omega) (by omega) (by rw [h3]; omega) (by omega)
  rw [h2, show ((n : Int) + 2).toNat = n + 2 by omega] at h
  exact h

theorem size_zs (n : Nat) : (zs n).size = (n + 2) * 2 := size_madeCells _ _

theorem len_tagCells (n : Nat) (W : Nat → Bool) (T : Nat → ByteArray) : (tagCells n W T).length = n * 2 := by simp [tagCells]

/-- the list behind the copy -/
theorem copy_tags (w : World) (v : Value) (n : Nat) (W : Nat → Bool) (T : Nat → ByteArray) (h : ListAt w v n W T) (ty : TypeId) :
    ∃ W2, (Builtin.copy_ #[22, 22] ty #[.slice (some ⟨w.heap.size, 0, none⟩) (n + 2) (n + 2), v]).run Try.prog (w.alloc (.cells (zs n) 32)) = .ok (goInt n) W2 ∧
      Below w.heap.size w W2 ∧ W2.heap.size = w.heap.size + 1 ∧ ∃ Z, W2.heap[w.heap.size]? = some (.cells Z 32 (0, 0)) ∧ Z.size = (n + 2) * 2 ∧ ∀ j, j < n * 2 → Z[j]? = (tagCells n W T)[j]? := by
  have hA := (Below.refl w.heap.size w).alloc (Nat.le_refl _) (.cells (zs n) 32)
  have hheap : (w.alloc (.cells (zs n) 32)).heap[w.heap.size]? = some (.cells (zs n) 32 (0, 0)) := by
    show (w.heap.push _)[w.heap.size]? = _
    simp
  obtain ⟨hn, ⟨o, cap, rfl, rfl⟩ | ⟨b, off, cap, rfl, ht⟩⟩ := h
  · exact ⟨_, run_copy_zero _ 22 22 ty 32 _ _ _ o cap Try.underlying22 size32, hA, by simp, zs 0, hheap, size_zs 0, fun j hj => absurd hj (by omega)⟩
  · have ht' := ht.below hA
    refine ⟨_, run_copy_two _ 22 22 ty 32 w.heap.size (n + 2) (n + 2) ⟨b, off, none⟩ n cap (zs n) 32 (tagCells n W T) Try.underlying22 size32 hheap (len_tagCells n W T) (by omega) ?_ ?_ ?_, ?_, ?_, _, setRow_heap _ _ _ _ _ _ hheap, ?_, ?_⟩
    · intro j v hv
      have hj : j < n * 2 := by have := (List.getElem?_eq_some_iff.1 hv).1; rwa [len_tagCells] at this
      simp only [tagCells, List.getElem?_map, List.getElem?_range hj, Option.map_some, Option.some.injEq] at hv
      rw [Go.WideShapes.add_plain]
      by_cases hp : j % 2 = 0
      · rw [if_pos hp] at hv
        have := ht'.1 (j / 2) (by omega)
        rw [show off + j / 2 * 2 = off + j by omega] at this
        rw [this, hv]
      · rw [if_neg hp] at hv
        have := ht'.2 (j / 2) (by omega)
        rw [show off + j / 2 * 2 + 1 = off + j by omega] at this
        rw [this, hv]
    · rw [len_tagCells, size_zs]; omega
    · intro v hv
      simp only [tagCells, List.mem_map] at hv
      obtain ⟨j, _, rfl⟩ := hv
      split <;> rfl
    · exact below_setRow hA (Nat.le_refl _) _
    · simp [World.setRow]
    · simp [len_tagCells, size_zs]; omega
    · intro j hj
      simp only [List.getElem?_toArray]
      rw [List.getElem?_append_left (by rw [len_tagCells]; exact hj)]

theorem cell_row {w : World} {g j : Nat} {Z : Array Value} {t : TypeId} {fr : Nat × Nat} (h : w.heap[g]? = some (.cells Z t fr)) : w.cell? ⟨g, j, none⟩ = Z[j]? := by simp [World.cell?, h]
theorem frozen_row {w : World} {g j : Nat} {Z : Array Value} {t : TypeId} (h : w.heap[g]? = some (.cells Z t (0, 0))) : w.frozen? ⟨g, j, none⟩ = false := by simp [World.frozen?, h]

theorem set_other {w : World} {g i j : Nat} {v : Value} (h : i ≠ j) : (w.setCell ⟨g, i, none⟩ v).cell? ⟨g, j, none⟩ = w.cell? ⟨g, j, none⟩ :=
  World.cell?_setCell_other w ⟨g, i, none⟩ ⟨g, j, none⟩ v (by intro e; injection e; exact h (by assumption))
theorem set_same {w : World} {a : Addr} {u v : Value} (h : w.cell? a = some u) : (w.setCell a v).cell? a = some v := World.cell?_setCell_same w a v h

set_option maxHeartbeats 400000 in
theorem handed_l (v : Value) (n : Nat) (W : Nat → Bool) (T : Nat → ByteArray) (w : World) (hn : 24 * (n + 2) ≤ 281474976710656) (h : ListAt w v n W T) (hv : ∃ o cap, v = .slice o n cap) :
    Calls Try.prog 4 #[v] w fun e w' => e = .returned (.slice (some ⟨w.heap.size, 0, none⟩) n (n + 2)) ∧ Below w.heap.size w w' ∧ w'.heap.size = w.heap.size + 1 ∧ TagsAt w' w.heap.size 0 n W T ∧
      w'.cell? ⟨w.heap.size, n * 2 + 1, none⟩ = some (.string beyond) ∧ w'.cell? ⟨w.heap.size, (n + 1) * 2 + 1, none⟩ = some (.string beyond) := by
  have hmk := make_tags n hn
  obtain ⟨W2, hcp, hb2, hz2, Z, hZ, hZs, hZt⟩ := copy_tags w v n W T h 3
  obtain ⟨o, cap, rfl⟩ := hv
  have hc := fun j => cell_row (j := j) hZ
  have hf := fun j => frozen_row (j := j) hZ
  have c1 : ∃ x, W2.cell? ⟨w.heap.size, n * 2 + 1, none⟩ = some x := ⟨_, by rw [hc]; exact Array.getElem?_eq_getElem (by omega)⟩
  have c2 : ∃ x, W2.cell? ⟨w.heap.size, (n + 1) * 2 + 1, none⟩ = some x := ⟨_, by rw [hc]; exact Array.getElem?_eq_getElem (by omega)⟩
  obtain ⟨x1, c1⟩ := c1
  obtain ⟨x2, c2⟩ := c2
  have HC : Hid (∀ j, W2.cell? ⟨w.heap.size, j, none⟩ = Z[j]?) := hc
  clear hc h
  go_enter Try.func4, Try.ntmps4
  go_wp2
  go_ret
  have hset : ∀ (j : Nat), j ≠ n * 2 + 1 → j ≠ (n + 1) * 2 + 1 → ((W2.setCell ⟨w.heap.size, n * 2 + 1, none⟩ (.string beyond)).setCell ⟨w.heap.size, (n + 1) * 2 + 1, none⟩ (.string beyond)).cell? ⟨w.heap.size, j, none⟩ = Z[j]? := by
    intro j h1 h2
    rw [set_other (Ne.symm h2), set_other (Ne.symm h1)]
    exact HC.out j
  refine ⟨rfl, (hb2.setCell (Nat.le_refl _) _).setCell (Nat.le_refl _) _, by simp [World.setCell, hz2], ⟨fun i hi => ?_, fun i hi => ?_⟩, ?_, ?_⟩
  · refine (hset (0 + i * 2) (by omega) (by omega)).trans ?_
    rw [hZt _ (by omega)]
    simp only [tagCells, List.getElem?_map, List.getElem?_range (show 0 + i * 2 < n * 2 by omega), Option.map_some]
    rw [if_pos (by omega), show (0 + i * 2) / 2 = i by omega]
  · refine (hset (0 + i * 2 + 1) (by omega) (by omega)).trans ?_
    rw [hZt _ (by omega)]
    simp only [tagCells, List.getElem?_map, List.getElem?_range (show 0 + i * 2 + 1 < n * 2 by omega), Option.map_some]
    rw [if_neg (by omega), show (0 + i * 2 + 1) / 2 = i by omega]
  · refine (set_other (by omega)).trans ?_
    exact set_same c1
  · refine set_same ((set_other (by omega)).trans c2)

theorem intact_l (v : Value) (n g : Nat) (W : Nat → Bool) (T : Nat → ByteArray) (w : World) (hn : 24 * (n + 2) ≤ 281474976710656) (h : ListAt w v n W T) (hv : ∃ o cap, v = .slice o n cap) (ht : TagsAt w g 0 n W T)
    (c1 : w.cell? ⟨g, n * 2 + 1, none⟩ = some (.string beyond)) (c2 : w.cell? ⟨g, (n + 1) * 2 + 1, none⟩ = some (.string beyond)) :
    Calls Try.prog 7 #[.slice (some ⟨g, 0, none⟩) n (n + 2), v] w fun e w' => e = .returned (.bool true) ∧ ∃ q, w' = w.drewN q := by
  have hs : Calls Try.prog 11 #[.slice (some ⟨g, 0, none⟩) n (n + 2), v] w fun e w' => e = .returned (.bool true) ∧ ∃ q, w' = w.drewN q := by
    obtain ⟨hn0, ⟨o, cap, rfl, rfl⟩ | ⟨b, off, cap, rfl, ht'⟩⟩ := h
    · refine (same_zero _ _ _ _ w).mono ?_
      rintro e w' ⟨rfl, rfl⟩
      exact ⟨rfl, 0, rfl⟩
    · exact same_any g 0 (n + 2) b off cap n W T w hn0 ht ht'
  obtain ⟨o, cap, rfl⟩ := hv
  clear h ht
  unfold beyond at c1 c2
  have HS : Hid _ := hs
  clear hs
  go_enter Try.func7, Try.ntmps7
  go_wp2_with fail

  refine Calls.mono HS.out ?_
  rintro e w1 ⟨rfl, q, rfl⟩
  go_wp2
  go_ret
  exact ⟨rfl, q, rfl⟩

end Go.Proofs.Ytmehkneofinmiaa

/-
  Texts of this proof, part 34.
-/
import Derived.Test.YtmehkneofinmiabGreatDoorP28
import Derived.Test.YtmehkneofinmiabGreatDoorP10
namespace Go.Proofs.YtmehkneofinmiabGreatDoor
open Go.RowKit
theorem hiFld : (Tryz.prog.info? 124).map (·.size) = some 2 := by kernel_rfl
set_option maxHeartbeats 1000000 in
theorem refuse_any (t : Int) (w : World) : Calls Tryz.prog 30 #[.int .i64 t] w fun e w' => e = .returned (.agg #[.int .i64 t, .slice none 0 0, .string ⟨#[]⟩]) ∧ Below w.heap.size w w' := by
  go_enter Tryz.func30, Tryz.ntmps30
  go_wp2
  exact bodyPost_ret (v := .agg #[.int .i64 t, .slice none 0 0, .string ⟨#[]⟩]) (results_row1 Tryz.results30 _ _ w.heap.size 80 _ (0, 0) _ rfl (heap_alloc_new _ _) Tryz.underlying80 rfl hiAns) rfl ⟨rfl, (Below.refl _ _).alloc (Nat.le_refl _) _⟩
set_option maxHeartbeats 1000000 in
theorem answer_any (t : Int) (a : Option Addr) (n c : Nat) (w : World) : Calls Tryz.prog 103 #[.int .i64 t, .slice a n c] w fun e w' => e = .returned (.agg #[.int .i64 t, .slice a n c, .string ⟨#[]⟩]) ∧ Below w.heap.size w w' := by
  go_enter Tryz.func103, Tryz.ntmps103
  go_wp2
  exact bodyPost_ret (v := .agg #[.int .i64 t, .slice a n c, .string ⟨#[]⟩]) (results_row1 Tryz.results103 _ _ w.heap.size 80 _ (0, 0) _ rfl (heap_alloc_new _ _) Tryz.underlying80 rfl hiAns) rfl ⟨rfl, (Below.refl _ _).alloc (Nat.le_refl _) _⟩
set_option maxHeartbeats 1000000 in
theorem tagField_any (body : List UInt8) (w : World) (hb : body.length < 1000000) (h : Tz w) : Calls Tryz.prog 104 #[.string ⟨body.toArray⟩] w fun e w' => e = .returned (.agg #[.string ⟨#[69, 84, 97, 103]⟩, .string ⟨(qTag body).toArray⟩]) ∧ Below w.heap.size w w' := by
  have hal : Below w.heap.size w (w.alloc (.cells #[.string ⟨#[]⟩, .string ⟨#[]⟩] 124)) := (Below.refl _ _).alloc (Nat.le_refl _) _
  go_enter Tryz.func104, Tryz.ntmps104
  go_wp2_with fail
  refine (quotedTag_any body _ hb (h.below hal)).mono ?_
  rintro e w1 ⟨rfl, hb1⟩
  have hblk : w1.heap[w.heap.size]? = some (.cells #[.string ⟨#[]⟩, .string ⟨#[]⟩] 124 (0, 0)) := (hb1.block _ (by simp)).trans (heap_alloc_new _ _)
  have c0 : w1.cell? ⟨w.heap.size, 0, none⟩ = some (.string ⟨#[]⟩) := by simp [World.cell?, hblk]
  have c1 : w1.cell? ⟨w.heap.size, 1, none⟩ = some (.string ⟨#[]⟩) := by simp [World.cell?, hblk]
  have f0 : w1.frozen? ⟨w.heap.size, 0, none⟩ = false := by simp [World.frozen?, hblk]
  have f1 : w1.frozen? ⟨w.heap.size, 1, none⟩ = false := by simp [World.frozen?, hblk]
  have HB : Hid (Below w.heap.size w w1) := hal.trans (hb1.mono (by simp))
  have HK : Hid _ := hblk
  clear hblk hb1 hal
  go_wp2
  have hs := heap_set (i := 1) (v := .string ⟨(qTag body).toArray⟩) (heap_set (i := 0) (v := .string ⟨#[69, 84, 97, 103]⟩) HK.out)
  exact bodyPost_ret (v := .agg #[.string ⟨#[69, 84, 97, 103]⟩, .string ⟨(qTag body).toArray⟩]) (results_row1 Tryz.results104 _ _ w.heap.size 124 _ (0, 0) _ rfl hs Tryz.underlying124 rfl hiFld) rfl ⟨rfl, (HB.out.setCell (p := ⟨w.heap.size, 0, none⟩) (Nat.le_refl _) _).setCell (p := ⟨w.heap.size, 1, none⟩) (Nat.le_refl _) _⟩
set_option maxHeartbeats 1000000 in
theorem numberField_any (n : Nat) (w : World) (hn : n < 1000000000000000) (h : Tab w) : Calls Tryz.prog 105 #[.int .i64 n] w fun e w' => e = .returned (.agg #[.string ⟨#[86, 101, 114, 115, 105, 111, 110]⟩, .string ⟨(Lib.decDigits n).toArray⟩]) ∧ Below w.heap.size w w' := by
  have hal : Below w.heap.size w (w.alloc (.cells #[.string ⟨#[]⟩, .string ⟨#[]⟩] 124)) := (Below.refl _ _).alloc (Nat.le_refl _) _
  go_enter Tryz.func105, Tryz.ntmps105
  go_wp2_with fail
  refine (itoaN n _ hn (h.below hal)).mono ?_
  rintro e w1 ⟨rfl, hb1⟩
  have hblk : w1.heap[w.heap.size]? = some (.cells #[.string ⟨#[]⟩, .string ⟨#[]⟩] 124 (0, 0)) := (hb1.block _ (by simp)).trans (heap_alloc_new _ _)
  have c0 : w1.cell? ⟨w.heap.size, 0, none⟩ = some (.string ⟨#[]⟩) := by simp [World.cell?, hblk]
  have c1 : w1.cell? ⟨w.heap.size, 1, none⟩ = some (.string ⟨#[]⟩) := by simp [World.cell?, hblk]
  have f0 : w1.frozen? ⟨w.heap.size, 0, none⟩ = false := by simp [World.frozen?, hblk]
  have f1 : w1.frozen? ⟨w.heap.size, 1, none⟩ = false := by simp [World.frozen?, hblk]
  have HB : Hid (Below w.heap.size w w1) := hal.trans (hb1.mono (by simp))
  have HK : Hid _ := hblk
  obtain ⟨D, hD⟩ : ∃ D, Lib.decDigits n = D := ⟨_, rfl⟩
  rw [hD]
  have HD : Hid _ := hD
  clear hblk hb1 hal hD
  go_wp2
  rw [HD.out]
  have hs := heap_set (i := 1) (v := .string ⟨D.toArray⟩) (heap_set (i := 0) (v := .string ⟨#[86, 101, 114, 115, 105, 111, 110]⟩) HK.out)
  exact bodyPost_ret (v := .agg #[.string ⟨#[86, 101, 114, 115, 105, 111, 110]⟩, .string ⟨D.toArray⟩]) (results_row1 Tryz.results105 _ _ w.heap.size 124 _ (0, 0) _ rfl hs Tryz.underlying124 rfl hiFld) rfl ⟨rfl, (HB.out.setCell (p := ⟨w.heap.size, 0, none⟩) (Nat.le_refl _) _).setCell (p := ⟨w.heap.size, 1, none⟩) (Nat.le_refl _) _⟩
set_option maxHeartbeats 1000000 in
theorem tellVersions_none (p : Nat) (E : Ent) (vs : Value) (w : World) (hE : EntAt w p E vs) (h0 : E.vers = []) :
    Calls Tryz.prog 66 #[.pointer (some ⟨p, 0, none⟩)] w fun e w' => e = .returned (.agg #[.int .i64 404, .slice none 0 0, .string ⟨#[]⟩]) ∧ Below w.heap.size w w' := by
  have hvs : ∃ a c, vs = .slice a 0 c := by
    rcases hE.row.2 with ⟨rfl, _⟩ | ⟨g, cap, cur, hv, _⟩
    · exact ⟨_, _, rfl⟩
    · rw [h0] at hv; exact ⟨_, _, hv⟩
  obtain ⟨a, c, rfl⟩ := hvs
  have c2 := hE.c2
  have hlt := hE.lt
  have hal : Below w.heap.size w (w.alloc (.cells #[.int .i64 0, .slice none 0 0, .string ⟨#[]⟩] 80)) := (Below.refl _ _).alloc (Nat.le_refl _) _
  clear hE
  go_enter Tryz.func66, Tryz.ntmps66
  go_wp2_with fail
  refine (refuse_any 404 _).mono ?_
  rintro e w1 ⟨rfl, hb1⟩
  have hblk : w1.heap[w.heap.size]? = some (.cells #[.int .i64 0, .slice none 0 0, .string ⟨#[]⟩] 80 (0, 0)) := (hb1.block _ (by simp)).trans (heap_alloc_new _ _)
  have d0 : w1.cell? ⟨w.heap.size, 0, none⟩ = some (.int .i64 0) := by simp [World.cell?, hblk]
  have d1 : w1.cell? ⟨w.heap.size, 1, none⟩ = some (.slice none 0 0) := by simp [World.cell?, hblk]
  have d2 : w1.cell? ⟨w.heap.size, 2, none⟩ = some (.string ⟨#[]⟩) := by simp [World.cell?, hblk]
  have f0 : w1.frozen? ⟨w.heap.size, 0, none⟩ = false := by simp [World.frozen?, hblk]
  have f1 : w1.frozen? ⟨w.heap.size, 1, none⟩ = false := by simp [World.frozen?, hblk]
  have f2 : w1.frozen? ⟨w.heap.size, 2, none⟩ = false := by simp [World.frozen?, hblk]
  have HB : Hid (Below w.heap.size w w1) := hal.trans (hb1.mono (by simp))
  have HK : Hid _ := hblk
  clear hblk hb1 hal
  go_wp2
  have hs := heap_set (i := 2) (v := .string ⟨#[]⟩) (heap_set (i := 1) (v := .slice none 0 0) (heap_set (i := 0) (v := .int .i64 404) HK.out))
  exact bodyPost_ret (v := .agg #[.int .i64 404, .slice none 0 0, .string ⟨#[]⟩]) (results_row1 Tryz.results66 _ _ w.heap.size 80 _ (0, 0) _ rfl hs Tryz.underlying80 rfl hiAns) rfl ⟨rfl, ((HB.out.setCell (p := ⟨w.heap.size, 0, none⟩) (Nat.le_refl _) _).setCell (p := ⟨w.heap.size, 1, none⟩) (Nat.le_refl _) _).setCell (p := ⟨w.heap.size, 2, none⟩) (Nat.le_refl _) _⟩
end Go.Proofs.YtmehkneofinmiabGreatDoor

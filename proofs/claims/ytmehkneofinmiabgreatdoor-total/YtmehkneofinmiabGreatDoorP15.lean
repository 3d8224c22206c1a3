/-
  Texts of this proof, part 15.
-/
import Derived.Test.YtmehkneofinmiabGreatDoorP14
import Derived.Test.YtmehkneofinmiabGreatDoorP03
import Derived.Test.YtmehkneofinmiabGreatDoorP01
import Derived.Laws.BitsAllLaws
namespace Go.Proofs.YtmehkneofinmiabGreatDoor
open Go.RowKit
attribute [local go_sem ↓] appS_is
attribute [local go_sem] app_run
def recV (k t : Nat) (key : List UInt8) (n : Nat) (body : List UInt8) : Value := .agg #[.int .u8 k, .int .i64 t, .string ⟨key.toArray⟩, .int .i64 n, .string ⟨body.toArray⟩]
set_option maxRecDepth 100000 in
set_option maxHeartbeats 4000000 in
theorem push_any (p : Nat) (E : Ent) (vs : Value) (k t n : Nat) (key body : List UInt8) (w : World) (h : EntAt w p E vs) (hp : vs.ownBlock ≠ some p) (hl : E.vers.length < 1000000) (hb : body.length < 1000000) :
    Calls Tryz.prog 202 #[.pointer (some ⟨p, 0, none⟩), recV k t key n body] w fun e w' => ∃ g cap, (∃ v, e = .returned v) ∧
      EntAt w' p ⟨E.key, n, E.vers ++ [⟨n, t, k == 2, body⟩]⟩ (.slice (some ⟨g, 0, none⟩) (E.vers.length + 1) cap) ∧ (vs.ownBlock = some g ∨ w.heap.size ≤ g) ∧ Off (fun k => k = p ∨ vs.ownBlock = some k) w w' := by
  obtain ⟨i0, hi0, hz0, hz1, hz2⟩ := info_parts info154m
  have e1 := h.c1
  have e2 := h.c2
  have hlt := h.lt
  have f1 := h.fz 1
  have f2 := h.fz 2
  have HE : Hid (EntAt w p E vs) := h
  clear h
  unfold recV
  go_enter Tryz.func202, Tryz.ntmps202
  go_wp2_with fail
  obtain ⟨x, hx⟩ : ∃ x, x = ((w.setCell ⟨p, 1, none⟩ (.int .i64 (n : Int))).alloc (.cells #[.int .u8 (k : Int), .int .i64 (t : Int), .string ⟨key.toArray⟩, .int .i64 (n : Int), .string ⟨body.toArray⟩] 108)) := ⟨_, rfl⟩
  rw [← hx]
  have hsz : x.heap.size = w.heap.size + 1 := by rw [hx]; simp
  have hO : Off (fun k => k = p ∨ vs.ownBlock = some k) w x := by rw [hx]; exact ((Off.refl _ _).set p 1 _ (Or.inl (Or.inl rfl))).alloc _
  have hB : x.heap[p]? = some (.cells #[.string ⟨E.key.toArray⟩, .int .i64 (n : Int), vs] 183 (0, 0)) := by
    rw [hx]
    rw [heap_alloc_old _ _ (by simpa using hlt)]
    exact heap_set (i := 1) HE.out.blk
  have hR : x.ownsRow 0 147 4 vs E.vers.length (rowOf E.vers) := by
    have h0 := HE.out.row
    refine ⟨h0.1, ?_⟩
    rcases h0.2 with h0 | ⟨g, cap, cur, hv, h1, hg, h2⟩
    · exact Or.inl h0
    · refine Or.inr ⟨g, cap, cur, hv, h1, ?_, h2⟩
      have hne : p ≠ g := fun e => by subst e; apply hp; rw [hv]; rfl
      rw [hx, heap_alloc_old _ _ (by simpa using (Array.getElem?_eq_some_iff.1 hg).1), ← hg]
      simp [World.setCell, Array.getElem?_modify, hne]
  have hC : x.heap[w.heap.size]? = some (.cells #[.int .u8 (k : Int), .int .i64 (t : Int), .string ⟨key.toArray⟩, .int .i64 (n : Int), .string ⟨body.toArray⟩] 108 (0, 0)) := by
    rw [hx]
    have := heap_alloc_new (w.setCell ⟨p, 1, none⟩ (.int .i64 (n : Int))) (.cells #[.int .u8 (k : Int), .int .i64 (t : Int), .string ⟨key.toArray⟩, .int .i64 (n : Int), .string ⟨body.toArray⟩] 108)
    simpa using this
  have hnb : vs.ownBlock ≠ some w.heap.size := by
    intro e
    rcases HE.out.row.2 with ⟨rfl, _⟩ | ⟨g, cap, cur, rfl, _, hg, _⟩
    · cases e
    · cases e
      exact absurd (Array.getElem?_eq_some_iff.1 hg).1 (Nat.lt_irrefl _)
  clear hx e1 e2 f1 f2
  have hpn : p ≠ w.heap.size := by omega
  have HB : Hid _ := hB
  have HC : Hid _ := hC
  have HR : Hid _ := hR
  have HO : Hid _ := hO
  clear hB hC hR hO
  have HSZ : Hid (x.heap.size = w.heap.size + 1) := hsz
  have hltx : p < x.heap.size := by omega
  have hbx : w.heap.size < x.heap.size := by omega
  clear hsz
  have e2 : x.cell? ⟨p, 2, none⟩ = some vs := by simp [World.cell?, HB.out]
  have f2 : x.frozen? ⟨p, 2, none⟩ = false := by simp [World.frozen?, HB.out]
  have b0 : x.cell? ⟨w.heap.size, 0, none⟩ = some (.int .u8 (k : Int)) := by simp [World.cell?, HC.out]
  have b1 : x.cell? ⟨w.heap.size, 1, none⟩ = some (.int .i64 (t : Int)) := by simp [World.cell?, HC.out]
  have b3 : x.cell? ⟨w.heap.size, 3, none⟩ = some (.int .i64 (n : Int)) := by simp [World.cell?, HC.out]
  have b4 : x.cell? ⟨w.heap.size, 4, none⟩ = some (.string ⟨body.toArray⟩) := by simp [World.cell?, HC.out]
  have hbs : (⟨body.toArray⟩ : ByteArray).size ≤ 281474976710656 := by simp only [ByteArray.size, List.size_toArray]; omega
  have HT : Hid (∀ w1, Below x.drew.heap.size x.drew w1 → ∃ gg cap w2, (w1.cell? ⟨p, 2, none⟩ = some vs ∧ (w1.alloc (.cells #[.int .i64 (n : Int), .int .i64 (t : Int), .bool ((k : Int) == 2), .string ⟨body.toArray⟩] 147)).cell? ⟨p, 2, none⟩ = some vs) ∧
      AppOk Tryz.prog 181 181 (w1.alloc (.cells #[.int .i64 (n : Int), .int .i64 (t : Int), .bool ((k : Int) == 2), .string ⟨body.toArray⟩] 147)) vs (.slice (some ⟨w1.heap.size, 0, none⟩) 1 1) ∧
      (appR Tryz.prog 181 181 (w1.alloc (.cells #[.int .i64 (n : Int), .int .i64 (t : Int), .bool ((k : Int) == 2), .string ⟨body.toArray⟩] 147)) vs (.slice (some ⟨w1.heap.size, 0, none⟩) 1 1)).1 = .slice (some ⟨gg, 0, none⟩) (E.vers.length + 1) cap ∧
      (appR Tryz.prog 181 181 (w1.alloc (.cells #[.int .i64 (n : Int), .int .i64 (t : Int), .bool ((k : Int) == 2), .string ⟨body.toArray⟩] 147)) vs (.slice (some ⟨w1.heap.size, 0, none⟩) 1 1)).2 = w2 ∧
      ((w1.alloc (.cells #[.int .i64 (n : Int), .int .i64 (t : Int), .bool ((k : Int) == 2), .string ⟨body.toArray⟩] 147)).cell? ⟨w.heap.size, 0, none⟩ = some (.int .u8 (k : Int)) ∧ (w1.alloc (.cells #[.int .i64 (n : Int), .int .i64 (t : Int), .bool ((k : Int) == 2), .string ⟨body.toArray⟩] 147)).cell? ⟨w.heap.size, 1, none⟩ = some (.int .i64 (t : Int)) ∧ (w1.alloc (.cells #[.int .i64 (n : Int), .int .i64 (t : Int), .bool ((k : Int) == 2), .string ⟨body.toArray⟩] 147)).cell? ⟨w.heap.size, 3, none⟩ = some (.int .i64 (n : Int)) ∧ (w1.alloc (.cells #[.int .i64 (n : Int), .int .i64 (t : Int), .bool ((k : Int) == 2), .string ⟨body.toArray⟩] 147)).cell? ⟨w.heap.size, 4, none⟩ = some (.string ⟨body.toArray⟩)) ∧ w2.cell? ⟨p, 2, none⟩ = some vs ∧ w2.frozen? ⟨p, 2, none⟩ = false ∧
      ((w2.cell? ⟨w.heap.size, 0, none⟩ = some (.int .u8 (k : Int)) ∧ w2.cell? ⟨w.heap.size, 1, none⟩ = some (.int .i64 (t : Int)) ∧ w2.cell? ⟨w.heap.size, 3, none⟩ = some (.int .i64 (n : Int)) ∧ w2.cell? ⟨w.heap.size, 4, none⟩ = some (.string ⟨body.toArray⟩)) ∧ ((w2.setCell ⟨p, 2, none⟩ (.slice (some ⟨gg, 0, none⟩) (E.vers.length + 1) cap)).cell? ⟨w.heap.size, 0, none⟩ = some (.int .u8 (k : Int)) ∧ (w2.setCell ⟨p, 2, none⟩ (.slice (some ⟨gg, 0, none⟩) (E.vers.length + 1) cap)).cell? ⟨w.heap.size, 1, none⟩ = some (.int .i64 (t : Int)) ∧ (w2.setCell ⟨p, 2, none⟩ (.slice (some ⟨gg, 0, none⟩) (E.vers.length + 1) cap)).cell? ⟨w.heap.size, 3, none⟩ = some (.int .i64 (n : Int)) ∧ (w2.setCell ⟨p, 2, none⟩ (.slice (some ⟨gg, 0, none⟩) (E.vers.length + 1) cap)).cell? ⟨w.heap.size, 4, none⟩ = some (.string ⟨body.toArray⟩))) ∧
      (EntAt (w2.setCell ⟨p, 2, none⟩ (.slice (some ⟨gg, 0, none⟩) (E.vers.length + 1) cap)) p ⟨E.key, n, E.vers ++ [⟨n, t, k == 2, body⟩]⟩ (.slice (some ⟨gg, 0, none⟩) (E.vers.length + 1) cap) ∧ (vs.ownBlock = some gg ∨ w.heap.size ≤ gg) ∧ Off (fun k => k = p ∨ vs.ownBlock = some k) w (w2.setCell ⟨p, 2, none⟩ (.slice (some ⟨gg, 0, none⟩) (E.vers.length + 1) cap)))) := by
    intro w1 hb1
    have hb1 : Below x.heap.size x w1 := ⟨hb1.os, hb1.tape, hb1.output, hb1.size, hb1.block⟩
    have hsz1 : x.heap.size ≤ w1.heap.size := hb1.size
    have hB1 : w1.heap[p]? = _ := (hb1.block p hltx).trans HB.out
    have hC1 : w1.heap[w.heap.size]? = _ := (hb1.block _ hbx).trans HC.out
    have hR1 := row_below HR.out hb1
    have hp1 : p < w1.heap.size := Nat.lt_of_lt_of_le hltx hsz1
    have hw1 : w.heap.size < w1.heap.size := Nat.lt_of_lt_of_le hbx hsz1
    obtain ⟨gg, cap, w2, hrun, hown1, hgrow, hat, hlt2⟩ := run_append_lies (P := Tryz.prog) (w1.alloc (.cells #[.int .i64 (n : Int), .int .i64 (t : Int), .bool ((k : Int) == 2), .string ⟨body.toArray⟩] 147)) 181 181 0 147 i0 _ 4 40 Tryz.underlying181 hi0 hz0 hz1 hz2 rfl (by omega) vs E.vers.length (rowOf E.vers) (World.ownsRow.alloc hR1 _)
        ⟨w1.heap.size, 0, none⟩ 1 1 [.int .i64 (n : Int), .int .i64 (t : Int), .bool ((k : Int) == 2), .string ⟨body.toArray⟩] (by rfl) (World.news_of_block (cs := #[.int .i64 (n : Int), .int .i64 (t : Int), .bool ((k : Int) == 2), .string ⟨body.toArray⟩]) (t := 147) (fr := (0, 0)) (heap_alloc_new w1 _)) (by simp [Value.oneCell'])
        (by omega) (by simp only [maxLen]; omega) (by omega) (by simp) _ rfl
    have hpa : p < (w1.alloc (.cells #[.int .i64 (n : Int), .int .i64 (t : Int), .bool ((k : Int) == 2), .string ⟨body.toArray⟩] 147)).heap.size := by simp; omega
    have hwa : w.heap.size < (w1.alloc (.cells #[.int .i64 (n : Int), .int .i64 (t : Int), .bool ((k : Int) == 2), .string ⟨body.toArray⟩] 147)).heap.size := by simp; omega
    have hB2 : w2.heap[p]? = _ := ((hgrow.block p hpa (Ne.symm hp)).trans (heap_alloc_old _ _ hp1)).trans hB1
    have hC2 : w2.heap[w.heap.size]? = _ := ((hgrow.block _ hwa (Ne.symm hnb)).trans (heap_alloc_old _ _ hw1)).trans hC1
    have hCa : (w1.alloc (.cells #[.int .i64 (n : Int), .int .i64 (t : Int), .bool ((k : Int) == 2), .string ⟨body.toArray⟩] 147)).heap[w.heap.size]? = _ := (heap_alloc_old _ _ hw1).trans hC1
    have hBa : (w1.alloc (.cells #[.int .i64 (n : Int), .int .i64 (t : Int), .bool ((k : Int) == 2), .string ⟨body.toArray⟩] 147)).heap[p]? = _ := (heap_alloc_old _ _ hp1).trans hB1
    have hC3 : (w2.setCell ⟨p, 2, none⟩ (.slice (some ⟨gg, 0, none⟩) (E.vers.length + 1) cap)).heap[w.heap.size]? = some (.cells #[.int .u8 (k : Int), .int .i64 (t : Int), .string ⟨key.toArray⟩, .int .i64 (n : Int), .string ⟨body.toArray⟩] 108 (0, 0)) := by
      rw [← hC2]
      simp [World.setCell, Array.getElem?_modify, hpn]
    obtain ⟨hok, hr1, hr2⟩ := app_is hrun
    have hgs : vs.ownBlock = some gg ∨ w.heap.size ≤ gg := by
      rcases hat with h1 | h1
      · exact Or.inl h1
      · right
        have h2 : gg = w1.heap.size + 1 := by rw [h1]; simp
        omega
    have hne : p ≠ gg := by
      intro e
      rcases hgs with h1 | h1
      · exact hp (e ▸ h1)
      · omega
    refine ⟨gg, cap, w2, ⟨by simp [World.cell?, hB1], by simp [World.cell?, hBa]⟩, hok, hr1, hr2, ⟨by simp [World.cell?, hCa], by simp [World.cell?, hCa], by simp [World.cell?, hCa], by simp [World.cell?, hCa]⟩, by simp [World.cell?, hB2], by simp [World.frozen?, hB2],
      ⟨⟨by simp [World.cell?, hC2], by simp [World.cell?, hC2], by simp [World.cell?, hC2], by simp [World.cell?, hC2]⟩, ⟨by simp only [World.cell?, hC3]; simp, by simp only [World.cell?, hC3]; simp, by simp only [World.cell?, hC3]; simp, by simp only [World.cell?, hC3]; simp⟩⟩, ⟨heap_set (i := 2) hB2, ?_⟩, hgs, ?_⟩
    · have e1 : rowOf E.vers ++ [.int .i64 (n : Int), .int .i64 (t : Int), .bool ((k : Int) == 2), .string ⟨body.toArray⟩] = rowOf (E.vers ++ [⟨n, t, k == 2, body⟩]) := by
        have hmk : ((k : Int) == 2) = (k == 2) := by
          rw [Bool.eq_iff_iff]
          simp only [beq_iff_eq]
          omega
        simp [rowOf, verCells, hmk]
      rw [e1] at hown1
      simp only [List.length_append, List.length_singleton]
      refine ⟨hown1.1, ?_⟩
      rcases hown1.2 with ⟨hc, _⟩ | ⟨g, cap', cur, hv, h1, hg, h2⟩
      · cases hc
      · cases hv
        refine Or.inr ⟨gg, cap, cur, rfl, h1, ?_, h2⟩
        rw [← hg]
        simp [World.setCell, Array.getElem?_modify, hne]
    · exact (((HO.out.trans (Off.of_below hb1)).alloc _).grown hgrow (fun k hk => Or.inl (Or.inr hk))).set p 2 _ (Or.inl (Or.inl rfl))
  refine wp_region_held_drew (S := (fun y => y.cell? ⟨w.heap.size, 0, none⟩ = some (.int .u8 (k : Int)) ∧ y.cell? ⟨w.heap.size, 1, none⟩ = some (.int .i64 (t : Int)) ∧ y.cell? ⟨w.heap.size, 3, none⟩ = some (.int .i64 (n : Int)) ∧ y.cell? ⟨w.heap.size, 4, none⟩ = some (.string ⟨body.toArray⟩))) (by kernel_rfl) ⟨b0, b1, b3, b4⟩ (fun hHeld => ?_)
  refine wpAnyH_take (i := 0) (v := ?_) rfl (by kernel_rfl) (by kernel_rfl) (by kernel_rfl) (fun _ _ _ h => h) (Or.inl ⟨by rfl, ?_⟩) hHeld ?_
  rotate_left
  · intro y hSw
    go_simp
    try with_reducible rfl
  try simp only [Act.put]
  refine wpAnyH_take (i := 1) (v := ?_) rfl (by kernel_rfl) (by kernel_rfl) (by kernel_rfl) (fun _ _ _ h => h) (Or.inl ⟨by rfl, ?_⟩) hHeld ?_
  rotate_left
  · intro y hSw
    go_simp
    try with_reducible rfl
  try simp only [Act.put]
  refine wpAnyH_take (i := 2) (v := ?_) rfl (by kernel_rfl) (by kernel_rfl) (by kernel_rfl) (fun _ _ _ h => h) (Or.inl ⟨by rfl, ?_⟩) hHeld ?_
  rotate_left
  · intro y hSw
    go_simp
    try with_reducible rfl
  try simp only [Act.put]
  refine wpAnyH_take (i := 3) (v := ?_) rfl (by kernel_rfl) (by kernel_rfl) (by kernel_rfl) (fun _ _ _ h => h) (Or.inl ⟨by rfl, ?_⟩) hHeld ?_
  rotate_left
  · intro y hSw
    go_simp
    try with_reducible rfl
  try simp only [Act.put]
  refine wpAnyH_take (i := 5) (v := ?_) rfl (by kernel_rfl) (by kernel_rfl) (by kernel_rfl) (fun _ _ _ h => h) (Or.inl ⟨by rfl, ?_⟩) hHeld ?_
  rotate_left
  · intro y hSw
    go_simp
    try with_reducible rfl
  try simp only [Act.put]
  refine wpAnyH_take (i := 6) (v := ?_) rfl (by kernel_rfl) (by kernel_rfl) (by kernel_rfl) (fun _ _ _ h => h) (Or.inl ⟨by rfl, ?_⟩) hHeld ?_
  rotate_left
  · intro y hSw
    go_simp
    try with_reducible rfl
  try simp only [Act.put]
  refine wpAnyH_take (i := 7) (v := ?_) rfl (by kernel_rfl) (by kernel_rfl) (by kernel_rfl) (fun _ _ _ h => h) (Or.inl ⟨by rfl, ?_⟩) hHeld ?_
  rotate_left
  · intro y hSw
    go_simp
    try with_reducible rfl
  try simp only [Act.put]
  refine wpAnyH_take (i := 8) (v := ?_) rfl (by kernel_rfl) (by kernel_rfl) (by kernel_rfl) (fun _ _ _ h => h) (Or.inl ⟨by rfl, ?_⟩) hHeld ?_
  rotate_left
  · intro y hSw
    go_simp
    try with_reducible rfl
  try simp only [Act.put]
  refine wpAnyH_take (i := 9) (v := ?_) rfl (by kernel_rfl) (by kernel_rfl) (by kernel_rfl) (fun _ _ _ h => h) (Or.inl ⟨by rfl, ?_⟩) hHeld ?_
  rotate_left
  · intro y hSw
    go_simp
    try with_reducible rfl
  try simp only [Act.put]
  refine wpAnyH_take (i := 10) (v := ?_) rfl (by kernel_rfl) (by kernel_rfl) (by kernel_rfl) (fun _ _ _ h => h) (Or.inl ⟨by rfl, ?_⟩) hHeld ?_
  rotate_left
  · intro y hSw
    go_simp
    try with_reducible rfl
  try simp only [Act.put]
  refine wpAnyH_take (i := 11) (v := ?_) rfl (by kernel_rfl) (by kernel_rfl) (by kernel_rfl) (fun _ _ _ h => h) (Or.inl ⟨by rfl, ?_⟩) hHeld ?_
  rotate_left
  · intro y hSw
    go_simp
    try with_reducible rfl
  try simp only [Act.put]
  refine wpAnyH_take (i := 12) (v := ?_) rfl (by kernel_rfl) (by kernel_rfl) (by kernel_rfl) (fun _ _ _ h => h) (Or.inl ⟨by rfl, ?_⟩) hHeld ?_
  rotate_left
  · intro y hSw
    go_simp
    try with_reducible rfl
  try simp only [Act.put]
  refine wpAnyH_take (i := 13) (v := ?_) rfl (by kernel_rfl) (by kernel_rfl) (by kernel_rfl) (fun _ _ _ h => h) (Or.inl ⟨by rfl, ?_⟩) hHeld ?_
  rotate_left
  · intro y hSw
    go_simp
    try with_reducible rfl
  try simp only [Act.put]
  refine wpAnyH_ready (rs := [4, 14]) (by kernel_rfl) (by simp) ?_
  refine AllReadyH.cons rfl (fun K hK => ?_) (AllReadyH.cons rfl (fun K hK => ?_) AllReadyH.nil)
  · go_simp
    refine hK.out _ _ hHeld (fun _ => ?_)
    clear hK K
    try simp only [Act.put]
    refine wpAnyH_ready (rs := [14]) (by kernel_rfl) (by simp) ?_
    refine AllReadyH.cons rfl (fun K hK => ?_) AllReadyH.nil
    go_simp
    refine (clone_any ⟨body.toArray⟩ _ hbs).mono ?_
    rintro e w1 ⟨rfl, hb1⟩
    have hS1 : w1.cell? ⟨w.heap.size, 0, none⟩ = some (.int .u8 (k : Int)) ∧ w1.cell? ⟨w.heap.size, 1, none⟩ = some (.int .i64 (t : Int)) ∧ w1.cell? ⟨w.heap.size, 3, none⟩ = some (.int .i64 (n : Int)) ∧ w1.cell? ⟨w.heap.size, 4, none⟩ = some (.string ⟨body.toArray⟩) :=
      ⟨(hb1.cell (p := ⟨w.heap.size, 0, none⟩) hbx).trans b0, (hb1.cell (p := ⟨w.heap.size, 1, none⟩) hbx).trans b1, (hb1.cell (p := ⟨w.heap.size, 3, none⟩) hbx).trans b3, (hb1.cell (p := ⟨w.heap.size, 4, none⟩) hbx).trans b4⟩
    obtain ⟨gg, cap, w2, hP⟩ := HT.out w1 hb1
    obtain ⟨⟨g2, g3⟩, hok, hr1, hr2, hS2, c4, f4, hS3, hfin⟩ := hP
    have HF : Hid _ := hfin
    clear hfin
    try go_wp2_with fail
    refine hK.out _ _ hS1 (fun hHeld1 => ?_)
    clear hK K
    try simp only [Act.put]
    refine wpAnyH_take (i := 15) (v := ?_) rfl (by kernel_rfl) (by kernel_rfl) (by kernel_rfl) (fun _ _ _ h => h) (Or.inl ⟨by rfl, ?_⟩) hHeld1 ?_
    rotate_left
    · intro y hSw
      go_simp
      try with_reducible rfl
    try simp only [Act.put]
    refine wpAnyH_ready (rs := [16]) (by kernel_rfl) (by simp) ?_
    refine AllReadyH.cons rfl (fun K hK => ?_) AllReadyH.nil
    go_simp
    refine hK.out _ _ hS2 (fun hHeld2 => ?_)
    clear hK K
    try simp only [Act.put]
    refine wpAnyH_ready (rs := [17]) (by kernel_rfl) (by simp) ?_
    refine AllReadyH.cons rfl (fun K hK => ?_) AllReadyH.nil
    go_simp
    refine hK.out _ _ hS3.1 (fun hHeld3 => ?_)
    clear hK K
    try simp only [Act.put]
    refine wpAnyH_take (i := 18) (v := ?_) rfl (by kernel_rfl) (by kernel_rfl) (by kernel_rfl) (fun _ _ _ h => h) (Or.inl ⟨by rfl, ?_⟩) hHeld3 ?_
    rotate_left
    · intro y hSw
      go_simp
      try with_reducible rfl
    try simp only [Act.put]
    refine wpAnyH_take (i := 19) (v := ?_) rfl (by kernel_rfl) (by kernel_rfl) (by kernel_rfl) (fun _ _ _ h => h) (Or.inl ⟨by rfl, ?_⟩) hHeld3 ?_
    rotate_left
    · intro y hSw
      go_simp
      try with_reducible rfl
    try simp only [Act.put]
    refine wpAnyH_ready (rs := [20]) (by kernel_rfl) (by simp) ?_
    refine AllReadyH.cons rfl (fun K hK => ?_) AllReadyH.nil
    go_simp
    refine hK.out _ _ hS3.2 (fun hHeld4 => ?_)
    clear hK K
    try simp only [Act.put]
    refine wpAnyH_done (by kernel_rfl) ?_ _
    go_wp2
    exact bodyPost_end (results_none Tryz.results202 _ _ _) rfl ⟨gg, cap, ⟨_, rfl⟩, HF.out⟩
  · go_simp
    refine (clone_any ⟨body.toArray⟩ _ hbs).mono ?_
    rintro e w1 ⟨rfl, hb1⟩
    have hS1 : w1.cell? ⟨w.heap.size, 0, none⟩ = some (.int .u8 (k : Int)) ∧ w1.cell? ⟨w.heap.size, 1, none⟩ = some (.int .i64 (t : Int)) ∧ w1.cell? ⟨w.heap.size, 3, none⟩ = some (.int .i64 (n : Int)) ∧ w1.cell? ⟨w.heap.size, 4, none⟩ = some (.string ⟨body.toArray⟩) :=
      ⟨(hb1.cell (p := ⟨w.heap.size, 0, none⟩) hbx).trans b0, (hb1.cell (p := ⟨w.heap.size, 1, none⟩) hbx).trans b1, (hb1.cell (p := ⟨w.heap.size, 3, none⟩) hbx).trans b3, (hb1.cell (p := ⟨w.heap.size, 4, none⟩) hbx).trans b4⟩
    obtain ⟨gg, cap, w2, hP⟩ := HT.out w1 hb1
    obtain ⟨⟨g2, g3⟩, hok, hr1, hr2, hS2, c4, f4, hS3, hfin⟩ := hP
    have HF : Hid _ := hfin
    clear hfin
    try go_wp2_with fail
    refine hK.out _ _ hS1 (fun hHeld1 => ?_)
    clear hK K
    try simp only [Act.put]
    refine wpAnyH_take (i := 15) (v := ?_) rfl (by kernel_rfl) (by kernel_rfl) (by kernel_rfl) (fun _ _ _ h => h) (Or.inl ⟨by rfl, ?_⟩) hHeld1 ?_
    rotate_left
    · intro y hSw
      go_simp
      try with_reducible rfl
    try simp only [Act.put]
    refine wpAnyH_ready (rs := [4, 16]) (by kernel_rfl) (by simp) ?_
    refine AllReadyH.cons rfl (fun K hK => ?_) (AllReadyH.cons rfl (fun K hK => ?_) AllReadyH.nil)
    · go_simp
      refine hK.out _ _ hHeld1 (fun _ => ?_)
      clear hK K
      try simp only [Act.put]
      refine wpAnyH_ready (rs := [16]) (by kernel_rfl) (by simp) ?_
      refine AllReadyH.cons rfl (fun K hK => ?_) AllReadyH.nil
      go_simp
      refine hK.out _ _ hS2 (fun hHeld2 => ?_)
      clear hK K
      try simp only [Act.put]
      refine wpAnyH_ready (rs := [17]) (by kernel_rfl) (by simp) ?_
      refine AllReadyH.cons rfl (fun K hK => ?_) AllReadyH.nil
      go_simp
      refine hK.out _ _ hS3.1 (fun hHeld3 => ?_)
      clear hK K
      try simp only [Act.put]
      refine wpAnyH_take (i := 18) (v := ?_) rfl (by kernel_rfl) (by kernel_rfl) (by kernel_rfl) (fun _ _ _ h => h) (Or.inl ⟨by rfl, ?_⟩) hHeld3 ?_
      rotate_left
      · intro y hSw
        go_simp
        try with_reducible rfl
      try simp only [Act.put]
      refine wpAnyH_take (i := 19) (v := ?_) rfl (by kernel_rfl) (by kernel_rfl) (by kernel_rfl) (fun _ _ _ h => h) (Or.inl ⟨by rfl, ?_⟩) hHeld3 ?_
      rotate_left
      · intro y hSw
        go_simp
        try with_reducible rfl
      try simp only [Act.put]
      refine wpAnyH_ready (rs := [20]) (by kernel_rfl) (by simp) ?_
      refine AllReadyH.cons rfl (fun K hK => ?_) AllReadyH.nil
      go_simp
      refine hK.out _ _ hS3.2 (fun hHeld4 => ?_)
      clear hK K
      try simp only [Act.put]
      refine wpAnyH_done (by kernel_rfl) ?_ _
      go_wp2
      exact bodyPost_end (results_none Tryz.results202 _ _ _) rfl ⟨gg, cap, ⟨_, rfl⟩, HF.out⟩
    · go_simp
      refine hK.out _ _ hS2 (fun hHeld2 => ?_)
      clear hK K
      try simp only [Act.put]
      refine wpAnyH_ready (rs := [4]) (by kernel_rfl) (by simp) ?_
      refine AllReadyH.cons rfl (fun K hK => ?_) AllReadyH.nil
      go_simp
      refine hK.out _ _ hHeld2 (fun _ => ?_)
      clear hK K
      try simp only [Act.put]
      refine wpAnyH_ready (rs := [17]) (by kernel_rfl) (by simp) ?_
      refine AllReadyH.cons rfl (fun K hK => ?_) AllReadyH.nil
      go_simp
      refine hK.out _ _ hS3.1 (fun hHeld3 => ?_)
      clear hK K
      try simp only [Act.put]
      refine wpAnyH_take (i := 18) (v := ?_) rfl (by kernel_rfl) (by kernel_rfl) (by kernel_rfl) (fun _ _ _ h => h) (Or.inl ⟨by rfl, ?_⟩) hHeld3 ?_
      rotate_left
      · intro y hSw
        go_simp
        try with_reducible rfl
      try simp only [Act.put]
      refine wpAnyH_take (i := 19) (v := ?_) rfl (by kernel_rfl) (by kernel_rfl) (by kernel_rfl) (fun _ _ _ h => h) (Or.inl ⟨by rfl, ?_⟩) hHeld3 ?_
      rotate_left
      · intro y hSw
        go_simp
        try with_reducible rfl
      try simp only [Act.put]
      refine wpAnyH_ready (rs := [20]) (by kernel_rfl) (by simp) ?_
      refine AllReadyH.cons rfl (fun K hK => ?_) AllReadyH.nil
      go_simp
      refine hK.out _ _ hS3.2 (fun hHeld4 => ?_)
      clear hK K
      try simp only [Act.put]
      refine wpAnyH_done (by kernel_rfl) ?_ _
      go_wp2
      exact bodyPost_end (results_none Tryz.results202 _ _ _) rfl ⟨gg, cap, ⟨_, rfl⟩, HF.out⟩
end Go.Proofs.YtmehkneofinmiabGreatDoor

namespace Go.Proofs.YtmehkneofinmiabGreatDoor
def hexD (n : Nat) : UInt8 := UInt8.ofNat (if n < 10 then 48 + n else 87 + n)
def hexN : Nat → Nat → List UInt8
  | 0, _ => []
  | k + 1, u => hexN k (u / 16) ++ [hexD (u % 16)]
def hexM : Nat → Nat → List UInt8
  | 0, _ => []
  | k + 1, u => if u < 16 then [hexD u] else hexM k (u / 16) ++ [hexD (u % 16)]
theorem hexN_len (k u : Nat) : (hexN k u).length = k := by
  induction k generalizing u with
  | zero => rfl
  | succ k ih => simp [hexN, ih]
theorem hexM_len (k u : Nat) : (hexM k u).length ≤ k := by
  induction k generalizing u with
  | zero => exact Nat.le_refl _
  | succ k ih =>
    unfold hexM
    split
    · simp
    · have := ih (u / 16)
      simp
      omega
theorem hexN_zero (k : Nat) : hexN k 0 = List.replicate k 48 := by
  induction k with
  | zero => rfl
  | succ k ih =>
    rw [hexN, Nat.zero_div, ih, List.replicate_succ']
    rfl
theorem hexM_pos (k u : Nat) : 0 < k → 0 < (hexM k u).length := by
  cases k with
  | zero => omega
  | succ k =>
    intro _
    unfold hexM
    split <;> simp
theorem hex_pad (k u : Nat) (h : u < 16 ^ (k + 1)) : List.replicate (k + 1 - (hexM (k + 1) u).length) 48 ++ hexM (k + 1) u = hexN (k + 1) u := by
  induction k generalizing u with
  | zero =>
    have h' : u < 16 := by simpa using h
    simp [hexM, hexN, h', Nat.mod_eq_of_lt h']
  | succ k ih =>
    by_cases hu : u < 16
    · have e : hexM (k + 1 + 1) u = [hexD u] := by rw [hexM, if_pos hu]
      rw [e, hexN, Nat.div_eq_of_lt hu, hexN_zero, Nat.mod_eq_of_lt hu]
      rfl
    · have e : hexM (k + 1 + 1) u = hexM (k + 1) (u / 16) ++ [hexD (u % 16)] := by rw [hexM, if_neg hu]
      have h2 : u / 16 < 16 ^ (k + 1) := by
        rw [Nat.div_lt_iff_lt_mul (by decide), ← Nat.pow_succ]
        exact h
      rw [e, hexN, ← ih (u / 16) h2, List.length_append, List.length_singleton, ← List.append_assoc]
      congr 3
      omega
def fnvS (h : Nat) (c : UInt8) : Nat := (h ^^^ c.toNat) * 1099511628211 % 18446744073709551616
def fnv (l : List UInt8) : Nat := l.foldl fnvS 14695981039346656037
theorem fnv_snoc (l : List UInt8) (c : UInt8) : fnv (l ++ [c]) = fnvS (fnv l) c := by
  unfold fnv
  rw [List.foldl_append, List.foldl_cons, List.foldl_nil]
theorem fnvS_lt (h : Nat) (c : UInt8) : fnvS h c < 18446744073709551616 := by
  unfold fnvS
  omega
theorem fnv_lt (l : List UInt8) : fnv l < 18446744073709551616 := by
  suffices h : ∀ (l : List UInt8) (x : Nat), x < 18446744073709551616 → l.foldl fnvS x < 18446744073709551616 from h l _ (by omega)
  intro l
  induction l with
  | nil => exact fun x hx => hx
  | cons c l ih => exact fun x _ => ih _ (fnvS_lt x c)
theorem xor_step (H : Nat) (c : UInt8) (hH : H < 18446744073709551616) : IntKind.u64.wrap (bits .xor .u64 (H : Int) (c.toNat : Int) * 1099511628211) = ((fnvS H c : Nat) : Int) := by
  rw [u64_xor_nat H c.toNat hH (by have := c.toNat_lt; omega), IntKind.wrap_u64]
  unfold fnvS
  omega
end Go.Proofs.YtmehkneofinmiabGreatDoor

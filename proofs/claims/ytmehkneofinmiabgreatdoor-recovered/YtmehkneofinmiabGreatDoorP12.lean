/-
 Texts of this proof, part 12.
-/
import Derived.Test.YtmehkneofinmiabGreatDoorP11
import Derived.Lib.ConvBytes
set_option maxRecDepth 100000
set_option maxHeartbeats 4000000
namespace Go.Proofs.YtmehkneofinmiabGreatDoor
open Go.RowKit
attribute [local go_sem ↓] appS_is
attribute [local go_sem] app_run
def recV (k t : Nat) (key : List UInt8) (n : Nat) (body : List UInt8) : Value := .agg #[.int .u8 k, .int .i64 t, .string ⟨key.toArray⟩, .int .i64 n, .string ⟨body.toArray⟩]
theorem push_any (p : Nat) (E : Ent) (vs : Value) (k t n : Nat) (key body : List UInt8) (w : World) (h : EntAt w p E vs) (hp : vs.ownBlock ≠ some p) (hl : E.vers.length < 1000000) (hb : body.length < 1000000) :
 Calls Tryz.prog 202 #[.pointer (some ⟨p, 0, none⟩), recV k t key n body] w fun e w' => ∃ g cap, (∃ v, e = .returned v) /\
  EntAt w' p ⟨E.key, n, E.vers ++ [⟨n, t, k == 2, body⟩]⟩ (.slice (some ⟨g, 0, none⟩) (E.vers.length + 1) cap) /\ (vs.ownBlock = some g \/ w.heap.size <= g) /\ Off (fun k => k = p \/ vs.ownBlock = some k) w w' := by
 obtain ⟨i0, hi0, hz0, hz1, hz2⟩ := info_parts info154m
 have e1 := h.c1
 have e2 := h.c2
 have hlt := h.lt
 have f1 := h.fz 1
 have f2 := h.fz 2
 have HE : Hid (EntAt w p E vs) := h
 clear h
 unfold recV
 go_enter Tryz.func202, Tryz.ntmps202
 go_wp2_with fail
 obtain ⟨x, hx⟩ : ∃ x, x = ((w.setCell ⟨p, 1, none⟩ (.int .i64 (n : Int))).alloc (.cells #[.int .u8 (k : Int), .int .i64 (t : Int), .string ⟨key.toArray⟩, .int .i64 (n : Int), .string ⟨body.toArray⟩] 108)) := ⟨_, rfl⟩
 rw [<- hx]
 have hsz : x.heap.size = w.heap.size + 1 := by rw [hx]; simp
 have hO : Off (fun k => k = p \/ vs.ownBlock = some k) w x := by rw [hx]; exact ((Off.refl _ _).set p 1 _ (Or.inl (Or.inl rfl))).alloc _
 have hB : x.heap[p]? = some (.cells #[.string ⟨E.key.toArray⟩, .int .i64 (n : Int), vs] 183 (0, 0)) := by
  rw [hx]
  rw [heap_alloc_old _ _ (by simpa using hlt)]
  exact heap_set (i := 1) HE.out.blk
 have hR : x.ownsRow 0 147 4 vs E.vers.length (rowOf E.vers) := by
  have h0 := HE.out.row
  refine ⟨h0.1, ?_⟩
  rcases h0.2 with h0 | ⟨g, cap, cur, hv, h1, hg, h2⟩
  ·exact Or.inl h0
  ·refine Or.inr ⟨g, cap, cur, hv, h1, ?_, h2⟩
   have hne : p ≠ g := fun e => by subst e; apply hp; rw [hv]; rfl
   rw [hx, heap_alloc_old _ _ (by simpa using (Array.getElem?_eq_some_iff.1 hg).1), <- hg]
   simp [World.setCell, Array.getElem?_modify, hne]
 have hC : x.heap[w.heap.size]? = some (.cells #[.int .u8 (k : Int), .int .i64 (t : Int), .string ⟨key.toArray⟩, .int .i64 (n : Int), .string ⟨body.toArray⟩] 108 (0, 0)) := by
  rw [hx]
  have := heap_alloc_new (w.setCell ⟨p, 1, none⟩ (.int .i64 (n : Int))) (.cells #[.int .u8 (k : Int), .int .i64 (t : Int), .string ⟨key.toArray⟩, .int .i64 (n : Int), .string ⟨body.toArray⟩] 108)
  simpa using this
 have hnb : vs.ownBlock ≠ some w.heap.size := by
  intro e
  rcases HE.out.row.2 with ⟨rfl, _⟩ | ⟨g, cap, cur, rfl, _, hg, _⟩
  ·cases e
  ·cases e
   exact absurd (Array.getElem?_eq_some_iff.1 hg).1 (Nat.lt_irrefl _)
 clear hx e1 e2 f1 f2
 have hpn : p ≠ w.heap.size := by omega
 have HB : Hid _ := hB
 have HC : Hid _ := hC
 have HR : Hid _ := hR
 have HO : Hid _ := hO
 clear hB hC hR hO
 have HSZ : Hid (x.heap.size = w.heap.size + 1) := hsz
 have hltx : p < x.heap.size := by omega
 have hbx : w.heap.size < x.heap.size := by omega
 clear hsz
 have e2 : x.cell? ⟨p, 2, none⟩ = some vs := by simp [World.cell?, HB.out]
 have f2 : x.frozen? ⟨p, 2, none⟩ = false := by simp [World.frozen?, HB.out]
 have b0 : x.cell? ⟨w.heap.size, 0, none⟩ = some (.int .u8 (k : Int)) := by simp [World.cell?, HC.out]
 have b1 : x.cell? ⟨w.heap.size, 1, none⟩ = some (.int .i64 (t : Int)) := by simp [World.cell?, HC.out]
 have b3 : x.cell? ⟨w.heap.size, 3, none⟩ = some (.int .i64 (n : Int)) := by simp [World.cell?, HC.out]
 have b4 : x.cell? ⟨w.heap.size, 4, none⟩ = some (.string ⟨body.toArray⟩) := by simp [World.cell?, HC.out]
 have hbs : (⟨body.toArray⟩ : ByteArray).size <= 281474976710656 := by simp only [ByteArray.size, List.size_toArray]; omega
 have HT : Hid (∀ w1, Below x.drew.heap.size x.drew w1 -> ∃ gg cap w2, (w1.cell? ⟨p, 2, none⟩ = some vs /\ (w1.alloc (.cells #[.int .i64 (n : Int), .int .i64 (t : Int), .bool ((k : Int) == 2), .string ⟨body.toArray⟩] 147)).cell? ⟨p, 2, none⟩ = some vs) /\
  AppOk Tryz.prog 181 181 (w1.alloc (.cells #[.int .i64 (n : Int), .int .i64 (t : Int), .bool ((k : Int) == 2), .string ⟨body.toArray⟩] 147)) vs (.slice (some ⟨w1.heap.size, 0, none⟩) 1 1) /\
  (appR Tryz.prog 181 181 (w1.alloc (.cells #[.int .i64 (n : Int), .int .i64 (t : Int), .bool ((k : Int) == 2), .string ⟨body.toArray⟩] 147)) vs (.slice (some ⟨w1.heap.size, 0, none⟩) 1 1)).1 = .slice (some ⟨gg, 0, none⟩) (E.vers.length + 1) cap /\
  (appR Tryz.prog 181 181 (w1.alloc (.cells #[.int .i64 (n : Int), .int .i64 (t : Int), .bool ((k : Int) == 2), .string ⟨body.toArray⟩] 147)) vs (.slice (some ⟨w1.heap.size, 0, none⟩) 1 1)).2 = w2 /\
  ((w1.alloc (.cells #[.int .i64 (n : Int), .int .i64 (t : Int), .bool ((k : Int) == 2), .string ⟨body.toArray⟩] 147)).cell? ⟨w.heap.size, 0, none⟩ = some (.int .u8 (k : Int)) /\ (w1.alloc (.cells #[.int .i64 (n : Int), .int .i64 (t : Int), .bool ((k : Int) == 2), .string ⟨body.toArray⟩] 147)).cell? ⟨w.heap.size, 1, none⟩ = some (.int .i64 (t : Int)) /\ (w1.alloc (.cells #[.int .i64 (n : Int), .int .i64 (t : Int), .bool ((k : Int) == 2), .string ⟨body.toArray⟩] 147)).cell? ⟨w.heap.size, 3, none⟩ = some (.int .i64 (n : Int)) /\ (w1.alloc (.cells #[.int .i64 (n : Int), .int .i64 (t : Int), .bool ((k : Int) == 2), .string ⟨body.toArray⟩] 147)).cell? ⟨w.heap.size, 4, none⟩ = some (.string ⟨body.toArray⟩)) /\ w2.cell? ⟨p, 2, none⟩ = some vs /\ w2.frozen? ⟨p, 2, none⟩ = false /\
  ((w2.cell? ⟨w.heap.size, 0, none⟩ = some (.int .u8 (k : Int)) /\ w2.cell? ⟨w.heap.size, 1, none⟩ = some (.int .i64 (t : Int)) /\ w2.cell? ⟨w.heap.size, 3, none⟩ = some (.int .i64 (n : Int)) /\ w2.cell? ⟨w.heap.size, 4, none⟩ = some (.string ⟨body.toArray⟩)) /\ ((w2.setCell ⟨p, 2, none⟩ (.slice (some ⟨gg, 0, none⟩) (E.vers.length + 1) cap)).cell? ⟨w.heap.size, 0, none⟩ = some (.int .u8 (k : Int)) /\ (w2.setCell ⟨p, 2, none⟩ (.slice (some ⟨gg, 0, none⟩) (E.vers.length + 1) cap)).cell? ⟨w.heap.size, 1, none⟩ = some (.int .i64 (t : Int)) /\ (w2.setCell ⟨p, 2, none⟩ (.slice (some ⟨gg, 0, none⟩) (E.vers.length + 1) cap)).cell? ⟨w.heap.size, 3, none⟩ = some (.int .i64 (n : Int)) /\ (w2.setCell ⟨p, 2, none⟩ (.slice (some ⟨gg, 0, none⟩) (E.vers.length + 1) cap)).cell? ⟨w.heap.size, 4, none⟩ = some (.string ⟨body.toArray⟩))) /\
  (EntAt (w2.setCell ⟨p, 2, none⟩ (.slice (some ⟨gg, 0, none⟩) (E.vers.length + 1) cap)) p ⟨E.key, n, E.vers ++ [⟨n, t, k == 2, body⟩]⟩ (.slice (some ⟨gg, 0, none⟩) (E.vers.length + 1) cap) /\ (vs.ownBlock = some gg \/ w.heap.size <= gg) /\ Off (fun k => k = p \/ vs.ownBlock = some k) w (w2.setCell ⟨p, 2, none⟩ (.slice (some ⟨gg, 0, none⟩) (E.vers.length + 1) cap)))) := by
  intro w1 hb1
  have hb1 : Below x.heap.size x w1 := ⟨hb1.os, hb1.tape, hb1.output, hb1.size, hb1.block⟩
  have hsz1 : x.heap.size <= w1.heap.size := hb1.size
  have hB1 : w1.heap[p]? = _ := (hb1.block p hltx).trans HB.out
  have hC1 : w1.heap[w.heap.size]? = _ := (hb1.block _ hbx).trans HC.out
  have hR1 := row_below HR.out hb1
  have hp1 : p < w1.heap.size := Nat.lt_of_lt_of_le hltx hsz1
  have hw1 : w.heap.size < w1.heap.size := Nat.lt_of_lt_of_le hbx hsz1
  obtain ⟨gg, cap, w2, hrun, hown1, hgrow, hat, hlt2⟩ := run_append_lies (P := Tryz.prog) (w1.alloc (.cells #[.int .i64 (n : Int), .int .i64 (t : Int), .bool ((k : Int) == 2), .string ⟨body.toArray⟩] 147)) 181 181 0 147 i0 _ 4 40 Tryz.underlying181 hi0 hz0 hz1 hz2 rfl (by omega) vs E.vers.length (rowOf E.vers) (World.ownsRow.alloc hR1 _)
   ⟨w1.heap.size, 0, none⟩ 1 1 [.int .i64 (n : Int), .int .i64 (t : Int), .bool ((k : Int) == 2), .string ⟨body.toArray⟩] (by rfl) (World.news_of_block (cs := #[.int .i64 (n : Int), .int .i64 (t : Int), .bool ((k : Int) == 2), .string ⟨body.toArray⟩]) (t := 147) (fr := (0, 0)) (heap_alloc_new w1 _)) (by simp [Value.oneCell'])
   (by omega) (by simp only [maxLen]; omega) (by omega) (by simp) _ rfl
  have hpa : p < (w1.alloc (.cells #[.int .i64 (n : Int), .int .i64 (t : Int), .bool ((k : Int) == 2), .string ⟨body.toArray⟩] 147)).heap.size := by simp; omega
  have hwa : w.heap.size < (w1.alloc (.cells #[.int .i64 (n : Int), .int .i64 (t : Int), .bool ((k : Int) == 2), .string ⟨body.toArray⟩] 147)).heap.size := by simp; omega
  have hB2 : w2.heap[p]? = _ := ((hgrow.block p hpa (Ne.symm hp)).trans (heap_alloc_old _ _ hp1)).trans hB1
  have hC2 : w2.heap[w.heap.size]? = _ := ((hgrow.block _ hwa (Ne.symm hnb)).trans (heap_alloc_old _ _ hw1)).trans hC1
  have hCa : (w1.alloc (.cells #[.int .i64 (n : Int), .int .i64 (t : Int), .bool ((k : Int) == 2), .string ⟨body.toArray⟩] 147)).heap[w.heap.size]? = _ := (heap_alloc_old _ _ hw1).trans hC1
  have hBa : (w1.alloc (.cells #[.int .i64 (n : Int), .int .i64 (t : Int), .bool ((k : Int) == 2), .string ⟨body.toArray⟩] 147)).heap[p]? = _ := (heap_alloc_old _ _ hp1).trans hB1
  have hC3 : (w2.setCell ⟨p, 2, none⟩ (.slice (some ⟨gg, 0, none⟩) (E.vers.length + 1) cap)).heap[w.heap.size]? = some (.cells #[.int .u8 (k : Int), .int .i64 (t : Int), .string ⟨key.toArray⟩, .int .i64 (n : Int), .string ⟨body.toArray⟩] 108 (0, 0)) := by
   rw [<- hC2]
   simp [World.setCell, Array.getElem?_modify, hpn]
  obtain ⟨hok, hr1, hr2⟩ := app_is hrun
  have hgs : vs.ownBlock = some gg \/ w.heap.size <= gg := by
   rcases hat with h1 | h1
   ·exact Or.inl h1
   ·right
    have h2 : gg = w1.heap.size + 1 := by rw [h1]; simp
    omega
  have hne : p ≠ gg := by
   intro e
   rcases hgs with h1 | h1
   ·exact hp (e ▸ h1)
   ·omega
  refine ⟨gg, cap, w2, ⟨by simp [World.cell?, hB1], by simp [World.cell?, hBa]⟩, hok, hr1, hr2, ⟨by simp [World.cell?, hCa], by simp [World.cell?, hCa], by simp [World.cell?, hCa], by simp [World.cell?, hCa]⟩, by simp [World.cell?, hB2], by simp [World.frozen?, hB2],
   ⟨⟨by simp [World.cell?, hC2], by simp [World.cell?, hC2], by simp [World.cell?, hC2], by simp [World.cell?, hC2]⟩, ⟨by simp only [World.cell?, hC3]; simp, by simp only [World.cell?, hC3]; simp, by simp only [World.cell?, hC3]; simp, by simp only [World.cell?, hC3]; simp⟩⟩, ⟨heap_set (i := 2) hB2, ?_⟩, hgs, ?_⟩
  ·have e1 : rowOf E.vers ++ [.int .i64 (n : Int), .int .i64 (t : Int), .bool ((k : Int) == 2), .string ⟨body.toArray⟩] = rowOf (E.vers ++ [⟨n, t, k == 2, body⟩]) := by
    have hmk : ((k : Int) == 2) = (k == 2) := by
     rw [Bool.eq_iff_iff]
     simp only [beq_iff_eq]
     omega
    simp [rowOf, verCells, hmk]
   rw [e1] at hown1
   simp only [List.length_append, List.length_singleton]
   refine ⟨hown1.1, ?_⟩
   rcases hown1.2 with ⟨hc, _⟩ | ⟨g, cap', cur, hv, h1, hg, h2⟩
   ·cases hc
   ·cases hv
    refine Or.inr ⟨gg, cap, cur, rfl, h1, ?_, h2⟩
    rw [<- hg]
    simp [World.setCell, Array.getElem?_modify, hne]
  ·exact (((HO.out.trans (Off.of_below hb1)).alloc _).grown hgrow (fun k hk => Or.inl (Or.inr hk))).set p 2 _ (Or.inl (Or.inl rfl))
 refine wp_region_held_drew (S := (fun y => y.cell? ⟨w.heap.size, 0, none⟩ = some (.int .u8 (k : Int)) /\ y.cell? ⟨w.heap.size, 1, none⟩ = some (.int .i64 (t : Int)) /\ y.cell? ⟨w.heap.size, 3, none⟩ = some (.int .i64 (n : Int)) /\ y.cell? ⟨w.heap.size, 4, none⟩ = some (.string ⟨body.toArray⟩))) (by kernel_rfl) ⟨b0, b1, b3, b4⟩ (fun hHeld => ?_)
 refine tkH 0 rfl (by kernel_rfl) (fun _ _ _ h => h) (Or.inl ⟨by rfl, fun y hSw => by go_simp; try with_reducible rfl⟩) hHeld ?_
 try simp only [Act.put]
 refine tkH 1 rfl (by kernel_rfl) (fun _ _ _ h => h) (Or.inl ⟨by rfl, fun y hSw => by go_simp; try with_reducible rfl⟩) hHeld ?_
 try simp only [Act.put]
 refine tkH 2 rfl (by kernel_rfl) (fun _ _ _ h => h) (Or.inl ⟨by rfl, fun y hSw => by go_simp; try with_reducible rfl⟩) hHeld ?_
 try simp only [Act.put]
 refine tkH 3 rfl (by kernel_rfl) (fun _ _ _ h => h) (Or.inl ⟨by rfl, fun y hSw => by go_simp; try with_reducible rfl⟩) hHeld ?_
 try simp only [Act.put]
 refine tkH 5 rfl (by kernel_rfl) (fun _ _ _ h => h) (Or.inl ⟨by rfl, fun y hSw => by go_simp; try with_reducible rfl⟩) hHeld ?_
 try simp only [Act.put]
 refine tkH 6 rfl (by kernel_rfl) (fun _ _ _ h => h) (Or.inl ⟨by rfl, fun y hSw => by go_simp; try with_reducible rfl⟩) hHeld ?_
 try simp only [Act.put]
 refine tkH 7 rfl (by kernel_rfl) (fun _ _ _ h => h) (Or.inl ⟨by rfl, fun y hSw => by go_simp; try with_reducible rfl⟩) hHeld ?_
 try simp only [Act.put]
 refine tkH 8 rfl (by kernel_rfl) (fun _ _ _ h => h) (Or.inl ⟨by rfl, fun y hSw => by go_simp; try with_reducible rfl⟩) hHeld ?_
 try simp only [Act.put]
 refine tkH 9 rfl (by kernel_rfl) (fun _ _ _ h => h) (Or.inl ⟨by rfl, fun y hSw => by go_simp; try with_reducible rfl⟩) hHeld ?_
 try simp only [Act.put]
 refine tkH 10 rfl (by kernel_rfl) (fun _ _ _ h => h) (Or.inl ⟨by rfl, fun y hSw => by go_simp; try with_reducible rfl⟩) hHeld ?_
 try simp only [Act.put]
 refine tkH 11 rfl (by kernel_rfl) (fun _ _ _ h => h) (Or.inl ⟨by rfl, fun y hSw => by go_simp; try with_reducible rfl⟩) hHeld ?_
 try simp only [Act.put]
 refine tkH 12 rfl (by kernel_rfl) (fun _ _ _ h => h) (Or.inl ⟨by rfl, fun y hSw => by go_simp; try with_reducible rfl⟩) hHeld ?_
 try simp only [Act.put]
 refine tkH 13 rfl (by kernel_rfl) (fun _ _ _ h => h) (Or.inl ⟨by rfl, fun y hSw => by go_simp; try with_reducible rfl⟩) hHeld ?_
 try simp only [Act.put]
 refine wpAnyH_ready (rs := [4, 14]) (by kernel_rfl) (by simp) ?_
 refine AllReadyH.cons rfl (fun K hK => ?_) (AllReadyH.cons rfl (fun K hK => ?_) AllReadyH.nil)
 ·go_simp
  refine hK.out _ _ hHeld (fun _ => ?_)
  clear hK K
  try simp only [Act.put]
  refine wpAnyH_ready (rs := [14]) (by kernel_rfl) (by simp) ?_
  refine AllReadyH.cons rfl (fun K hK => ?_) AllReadyH.nil
  go_simp
  refine (clone_any ⟨body.toArray⟩ _ hbs).mono ?_
  rintro e w1 ⟨rfl, hb1⟩
  have hS1 : w1.cell? ⟨w.heap.size, 0, none⟩ = some (.int .u8 (k : Int)) /\ w1.cell? ⟨w.heap.size, 1, none⟩ = some (.int .i64 (t : Int)) /\ w1.cell? ⟨w.heap.size, 3, none⟩ = some (.int .i64 (n : Int)) /\ w1.cell? ⟨w.heap.size, 4, none⟩ = some (.string ⟨body.toArray⟩) :=
   ⟨(hb1.cell (p := ⟨w.heap.size, 0, none⟩) hbx).trans b0, (hb1.cell (p := ⟨w.heap.size, 1, none⟩) hbx).trans b1, (hb1.cell (p := ⟨w.heap.size, 3, none⟩) hbx).trans b3, (hb1.cell (p := ⟨w.heap.size, 4, none⟩) hbx).trans b4⟩
  obtain ⟨gg, cap, w2, hP⟩ := HT.out w1 hb1
  obtain ⟨⟨g2, g3⟩, hok, hr1, hr2, hS2, c4, f4, hS3, hfin⟩ := hP
  have HF : Hid _ := hfin
  clear hfin
  try go_wp2_with fail
  refine hK.out _ _ hS1 (fun hHeld1 => ?_)
  clear hK K
  try simp only [Act.put]
  refine tkH 15 rfl (by kernel_rfl) (fun _ _ _ h => h) (Or.inl ⟨by rfl, fun y hSw => by go_simp; try with_reducible rfl⟩) hHeld1 ?_
  try simp only [Act.put]
  refine wpAnyH_ready (rs := [16]) (by kernel_rfl) (by simp) ?_
  refine AllReadyH.cons rfl (fun K hK => ?_) AllReadyH.nil
  go_simp
  refine hK.out _ _ hS2 (fun hHeld2 => ?_)
  clear hK K
  try simp only [Act.put]
  refine wpAnyH_ready (rs := [17]) (by kernel_rfl) (by simp) ?_
  refine AllReadyH.cons rfl (fun K hK => ?_) AllReadyH.nil
  go_simp
  refine hK.out _ _ hS3.1 (fun hHeld3 => ?_)
  clear hK K
  try simp only [Act.put]
  refine tkH 18 rfl (by kernel_rfl) (fun _ _ _ h => h) (Or.inl ⟨by rfl, fun y hSw => by go_simp; try with_reducible rfl⟩) hHeld3 ?_
  try simp only [Act.put]
  refine tkH 19 rfl (by kernel_rfl) (fun _ _ _ h => h) (Or.inl ⟨by rfl, fun y hSw => by go_simp; try with_reducible rfl⟩) hHeld3 ?_
  try simp only [Act.put]
  refine wpAnyH_ready (rs := [20]) (by kernel_rfl) (by simp) ?_
  refine AllReadyH.cons rfl (fun K hK => ?_) AllReadyH.nil
  go_simp
  refine hK.out _ _ hS3.2 (fun hHeld4 => ?_)
  clear hK K
  try simp only [Act.put]
  refine wpAnyH_done (by kernel_rfl) ?_ _
  go_wp2
  exact bodyPost_end (results_none Tryz.results202 _ _ _) rfl ⟨gg, cap, ⟨_, rfl⟩, HF.out⟩
 ·go_simp
  refine (clone_any ⟨body.toArray⟩ _ hbs).mono ?_
  rintro e w1 ⟨rfl, hb1⟩
  have hS1 : w1.cell? ⟨w.heap.size, 0, none⟩ = some (.int .u8 (k : Int)) /\ w1.cell? ⟨w.heap.size, 1, none⟩ = some (.int .i64 (t : Int)) /\ w1.cell? ⟨w.heap.size, 3, none⟩ = some (.int .i64 (n : Int)) /\ w1.cell? ⟨w.heap.size, 4, none⟩ = some (.string ⟨body.toArray⟩) :=
   ⟨(hb1.cell (p := ⟨w.heap.size, 0, none⟩) hbx).trans b0, (hb1.cell (p := ⟨w.heap.size, 1, none⟩) hbx).trans b1, (hb1.cell (p := ⟨w.heap.size, 3, none⟩) hbx).trans b3, (hb1.cell (p := ⟨w.heap.size, 4, none⟩) hbx).trans b4⟩
  obtain ⟨gg, cap, w2, hP⟩ := HT.out w1 hb1
  obtain ⟨⟨g2, g3⟩, hok, hr1, hr2, hS2, c4, f4, hS3, hfin⟩ := hP
  have HF : Hid _ := hfin
  clear hfin
  try go_wp2_with fail
  refine hK.out _ _ hS1 (fun hHeld1 => ?_)
  clear hK K
  try simp only [Act.put]
  refine tkH 15 rfl (by kernel_rfl) (fun _ _ _ h => h) (Or.inl ⟨by rfl, fun y hSw => by go_simp; try with_reducible rfl⟩) hHeld1 ?_
  try simp only [Act.put]
  refine wpAnyH_ready (rs := [4, 16]) (by kernel_rfl) (by simp) ?_
  refine AllReadyH.cons rfl (fun K hK => ?_) (AllReadyH.cons rfl (fun K hK => ?_) AllReadyH.nil)
  ·go_simp
   refine hK.out _ _ hHeld1 (fun _ => ?_)
   clear hK K
   try simp only [Act.put]
   refine wpAnyH_ready (rs := [16]) (by kernel_rfl) (by simp) ?_
   refine AllReadyH.cons rfl (fun K hK => ?_) AllReadyH.nil
   go_simp
   refine hK.out _ _ hS2 (fun hHeld2 => ?_)
   clear hK K
   try simp only [Act.put]
   refine wpAnyH_ready (rs := [17]) (by kernel_rfl) (by simp) ?_
   refine AllReadyH.cons rfl (fun K hK => ?_) AllReadyH.nil
   go_simp
   refine hK.out _ _ hS3.1 (fun hHeld3 => ?_)
   clear hK K
   try simp only [Act.put]
   refine tkH 18 rfl (by kernel_rfl) (fun _ _ _ h => h) (Or.inl ⟨by rfl, fun y hSw => by go_simp; try with_reducible rfl⟩) hHeld3 ?_
   try simp only [Act.put]
   refine tkH 19 rfl (by kernel_rfl) (fun _ _ _ h => h) (Or.inl ⟨by rfl, fun y hSw => by go_simp; try with_reducible rfl⟩) hHeld3 ?_
   try simp only [Act.put]
   refine wpAnyH_ready (rs := [20]) (by kernel_rfl) (by simp) ?_
   refine AllReadyH.cons rfl (fun K hK => ?_) AllReadyH.nil
   go_simp
   refine hK.out _ _ hS3.2 (fun hHeld4 => ?_)
   clear hK K
   try simp only [Act.put]
   refine wpAnyH_done (by kernel_rfl) ?_ _
   go_wp2
   exact bodyPost_end (results_none Tryz.results202 _ _ _) rfl ⟨gg, cap, ⟨_, rfl⟩, HF.out⟩
  ·go_simp
   refine hK.out _ _ hS2 (fun hHeld2 => ?_)
   clear hK K
   try simp only [Act.put]
   refine wpAnyH_ready (rs := [4]) (by kernel_rfl) (by simp) ?_
   refine AllReadyH.cons rfl (fun K hK => ?_) AllReadyH.nil
   go_simp
   refine hK.out _ _ hHeld2 (fun _ => ?_)
   clear hK K
   try simp only [Act.put]
   refine wpAnyH_ready (rs := [17]) (by kernel_rfl) (by simp) ?_
   refine AllReadyH.cons rfl (fun K hK => ?_) AllReadyH.nil
   go_simp
   refine hK.out _ _ hS3.1 (fun hHeld3 => ?_)
   clear hK K
   try simp only [Act.put]
   refine tkH 18 rfl (by kernel_rfl) (fun _ _ _ h => h) (Or.inl ⟨by rfl, fun y hSw => by go_simp; try with_reducible rfl⟩) hHeld3 ?_
   try simp only [Act.put]
   refine tkH 19 rfl (by kernel_rfl) (fun _ _ _ h => h) (Or.inl ⟨by rfl, fun y hSw => by go_simp; try with_reducible rfl⟩) hHeld3 ?_
   try simp only [Act.put]
   refine wpAnyH_ready (rs := [20]) (by kernel_rfl) (by simp) ?_
   refine AllReadyH.cons rfl (fun K hK => ?_) AllReadyH.nil
   go_simp
   refine hK.out _ _ hS3.2 (fun hHeld4 => ?_)
   clear hK K
   try simp only [Act.put]
   refine wpAnyH_done (by kernel_rfl) ?_ _
   go_wp2
   exact bodyPost_end (results_none Tryz.results202 _ _ _) rfl ⟨gg, cap, ⟨_, rfl⟩, HF.out⟩
end Go.Proofs.YtmehkneofinmiabGreatDoor
namespace Go.Proofs.YtmehkneofinmiabGreatDoor
def hexD (n : Nat) : UInt8 := UInt8.ofNat (if n < 10 then 48 + n else 87 + n)
def hexN : Nat -> Nat -> List UInt8
 | 0, _ => []
 | k + 1, u => hexN k (u / 16) ++ [hexD (u % 16)]
def hexM : Nat -> Nat -> List UInt8
 | 0, _ => []
 | k + 1, u => if u < 16 then [hexD u] else hexM k (u / 16) ++ [hexD (u % 16)]
theorem hexN_len (k u : Nat) : (hexN k u).length = k := by
 induction k generalizing u with
 | zero => rfl
 | succ k ih => simp [hexN, ih]
theorem hexM_len (k u : Nat) : (hexM k u).length <= k := by
 induction k generalizing u with
 | zero => exact Nat.le_refl _
 | succ k ih =>
   unfold hexM
   split
   ·simp
   ·have := ih (u / 16)
    simp
    omega
theorem hexN_zero (k : Nat) : hexN k 0 = List.replicate k 48 := by
 induction k with
 | zero => rfl
 | succ k ih =>
   rw [hexN, Nat.zero_div, ih, List.replicate_succ']
   rfl
theorem hexM_pos (k u : Nat) : 0 < k -> 0 < (hexM k u).length := by
 cases k with
 | zero => omega
 | succ k =>
   intro _
   unfold hexM
   split <;> simp
theorem hex_pad (k u : Nat) (h : u < 16 ^ (k + 1)) : List.replicate (k + 1 - (hexM (k + 1) u).length) 48 ++ hexM (k + 1) u = hexN (k + 1) u := by
 induction k generalizing u with
 | zero =>
   have h' : u < 16 := by simpa using h
   simp [hexM, hexN, h', Nat.mod_eq_of_lt h']
 | succ k ih =>
   by_cases hu : u < 16
   ·have e : hexM (k + 1 + 1) u = [hexD u] := by rw [hexM, if_pos hu]
    rw [e, hexN, Nat.div_eq_of_lt hu, hexN_zero, Nat.mod_eq_of_lt hu]
    rfl
   ·have e : hexM (k + 1 + 1) u = hexM (k + 1) (u / 16) ++ [hexD (u % 16)] := by rw [hexM, if_neg hu]
    have h2 : u / 16 < 16 ^ (k + 1) := by
     rw [Nat.div_lt_iff_lt_mul (by decide), <- Nat.pow_succ]
     exact h
    rw [e, hexN, <- ih (u / 16) h2, List.length_append, List.length_singleton, <- List.append_assoc]
    congr 3
    omega
def fnvS (h : Nat) (c : UInt8) : Nat := (h ^^^ c.toNat) * 1099511628211 % 18446744073709551616
def fnv (l : List UInt8) : Nat := l.foldl fnvS 14695981039346656037
theorem fnv_snoc (l : List UInt8) (c : UInt8) : fnv (l ++ [c]) = fnvS (fnv l) c := by
 unfold fnv
 rw [List.foldl_append, List.foldl_cons, List.foldl_nil]
theorem fnvS_lt (h : Nat) (c : UInt8) : fnvS h c < 18446744073709551616 := by
 unfold fnvS
 omega
theorem fnv_lt (l : List UInt8) : fnv l < 18446744073709551616 := by
 suffices h : ∀ (l : List UInt8) (x : Nat), x < 18446744073709551616 -> l.foldl fnvS x < 18446744073709551616 from h l _ (by omega)
 intro l
 induction l with
 | nil => exact fun x hx => hx
 | cons c l ih => exact fun x _ => ih _ (fnvS_lt x c)
theorem xor_step (H : Nat) (c : UInt8) (hH : H < 18446744073709551616) : IntKind.u64.wrap (bits .xor .u64 (H : Int) (c.toNat : Int) * 1099511628211) = ((fnvS H c : Nat) : Int) := by
 rw [u64_xor_nat H c.toNat hH (by have := c.toNat_lt; omega), IntKind.wrap_u64]
 unfold fnvS
 omega
end Go.Proofs.YtmehkneofinmiabGreatDoor
namespace Go.Proofs.YtmehkneofinmiabGreatDoor
open Go.RowKit
def Tz (w : World) : Prop := w.cell? ⟨3, 15, none⟩ = some (.int .u8 4)
theorem Tz.below {w w' : World} (h : Tz w) (hb : Below w.heap.size w w') : Tz w' := (hb.cell (p := ⟨3, 15, none⟩) (World.block_lt_of_cell? _ _ h)).trans h
theorem pow2_16 (w : World) : Calls Tryz.prog 159 #[.int .i64 16] w fun e w' => e = .returned (.bool true) /\ w' = w := by
 go_enter Tryz.func159, Tryz.ntmps159
 go_wp2
 go_ret
 exact ⟨rfl, rfl⟩
theorem tz64_16 (w : World) (h : Tz w) : Calls Tryz.prog 206 #[.int .u64 16] w fun e w' => e = .returned (.int .i64 4) /\ w' = w := by
 unfold Tz at h
 have e4 : IntKind.u64.wrap (bits .and .u64 16 (IntKind.u64.wrap (-16)) * 285870213051353865) / 288230376151711744 = 15 := by decide +kernel
 go_enter Tryz.func206, Tryz.ntmps206
 go_wp2
 go_ret
 exact ⟨rfl, rfl⟩
theorem tz_16 (w : World) (h : Tz w) : Calls Tryz.prog 160 #[.int .u64 16] w fun e w' => e = .returned (.int .i64 4) /\ w' = w := by
 go_enter Tryz.func160, Tryz.ntmps160
 go_wp2_with fail
 refine (tz64_16 _ h).mono ?_
 rintro e w1 ⟨rfl, rfl⟩
 go_wp2
 go_ret
 exact ⟨rfl, rfl⟩
def digs : ByteArray := ⟨#[48, 49, 50, 51, 52, 53, 54, 55, 56, 57, 97, 98, 99, 100, 101, 102, 103, 104, 105, 106, 107, 108, 109, 110, 111, 112, 113, 114, 115, 116, 117, 118, 119, 120, 121, 122]⟩
theorem digs_at : ∀ k : Fin 16, digs[k.val]'(by have : digs.size = 36 := rfl; omega) = hexD k.val := by decide
theorem digs_run (k : Nat) (h : k < 16) (w : World) : (Instr.index 9 (.string digs) (.int .u64 (k : Int))).run Tryz.prog w = .ok (.int .u8 ((hexD k).toNat : Int)) w := by
 have hd : digs.size = 36 := rfl
 rw [run_index_string _ 9 digs .u64 k Tryz.underlying9, dif_pos ⟨by omega, by rw [hd]; omega⟩]
 exact congrArg (fun z : UInt8 => Result.ok (Value.int .u8 (z.toNat : Int)) w) (digs_at ⟨k, h⟩)
structure Ar (w x : World) (D : List UInt8) : Prop where
 b : Below w.heap.size w x
 c : ∀ j, j < 65 -> ∃ v : UInt8, x.cell? ⟨w.heap.size, j, none⟩ = some (.int .u8 (v.toNat : Int))
 d : ∀ j, j < D.length -> x.cell? ⟨w.heap.size, 65 - D.length + j, none⟩ = some (.int .u8 ((D.getD j 0).toNat : Int))
 f : ∀ j, j < 65 -> x.frozen? ⟨w.heap.size, j, none⟩ = false
 lt : w.heap.size < x.heap.size
theorem Ar.push {w x : World} {D : List UInt8} (h : Ar w x D) (c : UInt8) (hD : D.length < 65) : Ar w (x.setCell ⟨w.heap.size, 64 - D.length, none⟩ (.int .u8 (c.toNat : Int))) (c::D) := by
 obtain ⟨v, hv⟩ := h.c (64 - D.length) (by omega)
 have same := World.cell?_setCell_same x ⟨w.heap.size, 64 - D.length, none⟩ (.int .u8 (c.toNat : Int)) hv
 have other : ∀ j, j ≠ 64 - D.length -> (x.setCell ⟨w.heap.size, 64 - D.length, none⟩ (.int .u8 (c.toNat : Int))).cell? ⟨w.heap.size, j, none⟩ = x.cell? ⟨w.heap.size, j, none⟩ := fun j hj =>
  World.cell?_setCell_other _ _ _ _ (by intro e; injection e; omega)
 refine ⟨h.b.setCell (Nat.le_refl _) _, fun j hj => ?_, fun j hj => ?_, fun j hj => ?_, ?_⟩
 ·by_cases e : j = 64 - D.length
  ·rw [e]; exact ⟨c, same⟩
  ·rw [other j e]; exact h.c j hj
 ·cases j with
  | zero =>
    rw [show 65 - (c::D).length + 0 = 64 - D.length by simp]
    exact same
  | succ j =>
    have hj' : j < D.length := by simpa using hj
    rw [show 65 - (c::D).length + (j + 1) = 65 - D.length + j by simp; omega, other _ (by omega), h.d j hj']
    simp
 ·rw [World.frozen?_setCell]
  exact h.f j hj
 ·simpa [World.setCell] using h.lt
theorem Ar.text {w x : World} {D : List UInt8} (h : Ar w x D) (n cp : Nat) (hn : n = D.length) : (convert 95 9 (.slice (some ⟨w.heap.size, 65 - D.length, none⟩) n cp)).run Tryz.prog x = .ok (.string ⟨D.toArray⟩) x := by
 subst hn
 exact run_convert_bytes_back (P := Tryz.prog) x 95 9 5 ⟨w.heap.size, 65 - D.length, none⟩ cp D Tryz.underlying95 Tryz.underlying5 Tryz.underlying9 (fun j hj => by
  rw [Go.WideShapes.add_plain, h.d j hj]
  rw [List.getD, List.getElem?_eq_getElem hj]
  rfl)
theorem zero105 : Tryz.zeroCells250 = Array.replicate 65 (.int .u8 0) := by kernel_rfl
theorem Ar.made (w : World) : Ar w (w.alloc (.cells Tryz.zeroCells250 250)) [] := by
 refine ⟨(Below.refl _ _).alloc (Nat.le_refl _) _, fun j hj => ⟨0, ?_⟩, fun j hj => absurd hj (by simp), fun j hj => ?_, by simp⟩
 ·rw [zero105]
  simp [hj]
 ·rw [zero105]
  simp
theorem slice65 (W : World) (g j : Nat) (h : j < 65) : (Instr.sliceAt 250 (.pointer (some ⟨g, 0, none⟩)) (some (.int .i64 (j : Int))) none none).run Tryz.prog W = .ok (.slice (some ⟨g, j, none⟩) (65 - j) (65 - j)) W := by
 have hu : Tryz.prog.underlying 250 = some (.array (Tryz.prog.arrayLen 250) (Tryz.prog.elem 250)) := by kernel_rfl
 have hl : Tryz.prog.arrayLen 250 = 65 := by kernel_rfl
 have he : Tryz.prog.elem 250 = 5 := by kernel_rfl
 rw [run_sliceAt_array_l W 250 ⟨g, 0, none⟩ hu .i64 (j : Int) (by omega) (by rw [hl]; omega), hl, he, Tryz.sizeOf5]
 simp only [Result.andThen, slicedAt, Int.toNat_natCast, Nat.mul_one]
 rw [if_neg (by omega), Go.WideShapes.add_plain, Nat.zero_add]
theorem and15 (u : Nat) (h : u < 18446744073709551616) : bits .and .u64 (u : Int) 15 = ((u % 16 : Nat) : Int) := by
 have := u64_and_nat u 15 h (by omega)
 rw [show (u &&& 15 : Nat) = u % 16 from Nat.and_two_pow_sub_one_eq_mod u 4] at this
 exact this
theorem formatBits_16 (U : Nat) (w : World) (hU : U < 18446744073709551616) (h : Tz w) : Calls Tryz.prog 111 #[.slice none 0 0, .int .u64 (U : Int), .int .i64 16, .bool false, .bool false] w fun e w' => e = .returned (.tuple #[.slice none 0 0, .string ⟨(hexM 16 U).toArray⟩]) /\ Below w.heap.size w w' := by
 go_enter Tryz.func111, Tryz.ntmps111
 go_wp2_with fail
 refine (pow2_16 _).mono ?_
 rintro e w1 ⟨rfl, hw1⟩
 have ar1 : Ar w w1 [] := by rw [hw1]; exact Ar.made w
 clear hw1
 go_wp2_with fail
 refine (tz_16 _ (h.below ar1.b)).mono ?_
 rintro e w2 ⟨rfl, rfl⟩
 go_wp2
 go_loopw [1, 13] (fun u i wr => ∃ (n k : Nat) (D : List UInt8), u = .int .u64 (n : Int) /\ i = .int .i64 ((65 - D.length : Nat) : Int) /\ D.length + k = 16 /\ 0 < k /\ n < 16 ^ k /\ Hid (hexM 16 U = hexM k n ++ D) /\ Ar w wr D) (fun u _ _ => (intOf u).toNat)
 case atStart => exact ⟨U, 16, [], rfl, rfl, rfl, by omega, by omega, (List.append_nil _).symm, ar1⟩
 case round =>
  obtain ⟨n, k, D, rfl, rfl, hk, hk0, hn, hx, ar⟩ := hrel
  have hn64 : n < 18446744073709551616 := by
   have : 16 ^ k <= 16 ^ 16 := Nat.pow_le_pow_right (by decide) (by omega)
   omega
  obtain ⟨j, hj⟩ : ∃ j, 64 - D.length = j := ⟨_, rfl⟩
  have e65 : ((65 - D.length : Nat) : Int) = (j : Int) + 1 := by omega
  have hj65 : j < 65 := by omega
  obtain ⟨v0, hv0⟩ := ar.c j hj65
  have hf0 := ar.f j hj65
  rw [e65]
  by_cases hge : 16 <= n
  ·have ha := and15 n hn64
   have hd := digs_run (n % 16) (by omega)
   unfold digs at hd
   have HE : Hid (digs[n % 16]'(by have : digs.size = 36 := rfl; omega) = hexD (n % 16)) := digs_at ⟨n % 16, by omega⟩
   have HA : Hid _ := ar.push (hexD (n % 16)) (by omega)
   clear hd
   go_wp2
   refine ⟨⟨n / 16, k - 1, hexD (n % 16)::D, by go_num, by simp; omega, by simp; omega, ?_, ?_, ?_, ?_⟩, by simp [intOf]; omega⟩
   ·apply Classical.byContradiction
    intro hc
    obtain rfl : k = 1 := by omega
    omega
   ·obtain ⟨k', rfl⟩ : ∃ k', k = k' + 1 := ⟨k - 1, by omega⟩
    rw [Nat.add_sub_cancel, Nat.div_lt_iff_lt_mul (by decide), <- Nat.pow_succ]
    exact hn
   ·show _ = _
    obtain ⟨k', rfl⟩ : ∃ k', k = k' + 1 := ⟨k - 1, by omega⟩
    rw [hx.out, Nat.add_sub_cancel, hexM, if_neg (by omega)]
    simp
   ·have := HA.out
    rw [hj] at this
    have e := HE.out
    unfold digs at e
    rw [e]
    exact this
  ·have hd := digs_run n (by omega)
   unfold digs at hd
   have HA : Hid _ := ar.push (hexD n) (by omega)
   have hsl := fun W => slice65 W w.heap.size j hj65
   have har := (ar.push (hexD n) (by omega))
   rw [hj] at har
   have htx := har.text (65 - j) (65 - j) (by simp; omega)
   rw [show 65 - (hexD n::D).length = j by simp; omega] at htx
   have HR : Hid (hexM 16 U = hexD n::D) := by
    show _ = _
    obtain ⟨k', rfl⟩ : ∃ k', k = k' + 1 := ⟨k - 1, by omega⟩
    rw [hx.out, hexM, if_pos (by omega)]
    rfl
   have hbb := har.b
   clear HA
   go_wp2
   rw [HR.out]
   go_ret2
   exact ⟨rfl, hbb⟩
theorem formatUint_in (U : Nat) (w : World) (hU : U < 18446744073709551616) (h : Tz w) : Calls Tryz.prog 194 #[.int .u64 (U : Int), .int .i64 16] w fun e w' => e = .returned (.string ⟨(hexM 16 U).toArray⟩) /\ Below w.heap.size w w' := by
 go_enter Tryz.func194, Tryz.ntmps194
 go_wp2_with fail
 refine (formatBits_16 U _ hU h).mono ?_
 rintro e w1 ⟨rfl, hb⟩
 go_wp2
 go_ret
 exact ⟨rfl, hb⟩
theorem formatUint (U : Nat) (w : World) (hU : U < 18446744073709551616) (h : Tz w) : Calls Tryz.prog 145 #[.int .u64 (U : Int), .int .i64 16] w fun e w' => e = .returned (.string ⟨(hexM 16 U).toArray⟩) /\ Below w.heap.size w w' := by
 go_enter Tryz.func145, Tryz.ntmps145
 go_wp2_with fail
 refine (formatUint_in U _ hU h).mono ?_
 rintro e w1 ⟨rfl, hb⟩
 go_wp2
 go_ret
 exact ⟨rfl, hb⟩
theorem rep_one (c : Nat) : Lib.repeatL [48] c = List.replicate c 48 := by
 induction c with
 | zero => rfl
 | succ c ih =>
   simp [Lib.repeatL, List.replicate_succ] at ih ⊢
   exact ih
theorem progTag (s : ByteArray) (w : World) (hs : s.size <= 9223372036854775807) (h : Tz w) : Calls Tryz.prog 100 #[.string s] w fun e w' => e = .returned (.string ⟨(hexN 16 (fnv s.data.toList)).toArray⟩) /\ Below w.heap.size w w' := by
 go_enter Tryz.func100, Tryz.ntmps100
 go_wp2
 go_loop [3, 8] (fun hh i => ∃ k : Nat, k <= s.size /\ i = .int .i64 k /\ hh = .int .u64 ((fnv (s.data.toList.take k) : Nat) : Int)) (fun _ i => s.size - (intOf i).toNat)
 case atStart => exact ⟨0, Nat.zero_le _, rfl, rfl⟩
 case round =>
  obtain ⟨k, hk, rfl, rfl⟩ := hrel
  by_cases hlt : k < s.size
  ·have hlt' := fnv_lt (s.data.toList.take k)
   have HX : Hid (fnv (s.data.toList.take (k + 1)) = fnvS (fnv (s.data.toList.take k)) s[k]) := by
    show _ = _
    rw [take_snoc s k hlt, fnv_snoc]
   obtain ⟨F, hF⟩ : ∃ F, fnv (s.data.toList.take k) = F := ⟨_, rfl⟩
   rw [hF] at hlt' HX ⊢
   have hst := xor_step F s[k] hlt'
   have hwr : IntKind.u64.wrap (s[k].toNat : Int) = (s[k].toNat : Int) := by
    rw [IntKind.wrap_u64]
    have := s[k].toNat_lt
    omega
   rw [<- hwr] at hst
   obtain ⟨F2, hF2⟩ : ∃ F2, fnvS F s[k] = F2 := ⟨_, rfl⟩
   rw [hF2] at HX hst
   have HS : Hid _ := hst
   clear hst hwr
   go_wp2
   exact ⟨⟨k + 1, by omega, by go_num, by rw [HS.out, HX.out]⟩, by simp [intOf]; omega⟩
  ·obtain rfl : k = s.size := by omega
   rw [List.take_of_length_le (by rw [Lib.size_eq]; exact Nat.le_refl _)]
   have hl := fnv_lt s.data.toList
   obtain ⟨F, hF⟩ : ∃ F, fnv s.data.toList = F := ⟨_, rfl⟩
   rw [hF] at hl ⊢
   have hp := hex_pad 15 F (by omega)
   have hm := hexM_len 16 F
   have hq := hexM_pos 16 F (by omega)
   have HP : Hid _ := hp
   clear hp
   go_wp2_with fail
   refine (formatUint F _ hl h).mono ?_
   rintro e w1 ⟨rfl, hb1⟩
   obtain ⟨M, hM⟩ : ∃ M, hexM 16 F = M := ⟨_, rfl⟩
   rw [hM] at hm hq HP ⊢
   go_wp2_with fail
   rw [show (16 : Int) - (M.length : Int) = ((16 - M.length : Nat) : Int) by omega]
   have hrp := Tryz.strings_Repeat ⟨#[48]⟩ (16 - M.length) w1 (by omega) (by show 1 * _ <= _; omega)
   rw [show (⟨#[48]⟩ : ByteArray).data.toList = [48] from rfl, rep_one] at hrp
   refine hrp.mono ?_
   rintro e w2 ⟨rfl, hb2⟩
   clear hrp
   obtain ⟨Z, hZ⟩ : ∃ Z, List.replicate (16 - M.length) (48 : UInt8) = Z := ⟨_, rfl⟩
   have hZl : Z.length <= 16 := by rw [<- hZ]; simp
   have HP2 : Hid (Z ++ M = hexN 16 F) := by
    have := HP.out
    rw [show 15 + 1 - M.length = 16 - M.length by omega, hZ] at this
    exact this
   rw [hZ]
   clear hZ HP
   go_wp2
   go_ret
   refine ⟨ret_str ?_, hb1.trans (hb2.mono hb1.size)⟩
   rw [hF, <- HP2.out]
   apply ByteArray.ext
   simp [ByteArray.data_append]
end Go.Proofs.YtmehkneofinmiabGreatDoor

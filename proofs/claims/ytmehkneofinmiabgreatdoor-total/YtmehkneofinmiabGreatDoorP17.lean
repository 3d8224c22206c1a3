/-
  Texts of this proof, part 17.
-/
import Derived.Test.YtmehkneofinmiabGreatDoorP16
import Derived.Lib.SliceRun
import Derived.Laws.OwnMore
namespace Go.Proofs.YtmehkneofinmiabGreatDoor
open Go.RowKit
attribute [local go_sem ↓] appS_is
attribute [local go_sem] app_run
theorem clear_one (w : World) (ty : TypeId) (b o c : Nat) (hc : ∀ j, j < 4 → (w.cell? ⟨b, o + j, none⟩).isSome = true) (hf : ∀ j, j < 4 → w.frozen? ⟨b, o + j, none⟩ = false) :
    (Builtin.clear_ #[181] ty #[.slice (some ⟨b, o, none⟩) 1 c]).run Tryz.prog w = .ok (.tuple #[]) (w.setCells b o [.int .i64 0, .int .i64 0, .bool false, .string ⟨#[]⟩]) := by
  have hst := run_storeCells_cells (P := Tryz.prog) b o [.int .i64 0, .int .i64 0, .bool false, .string ⟨#[]⟩] 0 w (by simpa using hc) (by simpa using hf) (by simp [Value.oneCell'])
  simp only [Nat.add_zero] at hst
  have hzc : (Builtin.zeroCells (Value.agg #[.int .i64 0, .int .i64 0, .bool false, .string ⟨#[]⟩]).cells 1).toList = [.int .i64 0, .int .i64 0, .bool false, .string ⟨#[]⟩] := by simp [Builtin.zeroCells, Value.cells, List.range_succ]
  simp only [Builtin.clear_]
  simp [run_underlying Tryz.underlying181, Tryz.zeroValue147, hzc, hst]
theorem rowOf_append (a b : List Ver) : rowOf (a ++ b) = rowOf a ++ rowOf b := by simp [rowOf]
theorem rowOf_take (l : List Ver) (i : Nat) (h : i ≤ l.length) : (rowOf l).take (i * 4) = rowOf (l.take i) := by
  have e : rowOf l = rowOf (l.take i) ++ rowOf (l.drop i) := by rw [← rowOf_append, List.take_append_drop]
  rw [e]
  have hl : (rowOf (l.take i)).length = i * 4 := by rw [rowOf_length, List.length_take, Nat.min_eq_left h]
  rw [← hl, List.take_left]
theorem rowOf_drop (l : List Ver) (i : Nat) (h : i ≤ l.length) : (rowOf l).drop (i * 4) = rowOf (l.drop i) := by
  have e : rowOf l = rowOf (l.take i) ++ rowOf (l.drop i) := by rw [← rowOf_append, List.take_append_drop]
  rw [e]
  have hl : (rowOf (l.take i)).length = i * 4 := by rw [rowOf_length, List.length_take, Nat.min_eq_left h]
  rw [← hl, List.drop_left]
theorem rowOf_one {l : List Ver} {v : Value} (h : v ∈ rowOf l) : v.oneCell' = true := by
  simp only [rowOf, List.mem_flatMap] at h
  obtain ⟨x, _, hx⟩ := h
  simp only [verCells, List.mem_cons, List.not_mem_nil, or_false] at hx
  rcases hx with rfl | rfl | rfl | rfl <;> rfl
set_option maxRecDepth 100000 in
set_option maxHeartbeats 4000000 in
theorem delete_any (l : List Ver) (g cap : Nat) (i : Nat) (w : World) (h : w.ownsRow 0 147 4 (.slice (some ⟨g, 0, none⟩) l.length cap) l.length (rowOf l)) (hi : i < l.length) (hl : l.length < 1000000) :
    Calls Tryz.prog 239 #[.slice (some ⟨g, 0, none⟩) l.length cap, .int .i64 i, .int .i64 ((i : Int) + 1)] w fun e w' => e = .returned (.slice (some ⟨g, 0, none⟩) (l.length - 1) cap) ∧
      w'.ownsRow 0 147 4 (.slice (some ⟨g, 0, none⟩) (l.length - 1) cap) (l.length - 1) (rowOf (l.eraseIdx i)) ∧ Off (fun k => k = g) w w' := by
  obtain ⟨i0, hi0, hz0, hz1, hz2⟩ := info_parts info154m
  obtain ⟨cur, hg, hnc, hcm, hcs, htk⟩ : ∃ cur, w.heap[g]? = some (.cells cur 147 (0, 0)) ∧ l.length ≤ cap ∧ cap ≤ maxLen ∧ cur.size = cap * 4 ∧ cur.toList.take (l.length * 4) = rowOf l := by
    rcases h.2 with ⟨h0, _⟩ | ⟨g', cap', cur, hv, _, hg, h2⟩
    · cases h0
    · cases hv; exact ⟨cur, hg, h2⟩
  have hlt : g < w.heap.size := (Array.getElem?_eq_some_iff.1 hg).1
  simp only [maxLen] at hcm
  have hown : w.drew.ownsRow 0 147 4 (.slice (some ⟨g, 0, none⟩) i cap) i (rowOf (l.take i)) := by
    refine ⟨by rw [rowOf_length, List.length_take, Nat.min_eq_left (by omega)], Or.inr ⟨g, cap, cur, rfl, Nat.zero_le _, hg, by omega, by simp only [maxLen]; omega, hcs, ?_⟩⟩
    rw [← rowOf_take l i (by omega), ← htk, List.take_take, Nat.min_eq_left (by omega)]
  have hcell : ∀ j u, (rowOf l)[j]? = some u → w.cell? ⟨g, j, none⟩ = some u := by
    intro j u hu
    have hj : j < l.length * 4 := by have := (List.getElem?_eq_some_iff.1 hu).1; rwa [rowOf_length] at this
    rw [← htk, List.getElem?_take_of_lt hj] at hu
    simpa [World.cell?, hg] using hu
  obtain ⟨A, hA, hsrc⟩ : ∃ A : Addr, (if cap = i + 1 then some (⟨g, 0, none⟩ : Addr) else some ⟨g, (i + 1) * 4, none⟩) = some A ∧ Hid (∀ t u, (rowOf (l.drop (i + 1)))[t]? = some u → w.drew.cell? (A.add t) = some u) := by
    by_cases hc : cap = i + 1
    · refine ⟨⟨g, 0, none⟩, by simp [hc], fun t u hu => ?_⟩
      have : l.drop (i + 1) = [] := List.drop_eq_nil_of_le (by omega)
      rw [this] at hu
      simp [rowOf] at hu
    · refine ⟨⟨g, (i + 1) * 4, none⟩, by simp [hc], fun t u hu => ?_⟩
      rw [← rowOf_drop l (i + 1) (by omega), List.getElem?_drop] at hu
      rw [Addr.add_lit]
      exact hcell _ _ hu
  obtain ⟨w1, hrun, hown1, hgrow⟩ := run_append_fits (P := Tryz.prog) w.drew 0 181 181 147 i0 4 Tryz.underlying181 hi0 hz1 g i cap (rowOf (l.take i)) hown A (l.length - (i + 1)) (cap - (i + 1)) (rowOf (l.drop (i + 1))) (by rw [rowOf_length, List.length_drop]) hsrc.out (fun u hu => rowOf_one hu) (by omega)
  obtain ⟨hok, hr1, hr2⟩ := app_is hrun
  have HG : Hid _ := hgrow
  have HO : Hid _ := hown1
  obtain ⟨cur1, hg1, hcs1, htk1⟩ : ∃ cur1, w1.heap[g]? = some (.cells cur1 147 (0, 0)) ∧ cur1.size = cap * 4 ∧ cur1.toList.take ((i + (l.length - (i + 1))) * 4) = rowOf (l.take i) ++ rowOf (l.drop (i + 1)) := by
    rcases HO.out.2 with ⟨h0, _⟩ | ⟨g', cap', cur', hv, _, hg', _, _, h3, h4⟩
    · cases h0
    · cases hv; exact ⟨cur', hg', h3, h4⟩
  have hcl : (Builtin.clear_ #[181] 0 #[.slice (some ⟨g, (i + (l.length - (i + 1))) * 4, none⟩) (l.length - (i + (l.length - (i + 1)))) (cap - (i + (l.length - (i + 1))))]).run Tryz.prog w1 = .ok (.tuple #[]) (w1.setCells g ((i + (l.length - (i + 1))) * 4) [.int .i64 0, .int .i64 0, .bool false, .string ⟨#[]⟩]) := by
    have e1 : l.length - (i + (l.length - (i + 1))) = 1 := by omega
    rw [e1]
    refine clear_one w1 0 g _ _ (fun j hj => ?_) (fun j hj => ?_)
    · simp only [World.cell?, hg1]
      rw [Array.getElem?_eq_getElem (by omega)]
      rfl
    · simp [World.frozen?, hg1]
  obtain ⟨w2, hw2⟩ : ∃ w2, w2 = w1.setCells g ((i + (l.length - (i + 1))) * 4) [.int .i64 0, .int .i64 0, .bool false, .string ⟨#[]⟩] := ⟨_, rfl⟩
  rw [← hw2] at hcl
  have HW : Hid _ := hw2
  have H1 : Hid _ := hg1
  have H2 : Hid _ := hcs1
  have H3 : Hid _ := htk1
  clear hrun hgrow hown1 hown hcell hsrc h htk hcs hg hw2 hg1 hcs1 htk1
  go_enter Tryz.func239, Tryz.ntmps239
  go_wp2_with fail
  go_region
  go_wp2
  go_ret
  have hk : i + (l.length - (i + 1)) = l.length - 1 := by omega
  refine ⟨by rw [← hk]; rfl, ?_, ?_⟩
  · have hb : w2.heap[g]? = some (.cells (((((cur1.setIfInBounds ((l.length - 1) * 4) (.int .i64 0)).setIfInBounds ((l.length - 1) * 4 + 1) (.int .i64 0)).setIfInBounds ((l.length - 1) * 4 + 1 + 1) (.bool false)).setIfInBounds ((l.length - 1) * 4 + 1 + 1 + 1) (.string ⟨#[]⟩))) 147 (0, 0)) := by
      rw [HW.out, hk]
      exact heap_set (heap_set (heap_set (heap_set H1.out)))
    refine ⟨by rw [rowOf_length, List.length_eraseIdx_of_lt hi], Or.inr ⟨g, cap, _, rfl, Nat.zero_le _, hb, by omega, by simp only [maxLen]; omega, by simpa using H2.out, ?_⟩⟩
    have h3 := H3.out
    rw [hk] at h3
    have e2 : rowOf (l.eraseIdx i) = rowOf (l.take i) ++ rowOf (l.drop (i + 1)) := by rw [List.eraseIdx_eq_take_drop_succ, rowOf_append]
    rw [e2, ← h3]
    apply List.ext_getElem?
    intro t
    by_cases ht : t < (l.length - 1) * 4
    · rw [List.getElem?_take_of_lt ht, List.getElem?_take_of_lt ht]
      simp only [Array.getElem?_toList]
      rw [Array.getElem?_setIfInBounds_ne (by omega), Array.getElem?_setIfInBounds_ne (by omega), Array.getElem?_setIfInBounds_ne (by omega), Array.getElem?_setIfInBounds_ne (by omega)]
    · rw [List.getElem?_eq_none (by simp; omega), List.getElem?_eq_none (by simp; omega)]
  · have ho : Off (fun k => k = g) w w1 := (Off.refl _ w).drew.grown HG.out (fun k hk => Or.inl (by cases hk; rfl))
    rw [HW.out]
    exact (((ho.set g _ _ (Or.inl rfl)).set g _ _ (Or.inl rfl)).set g _ _ (Or.inl rfl)).set g _ _ (Or.inl rfl)
end Go.Proofs.YtmehkneofinmiabGreatDoor

namespace Go.Proofs.YtmehkneofinmiabGreatDoor
open Go.RowKit
set_option maxHeartbeats 4000000 in
theorem remove_any (p : Nat) (E : Ent) (vs : Value) (n : Int) (w : World) (h : EntAt w p E vs) (hp : vs.ownBlock ≠ some p) (hl : E.vers.length < 1000000) (i : Nat) (hn : vidx E.vers n = some i) :
    Calls Tryz.prog 200 #[.pointer (some ⟨p, 0, none⟩), .int .i64 n] w fun e w' => (∃ v, e = .returned v) ∧ ∃ vs', EntAt w' p ⟨E.key, E.last, E.vers.eraseIdx i⟩ vs' ∧ vs'.ownBlock = vs.ownBlock ∧ Off (fun k => k = p ∨ vs.ownBlock = some k) w w' := by
  obtain ⟨v, hv, _⟩ := vidx_get hn
  have hi : i < E.vers.length := (List.getElem?_eq_some_iff.1 hv).1
  go_enter Tryz.func200, Tryz.ntmps200
  go_wp2_with fail
  refine (place_any p E vs n _ h hl).mono ?_
  rintro e w2 ⟨rfl, hb2⟩
  rw [vidxI_some hn]
  have h2 := h.below hb2
  obtain ⟨g, cap, rfl⟩ : ∃ g cap, vs = .slice (some ⟨g, 0, none⟩) E.vers.length cap := by
    obtain ⟨g, cap, e, _⟩ := row_cells h2.row i v hv
    exact ⟨g, cap, e⟩
  have c2 := h2.c2
  have hlt := h2.lt
  have HH : Hid (EntAt w2 p E (.slice (some ⟨g, 0, none⟩) E.vers.length cap)) := h2
  have HB : Hid (Below w.heap.size w w2) := hb2
  have HP : Hid ((Value.slice (some ⟨g, 0, none⟩) E.vers.length cap).ownBlock ≠ some p) := hp
  clear h2 hb2 h hp
  go_wp2_with fail
  refine (delete_any E.vers g cap i _ HH.out.row hi hl).mono ?_
  rintro e w3 ⟨rfl, hown3, ho3⟩
  have hgp : g ≠ p := fun e => HP.out (by rw [e]; rfl)
  have hb3 : w3.heap[p]? = some (.cells #[.string ⟨E.key.toArray⟩, .int .i64 E.last, .slice (some ⟨g, 0, none⟩) E.vers.length cap] 183 (0, 0)) := (ho3.block p hlt (Ne.symm hgp)).trans HH.out.blk
  have c3 : w3.cell? ⟨p, 2, none⟩ = some (.slice (some ⟨g, 0, none⟩) E.vers.length cap) := by simp [World.cell?, hb3]
  have f3 : w3.frozen? ⟨p, 2, none⟩ = false := by simp [World.frozen?, hb3]
  have H1 : Hid _ := hown3
  have H2 : Hid _ := ho3
  have H3 : Hid _ := hb3
  clear hown3 ho3 hb3
  go_wp2
  refine bodyPost_end (results_none Tryz.results200 _ _ _) rfl ⟨⟨_, rfl⟩, _, ⟨heap_set (i := 2) H3.out, ?_⟩, rfl, ?_⟩
  · have h0 := H1.out
    rw [List.length_eraseIdx_of_lt hi]
    refine ⟨h0.1, ?_⟩
    rcases h0.2 with ⟨hc, _⟩ | ⟨g', cap', cur, hv, h1, hg, h2⟩
    · cases hc
    · cases hv
      refine Or.inr ⟨g, cap, cur, rfl, h1, ?_, h2⟩
      rw [← hg]
      simp [World.setCell, Array.getElem?_modify, Ne.symm hgp]
  · refine (((Off.of_below HB.out).trans' H2.out (fun k _ e => ?_)).set p 2 _ (Or.inl (Or.inl rfl)))
    right
    rw [e]; rfl
end Go.Proofs.YtmehkneofinmiabGreatDoor

/-
  Texts of this proof, part 42.
-/
import Derived.Test.YtmehkneofinmiaaGreatDoorP41
import Derived.Test.YtmehkneofinmiaaGreatDoorP36
import Derived.Deep.Slices
import Derived.ChangeArms
import Derived.OpenShut
import Derived.ProofKit
namespace Go.Proofs.YtmehkneofinmiaaGreatDoor
open Go.ChangeShapes Go.WideShapes Go.ChangeAt Go.RowKit

theorem cells84 : Tryz.prog.cellsOf 84 = 4 := by kernel_rfl
theorem cells3 : Tryz.prog.cellsOf 3 = 1 := by kernel_rfl
set_option maxRecDepth 100000 in
theorem open_steps {H : Type} {enc : TypeId × Value → H} {W : World} {r : Reach} {b0 : Nat} {v : Value} {d : DataW H} {p : List MemPlace} (hv : Value.okWide Tryz.prog W r b0 42 v) (h : DataW.Trod enc Tryz.prog W 0 (fun _ => true) true 42 v d p) : ∃ l, StpAt W v l := by
  obtain ⟨o, N, cap, rfl⟩ : ∃ o N cap, v = .slice o N cap := okWide_slice Tryz.underlying42 hv
  obtain ⟨fuel, hf⟩ := h
  rcases Deep.open_slice Tryz.underlying42 hf with ⟨e, hx⟩ | ⟨a, len, cp, m, n, D, Pl, e, _, hl, hml, hm, hx, hc⟩
  · simp [Value.cells] at e
    obtain ⟨rfl, rfl, rfl⟩ := e
    exact ⟨[], ⟨none, 0, rfl, fun h => absurd h (by simp)⟩, by simp, by simp⟩
  · simp [Value.cells] at e hm
    obtain ⟨rfl, rfl, rfl⟩ := e
    subst hm
    have each : ∀ i, i < m → ∃ q : Int × Int × Int × Int, (W.cell? (a.add (i * 4)) = some (.int .i64 q.1) ∧ W.cell? (a.add (i * 4 + 1)) = some (.int .i64 q.2.1) ∧ W.cell? (a.add (i * 4 + 2)) = some (.int .i64 q.2.2.1) ∧ W.cell? (a.add (i * 4 + 3)) = some (.int .i64 q.2.2.2)) ∧ I64 q.1 ∧ I64 q.2.1 ∧ I64 q.2.2.1 ∧ I64 q.2.2.2 := by
      intro i hi
      obtain ⟨cs', h1, h2⟩ := hc i hi
      rw [cells84] at h1
      obtain ⟨_, hlen, hcell⟩ := World.cells?_some h1
      obtain ⟨xs, k, hk, hxy, _, hxl, hf⟩ := DataW.trod_struct Tryz.underlying84 h2
      have e0 := hcell 0 (by omega)
      have e1 := hcell 1 (by omega)
      have e2 := hcell 2 (by omega)
      have e3 := hcell 3 (by omega)
      rw [Deep.add_add] at e0 e1 e2 e3
      match xs, hxl, cs', hlen with
      | [y0, y1, y2, y3], _, [v0, v1, v2, v3], _ =>
        have g0 := hf 0 _ rfl
        have g1 := hf 1 _ rfl
        have g2 := hf 2 _ rfl
        have g3 := hf 3 _ rfl
        simp [cells3] at g0 g1 g2 g3
        obtain ⟨n0, q0, _, w0⟩ := DataW.trod_int Tryz.underlying3 g0
        obtain ⟨n1, q1, _, w1⟩ := DataW.trod_int Tryz.underlying3 g1
        obtain ⟨n2, q2, _, w2⟩ := DataW.trod_int Tryz.underlying3 g2
        obtain ⟨n3, q3, _, w3⟩ := DataW.trod_int Tryz.underlying3 g3
        simp only [List.cons.injEq, and_true] at q0 q1 q2 q3
        subst q0 q1 q2 q3
        exact ⟨(n0, n1, n2, n3), ⟨by simpa using e0, by simpa using e1, by simpa using e2, by simpa using e3⟩, bounds_i64 w0, bounds_i64 w1, bounds_i64 w2, bounds_i64 w3⟩
    obtain ⟨q, hq⟩ := Deep.choose_lt each
    refine ⟨(List.range N).map fun i => ⟨(q i).1, (q i).2.1, (q i).2.2.1, (q i).2.2.2⟩, ⟨some a, m, by simp, fun h0 => ?_⟩, fun x hx => ?_, ?_⟩
    · have h0' : 0 < N := by simpa using h0
      obtain ⟨b, off, spot⟩ := a
      have hspot : spot = none := by simpa [Addr.add] using World.cell?_spot (hq 0 (by omega)).1.1
      subst hspot
      have hlt : b < W.heap.size := by
        have := (hq 0 (by omega)).1.1
        rw [add_plain] at this
        exact cell_lt this
      refine ⟨b, off, rfl, hlt, fun j x hx => ?_⟩
      have hjN : j < N := by
        have := (List.getElem?_eq_some_iff.1 hx).1
        simpa using this
      rw [List.getElem?_map, List.getElem?_range hjN] at hx
      cases hx
      have := (hq j (by omega)).1
      simp only [add_plain] at this
      exact this
    · obtain ⟨i, hi, rfl⟩ := List.mem_map.1 hx
      exact (hq i (by have := List.mem_range.1 hi; omega)).2
    · simp
      unfold maxLen at hml
      omega
end Go.Proofs.YtmehkneofinmiaaGreatDoor

namespace Go.Proofs.YtmehkneofinmiaaGreatDoor

theorem fm_congr {α β : Type} {f g : α → Option β} : ∀ {l : List α}, (∀ x ∈ l, f x = g x) → l.filterMap f = l.filterMap g
  | [], _ => rfl
  | a :: l, h => by
    rw [List.filterMap_cons, List.filterMap_cons, h a (by simp), fm_congr (fun x hx => h x (by simp [hx]))]
theorem findE_not {l : List Ent} {key : List UInt8} (h : ∀ E ∈ l, E.key ≠ key) : findE l key = ⟨key, 0, []⟩ := by
  induction l with
  | nil => rfl
  | cons a l ih => rw [findE_cons, if_neg (h a (by simp)), ih (fun E hE => h E (by simp [hE]))]
theorem rise_scan {β : Type} (f : Ent → Option β) (hf : ∀ key, f ⟨key, 0, []⟩ = none) : ∀ (ks : List (List UInt8)), ks.Pairwise (fun a b => cmpB a b = -1) → ∀ (l : List Ent), RiseL l → (∀ E ∈ l, E.key ∈ ks) → l.filterMap f = ks.filterMap fun k => f (findE l k)
  | [], _, l, _, h => by
    cases l with
    | nil => rfl
    | cons a l => have := h a (by simp); simp at this
  | k :: ks, hk, [], _, _ => by
    symm
    rw [List.filterMap_nil, List.filterMap_eq_nil_iff]
    intro x _
    exact hf x
  | k :: ks, hk, E :: l, hl, h => by
    have ⟨k1, k2⟩ := List.pairwise_cons.1 hk
    have ⟨l1, l2⟩ := List.pairwise_cons.1 hl
    by_cases e : E.key = k
    · have hne : ∀ x ∈ ks, E.key ≠ x := fun x hx he => cmpB_ne (k1 x hx) (e.symm.trans he)
      rw [List.filterMap_cons, List.filterMap_cons, findE_cons, if_pos e]
      have ih := rise_scan f hf ks k2 l l2 (fun E' hE' => by
        rcases List.mem_cons.1 (h E' (by simp [hE'])) with h1 | h1
        · exact absurd (e.trans h1.symm) (cmpB_ne (l1 E' hE'))
        · exact h1)
      have e2 : ks.filterMap (fun k => f (findE (E :: l) k)) = ks.filterMap (fun k => f (findE l k)) := by
        apply fm_congr
        intro x hx
        rw [findE_cons, if_neg (hne x hx)]
      rw [e2, ih]
    · have hin : E.key ∈ ks := (List.mem_cons.1 (h E (by simp))).resolve_left e
      have hnk : ∀ E' ∈ E :: l, E'.key ≠ k := by
        intro E' hE' he
        rcases List.mem_cons.1 hE' with rfl | h1
        · exact e he
        · have a1 := l1 E' h1
          rw [he] at a1
          have a2 := k1 E.key hin
          rw [cmpB_swap k E.key, a2] at a1
          exact absurd a1 (by decide)
      rw [List.filterMap_cons (a := k), findE_not hnk, hf k]
      exact rise_scan f hf ks k2 (E :: l) hl (fun E' hE' => (List.mem_cons.1 (h E' hE')).resolve_left (hnk E' hE'))
/-- the keys in their order -/
def ordK : List Nat := [2, 0, 4, 1, 3]
/-- the line of a key, where something is current -/
def curL (σ : St) (after : List UInt8) (i : Nat) : Option (List UInt8 × List UInt8) := if cmpB (nmK i) after == 1 then (curOf (enK σ i)).map fun v => (nmK i, v.body) else none
theorem listC_ord {σ : St} (hr : RiseL σ.ents) (hk : ∀ E ∈ σ.ents, ∃ i, i < 5 ∧ E.key = nmK i) (after : List UInt8) : listC σ after = ordK.filterMap (curL σ after) := by
  unfold listC
  rw [List.filterMap_filter]
  rw [rise_scan (fun E : Ent => if cmpB E.key after == 1 then (curOf E).map fun v => (E.key, v.body) else none) (fun key => by simp [curOf]) (ordK.map nmK) (by decide) σ.ents hr (fun E hE => by
    obtain ⟨i, hi, e⟩ := hk E hE
    rw [e]
    revert i
    exact fun i hi _ => (five (P := fun i => nmK i ∈ ordK.map nmK) (by decide) (by decide) (by decide) (by decide) (by decide)) i hi)]
  rw [List.filterMap_map]
  apply fm_congr
  intro i _
  simp only [Function.comp, findE_key]
  rfl
theorem listA_ord {σ : St} (hr : RiseL σ.ents) (hk : ∀ E ∈ σ.ents, ∃ i, i < 5 ∧ E.key = nmK i) (after : List UInt8) : listA σ after = ⟨200, [], linesK (ordK.filterMap (curL σ after))⟩ := by
  have hl := listC_ord hr hk after
  have hn : (listC σ after).length ≤ 5 := by
    rw [hl]
    exact List.length_filterMap_le _ _
  unfold listA
  rw [if_neg (by omega), List.take_of_length_le (by omega), hl]
theorem read_list {σ : St} : ansF σ (reqB getM [47] [] []) = (listA σ [], σ) := by
  have hr : readF (reqB getM [47] [] []) = .ok (0, ⟨0, [], 0⟩, k0, []) := rf6 (by decide) (parse_req0 m_get.1 m_get.2 (by decide) target_list) (by simp) (by simp) rfl
  unfold ansF
  rw [hr]
  rfl
theorem read_after {σ : St} {key : List UInt8} (h : keyOK key = true) : ansF σ (reqB getM (47 :: (afterW ++ key)) [] []) = (listA σ key, σ) := by
  have hr : readF (reqB getM (47 :: (afterW ++ key)) [] []) = .ok (0, ⟨0, key, 0⟩, k0, []) := rf6 (by have := (key_no h).2.1; rw [reqB_len]; simp [getM, afterW]; omega) (parse_req0 m_get.1 m_get.2 (fun c hc => by
    simp only [List.mem_cons, List.mem_append, afterW, List.not_mem_nil, or_false] at hc
    rcases hc with rfl | (rfl | rfl | rfl | rfl | rfl | rfl | rfl) | hc
    all_goals first | decide | exact ((key_no h).2.2 c hc).1) (target_after h)) (by simp) (by simp) rfl
  unfold ansF
  rw [hr]
  rfl
end Go.Proofs.YtmehkneofinmiaaGreatDoor

/-
  Texts of this proof, part 16.
-/
import Derived.Test.YtmehkneofinmiaaGreatDoorP15
namespace Go.Proofs.YtmehkneofinmiaaGreatDoor
open Go.RowKit
theorem Hp.setAt {w : World} {base h r n cap i : Nat} {rows : List Value} {Qs : List (List Nat)} {kf : Nat → List UInt8} {v : Value} {q : List Nat} (H : Hp w base h (.slice (some ⟨r, 0, none⟩) n cap) rows Qs kf) (hn : rows.length = n) (hi : i < n)
    (hv : Lst w v q) (hq : q ≠ []) (hk : ∀ x ∈ q, x < w.heap.size ∧ w.cell? ⟨x, 0, none⟩ = some (.string ⟨(kf x).toArray⟩)) :
    Hp (w.setCell ⟨r, i, none⟩ v) base h (.slice (some ⟨r, 0, none⟩) n cap) (rows.set i v) (Qs.set i q) kf ∧ (∀ v' q', Lst w v' q' → Lst (w.setCell ⟨r, i, none⟩ v) v' q') := by
  subst hn
  have other : ∀ k, k ≠ r → (w.setCell ⟨r, i, none⟩ v).heap[k]? = w.heap[k]? := by
    intro k hk
    simp [World.setCell, Array.getElem?_modify, Ne.symm hk]
  obtain ⟨hlen, hrow⟩ := H.row
  rcases hrow with ⟨e0, _⟩ | ⟨g0, cap0, cur, hv0, hb0, hg0, hn0, hm0, hs0, htk⟩
  · cases e0
  cases hv0
  rw [Nat.mul_one] at hs0 htk
  have hcell : ∀ j, j < rows.length → w.cell? ⟨r, j, none⟩ = rows[j]? := by
    intro j hj
    rw [← htk, List.getElem?_take_of_lt (by omega)]
    simp [World.cell?, hg0]
  have hhr : h ≠ r := fun e => H.ne (by rw [e]; rfl)
  have hlst : ∀ (v' : Value) (qs : List Nat), Lst w v' qs → Lst (w.setCell ⟨r, i, none⟩ v) v' qs := by
    intro v' qs hl
    obtain ⟨a, c, h1, h2, h3, h4⟩ := hl.is
    refine ⟨⟨a, c, h1, h2, h3, fun j q hq => ?_⟩⟩
    obtain ⟨g, o, e1, ⟨cs, f, hcs⟩, e3⟩ := h4 j q hq
    have hgr : g ≠ r := by
      intro e; subst e
      rw [hg0] at hcs
      injection hcs with hcs
      injection hcs with _ ht _
      exact absurd ht (by decide)
    refine ⟨g, o, e1, ⟨cs, f, (other g hgr).trans hcs⟩, ?_⟩
    rw [← e3]
    simp only [World.cell?]
    rw [other g hgr]
  refine ⟨⟨H.hb, (other h hhr).trans H.blk, ?_, H.ne, by simp [H.len], ?_, ?_⟩, hlst⟩
  · refine ⟨by simp, Or.inr ⟨r, cap, cur.setIfInBounds i v, by simp, hb0, heap_set hg0, by simpa using hn0, hm0, by simp [hs0], ?_⟩⟩
    simp only [List.length_set, Nat.mul_one]
    apply List.ext_getElem?
    intro j
    by_cases hj : j < rows.length
    · have hrj : cur[j]? = rows[j]? := by
        rw [← hcell j hj]
        simp [World.cell?, hg0]
      have h2 : i < cur.size := by omega
      rw [List.getElem?_take_of_lt hj]
      simp only [Array.getElem?_toList, List.getElem?_set, Array.getElem?_setIfInBounds]
      by_cases e2 : i = j
      · subst e2; simp [h2, hj]
      · simp [e2, hrj]
    · rw [List.getElem?_eq_none (by simp; omega), List.getElem?_eq_none (by simp; omega)]
  · intro j v' qs hv' hq'
    rw [List.getElem?_set] at hv' hq'
    have hil : i < Qs.length := by rw [H.len]; omega
    by_cases e2 : i = j
    · subst e2
      simp only [if_true, hil, hi, Option.some.injEq] at hv' hq'
      subst hv' hq'
      exact ⟨hlst _ _ hv, hq⟩
    · rw [if_neg e2] at hv' hq'
      exact ⟨hlst _ _ (H.lst j _ _ hv' hq').1, (H.lst j _ _ hv' hq').2⟩
  · intro qs hqs x hxq
    have hold : x < w.heap.size ∧ w.cell? ⟨x, 0, none⟩ = some (.string ⟨(kf x).toArray⟩) := by
      rcases List.mem_or_eq_of_mem_set hqs with h2 | h2
      · exact H.key qs h2 x hxq
      · rw [h2] at hxq; exact hk x hxq
    have hqr : x ≠ r := by
      intro e; subst e
      have hkey := hold.2
      rw [hcell 0 (by omega)] at hkey
      have hz : 0 < Qs.length := by rw [H.len]; omega
      obtain ⟨a, c, h1, _⟩ := (H.lst 0 _ _ hkey (List.getElem?_eq_getElem hz)).1.is
      cases h1
    refine ⟨by simpa [World.setCell] using hold.1, ?_⟩
    rw [← hold.2]
    simp only [World.cell?]
    rw [other x hqr]
theorem Lst.tail {w : World} {g o n c q q2 : Nat} {t : List Nat} (h : Lst w (.slice (some ⟨g, o, none⟩) n c) (q :: q2 :: t)) : Lst w (.slice (some ⟨g, o + 1, none⟩) (t.length + 1) (c - 1)) (q2 :: t) := by
  obtain ⟨a, c', h1, h2, h3, h4⟩ := h.is
  cases h1
  simp only [List.length_cons] at h2
  refine ⟨⟨_, _, rfl, by simp only [List.length_cons]; omega, by omega, fun j x hj => ?_⟩⟩
  obtain ⟨g', o', e1, e2, e3⟩ := h4 (j + 1) x (by simpa using hj)
  cases e1
  exact ⟨g, o + 1, rfl, e2, by rw [← e3]; congr 2; omega⟩
theorem HeapOK.ex0 {F G : Nat → List UInt8} {n n' : Nat} (h : HeapOK F n 0) (hn : n' ≤ n) (hFG : ∀ i, i ≠ 0 → i < n' → G i = F i) : HeapEx G n' 0 0 := by
  refine ⟨Nat.le_refl _, fun i c _ hi hc hcn => ?_, fun i c _ hc => ?_⟩
  · have := hc.gt
    rw [hFG i hi (by omega), hFG c (by omega) hcn]
    exact h i c (Nat.zero_le _) hc (by omega)
  · unfold Child at hc; omega
theorem fk_set_ne {Qs : List (List Nat)} {kf : Nat → List UInt8} {i j : Nat} {q : List Nat} (h : j ≠ i) : fk (Qs.set i q) kf j = fk Qs kf j := by
  unfold fk
  rw [List.getElem?_set, if_neg (Ne.symm h)]
set_option maxHeartbeats 4000000 in
theorem take_more (w : World) (base h r cap : Nat) (rows : List Value) (Qs : List (List Nat)) (kf : Nat → List UInt8) (H : Hp w base h (.slice (some ⟨r, 0, none⟩) rows.length cap) rows Qs kf) (hl : rows.length < 1000) (hx : HeapOK (fk Qs kf) Qs.length 0) (q q2 : Nat) (t : List Nat) (h0 : Qs[0]? = some (q :: q2 :: t)) (hll : t.length < 1000000) :
    Calls Tryz.prog 198 #[.pointer (some ⟨h, 0, none⟩)] w fun e w' => e = .returned (.pointer (some ⟨q, 0, none⟩)) ∧ ∃ rows' Qs', rows'.length = rows.length ∧ Hp w' base h (.slice (some ⟨r, 0, none⟩) rows'.length cap) rows' Qs' kf ∧ Qs'.Perm (Qs.set 0 (q2 :: t)) ∧ HeapOK (fk Qs' kf) Qs'.length 0 ∧ Off (fun k => k = r ∨ k = h) w w' := by
  obtain ⟨r1, cap1, qs, g, o, n, c, hlv, hn, hm, hr, e1, e2, e3, e4, e5, e6, hg, c1, c2, hmem, hmq⟩ := H.at 0 (List.getElem?_eq_some_iff.1 h0).1
  rw [h0] at e1
  cases e1
  cases hlv
  have hr0 : 0 < rows.length := (List.getElem?_eq_some_iff.1 e2).1
  have b0 : w.cell? ⟨h, 0, none⟩ = some (.slice (some ⟨r, 0, none⟩) rows.length cap) := by simp [World.cell?, H.blk]
  have hlt : h < w.heap.size := (Array.getElem?_eq_some_iff.1 H.blk).1
  have HH : Hid _ := H
  have HX : Hid _ := hx
  clear H hx hmem hmq
  have hn2 : n = t.length + 2 := by rw [e3]; simp
  clear e3
  subst hn2
  go_enter Tryz.func198, Tryz.ntmps198
  have fr0 : w.frozen? ⟨r, 0, none⟩ = false := by
    rcases HH.out.row.2 with ⟨e0, _⟩ | ⟨g0, cap0, cur, hv0, _, hg0, _⟩
    · cases e0
    · cases hv0; simp [World.frozen?, hg0]
  have hc1 : ¬ (c = 1) := by omega
  have hc1' : ¬ (1 = c) := by omega
  have hLs := (HH.out.lst 0 _ _ e2 h0).1
  have hkey := HH.out.key _ (List.mem_of_getElem? h0)
  obtain ⟨hS, hLS⟩ := HH.out.setAt rfl hr0 hLs.tail (by simp) (fun x hx => hkey x (by simp [hx]))
  have hEX : HeapEx (fk (Qs.set 0 (q2 :: t)) kf) (Qs.set 0 (q2 :: t)).length 0 0 := HeapOK.ex0 HX.out (by simp) (fun i hi _ => fk_set_ne hi)
  have HS : Hid _ := hS
  have HE : Hid _ := hEX
  have HLS : Hid _ := hLS _ _ hLs
  have hOr : Hid (Off (fun k => k = r ∨ k = h) w (w.setCell ⟨r, 0, none⟩ (.slice (some ⟨g, o + 1, none⟩) (t.length + 1) (c - 1)))) := (Off.refl _ _).set r 0 _ (Or.inl (Or.inl rfl))
  clear hS hEX hLS hLs hkey
  go_wp2_with fail
  go_region
  go_wp2_with fail
  have hlen2 : (rows.set 0 (.slice (some ⟨g, o + 1, none⟩) (t.length + 1) (c - 1))).length = rows.length := by simp
  have hS2 := HS.out.below ((Below.refl _ _).drew)
  rw [← hlen2] at hS2
  refine (sink_any _ base h 0 0 r cap _ _ kf hS2 (by omega) HE.out (by omega)).mono ?_
  rintro e w3 ⟨⟨v3, rfl⟩, rows3, Qs3, hl3, hH3, hP3, hK3, hO3⟩
  rw [hlen2] at hl3
  have hgr : g ≠ r := by
    obtain ⟨a, c', h1, h2, h3, h4⟩ := HLS.out.is
    cases h1
    obtain ⟨g', o', e1, ⟨cs, f, hcs⟩, _⟩ := h4 0 q rfl
    cases e1
    intro e
    subst e
    rcases HS.out.row.2 with ⟨e0, _⟩ | ⟨g0, cap0, cur, hv0, _, hg0, _⟩
    · cases e0
    · injection hv0 with ha _ _
      injection ha with ha
      injection ha with hb _ _
      subst hb
      rw [hg0] at hcs
      injection hcs with hcs
      injection hcs with _ ht _
      exact absurd ht (by decide)
  have hgs : (w.setCell ⟨r, 0, none⟩ (.slice (some ⟨g, o + 1, none⟩) (t.length + 1) (c - 1))).heap[g]? = w.heap[g]? := by simp [World.setCell, Array.getElem?_modify, Ne.symm hgr]
  have c3 : w3.cell? ⟨g, o, none⟩ = some (.pointer (some ⟨q, 0, none⟩)) := by
    have e5 : w3.heap[g]? = w.heap[g]? := (hO3.block g (by show g < (w.setCell _ _).heap.size; simpa [World.setCell] using hg) hgr).trans hgs
    have e6 := c2
    simp only [World.cell?] at e6 ⊢
    rw [e5]
    exact e6
  have hg3 : g < w3.heap.size := World.block_lt_of_cell? _ _ c3
  have H3 : Hid _ := hH3
  have P3 : Hid _ := hP3
  have K3 : Hid _ := hK3
  have O3 : Hid (Off (fun k => k = r ∨ k = h) w w3) := (hOr.out.drew).trans (hO3.mono (fun k hk => Or.inl hk))
  clear hH3 hP3 hK3 hO3 hgs hS2
  go_wp2
  go_ret
  refine ⟨rfl, rows3, Qs3, hl3, ?_, P3.out, K3.out, O3.out⟩
  have := H3.out
  rw [hlen2] at this
  rw [hl3]
  exact this
theorem Hp.cut {w : World} {base h r n cap m : Nat} {rows : List Value} {Qs : List (List Nat)} {kf : Nat → List UInt8} (H : Hp w base h (.slice (some ⟨r, 0, none⟩) n cap) rows Qs kf) (hn : rows.length = n) (hm : m ≤ n) :
    Hp (w.setCell ⟨h, 0, none⟩ (.slice (some ⟨r, 0, none⟩) m cap)) base h (.slice (some ⟨r, 0, none⟩) m cap) (rows.take m) (Qs.take m) kf := by
  subst hn
  have other : ∀ k, k ≠ h → (w.setCell ⟨h, 0, none⟩ (.slice (some ⟨r, 0, none⟩) m cap)).heap[k]? = w.heap[k]? := by
    intro k hk
    simp [World.setCell, Array.getElem?_modify, Ne.symm hk]
  obtain ⟨hlen, hrow⟩ := H.row
  rcases hrow with ⟨e0, _⟩ | ⟨g0, cap0, cur, hv0, hb0, hg0, hn0, hm0, hs0, htk⟩
  · cases e0
  cases hv0
  have hrh : r ≠ h := fun e => H.ne (by rw [← e]; rfl)
  have hml : (rows.take m).length = m := by rw [List.length_take]; omega
  refine ⟨H.hb, ?_, ?_, H.ne, by rw [List.length_take, List.length_take, H.len], ?_, ?_⟩
  · have := heap_set (i := 0) (v := .slice (some ⟨r, 0, none⟩) m cap) H.blk
    simpa using this
  · refine ⟨by simp, Or.inr ⟨r, cap, cur, by rw [hml], hb0, (other r hrh).trans hg0, by rw [hml]; omega, hm0, hs0, ?_⟩⟩
    rw [hml, ← htk]
    simp only [Nat.mul_one]
    rw [List.take_take, Nat.min_eq_left hm]
  · intro j v qs hv hq
    rw [List.getElem?_take] at hv hq
    split at hv
    · rename_i hj
      rw [if_pos hj] at hq
      obtain ⟨h1, h2⟩ := H.lst j v qs hv hq
      refine ⟨?_, h2⟩
      obtain ⟨a, c, k1, k2, k3, k4⟩ := h1.is
      refine ⟨⟨a, c, k1, k2, k3, fun j q hq => ?_⟩⟩
      obtain ⟨g, o, e1, ⟨cs, f, hcs⟩, e3⟩ := k4 j q hq
      have hgh : g ≠ h := by
        intro e; subst e
        rw [H.blk] at hcs
        injection hcs with hcs
        injection hcs with _ ht _
        exact absurd ht (by decide)
      refine ⟨g, o, e1, ⟨cs, f, (other g hgh).trans hcs⟩, ?_⟩
      rw [← e3]
      simp only [World.cell?]
      rw [other g hgh]
    · cases hv
  · intro qs hqs q hq
    obtain ⟨h1, h2⟩ := H.key qs (List.mem_of_mem_take hqs) q hq
    have hqh : q ≠ h := by
      intro e; subst e
      simp only [World.cell?, H.blk] at h2
      simp at h2
    refine ⟨by simpa [World.setCell] using h1, ?_⟩
    rw [← h2]
    simp only [World.cell?]
    rw [other q hqh]
set_option maxHeartbeats 4000000 in
theorem take_one (w : World) (base h r cap m : Nat) (rows : List Value) (Qs : List (List Nat)) (kf : Nat → List UInt8) (H : Hp w base h (.slice (some ⟨r, 0, none⟩) rows.length cap) rows Qs kf) (hl : rows.length < 1000) (hx : HeapOK (fk Qs kf) Qs.length 0) (q : Nat) (h0 : Qs[0]? = some [q]) (hm : rows.length = m + 1) (qm : List Nat) (hqm : Qs[m]? = some qm) :
    Calls Tryz.prog 198 #[.pointer (some ⟨h, 0, none⟩)] w fun e w' => e = .returned (.pointer (some ⟨q, 0, none⟩)) ∧ ∃ rows' Qs', rows'.length = m ∧ Hp w' base h (.slice (some ⟨r, 0, none⟩) rows'.length cap) rows' Qs' kf ∧ Qs'.Perm ((Qs.set 0 qm).take m) ∧ HeapOK (fk Qs' kf) Qs'.length 0 ∧ Off (fun k => k = r ∨ k = h) w w' := by
  obtain ⟨r1, cap1, qs, g, o, n, c, hlv, hn, hmx, hr, e1, e2, e3, e4, e5, e6, hg, c1, c2, hmem, hmq⟩ := H.at 0 (List.getElem?_eq_some_iff.1 h0).1
  rw [h0] at e1
  cases e1
  cases hlv
  obtain ⟨r2, cap2, qs2, g2, o2, n2, d2, hlv2, _, _, _, e12, e22, e32, e42, e52, e62, hg2, c12, _, _, hmq2⟩ := H.at m (List.getElem?_eq_some_iff.1 hqm).1
  rw [hqm] at e12
  cases e12
  cases hlv2
  subst e32
  have hr0 : 0 < rows.length := by omega
  have b0 : w.cell? ⟨h, 0, none⟩ = some (.slice (some ⟨r, 0, none⟩) rows.length cap) := by simp [World.cell?, H.blk]
  have fh : w.frozen? ⟨h, 0, none⟩ = false := by simp [World.frozen?, H.blk]
  have hlt : h < w.heap.size := (Array.getElem?_eq_some_iff.1 H.blk).1
  have hne : r ≠ h := fun e => H.ne (by rw [← e]; rfl)
  have fr0 : w.frozen? ⟨r, 0, none⟩ = false := by
    rcases H.row.2 with ⟨e0, _⟩ | ⟨g0, cap0, cur, hv0, _, hg0, _⟩
    · cases e0
    · cases hv0; simp [World.frozen?, hg0]
  have HH : Hid _ := H
  have HX : Hid _ := hx
  have hn1 : n = 1 := by rw [e3]; rfl
  subst hn1
  clear e3 hmem H hx
  have HMQ : Hid _ := hmq2
  clear hmq2 hmq
  rw [hm] at b0 hn hr0
  have hmI : ((m + 1 : Nat) : Int) - 1 = (m : Int) := by omega
  go_enter Tryz.func198, Tryz.ntmps198
  have hLs := (HH.out.lst 0 _ _ e2 h0).1
  have hLm := HH.out.lst m _ _ e22 hqm
  obtain ⟨hS, hLS⟩ := HH.out.setAt (i := 0) rfl (by omega) hLm.1 hLm.2 (HH.out.key _ HMQ.out)
  have hC := hS.cut (m := m) (by simp) (by omega)
  have HC : Hid _ := hC
  have HE : Hid (HeapEx (fk ((Qs.set 0 qm).take m) kf) ((Qs.set 0 qm).take m).length 0 0) := by
    refine HeapOK.ex0 HX.out (by simp; omega) (fun i hi hlt => ?_)
    have him : i < m := by rw [List.length_take] at hlt; omega
    unfold fk
    rw [List.getElem?_take, if_pos him, List.getElem?_set, if_neg (by omega)]
  have hgr : g ≠ r ∧ g ≠ h := by
    obtain ⟨a, c', h1, h2, h3, h4⟩ := hLs.is
    cases h1
    obtain ⟨g', o', e1, ⟨cs, f, hcs⟩, _⟩ := h4 0 q rfl
    cases e1
    refine ⟨fun e => ?_, fun e => ?_⟩
    · subst e
      rcases HH.out.row.2 with ⟨e0, _⟩ | ⟨g0, cap0, cur, hv0, _, hg0, _⟩
      · cases e0
      · injection hv0 with ha _ _
        injection ha with ha
        injection ha with hb _ _
        subst hb
        rw [hg0] at hcs
        injection hcs with hcs
        injection hcs with _ ht _
        exact absurd ht (by decide)
    · subst e
      rw [HH.out.blk] at hcs
      injection hcs with hcs
      injection hcs with _ ht _
      exact absurd ht (by decide)
  clear hS hLS hC hLs hLm
  have hOr : Hid (Off (fun k => k = r ∨ k = h) w ((w.setCell ⟨r, 0, none⟩ (.slice (some ⟨g2, o2, none⟩) qm.length d2)).setCell ⟨h, 0, none⟩ (.slice (some ⟨r, 0, none⟩) m cap))) := ((Off.refl _ _).set r 0 _ (Or.inl (Or.inl rfl))).set h 0 _ (Or.inl (Or.inr rfl))
  go_wp2_with fail
  go_region
  go_wp2_with fail
  have hlen2 : ((rows.set 0 (.slice (some ⟨g2, o2, none⟩) qm.length d2)).take m).length = m := by rw [List.length_take, List.length_set]; omega
  have hS2 := HC.out.below ((Below.refl _ _).drew)
  have hS3 := hS2
  rw [← hlen2] at hS3
  simp only [hlen2] at hS3
  refine (sink_any _ base h 0 0 r cap _ _ kf (by rw [hlen2]; exact hS2) (by omega) HE.out (by omega)).mono ?_
  rintro e w3 ⟨⟨v3, rfl⟩, rows3, Qs3, hl3, hH3, hP3, hK3, hO3⟩
  rw [hlen2] at hl3 hH3
  have hgs : ((w.setCell ⟨r, 0, none⟩ (.slice (some ⟨g2, o2, none⟩) qm.length d2)).setCell ⟨h, 0, none⟩ (.slice (some ⟨r, 0, none⟩) m cap)).heap[g]? = w.heap[g]? := by simp [World.setCell, Array.getElem?_modify, Ne.symm hgr.1, Ne.symm hgr.2]
  have c3 : w3.cell? ⟨g, o, none⟩ = some (.pointer (some ⟨q, 0, none⟩)) := by
    have e5 : w3.heap[g]? = w.heap[g]? := (hO3.block g (by show g < ((w.setCell _ _).setCell _ _).heap.size; simpa [World.setCell] using hg) hgr.1).trans hgs
    have e6 := c2
    simp only [World.cell?] at e6 ⊢
    rw [e5]
    exact e6
  have hg3 : g < w3.heap.size := World.block_lt_of_cell? _ _ c3
  have H3 : Hid _ := hH3
  have P3 : Hid _ := hP3
  have K3 : Hid _ := hK3
  have O3 : Hid (Off (fun k => k = r ∨ k = h) w w3) := (hOr.out.drew).trans (hO3.mono (fun k hk => Or.inl hk))
  clear hH3 hP3 hK3 hO3 hgs hS2 hS3
  go_wp2
  go_ret
  exact ⟨rfl, rows3, Qs3, hl3, by rw [hl3]; exact H3.out, P3.out, K3.out, O3.out⟩
end Go.Proofs.YtmehkneofinmiaaGreatDoor

namespace Go.Proofs.YtmehkneofinmiaaGreatDoor
open Go.RowKit
theorem info144m : (Tryz.prog.info? 162).map (fun i => (i.zero, i.size, i.bytes)) = some (some (.slice none 0 0), 1, 24) := by kernel_rfl
structure LLs (w : World) (lv0 : Value) (A : List (List Nat)) (kf : Nat → List UInt8) : Prop where
  is : ∃ (a : Option Addr) (c : Nat), lv0 = .slice a A.length c ∧ A.length ≤ c ∧ c ≤ maxLen
  at' : ∀ (i : Nat) (qs : List Nat), A[i]? = some qs → ∃ g o c v, lv0 = .slice (some ⟨g, o, none⟩) A.length c ∧ g < w.heap.size ∧ w.cell? ⟨g, o + i, none⟩ = some v ∧ Lst w v qs
  key : ∀ qs ∈ A, ∀ q ∈ qs, q < w.heap.size ∧ w.cell? ⟨q, 0, none⟩ = some (.string ⟨(kf q).toArray⟩)
theorem LLs.below {w x : World} {lv0 : Value} {A : List (List Nat)} {kf : Nat → List UInt8} (h : LLs w lv0 A kf) (hb : Below w.heap.size w x) : LLs x lv0 A kf :=
  ⟨h.is, fun i qs hi => by
    obtain ⟨g, o, c, v, e1, e2, e3, e4⟩ := h.at' i qs hi
    exact ⟨g, o, c, v, e1, Nat.lt_of_lt_of_le e2 hb.size, (hb.cell (p := ⟨g, o + i, none⟩) e2).trans e3, e4.below hb⟩,
   fun qs hq q hm => ⟨Nat.lt_of_lt_of_le (h.key qs hq q hm).1 hb.size, (hb.cell (p := ⟨q, 0, none⟩) (h.key qs hq q hm).1).trans (h.key qs hq q hm).2⟩⟩
def full (qs : List Nat) : Bool := !qs.isEmpty
structure Hb (w x : World) (lv : Value) (rows : List Value) (Qs : List (List Nat)) : Prop where
  low : Below w.heap.size w x
  blk : x.heap[w.heap.size]? = some (.cells #[lv, .func (.func 134) #[] #[]] 284 (0, 0))
  row : x.ownsRow w.heap.size 162 1 lv rows.length rows
  ne : lv.ownBlock ≠ some w.heap.size
  len : Qs.length = rows.length
  lst : ∀ (i : Nat) (v : Value) (qs : List Nat), rows[i]? = some v → Qs[i]? = some qs → Lst w v qs ∧ qs ≠ []
theorem Hb.hp {w x : World} {lv lv0 : Value} {rows : List Value} {Qs A : List (List Nat)} {kf : Nat → List UInt8} (h : Hb w x lv rows Qs) (hL : LLs w lv0 A kf) (hQ : ∀ qs ∈ Qs, qs ∈ A) : Hp x w.heap.size w.heap.size lv rows Qs kf :=
  ⟨Nat.le_refl _, h.blk, h.row, h.ne, h.len, fun i v qs h1 h2 => ⟨(h.lst i v qs h1 h2).1.below h.low, (h.lst i v qs h1 h2).2⟩,
    fun qs hq q hm => (hL.below h.low).key qs (hQ qs hq) q hm⟩
theorem take_filter_yes {A : List (List Nat)} {i : Nat} {qs : List Nat} (h : A[i]? = some qs) (hf : full qs = true) : (A.take (i + 1)).filter full = (A.take i).filter full ++ [qs] := by
  rw [List.take_add_one, h]
  simp [hf]
theorem take_filter_no {A : List (List Nat)} {i : Nat} {qs : List Nat} (h : A[i]? = some qs) (hf : full qs = false) : (A.take (i + 1)).filter full = (A.take i).filter full := by
  rw [List.take_add_one, h]
  simp [hf]
set_option maxRecDepth 100000 in
set_option maxHeartbeats 4000000 in
theorem newHeap_any (w : World) (lv0 : Value) (A : List (List Nat)) (kf : Nat → List UInt8) (hL : LLs w lv0 A kf) (hA : A.length < 100) :
    Calls Tryz.prog 197 #[lv0, .func (.func 134) #[] #[]] w fun e w' => ∃ h lv rows Qs, e = .returned (.pointer (some ⟨h, 0, none⟩)) ∧ Hp w' w.heap.size h lv rows Qs kf ∧ Qs.Perm (A.filter full) ∧ HeapOK (fk Qs kf) Qs.length 0 ∧ rows.length ≤ A.length ∧ Below w.heap.size w w' := by
  obtain ⟨ti, HI1, HI2, HI3, HI4⟩ := info_parts info144m
  obtain ⟨a, c, rfl, hc1, hc2⟩ := hL.is
  have HL : Hid _ := hL
  clear hL
  have X0 : Hb w (w.alloc (.cells #[.slice none 0 0, .func (.func 134) #[] #[]] 284)) (.slice none 0 0) [] [] :=
    ⟨(Below.refl _ _).alloc (Nat.le_refl _) _, heap_alloc_new _ _, ⟨rfl, Or.inl ⟨rfl, rfl⟩⟩, by simp [Value.ownBlock], rfl, fun i v qs h => by simp at h⟩
  go_enter Tryz.func197, Tryz.ntmps197
  go_wp2
  go_loopw [14] (fun x wx => ∃ (i : Nat) (lv : Value) (rows : List Value), i ≤ A.length ∧ x = .int .i64 i ∧ rows.length ≤ i ∧ Hid (Hb w wx lv rows ((A.take i).filter full))) (fun x _ => A.length - (intOf x).toNat)
  case atStart => exact ⟨0, .slice none 0 0, [], by omega, rfl, by simp, by show Hb _ _ _ _ _; exact X0⟩
  case round =>
    clear X0
    obtain ⟨i, lv, rows, hi, rfl, hri, HB⟩ := hrel
    by_cases hlt : i < A.length
    · obtain ⟨qs, hqs⟩ : ∃ qs, A[i]? = some qs := ⟨A[i], List.getElem?_eq_getElem hlt⟩
      obtain ⟨g, o, c', v, e1, e2, e3, e4⟩ := HL.out.at' i qs hqs
      cases e1
      have c1 := (HB.out.low.cell (p := ⟨g, o + i, none⟩) e2).trans e3
      have hg1 : g < wr.heap.size := Nat.lt_of_lt_of_le e2 HB.out.low.size
      obtain ⟨va, vc, hv, hv1, hv2, _⟩ := e4.is
      rw [hv] at c1
      have HV : Hid (Lst w v qs) := e4
      have HQ : Hid (A[i]? = some qs) := hqs
      have hltI : (i : Int) < (A.length : Int) := by omega
      clear e4 e3 hqs
      cases hf : full qs with
      | false =>
        have hq0 : qs.length = 0 := by cases qs with | nil => rfl | cons _ _ => simp [full] at hf
        rw [hq0] at c1
        go_wp2
        refine ⟨⟨i + 1, lv, rows, by omega, rfl, by omega, by rw [take_filter_no HQ.out hf]; exact HB⟩, ?_⟩
        simp [intOf]
        omega
      | true =>
        have hq0 : 0 < qs.length := by cases qs with | nil => simp [full] at hf | cons _ _ => simp
        have hqI : (0 : Int) < (qs.length : Int) := by omega
        have b0 : wr.cell? ⟨w.heap.size, 0, none⟩ = some lv := by simp [World.cell?, HB.out.blk]
        have f0 : wr.frozen? ⟨w.heap.size, 0, none⟩ = false := by simp [World.frozen?, HB.out.blk]
        have hS : w.heap.size < wr.heap.size := (Array.getElem?_eq_some_iff.1 HB.out.blk).1
        go_wp2_with (at_builtin; refine wpList_append_lies _ rfl (.tmp 25) (.tmp 27) 160 rfl w.heap.size 162 ti (.slice none 0 0) 1 24 Tryz.underlying160 HI1 HI2 HI3 HI4 rfl (by omega) lv rows.length rows rfl (World.ownsRow.alloc HB.out.row _) ⟨wr.heap.size, 0, none⟩ 1 1 [.slice va qs.length vc] rfl rfl (by intro j u hj; cases j with | zero => (simp at hj; subst hj; simp [Addr.add]) | succ j => simp at hj) (by intro u hu; simp at hu; subst hu; rfl) (by omega) (by unfold maxLen; omega) (by omega) (by simp; omega) _ rfl ?_; intro g2 cap2 w3 hown3 hgr3 hat3 hlt3; have k3 : w3.cell? ⟨w.heap.size, 0, none⟩ = some lv := (hgr3.cell_far ⟨w.heap.size, 0, none⟩ (by simp; omega) (Ne.symm HB.out.ne)).trans ((World.cell?_of_block (heap_alloc_old _ _ hS)).trans b0); have f3 : w3.frozen? ⟨w.heap.size, 0, none⟩ = false := (hgr3.frozen_far ⟨w.heap.size, 0, none⟩ (by simp; omega) (Ne.symm HB.out.ne)).trans ((World.frozen?_of_block (heap_alloc_old _ _ hS)).trans f0))
        have hne2 : g2 ≠ w.heap.size := by
          intro e
          rcases hat3 with h | h
          · exact HB.out.ne (e ▸ h)
          · simp at h; omega
        have hlow3 : Below w.heap.size w w3 := by
          have h1 : Below w.heap.size w (wr.alloc (.cells #[.slice va qs.length vc] 162)) := HB.out.low.alloc HB.out.low.size _
          refine ⟨hgr3.os.trans h1.os, hgr3.tape.trans h1.tape, hgr3.output.trans h1.output, Nat.le_trans h1.size hgr3.size, fun k hk => ?_⟩
          rw [hgr3.block k (by have := h1.size; omega) ?_]
          · exact h1.block k hk
          · intro e
            rcases HB.out.row.2 with ⟨e0, _⟩ | ⟨g0, cap0, cur, hv0, hb0, _⟩
            · rw [e0] at e; cases e
            · rw [hv0] at e
              injection e with e
              simp only at e
              omega
        have hblk3 : w3.heap[w.heap.size]? = some (.cells #[lv, .func (.func 134) #[] #[]] 284 (0, 0)) := by
          rw [hgr3.block w.heap.size (by simp; omega) (Ne.symm HB.out.ne), heap_alloc_old _ _ hS]
          exact HB.out.blk
        have hrl : (rows ++ [Value.slice va qs.length vc]).length = rows.length + 1 := by simp
        refine ⟨⟨i + 1, .slice (some ⟨g2, 0, none⟩) (rows.length + 1) cap2, rows ++ [.slice va qs.length vc], by omega, rfl, by rw [hrl]; omega, ?_⟩, ?_⟩
        · rw [take_filter_yes HQ.out hf]
          refine ⟨hlow3.setCell (p := ⟨w.heap.size, 0, none⟩) (Nat.le_refl _) _, ?_, ?_, fun e => hne2 (by injection e), by rw [List.length_append, hrl, HB.out.len]; rfl, ?_⟩
          · have := heap_set (i := 0) (v := .slice (some ⟨g2, 0, none⟩) (rows.length + 1) cap2) hblk3
            simpa using this
          · rw [hrl]
            refine ⟨hown3.1, ?_⟩
            rcases hown3.2 with ⟨hc, _⟩ | ⟨g', cap', cur, hv', h1, hg', h2⟩
            · cases hc
            · cases hv'
              refine Or.inr ⟨g2, cap2, cur, rfl, h1, ?_, h2⟩
              rw [← hg']
              simp [World.setCell, Array.getElem?_modify, Ne.symm hne2]
          · intro j v' qs' hv' hq'
            by_cases hj : j < rows.length
            · rw [List.getElem?_append_left hj] at hv'
              rw [List.getElem?_append_left (by rw [HB.out.len]; exact hj)] at hq'
              exact HB.out.lst j v' qs' hv' hq'
            · have hj2 : j = rows.length := by have := (List.getElem?_eq_some_iff.1 hv').1; rw [hrl] at this; omega
              subst hj2
              rw [List.getElem?_append_right (Nat.le_refl _), Nat.sub_self] at hv'
              rw [List.getElem?_append_right (by rw [HB.out.len]; exact Nat.le_refl _), HB.out.len, Nat.sub_self] at hq'
              simp only [List.getElem?_cons_zero, Option.some.injEq] at hv' hq'
              subst hv' hq'
              refine ⟨by rw [← hv]; exact HV.out, fun e => ?_⟩
              rw [e] at hq0
              simp at hq0
        · simp [intOf]
          omega
    · obtain rfl : i = A.length := by omega
      rw [List.take_length] at HB
      have hH := HB.out.hp HL.out (fun qs hq => (List.mem_filter.1 hq).1)
      have HH : Hid _ := hH
      have hlow := HB.out.low
      have HLW : Hid _ := hlow
      have b0 : wr.cell? ⟨w.heap.size, 0, none⟩ = some lv := by simp [World.cell?, HB.out.blk]
      have hlv : ∃ a' c', lv = .slice a' rows.length c' := by
        rcases HB.out.row.2 with ⟨e0, hz⟩ | ⟨g0, cap0, cur, hv0, _⟩
        · exact ⟨none, 0, by rw [e0, hz]⟩
        · exact ⟨_, _, hv0⟩
      obtain ⟨a', c', hlv⟩ := hlv
      subst hlv
      have hrA : rows.length ≤ A.length := hri
      clear hH hlow HB b0
      have b0 : wr.cell? ⟨w.heap.size, 0, none⟩ = some (.slice a' rows.length c') := by simp [World.cell?, HH.out.blk]
      go_wp2
      go_loopw [8] (fun x wx => ∃ (s : Nat) (rows' : List Value) (Qs' : List (List Nat)), s ≤ rows.length / 2 ∧ x = .int .i64 ((s : Int) - 1) ∧ rows'.length = rows.length ∧ Hid (Hp wx w.heap.size w.heap.size (.slice a' rows.length c') rows' Qs' kf) ∧ Hid (Qs'.Perm (A.filter full)) ∧ Hid (HeapOK (fk Qs' kf) Qs'.length s) ∧ Hid (Below w.heap.size w wx)) (fun x _ => (intOf x + 1).toNat)
      case atStart => exact ⟨rows.length / 2, rows, A.filter full, Nat.le_refl _, by congr 1, rfl, HH, List.Perm.refl _, fun i c hi hc hn => by (have h1 := HH.out.len; unfold Child at hc; omega), HLW⟩
      case round =>
        clear HH HLW b0
        obtain ⟨s, rows', Qs', hs, rfl, hrl, HH, HP, HK, HLW⟩ := hrel
        cases s with
        | zero =>
          have h0 : ((0 : Nat) : Int) - 1 = -1 := rfl
          rw [h0]
          go_wp2
          go_ret
          exact ⟨w.heap.size, _, rows', Qs', rfl, HH.out, HP.out, HK.out, by omega, HLW.out⟩
        | succ s =>
          have h0 : ((s + 1 : Nat) : Int) - 1 = (s : Int) := by omega
          rw [h0]
          have hlen := HH.out.len
          obtain ⟨r, cp, hlv, hbr⟩ : ∃ r cp, Value.slice a' rows.length c' = .slice (some ⟨r, 0, none⟩) rows'.length cp ∧ w.heap.size ≤ r := by
            rcases HH.out.row.2 with ⟨_, hz⟩ | ⟨g0, cap0, cur, hv0, hb0, _⟩
            · omega
            · exact ⟨g0, cap0, hv0, hb0⟩
          have HH2 : Hid (Hp wr w.heap.size w.heap.size (.slice (some ⟨r, 0, none⟩) rows'.length cp) rows' Qs' kf) := by rw [← hlv]; exact HH
          have HX : Hid (HeapEx (fk Qs' kf) Qs'.length s s) := by
            refine ⟨Nat.le_refl _, fun i c hi hne hc hn => HK.out i c (by omega) hc hn, fun i c hi hc => ?_⟩
            have := hc.gt
            omega
          have HLV : Hid _ := hlv
          clear hlv HH HK
          go_wp2_with fail
          refine (sink_any _ w.heap.size w.heap.size s s r cp rows' Qs' kf HH2.out (by omega) HX.out (by omega)).mono ?_
          rintro e w3 ⟨⟨v3, rfl⟩, rows3, Qs3, hl3, hH3, hP3, hK3, hO3⟩
          have H3 : Hid (Hp w3 w.heap.size w.heap.size (.slice a' rows.length c') rows3 Qs3 kf) := by rw [HLV.out]; exact hH3
          have P3 : Hid (Qs3.Perm (A.filter full)) := hP3.trans HP.out
          have K3 : Hid _ := hK3
          have L3 : Hid (Below w.heap.size w w3) := ⟨hO3.os.trans HLW.out.os, hO3.tape.trans HLW.out.tape, hO3.output.trans HLW.out.output, Nat.le_trans HLW.out.size hO3.size, fun k hk => (hO3.block k (by have := HLW.out.size; omega) (by omega)).trans (HLW.out.block k hk)⟩
          clear hH3 hP3 hK3 hO3 HH2 HX HP HLW
          go_wp2
          refine ⟨⟨s, rows3, Qs3, by omega, rfl, by omega, H3, P3, K3, L3⟩, ?_⟩
          simp [intOf]
end Go.Proofs.YtmehkneofinmiaaGreatDoor

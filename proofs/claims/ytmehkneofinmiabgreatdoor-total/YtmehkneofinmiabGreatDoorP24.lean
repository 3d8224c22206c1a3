/-
  Texts of this proof, part 24.
-/
import Derived.Test.YtmehkneofinmiabGreatDoorP23
namespace Go.Proofs.YtmehkneofinmiabGreatDoor
open Go.RowKit
theorem Hp.setAt {w : World} {base h r n cap i : Nat} {rows : List Value} {Qs : List (List Nat)} {kf : Nat → List UInt8} {v : Value} {q : List Nat} (H : Hp w base h (.slice (some ⟨r, 0, none⟩) n cap) rows Qs kf) (hn : rows.length = n) (hi : i < n)
    (hv : Lst w v q) (hq : q ≠ []) (hk : ∀ x ∈ q, x < w.heap.size ∧ w.cell? ⟨x, 0, none⟩ = some (.string ⟨(kf x).toArray⟩)) :
    Hp (w.setCell ⟨r, i, none⟩ v) base h (.slice (some ⟨r, 0, none⟩) n cap) (rows.set i v) (Qs.set i q) kf ∧ (∀ v' q', Lst w v' q' → Lst (w.setCell ⟨r, i, none⟩ v) v' q') := by
  subst hn
  have other : ∀ k, k ≠ r → (w.setCell ⟨r, i, none⟩ v).heap[k]? = w.heap[k]? := by
    intro k hk
    simp [World.setCell, Array.getElem?_modify, Ne.symm hk]
  obtain ⟨hlen, hrow⟩ := H.row
  rcases hrow with ⟨e0, _⟩ | ⟨g0, cap0, cur, hv0, hb0, hg0, hn0, hm0, hs0, htk⟩
  · cases e0
  cases hv0
  rw [Nat.mul_one] at hs0 htk
  have hcell : ∀ j, j < rows.length → w.cell? ⟨r, j, none⟩ = rows[j]? := by
    intro j hj
    rw [← htk, List.getElem?_take_of_lt (by omega)]
    simp [World.cell?, hg0]
  have hhr : h ≠ r := fun e => H.ne (by rw [e]; rfl)
  have hlst : ∀ (v' : Value) (qs : List Nat), Lst w v' qs → Lst (w.setCell ⟨r, i, none⟩ v) v' qs := by
    intro v' qs hl
    obtain ⟨a, c, h1, h2, h3, h4⟩ := hl.is
    refine ⟨⟨a, c, h1, h2, h3, fun j q hq => ?_⟩⟩
    obtain ⟨g, o, e1, ⟨cs, f, hcs⟩, e3⟩ := h4 j q hq
    have hgr : g ≠ r := by
      intro e; subst e
      rw [hg0] at hcs
      injection hcs with hcs
      injection hcs with _ ht _
      exact absurd ht (by decide)
    refine ⟨g, o, e1, ⟨cs, f, (other g hgr).trans hcs⟩, ?_⟩
    rw [← e3]
    simp only [World.cell?]
    rw [other g hgr]
  refine ⟨⟨H.hb, (other h hhr).trans H.blk, ?_, H.ne, by simp [H.len], ?_, ?_⟩, hlst⟩
  · refine ⟨by simp, Or.inr ⟨r, cap, cur.setIfInBounds i v, by simp, hb0, heap_set hg0, by simpa using hn0, hm0, by simp [hs0], ?_⟩⟩
    simp only [List.length_set, Nat.mul_one]
    apply List.ext_getElem?
    intro j
    by_cases hj : j < rows.length
    · have hrj : cur[j]? = rows[j]? := by
        rw [← hcell j hj]
        simp [World.cell?, hg0]
      have h2 : i < cur.size := by omega
      rw [List.getElem?_take_of_lt hj]
      simp only [Array.getElem?_toList, List.getElem?_set, Array.getElem?_setIfInBounds]
      by_cases e2 : i = j
      · subst e2; simp [h2, hj]
      · simp [e2, hrj]
    · rw [List.getElem?_eq_none (by simp; omega), List.getElem?_eq_none (by simp; omega)]
  · intro j v' qs hv' hq'
    rw [List.getElem?_set] at hv' hq'
    have hil : i < Qs.length := by rw [H.len]; omega
    by_cases e2 : i = j
    · subst e2
      simp only [if_true, hil, hi, Option.some.injEq] at hv' hq'
      subst hv' hq'
      exact ⟨hlst _ _ hv, hq⟩
    · rw [if_neg e2] at hv' hq'
      exact ⟨hlst _ _ (H.lst j _ _ hv' hq').1, (H.lst j _ _ hv' hq').2⟩
  · intro qs hqs x hxq
    have hold : x < w.heap.size ∧ w.cell? ⟨x, 0, none⟩ = some (.string ⟨(kf x).toArray⟩) := by
      rcases List.mem_or_eq_of_mem_set hqs with h2 | h2
      · exact H.key qs h2 x hxq
      · rw [h2] at hxq; exact hk x hxq
    have hqr : x ≠ r := by
      intro e; subst e
      have hkey := hold.2
      rw [hcell 0 (by omega)] at hkey
      have hz : 0 < Qs.length := by rw [H.len]; omega
      obtain ⟨a, c, h1, _⟩ := (H.lst 0 _ _ hkey (List.getElem?_eq_getElem hz)).1.is
      cases h1
    refine ⟨by simpa [World.setCell] using hold.1, ?_⟩
    rw [← hold.2]
    simp only [World.cell?]
    rw [other x hqr]
theorem Lst.tail {w : World} {g o n c q q2 : Nat} {t : List Nat} (h : Lst w (.slice (some ⟨g, o, none⟩) n c) (q :: q2 :: t)) : Lst w (.slice (some ⟨g, o + 1, none⟩) (t.length + 1) (c - 1)) (q2 :: t) := by
  obtain ⟨a, c', h1, h2, h3, h4⟩ := h.is
  cases h1
  simp only [List.length_cons] at h2
  refine ⟨⟨_, _, rfl, by simp only [List.length_cons]; omega, by omega, fun j x hj => ?_⟩⟩
  obtain ⟨g', o', e1, e2, e3⟩ := h4 (j + 1) x (by simpa using hj)
  cases e1
  exact ⟨g, o + 1, rfl, e2, by rw [← e3]; congr 2; omega⟩
theorem HeapOK.ex0 {F G : Nat → List UInt8} {n n' : Nat} (h : HeapOK F n 0) (hn : n' ≤ n) (hFG : ∀ i, i ≠ 0 → i < n' → G i = F i) : HeapEx G n' 0 0 := by
  refine ⟨Nat.le_refl _, fun i c _ hi hc hcn => ?_, fun i c _ hc => ?_⟩
  · have := hc.gt
    rw [hFG i hi (by omega), hFG c (by omega) hcn]
    exact h i c (Nat.zero_le _) hc (by omega)
  · unfold Child at hc; omega
theorem fk_set_ne {Qs : List (List Nat)} {kf : Nat → List UInt8} {i j : Nat} {q : List Nat} (h : j ≠ i) : fk (Qs.set i q) kf j = fk Qs kf j := by
  unfold fk
  rw [List.getElem?_set, if_neg (Ne.symm h)]
set_option maxHeartbeats 4000000 in
theorem take_more (w : World) (base h r cap : Nat) (rows : List Value) (Qs : List (List Nat)) (kf : Nat → List UInt8) (H : Hp w base h (.slice (some ⟨r, 0, none⟩) rows.length cap) rows Qs kf) (hl : rows.length < 1000) (hx : HeapOK (fk Qs kf) Qs.length 0) (q q2 : Nat) (t : List Nat) (h0 : Qs[0]? = some (q :: q2 :: t)) (hll : t.length < 1000000) :
    Calls Tryz.prog 142 #[.pointer (some ⟨h, 0, none⟩)] w fun e w' => e = .returned (.pointer (some ⟨q, 0, none⟩)) ∧ ∃ rows' Qs', rows'.length = rows.length ∧ Hp w' base h (.slice (some ⟨r, 0, none⟩) rows'.length cap) rows' Qs' kf ∧ Qs'.Perm (Qs.set 0 (q2 :: t)) ∧ HeapOK (fk Qs' kf) Qs'.length 0 ∧ Off (fun k => k = r ∨ k = h) w w' := by
  obtain ⟨r1, cap1, qs, g, o, n, c, hlv, hn, hm, hr, e1, e2, e3, e4, e5, e6, hg, c1, c2, hmem, hmq⟩ := H.at 0 (List.getElem?_eq_some_iff.1 h0).1
  rw [h0] at e1
  cases e1
  cases hlv
  have hr0 : 0 < rows.length := (List.getElem?_eq_some_iff.1 e2).1
  have b0 : w.cell? ⟨h, 0, none⟩ = some (.slice (some ⟨r, 0, none⟩) rows.length cap) := by simp [World.cell?, H.blk]
  have hlt : h < w.heap.size := (Array.getElem?_eq_some_iff.1 H.blk).1
  have HH : Hid _ := H
  have HX : Hid _ := hx
  clear H hx hmem hmq
  have hn2 : n = t.length + 2 := by rw [e3]; simp
  clear e3
  subst hn2
  go_enter Tryz.func142, Tryz.ntmps142
  have fr0 : w.frozen? ⟨r, 0, none⟩ = false := by
    rcases HH.out.row.2 with ⟨e0, _⟩ | ⟨g0, cap0, cur, hv0, _, hg0, _⟩
    · cases e0
    · cases hv0; simp [World.frozen?, hg0]
  have hc1 : ¬ (c = 1) := by omega
  have hc1' : ¬ (1 = c) := by omega
  have hLs := (HH.out.lst 0 _ _ e2 h0).1
  have hkey := HH.out.key _ (List.mem_of_getElem? h0)
  obtain ⟨hS, hLS⟩ := HH.out.setAt rfl hr0 hLs.tail (by simp) (fun x hx => hkey x (by simp [hx]))
  have hEX : HeapEx (fk (Qs.set 0 (q2 :: t)) kf) (Qs.set 0 (q2 :: t)).length 0 0 := HeapOK.ex0 HX.out (by simp) (fun i hi _ => fk_set_ne hi)
  have HS : Hid _ := hS
  have HE : Hid _ := hEX
  have HLS : Hid _ := hLS _ _ hLs
  have hOr : Hid (Off (fun k => k = r ∨ k = h) w (w.setCell ⟨r, 0, none⟩ (.slice (some ⟨g, o + 1, none⟩) (t.length + 1) (c - 1)))) := (Off.refl _ _).set r 0 _ (Or.inl (Or.inl rfl))
  clear hS hEX hLS hLs hkey
  go_wp2_with fail
  go_region
  go_wp2_with fail
  have hlen2 : (rows.set 0 (.slice (some ⟨g, o + 1, none⟩) (t.length + 1) (c - 1))).length = rows.length := by simp
  have hS2 := HS.out.below ((Below.refl _ _).drew)
  rw [← hlen2] at hS2
  refine (sink_any _ base h 0 0 r cap _ _ kf hS2 (by omega) HE.out (by omega)).mono ?_
  rintro e w3 ⟨⟨v3, rfl⟩, rows3, Qs3, hl3, hH3, hP3, hK3, hO3⟩
  rw [hlen2] at hl3
  have hgr : g ≠ r := by
    obtain ⟨a, c', h1, h2, h3, h4⟩ := HLS.out.is
    cases h1
    obtain ⟨g', o', e1, ⟨cs, f, hcs⟩, _⟩ := h4 0 q rfl
    cases e1
    intro e
    subst e
    rcases HS.out.row.2 with ⟨e0, _⟩ | ⟨g0, cap0, cur, hv0, _, hg0, _⟩
    · cases e0
    · injection hv0 with ha _ _
      injection ha with ha
      injection ha with hb _ _
      subst hb
      rw [hg0] at hcs
      injection hcs with hcs
      injection hcs with _ ht _
      exact absurd ht (by decide)
  have hgs : (w.setCell ⟨r, 0, none⟩ (.slice (some ⟨g, o + 1, none⟩) (t.length + 1) (c - 1))).heap[g]? = w.heap[g]? := by simp [World.setCell, Array.getElem?_modify, Ne.symm hgr]
  have c3 : w3.cell? ⟨g, o, none⟩ = some (.pointer (some ⟨q, 0, none⟩)) := by
    have e5 : w3.heap[g]? = w.heap[g]? := (hO3.block g (by show g < (w.setCell _ _).heap.size; simpa [World.setCell] using hg) hgr).trans hgs
    have e6 := c2
    simp only [World.cell?] at e6 ⊢
    rw [e5]
    exact e6
  have hg3 : g < w3.heap.size := World.block_lt_of_cell? _ _ c3
  have H3 : Hid _ := hH3
  have P3 : Hid _ := hP3
  have K3 : Hid _ := hK3
  have O3 : Hid (Off (fun k => k = r ∨ k = h) w w3) := (hOr.out.drew).trans (hO3.mono (fun k hk => Or.inl hk))
  clear hH3 hP3 hK3 hO3 hgs hS2
  go_wp2
  go_ret
  refine ⟨rfl, rows3, Qs3, hl3, ?_, P3.out, K3.out, O3.out⟩
  have := H3.out
  rw [hlen2] at this
  rw [hl3]
  exact this
theorem Hp.cut {w : World} {base h r n cap m : Nat} {rows : List Value} {Qs : List (List Nat)} {kf : Nat → List UInt8} (H : Hp w base h (.slice (some ⟨r, 0, none⟩) n cap) rows Qs kf) (hn : rows.length = n) (hm : m ≤ n) :
    Hp (w.setCell ⟨h, 0, none⟩ (.slice (some ⟨r, 0, none⟩) m cap)) base h (.slice (some ⟨r, 0, none⟩) m cap) (rows.take m) (Qs.take m) kf := by
  subst hn
  have other : ∀ k, k ≠ h → (w.setCell ⟨h, 0, none⟩ (.slice (some ⟨r, 0, none⟩) m cap)).heap[k]? = w.heap[k]? := by
    intro k hk
    simp [World.setCell, Array.getElem?_modify, Ne.symm hk]
  obtain ⟨hlen, hrow⟩ := H.row
  rcases hrow with ⟨e0, _⟩ | ⟨g0, cap0, cur, hv0, hb0, hg0, hn0, hm0, hs0, htk⟩
  · cases e0
  cases hv0
  have hrh : r ≠ h := fun e => H.ne (by rw [← e]; rfl)
  have hml : (rows.take m).length = m := by rw [List.length_take]; omega
  refine ⟨H.hb, ?_, ?_, H.ne, by rw [List.length_take, List.length_take, H.len], ?_, ?_⟩
  · have := heap_set (i := 0) (v := .slice (some ⟨r, 0, none⟩) m cap) H.blk
    simpa using this
  · refine ⟨by simp, Or.inr ⟨r, cap, cur, by rw [hml], hb0, (other r hrh).trans hg0, by rw [hml]; omega, hm0, hs0, ?_⟩⟩
    rw [hml, ← htk]
    simp only [Nat.mul_one]
    rw [List.take_take, Nat.min_eq_left hm]
  · intro j v qs hv hq
    rw [List.getElem?_take] at hv hq
    split at hv
    · rename_i hj
      rw [if_pos hj] at hq
      obtain ⟨h1, h2⟩ := H.lst j v qs hv hq
      refine ⟨?_, h2⟩
      obtain ⟨a, c, k1, k2, k3, k4⟩ := h1.is
      refine ⟨⟨a, c, k1, k2, k3, fun j q hq => ?_⟩⟩
      obtain ⟨g, o, e1, ⟨cs, f, hcs⟩, e3⟩ := k4 j q hq
      have hgh : g ≠ h := by
        intro e; subst e
        rw [H.blk] at hcs
        injection hcs with hcs
        injection hcs with _ ht _
        exact absurd ht (by decide)
      refine ⟨g, o, e1, ⟨cs, f, (other g hgh).trans hcs⟩, ?_⟩
      rw [← e3]
      simp only [World.cell?]
      rw [other g hgh]
    · cases hv
  · intro qs hqs q hq
    obtain ⟨h1, h2⟩ := H.key qs (List.mem_of_mem_take hqs) q hq
    have hqh : q ≠ h := by
      intro e; subst e
      simp only [World.cell?, H.blk] at h2
      simp at h2
    refine ⟨by simpa [World.setCell] using h1, ?_⟩
    rw [← h2]
    simp only [World.cell?]
    rw [other q hqh]
set_option maxHeartbeats 4000000 in
theorem take_one (w : World) (base h r cap m : Nat) (rows : List Value) (Qs : List (List Nat)) (kf : Nat → List UInt8) (H : Hp w base h (.slice (some ⟨r, 0, none⟩) rows.length cap) rows Qs kf) (hl : rows.length < 1000) (hx : HeapOK (fk Qs kf) Qs.length 0) (q : Nat) (h0 : Qs[0]? = some [q]) (hm : rows.length = m + 1) (qm : List Nat) (hqm : Qs[m]? = some qm) :
    Calls Tryz.prog 142 #[.pointer (some ⟨h, 0, none⟩)] w fun e w' => e = .returned (.pointer (some ⟨q, 0, none⟩)) ∧ ∃ rows' Qs', rows'.length = m ∧ Hp w' base h (.slice (some ⟨r, 0, none⟩) rows'.length cap) rows' Qs' kf ∧ Qs'.Perm ((Qs.set 0 qm).take m) ∧ HeapOK (fk Qs' kf) Qs'.length 0 ∧ Off (fun k => k = r ∨ k = h) w w' := by
  obtain ⟨r1, cap1, qs, g, o, n, c, hlv, hn, hmx, hr, e1, e2, e3, e4, e5, e6, hg, c1, c2, hmem, hmq⟩ := H.at 0 (List.getElem?_eq_some_iff.1 h0).1
  rw [h0] at e1
  cases e1
  cases hlv
  obtain ⟨r2, cap2, qs2, g2, o2, n2, d2, hlv2, _, _, _, e12, e22, e32, e42, e52, e62, hg2, c12, _, _, hmq2⟩ := H.at m (List.getElem?_eq_some_iff.1 hqm).1
  rw [hqm] at e12
  cases e12
  cases hlv2
  subst e32
  have hr0 : 0 < rows.length := by omega
  have b0 : w.cell? ⟨h, 0, none⟩ = some (.slice (some ⟨r, 0, none⟩) rows.length cap) := by simp [World.cell?, H.blk]
  have fh : w.frozen? ⟨h, 0, none⟩ = false := by simp [World.frozen?, H.blk]
  have hlt : h < w.heap.size := (Array.getElem?_eq_some_iff.1 H.blk).1
  have hne : r ≠ h := fun e => H.ne (by rw [← e]; rfl)
  have fr0 : w.frozen? ⟨r, 0, none⟩ = false := by
    rcases H.row.2 with ⟨e0, _⟩ | ⟨g0, cap0, cur, hv0, _, hg0, _⟩
    · cases e0
    · cases hv0; simp [World.frozen?, hg0]
  have HH : Hid _ := H
  have HX : Hid _ := hx
  have hn1 : n = 1 := by rw [e3]; rfl
  subst hn1
  clear e3 hmem H hx
  have HMQ : Hid _ := hmq2
  clear hmq2 hmq
  rw [hm] at b0 hn hr0
  have hmI : ((m + 1 : Nat) : Int) - 1 = (m : Int) := by omega
  go_enter Tryz.func142, Tryz.ntmps142
  have hLs := (HH.out.lst 0 _ _ e2 h0).1
  have hLm := HH.out.lst m _ _ e22 hqm
  obtain ⟨hS, hLS⟩ := HH.out.setAt (i := 0) rfl (by omega) hLm.1 hLm.2 (HH.out.key _ HMQ.out)
  have hC := hS.cut (m := m) (by simp) (by omega)
  have HC : Hid _ := hC
  have HE : Hid (HeapEx (fk ((Qs.set 0 qm).take m) kf) ((Qs.set 0 qm).take m).length 0 0) := by
    refine HeapOK.ex0 HX.out (by simp; omega) (fun i hi hlt => ?_)
    have him : i < m := by rw [List.length_take] at hlt; omega
    unfold fk
    rw [List.getElem?_take, if_pos him, List.getElem?_set, if_neg (by omega)]
  have hgr : g ≠ r ∧ g ≠ h := by
    obtain ⟨a, c', h1, h2, h3, h4⟩ := hLs.is
    cases h1
    obtain ⟨g', o', e1, ⟨cs, f, hcs⟩, _⟩ := h4 0 q rfl
    cases e1
    refine ⟨fun e => ?_, fun e => ?_⟩
    · subst e
      rcases HH.out.row.2 with ⟨e0, _⟩ | ⟨g0, cap0, cur, hv0, _, hg0, _⟩
      · cases e0
      · injection hv0 with ha _ _
        injection ha with ha
        injection ha with hb _ _
        subst hb
        rw [hg0] at hcs
        injection hcs with hcs
        injection hcs with _ ht _
        exact absurd ht (by decide)
    · subst e
      rw [HH.out.blk] at hcs
      injection hcs with hcs
      injection hcs with _ ht _
      exact absurd ht (by decide)
  clear hS hLS hC hLs hLm
  have hOr : Hid (Off (fun k => k = r ∨ k = h) w ((w.setCell ⟨r, 0, none⟩ (.slice (some ⟨g2, o2, none⟩) qm.length d2)).setCell ⟨h, 0, none⟩ (.slice (some ⟨r, 0, none⟩) m cap))) := ((Off.refl _ _).set r 0 _ (Or.inl (Or.inl rfl))).set h 0 _ (Or.inl (Or.inr rfl))
  go_wp2_with fail
  go_region
  go_wp2_with fail
  have hlen2 : ((rows.set 0 (.slice (some ⟨g2, o2, none⟩) qm.length d2)).take m).length = m := by rw [List.length_take, List.length_set]; omega
  have hS2 := HC.out.below ((Below.refl _ _).drew)
  have hS3 := hS2
  rw [← hlen2] at hS3
  simp only [hlen2] at hS3
  refine (sink_any _ base h 0 0 r cap _ _ kf (by rw [hlen2]; exact hS2) (by omega) HE.out (by omega)).mono ?_
  rintro e w3 ⟨⟨v3, rfl⟩, rows3, Qs3, hl3, hH3, hP3, hK3, hO3⟩
  rw [hlen2] at hl3 hH3
  have hgs : ((w.setCell ⟨r, 0, none⟩ (.slice (some ⟨g2, o2, none⟩) qm.length d2)).setCell ⟨h, 0, none⟩ (.slice (some ⟨r, 0, none⟩) m cap)).heap[g]? = w.heap[g]? := by simp [World.setCell, Array.getElem?_modify, Ne.symm hgr.1, Ne.symm hgr.2]
  have c3 : w3.cell? ⟨g, o, none⟩ = some (.pointer (some ⟨q, 0, none⟩)) := by
    have e5 : w3.heap[g]? = w.heap[g]? := (hO3.block g (by show g < ((w.setCell _ _).setCell _ _).heap.size; simpa [World.setCell] using hg) hgr.1).trans hgs
    have e6 := c2
    simp only [World.cell?] at e6 ⊢
    rw [e5]
    exact e6
  have hg3 : g < w3.heap.size := World.block_lt_of_cell? _ _ c3
  have H3 : Hid _ := hH3
  have P3 : Hid _ := hP3
  have K3 : Hid _ := hK3
  have O3 : Hid (Off (fun k => k = r ∨ k = h) w w3) := (hOr.out.drew).trans (hO3.mono (fun k hk => Or.inl hk))
  clear hH3 hP3 hK3 hO3 hgs hS2 hS3
  go_wp2
  go_ret
  exact ⟨rfl, rows3, Qs3, hl3, by rw [hl3]; exact H3.out, P3.out, K3.out, O3.out⟩
end Go.Proofs.YtmehkneofinmiabGreatDoor

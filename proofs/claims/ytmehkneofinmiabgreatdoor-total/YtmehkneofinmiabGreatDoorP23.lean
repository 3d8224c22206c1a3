/-
  Texts of this proof, part 23.
-/
import Derived.Test.YtmehkneofinmiabGreatDoorP22
namespace Go.Proofs.YtmehkneofinmiabGreatDoor
open Go.RowKit
def fk (Qs : List (List Nat)) (kf : Nat → List UInt8) (i : Nat) : List UInt8 := kf (hd ((Qs[i]?).getD []))
theorem Hp.below {w x : World} {base h : Nat} {lv : Value} {rows : List Value} {Qs : List (List Nat)} {kf : Nat → List UInt8} (H : Hp w base h lv rows Qs kf) (hb : Below w.heap.size w x) : Hp x base h lv rows Qs kf :=
  ⟨H.hb, (hb.block _ (Array.getElem?_eq_some_iff.1 H.blk).1).trans H.blk, row_below H.row hb, H.ne, H.len, fun i v qs h1 h2 => ⟨(H.lst i v qs h1 h2).1.below hb, (H.lst i v qs h1 h2).2⟩,
    fun qs hq q hm => ⟨Nat.lt_of_lt_of_le (H.key qs hq q hm).1 hb.size, (hb.cell (p := ⟨q, 0, none⟩) (H.key qs hq q hm).1).trans (H.key qs hq q hm).2⟩⟩
theorem fk_at {Qs : List (List Nat)} {kf : Nat → List UInt8} {i : Nat} {q : List Nat} (h : Qs[i]? = some q) : fk Qs kf i = kf (hd q) := by simp [fk, h]
structure Least (F : Nat → List UInt8) (n p m c : Nat) : Prop where
  is : m = p ∨ (Child p m ∧ m < n)
  le : leB (F m) (F p)
  all : ∀ d, Child p d → d < c → d < n → leB (F m) (F d)
theorem Least.start (F : Nat → List UInt8) (n p : Nat) : Least F n p p (2 * p + 1) := ⟨Or.inl rfl, leB_refl _, fun d hd hlt => by unfold Child at hd; omega⟩
theorem Least.skip {F : Nat → List UInt8} {n p m c : Nat} (h : Least F n p m c) (hn : ¬ c < n) : Least F n p m (c + 1) :=
  ⟨h.is, h.le, fun d hd hlt hdn => h.all d hd (by omega) hdn⟩
theorem Least.no {F : Nat → List UInt8} {n p m c : Nat} (h : Least F n p m c) (hq : (cmpB (F c) (F m) == -1) = false) : Least F n p m (c + 1) :=
  ⟨h.is, h.le, fun d hd hlt hdn => by
    by_cases e : d = c
    · subst e; exact leB_of_not hq
    · exact h.all d hd (by omega) hdn⟩
theorem Least.yes {F : Nat → List UInt8} {n p m c : Nat} (h : Least F n p m c) (hc : Child p c) (hn : c < n) (hq : (cmpB (F c) (F m) == -1) = true) : Least F n p c (c + 1) :=
  ⟨Or.inr ⟨hc, hn⟩, leB_trans (leB_of_lt hq) h.le, fun d hd hlt hdn => by
    by_cases e : d = c
    · subst e; exact leB_refl _
    · exact leB_trans (leB_of_lt hq) (h.all d hd (by omega) hdn)⟩
theorem Hp.swap {w : World} {base h r n cap p m : Nat} {rows : List Value} {Qs : List (List Nat)} {kf : Nat → List UInt8} {vp vm : Value} {qp qm : List Nat} (H : Hp w base h (.slice (some ⟨r, 0, none⟩) n cap) rows Qs kf) (hn : rows.length = n) (hpm : p < m) (hmn : m < n)
    (ep : rows[p]? = some vp) (em : rows[m]? = some vm) (eqp : Qs[p]? = some qp) (eqm : Qs[m]? = some qm) :
    Hp ((w.setCell ⟨r, p, none⟩ vm).setCell ⟨r, m, none⟩ vp) base h (.slice (some ⟨r, 0, none⟩) n cap) ((rows.set p vm).set m vp) ((Qs.set p qm).set m qp) kf := by
  subst hn
  have other : ∀ k, k ≠ r → ((w.setCell ⟨r, p, none⟩ vm).setCell ⟨r, m, none⟩ vp).heap[k]? = w.heap[k]? := by
    intro k hk
    simp [World.setCell, Array.getElem?_modify, Ne.symm hk]
  obtain ⟨hlen, hrow⟩ := H.row
  rcases hrow with ⟨e0, _⟩ | ⟨g0, cap0, cur, hv0, hb0, hg0, hn0, hm0, hs0, htk⟩
  · cases e0
  cases hv0
  rw [Nat.mul_one] at hs0 htk
  have hcell : ∀ j, j < rows.length → w.cell? ⟨r, j, none⟩ = rows[j]? := by
    intro j hj
    rw [← htk, List.getElem?_take_of_lt (by omega)]
    simp [World.cell?, hg0]
  have hhr : h ≠ r := fun e => H.ne (by rw [e]; rfl)
  have hlst : ∀ (v : Value) (qs : List Nat), Lst w v qs → Lst ((w.setCell ⟨r, p, none⟩ vm).setCell ⟨r, m, none⟩ vp) v qs := by
    intro v qs hl
    obtain ⟨a, c, h1, h2, h3, h4⟩ := hl.is
    refine ⟨⟨a, c, h1, h2, h3, fun j q hq => ?_⟩⟩
    obtain ⟨g, o, e1, ⟨cs, f, hcs⟩, e3⟩ := h4 j q hq
    have hgr : g ≠ r := by
      intro e; subst e
      rw [hg0] at hcs
      injection hcs with hcs
      injection hcs with _ ht _
      exact absurd ht (by decide)
    refine ⟨g, o, e1, ⟨cs, f, (other g hgr).trans hcs⟩, ?_⟩
    rw [← e3]
    simp only [World.cell?]
    rw [other g hgr]
  refine ⟨H.hb, (other h hhr).trans H.blk, ?_, H.ne, by simp [H.len], ?_, ?_⟩
  · refine ⟨by simp, Or.inr ⟨r, cap, (cur.setIfInBounds p vm).setIfInBounds m vp, by simp, hb0, ?_, by simpa using hn0, hm0, by simp [hs0], ?_⟩⟩
    · exact heap_set (heap_set hg0)
    · simp only [List.length_set, Nat.mul_one]
      apply List.ext_getElem?
      intro j
      by_cases hj : j < rows.length
      · have hrj : cur[j]? = rows[j]? := by
          rw [← hcell j hj]
          simp [World.cell?, hg0]
        have h1 : m < cur.size := by omega
        have h2 : p < cur.size := by omega
        have h3 : p < rows.length := by omega
        rw [List.getElem?_take_of_lt hj]
        simp only [Array.getElem?_toList, List.getElem?_set, Array.getElem?_setIfInBounds, List.length_set, Array.size_setIfInBounds]
        by_cases e1 : m = j
        · subst e1; simp [h1, hj]
        · by_cases e2 : p = j
          · subst e2; simp [e1, h2, h3]
          · simp [e1, e2, hrj]
      · rw [List.getElem?_eq_none (by simp; omega), List.getElem?_eq_none (by simp; omega)]
  · intro i v qs hv hq
    rw [List.getElem?_set] at hv hq
    have hpl : p < Qs.length := by rw [H.len]; omega
    have hml : m < Qs.length := by rw [H.len]; omega
    by_cases e1 : m = i
    · subst e1
      simp only [if_true, List.length_set, hmn, hml, Option.some.injEq] at hv hq
      subst hv hq
      exact ⟨hlst _ _ (H.lst p _ _ ep eqp).1, (H.lst p _ _ ep eqp).2⟩
    · rw [if_neg e1] at hv hq
      rw [List.getElem?_set] at hv hq
      by_cases e2 : p = i
      · subst e2
        simp only [if_true, hpl, show p < rows.length by omega, Option.some.injEq] at hv hq
        subst hv hq
        exact ⟨hlst _ _ (H.lst m _ _ em eqm).1, (H.lst m _ _ em eqm).2⟩
      · rw [if_neg e2] at hv hq
        exact ⟨hlst _ _ (H.lst i _ _ hv hq).1, (H.lst i _ _ hv hq).2⟩
  · intro qs hqs q hqm
    have hin : qs ∈ Qs := by
      rcases List.mem_or_eq_of_mem_set hqs with h1 | h1
      · rcases List.mem_or_eq_of_mem_set h1 with h2 | h2
        · exact h2
        · rw [h2]; exact List.mem_of_getElem? eqm
      · rw [h1]; exact List.mem_of_getElem? eqp
    obtain ⟨hlt, hkey⟩ := H.key qs hin q hqm
    have hqr : q ≠ r := by
      intro e; subst e
      rw [hcell 0 (by omega)] at hkey
      have hz : 0 < Qs.length := by rw [H.len]; omega
      obtain ⟨a, c, h1, _⟩ := (H.lst 0 _ _ hkey (List.getElem?_eq_getElem hz)).1.is
      cases h1
    refine ⟨by simpa [World.setCell] using hlt, ?_⟩
    rw [← hkey]
    simp only [World.cell?]
    rw [other q hqr]
theorem swap_perm {α : Type} {l : List α} {p m : Nat} {a b : α} (hp : p < l.length) (hm : m < l.length) (ha : l[p]? = some a) (hb : l[m]? = some b) : ((l.set p b).set m a).Perm l := by
  obtain rfl : l[p] = a := by rw [List.getElem?_eq_getElem hp] at ha; exact Option.some.inj ha
  obtain rfl : l[m] = b := by rw [List.getElem?_eq_getElem hm] at hb; exact Option.some.inj hb
  exact List.set_set_perm hp hm
theorem swap_fk {Qs : List (List Nat)} {kf : Nat → List UInt8} {p m : Nat} {a b : List Nat} (hp : p < Qs.length) (hm : m < Qs.length) (ha : Qs[p]? = some a) (hb : Qs[m]? = some b) (hpm : p < m) : fk ((Qs.set p b).set m a) kf = swapF (fk Qs kf) p m := by
  funext i
  unfold swapF
  by_cases e1 : i = p
  · subst e1
    rw [if_pos rfl, fk_at hb]
    apply fk_at
    rw [List.getElem?_set, if_neg (by omega), List.getElem?_set, if_pos rfl, if_pos hp]
  · rw [if_neg e1]
    by_cases e2 : i = m
    · subst e2
      rw [if_pos rfl, fk_at ha]
      apply fk_at
      rw [List.getElem?_set, if_pos rfl, if_pos (by simpa using hm)]
    · rw [if_neg e2]
      unfold fk
      rw [List.getElem?_set, if_neg (Ne.symm e2), List.getElem?_set, if_neg (Ne.symm e1)]
set_option maxHeartbeats 4000000 in
theorem sink_any (w : World) (base h lo p r cap : Nat) (rows : List Value) (Qs : List (List Nat)) (kf : Nat → List UInt8) (H : Hp w base h (.slice (some ⟨r, 0, none⟩) rows.length cap) rows Qs kf) (hl : rows.length < 1000) (hx : HeapEx (fk Qs kf) Qs.length lo p) (hp : p < 1000) :
    Calls Tryz.prog 191 #[.pointer (some ⟨h, 0, none⟩), .int .i64 p] w fun e w' => (∃ v, e = .returned v) ∧ ∃ rows' Qs', rows'.length = rows.length ∧ Hp w' base h (.slice (some ⟨r, 0, none⟩) rows.length cap) rows' Qs' kf ∧ Qs'.Perm Qs ∧ HeapOK (fk Qs' kf) Qs'.length lo ∧ Off (fun k => k = r) w w' := by
  have HH : Hid _ := H
  have HX : Hid _ := hx
  clear H hx
  go_enter Tryz.func191, Tryz.ntmps191
  go_wp2
  go_loopw [1] (fun x wx => ∃ (p' : Nat) (rows' : List Value) (Qs' : List (List Nat)), p' < 1000 ∧ x = .int .i64 p' ∧ rows'.length = rows.length ∧ Hid (Hp wx base h (.slice (some ⟨r, 0, none⟩) rows.length cap) rows' Qs' kf) ∧ Hid (Qs'.Perm Qs) ∧ Hid (HeapEx (fk Qs' kf) Qs'.length lo p') ∧ Hid (Off (fun k => k = r) w wx)) (fun x _ => 1000 - (intOf x).toNat)
  case atStart => exact ⟨p, rows, Qs, hp, rfl, rfl, HH, List.Perm.refl _, HX, Off.refl _ _⟩
  case round =>
    clear HH HX hp
    obtain ⟨p', rows', Qs', hp, rfl, hrl, HH, HP, HX, HO⟩ := hrel
    have hlen := HH.out.len
    obtain ⟨Wo, hWo⟩ : ∃ Wo, Wo = wr := ⟨_, rfl⟩
    rw [← hWo] at HH HO ⊢
    clear hWo
    go_wp2
    go_loopw [4, 5] (fun x y wx => ∃ m c : Nat, x = .int .i64 m ∧ y = .int .i64 c ∧ m < 2100 ∧ 2 * p' + 1 ≤ c ∧ c ≤ 2 * p' + 3 ∧ Hid (Below Wo.heap.size Wo wx) ∧ Hid (Least (fk Qs' kf) Qs'.length p' m c)) (fun _ y _ => 3000 - (intOf y).toNat)
    case atStart => exact ⟨p', 2 * p' + 1, rfl, by congr 1, by omega, by omega, by omega, Below.refl _ _, Least.start _ _ _⟩
    case round =>
      obtain ⟨m, c, rfl, rfl, hm, hc1, hc2, HB, HL⟩ := hrel
      have HH2 : Hid _ := HH.out.below HB.out
      have b0 : wr.cell? ⟨h, 0, none⟩ = some (.slice (some ⟨r, 0, none⟩) rows.length cap) := by simp [World.cell?, HH2.out.blk]
      have hhlt : h < wr.heap.size := (Array.getElem?_eq_some_iff.1 HH2.out.blk).1
      by_cases hce : c ≤ 2 * p' + 2
      · have hcI : (c : Int) ≤ 2 * (p' : Int) + 2 := by omega
        have hch : Child p' c := by unfold Child; omega
        by_cases hcn : c < rows.length
        · have hcnI : (c : Int) < (rows.length : Int) := by omega
          obtain ⟨q, hq⟩ : ∃ q, Qs'[c]? = some q := ⟨Qs'[c]'(by omega), List.getElem?_eq_getElem (by omega)⟩
          have hmn : m < Qs'.length := by
            rcases HL.out.is with e | e
            · have := hch.gt; omega
            · exact e.2
          obtain ⟨q', hq'⟩ : ∃ q', Qs'[m]? = some q' := ⟨Qs'[m], List.getElem?_eq_getElem hmn⟩
          go_wp2_with fail
          refine (isAhead_any _ base h _ rows' Qs' kf HH2.out c m q q' hq hq').mono ?_
          rintro e w4 ⟨rfl, hb4⟩
          rw [← fk_at (kf := kf) hq, ← fk_at (kf := kf) hq']
          have HB4 : Hid (Below Wo.heap.size Wo w4) := HB.out.trans (hb4.mono HB.out.size)
          clear hb4 hq hq' HH2 b0
          cases hf : (cmpB (fk Qs' kf c) (fk Qs' kf m) == -1) with
          | true =>
            have HY : Hid _ := HL.out.yes hch (by omega) hf
            clear hf HL
            go_wp2
            refine ⟨⟨c, c + 1, rfl, by congr 1, by omega, by omega, by omega, HB4, HY⟩, ?_⟩
            simp [intOf]
            omega
          | false =>
            have HY : Hid _ := HL.out.no hf
            clear hf HL
            go_wp2
            refine ⟨⟨m, c + 1, rfl, by congr 1, hm, by omega, by omega, HB4, HY⟩, ?_⟩
            simp [intOf]
            omega
        · have hcnI : ¬ ((c : Int) < (rows.length : Int)) := by omega
          have HY : Hid _ := HL.out.skip (c := c) (by omega)
          go_wp2
          refine ⟨⟨m, c + 1, rfl, by congr 1, hm, by omega, by omega, HB, HY⟩, ?_⟩
          simp [intOf]
          omega
      · have hcI : ¬ ((c : Int) ≤ 2 * (p' : Int) + 2) := by omega
        obtain rfl : c = 2 * p' + 3 := by omega
        by_cases hmp : m = p'
        · subst hmp
          have HK : Hid (HeapOK (fk Qs' kf) Qs'.length lo) := HX.out.stop (fun d hd hn => HL.out.all d hd (by unfold Child at hd; omega) hn)
          go_wp2
          exact bodyPost_ret (results_none Tryz.results191 _ _ _) rfl ⟨⟨_, rfl⟩, rows', hrl, Qs', HH2.out, HP.out, HK.out, HO.out.trans (Off.of_below HB.out)⟩
        · have hne : ((m : Int) == (p' : Int)) = false := beq_eq_false_iff_ne.2 (by omega)
          obtain ⟨hch, hmn⟩ : Child p' m ∧ m < Qs'.length := HL.out.is.resolve_left hmp
          have hpm := hch.gt
          obtain ⟨r1, cap1, qp, gp, op, np, cp, hlv1, hn1, hmx1, hr1, ep, erp, enp, hnp1, hnp2, hnp3, hgp, cp1, cp2, hqp, hqpm⟩ := HH2.out.at p' (by omega)
          obtain ⟨r2, cap2, qm, gm, om, nm, cm, hlv2, hn2, hmx2, hr2, em, erm, enm, hnm1, hnm2, hnm3, hgm, cm1, cm2, hqm, hqmm⟩ := HH2.out.at m hmn
          rw [hrl] at hlv1 hlv2 hn1 hn2
          cases hlv1
          cases hlv2
          have hpl : p' < rows.length := by omega
          have hml : m < rows.length := by omega
          have fr : ∀ j, wr.frozen? ⟨r, j, none⟩ = false := by
            intro j
            rcases HH2.out.row.2 with ⟨e0, _⟩ | ⟨g0, cap0, cur, hv0, _, hg0, _⟩
            · cases e0
            · injection hv0 with ha _ _
              injection ha with ha
              injection ha with hb _ _
              subst hb
              simp [World.frozen?, hg0]
          have frp := fr p'
          have frm := fr m
          have hmi : m < 1000 := by omega
          clear fr
          have HSW : Hid _ := HH2.out.swap hrl hpm hml erp erm ep em
          have HPQ : Hid (((Qs'.set p' qm).set m qp).Perm Qs) := (swap_perm (by omega) hmn ep em).trans HP.out
          have HEX : Hid (HeapEx (fk ((Qs'.set p' qm).set m qp) kf) ((Qs'.set p' qm).set m qp).length lo m) := by
            have h1 := HX.out.down hch HL.out.le (fun d hd hn => HL.out.all d hd (by unfold Child at hd; omega) hn) hmn
            have e1 : ((Qs'.set p' qm).set m qp).length = Qs'.length := by simp
            rw [e1, swap_fk (kf := kf) (by omega) hmn ep em (by omega)]
            exact h1
          have HOF : Hid (Off (fun k => k = r) w wr) := HO.out.trans (Off.of_below HB.out)
          clear HH HH2 HX HL HP HO HB hqp hqm hqpm hqmm
          subst enp
          subst enm
          go_wp2
          go_region
          go_wp2
          refine ⟨⟨m, _, _, hmi, rfl, by rw [List.length_set, List.length_set]; exact hrl, HSW.out.below (Below.refl _ _).drew, HPQ, HEX, ((HOF.out.set r _ _ (Or.inl rfl)).set r _ _ (Or.inl rfl)).drew⟩, ?_⟩
          simp [intOf]
          omega
end Go.Proofs.YtmehkneofinmiabGreatDoor

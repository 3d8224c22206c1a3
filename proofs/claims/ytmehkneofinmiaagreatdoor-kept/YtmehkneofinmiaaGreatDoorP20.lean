/-
  Texts of this proof, part 20.
-/
import Derived.Test.YtmehkneofinmiaaGreatDoorP15
import Derived.Test.YtmehkneofinmiaaGreatDoorP03
import Derived.Test.YtmehkneofinmiaaGreatDoorP19
import Derived.Test.YtmehkneofinmiaaGreatDoorP10
import Derived.Test.YtmehkneofinmiaaGreatDoorP11
import Derived.Deep.RegionHeld3
namespace Go.Proofs.YtmehkneofinmiaaGreatDoor
open Go.RowKit
theorem setCell_id {w : World} {a : Addr} {v : Value} (h : w.cell? a = some v) : w.setCell a v = w := by
  cases w with | mk heap tape drawn os output =>
  simp only [World.setCell, World.mk.injEq, and_true]
  apply Array.ext
  · simp
  · intro i h1 h2
    simp only [Array.getElem_modify]
    split
    · rename_i e
      subst e
      simp only [World.cell?] at h
      rw [Array.getElem?_eq_getElem h2] at h
      revert h
      cases heap[a.block] with
      | cells c t f =>
        intro h
        simp only at h
        cases hs : a.spot with
        | some _ => rw [hs] at h; simp at h
        | none =>
          rw [hs] at h
          simp only [Option.isSome_none, Bool.false_eq_true, if_false] at h ⊢
          have hlt : a.off < c.size := (Array.getElem?_eq_some_iff.1 h).1
          have hv : c[a.off] = v := (Array.getElem?_eq_some_iff.1 h).2
          congr 1
          apply Array.ext
          · simp
          · intro j j1 j2
            by_cases hj : a.off = j
            · subst hj; simp [hv]
            · exact Array.getElem_setIfInBounds_ne (by simpa using j1) hj
      | _ => intro _; rfl
    · rfl
theorem oneCell_ptrs {ps : List Nat} {v : Value} (h : v ∈ ptrs ps) : v.oneCell' = true := by
  simp only [ptrs, List.mem_map] at h
  obtain ⟨p, _, rfl⟩ := h
  rfl
theorem ptrs_put (ps : List Nat) (i p : Nat) : (ptrs ps).take i ++ .pointer (some ⟨p, 0, none⟩) :: (ptrs ps).drop i = ptrs (ps.take i ++ p :: ps.drop i) := by
  simp [ptrs, List.map_take, List.map_drop]
set_option maxHeartbeats 2000000 in
theorem sinsert_any (b o p : Nat) (cs : Array Value) (T : TypeId) (es : Value) (ps : List Nat) (K : List (List UInt8)) (E : Ent) (vs : Value) (i : Nat) (w : World)
    (hb : w.heap[b]? = some (.cells cs T (0, 0))) (hc : cs[o + 2]? = some es) (hE : EntAt w p E vs) (hk : Keys w es ps K) (hr : Rising K) (hl : ps.length < 1000000) (hkl : E.key.length < 1000000)
    (hi : IsPos K E.key i) (hbp : b ≠ p) (hbe : es.ownBlock ≠ some b) (hpe : es.ownBlock ≠ some p) (hvb : vs.ownBlock ≠ some b) (hve : ∀ g, vs.ownBlock = some g → es.ownBlock ≠ some g) :
    Calls Tryz.prog 257 #[.pointer (some ⟨b, o, none⟩), .pointer (some ⟨p, 0, none⟩)] w fun e w' => ∃ g cap, (∃ v, e = .returned v) ∧
      w'.heap[b]? = some (.cells (cs.setIfInBounds (o + 2) (.slice (some ⟨g, 0, none⟩) (ps.length + 1) cap)) T (0, 0)) ∧
      w'.ownsRow 0 170 1 (.slice (some ⟨g, 0, none⟩) (ps.length + 1) cap) (ps.length + 1) (ptrs (ps.take i ++ p :: ps.drop i)) ∧ (es.ownBlock = some g ∨ w.heap.size ≤ g) ∧
      EntAt w' p E vs ∧ Off (fun k => k = b ∨ k = p ∨ es.ownBlock = some k) w w' := by
  have HB : Hid _ := hb
  have HC : Hid _ := hc
  have HE : Hid _ := hE
  have HK : Hid _ := hk
  have HI : Hid _ := hi
  clear hb hc hE hk hi
  have c0 := HE.out.c0
  have f0 := HE.out.fz 0
  have hlt := HE.out.lt
  have hblt : b < w.heap.size := (Array.getElem?_eq_some_iff.1 HB.out).1
  go_enter Tryz.func257, Tryz.ntmps257
  go_wp2_with fail
  refine (clone_any ⟨E.key.toArray⟩ _ (by rw [Lib.size_eq]; simp; omega)).mono ?_
  rintro e w1 ⟨rfl, hb1⟩
  have c1 := (hb1.cell (p := ⟨p, 0, none⟩) hlt).trans c0
  have f1 : w1.frozen? ⟨p, 0, none⟩ = false := (HE.out.below hb1).fz 0
  have hid := setCell_id c1
  have HB1 : Hid (Below w.heap.size w w1) := hb1
  have hcb : w1.cell? ⟨b, o + 2, none⟩ = some es := by
    have := (hb1.block b hblt).trans HB.out
    simp [World.cell?, this, HC.out]
  have hlt1 : p < w1.heap.size := (HE.out.below hb1).lt
  clear hb1 c0 f0
  go_wp2_with fail
  refine (splace_any b o es ps K E.key _ hcb (HK.out.below HB1.out) hr hl).mono ?_
  rintro e w2 ⟨⟨j, hj, rfl⟩, hb2⟩
  obtain rfl := hj.uniq HI.out
  obtain ⟨fd, hfd⟩ : ∃ fd, (K[j]? == some E.key) = fd := ⟨_, rfl⟩
  rw [hfd]
  have HB2 : Hid (Below w.heap.size w w2) := HB1.out.trans (hb2.mono HB1.out.size)
  have hb20 : w2.heap[b]? = some (.cells cs T (0, 0)) := (HB2.out.block b hblt).trans HB.out
  have hcb2 : w2.cell? ⟨b, o + 2, none⟩ = some es := by simp [World.cell?, hb20, HC.out]
  have hlt2 : p < w2.heap.size := Nat.lt_of_lt_of_le hlt1 hb2.size
  have hblt2 : b < w2.heap.size := (Array.getElem?_eq_some_iff.1 hb20).1
  have hje : j ≤ ps.length := by have := HI.out.le; rw [HK.out.len] at this; exact this
  have HB0 : Hid _ := hb20
  clear hb20 hb2 hj hfd HB1 hcb c1 f1 hid
  go_wp2_with fail
  have hal : Below w2.heap.size w2 (w2.alloc (.cells #[.pointer (some ⟨p, 0, none⟩)] 170)) := (Below.refl _ _).alloc (Nat.le_refl _) _
  have hK2 := HK.out.below HB2.out
  have hnb : es.ownBlock ≠ some w2.heap.size := by
    intro e
    rcases HK.out.row.2 with ⟨rfl, _⟩ | ⟨g, cap, cur, rfl, _, hg, _⟩
    · cases e
    · have h1 : g < w.heap.size := (Array.getElem?_eq_some_iff.1 hg).1
      have h2 := HB2.out.size
      simp only [Value.ownBlock, Option.some.injEq] at e
      omega
  refine (insert_any es ps.length j (ptrs ps) w2.heap.size (.pointer (some ⟨p, 0, none⟩)) _ (row_below hK2.row hal) (fun v hv => oneCell_ptrs hv) rfl (heap_alloc_new _ _) hje hnb hl).mono ?_
  rintro e w3 ⟨g, cap, rfl, hrow, hg, hoff⟩
  have hb3 : w3.heap[b]? = some (.cells cs T (0, 0)) := by
    rw [hoff.block b (by simp; omega) hbe, heap_alloc_old _ _ hblt2]
    exact HB0.out
  have c3 : w3.cell? ⟨b, o + 2, none⟩ = some es := by simp [World.cell?, hb3, HC.out]
  have f3 : w3.frozen? ⟨b, o + 2, none⟩ = false := by simp [World.frozen?, hb3]
  have HO : Hid (Off (fun k => k = b ∨ k = p ∨ es.ownBlock = some k) w w3) := ((Off.of_below HB2.out).alloc _).trans' hoff (fun k _ hk => Or.inr (Or.inr hk))
  have HR : Hid _ := hrow
  have HG : Hid _ := hg
  have HB3 : Hid _ := hb3
  have hE3 : Hid (EntAt w3 p E vs) := by
    have hE2 := (HE.out.below HB2.out).below hal
    refine ⟨(hoff.block p (by simp; omega) hpe).trans hE2.blk, hE2.row.1, ?_⟩
    rcases hE2.row.2 with h0 | ⟨g', cap', cur, hv, h1, hg', h2⟩
    · exact Or.inl h0
    · refine Or.inr ⟨g', cap', cur, hv, h1, ?_, h2⟩
      exact (hoff.block g' (Array.getElem?_eq_some_iff.1 hg').1 (hve g' (by rw [hv]; rfl))).trans hg'
  clear hrow hg hb3 hoff hal hK2
  go_wp2
  have hgb : g ≠ b := by
    intro e
    rcases HG.out with h | h
    · exact hbe (e ▸ h)
    · have h1 : w.heap.size ≤ w2.heap.size := HB2.out.size
      simp at h
      omega
  have hgp : g ≠ p := by
    intro e
    rcases HG.out with h | h
    · exact hpe (e ▸ h)
    · simp at h
      omega
  refine bodyPost_end (results_none Tryz.results257 _ _ _) rfl ⟨g, cap, ⟨_, rfl⟩, heap_set HB3.out, ?_, ?_, ?_, HO.out.set b _ _ (Or.inl (Or.inl rfl))⟩
  · have h0 := HR.out
    rw [ptrs_put] at h0
    refine ⟨h0.1, ?_⟩
    rcases h0.2 with ⟨hc, _⟩ | ⟨g', cap', cur, hv, h1, hg, h2⟩
    · cases hc
    · cases hv
      refine Or.inr ⟨g, cap, cur, rfl, h1, ?_, h2⟩
      rw [← hg]
      simp [World.setCell, Array.getElem?_modify, Ne.symm hgb]
  · rcases HG.out with h | h
    · exact Or.inl h
    · have := HB2.out.size
      simp at h
      exact Or.inr (by omega)
  · refine ⟨?_, hE3.out.row.1, ?_⟩
    · rw [← hE3.out.blk]
      simp [World.setCell, Array.getElem?_modify, hbp]
    · rcases hE3.out.row.2 with h0 | ⟨g', cap', cur, hv, h1, hg', h2⟩
      · exact Or.inl h0
      · refine Or.inr ⟨g', cap', cur, hv, h1, ?_, h2⟩
        have hne : b ≠ g' := fun e => by subst e; apply hvb; rw [hv]; rfl
        rw [← hg']
        simp [World.setCell, Array.getElem?_modify, hne]
end Go.Proofs.YtmehkneofinmiaaGreatDoor

namespace Go.Proofs.YtmehkneofinmiaaGreatDoor
open Go.RowKit
theorem EntAt.off {w x : World} {p : Nat} {E : Ent} {vs : Value} {S : Nat → Prop} (h : EntAt w p E vs) (ho : Off S w x) (hp : ¬ S p) (hv : ∀ g, vs.ownBlock = some g → ¬ S g) : EntAt x p E vs := by
  refine ⟨(ho.block p h.lt hp).trans h.blk, h.row.1, ?_⟩
  rcases h.row.2 with h0 | ⟨g, cap, cur, hv', h1, hg, h2⟩
  · exact Or.inl h0
  · exact Or.inr ⟨g, cap, cur, hv', h1, (ho.block g (Array.getElem?_eq_some_iff.1 hg).1 (hv g (by rw [hv']; rfl))).trans hg, h2⟩
set_option maxHeartbeats 2000000 in
theorem apply_rm (b o p : Nat) (E : Ent) (vs : Value) (t n : Nat) (key body : List UInt8) (w : World) (h : EntAt w p E vs) (hp : vs.ownBlock ≠ some p) (hl : E.vers.length < 1000000) (i : Nat) (hn : vidx E.vers n = some i) :
    Calls Tryz.prog 207 #[.pointer (some ⟨b, o, none⟩), .pointer (some ⟨p, 0, none⟩), recA 3 t key n body] w fun e w' => (∃ v, e = .returned v) ∧ ∃ vs', EntAt w' p ⟨E.key, E.last, E.vers.eraseIdx i⟩ vs' ∧ vs'.ownBlock = vs.ownBlock ∧ Off (fun k => k = p ∨ vs.ownBlock = some k) w w' := by
  have hal : Below w.heap.size w (w.alloc (.cells #[.int .u8 3, .int .i64 t, .string ⟨key.toArray⟩, .int .i64 n, .string ⟨body.toArray⟩] 181)) := (Below.refl _ _).alloc (Nat.le_refl _) _
  have HE : Hid _ := h.below hal
  have HA : Hid _ := hal
  clear h hal
  go_enter Tryz.func207, Tryz.ntmps207
  go_wp2_with fail
  refine (remove_any p E vs n _ HE.out hp hl i hn).mono ?_
  rintro e w1 ⟨⟨v, rfl⟩, vs', hE1, hv1, ho1⟩
  have H1 : Hid _ := hE1
  have H2 : Hid _ := ho1
  clear hE1 ho1
  go_wp2
  exact bodyPost_ret (results_none Tryz.results207 _ _ _) rfl ⟨⟨_, rfl⟩, vs', H1.out, hv1, (Off.of_below HA.out).trans H2.out⟩
set_option maxHeartbeats 2000000 in
theorem apply_known (b o p : Nat) (E : Ent) (vs : Value) (k t n : Nat) (key body : List UInt8) (w : World) (h : EntAt w p E vs) (hp : vs.ownBlock ≠ some p) (hl : E.vers.length < 1000000) (hb : body.length < 1000000) (hk : k ≠ 3) (hla : 0 < E.last) :
    Calls Tryz.prog 207 #[.pointer (some ⟨b, o, none⟩), .pointer (some ⟨p, 0, none⟩), recA k t key n body] w fun e w' => (∃ v, e = .returned v) ∧ ∃ g cap, EntAt w' p ⟨E.key, n, E.vers ++ [⟨n, t, k == 2, body⟩]⟩ (.slice (some ⟨g, 0, none⟩) (E.vers.length + 1) cap) ∧ (vs.ownBlock = some g ∨ w.heap.size ≤ g) ∧ Off (fun k => k = p ∨ vs.ownBlock = some k) w w' := by
  have hal : Below w.heap.size w (w.alloc (.cells #[.int .u8 k, .int .i64 t, .string ⟨key.toArray⟩, .int .i64 n, .string ⟨body.toArray⟩] 181)) := (Below.refl _ _).alloc (Nat.le_refl _) _
  have HE : Hid _ := h.below hal
  have HA : Hid _ := hal
  clear h hal
  have hk3 : ((k : Int) == 3) = false := beq_eq_false_iff_ne.2 (by omega)
  have hkn : decide (0 < E.last) = true := by simpa using hla
  go_enter Tryz.func207, Tryz.ntmps207
  go_wp2_with fail
  refine (isKnown_any p E vs _ HE.out).mono ?_
  rintro e w1 ⟨rfl, rfl⟩
  rw [hkn]
  go_wp2_with fail
  refine (push_any p E vs k t n key body _ HE.out hp hl hb).mono ?_
  rintro e w2 ⟨g, cap, ⟨v, rfl⟩, hE2, hg2, ho2⟩
  have H1 : Hid _ := hE2
  have H2 : Hid _ := ho2
  clear hE2 ho2
  go_wp2
  exact bodyPost_end (results_none Tryz.results207 _ _ _) rfl ⟨⟨_, rfl⟩, g, cap, H1.out, hg2.imp_right (fun h => by simp at h; omega), (Off.of_below HA.out).trans H2.out⟩
set_option maxHeartbeats 4000000 in
theorem apply_new (b o p : Nat) (cs : Array Value) (T : TypeId) (es : Value) (ps : List Nat) (K : List (List UInt8)) (E : Ent) (vs : Value) (i : Nat) (k t n : Nat) (key body : List UInt8) (w : World)
    (hbk : w.heap[b]? = some (.cells cs T (0, 0))) (hc : cs[o + 2]? = some es) (hE : EntAt w p E vs) (hky : Keys w es ps K) (hr : Rising K) (hl : ps.length < 1000000) (hkl : E.key.length < 1000000)
    (hi : IsPos K E.key i) (hbp : b ≠ p) (hbe : es.ownBlock ≠ some b) (hpe : es.ownBlock ≠ some p) (hvb : vs.ownBlock ≠ some b) (hve : ∀ g, vs.ownBlock = some g → es.ownBlock ≠ some g)
    (hp : vs.ownBlock ≠ some p) (hl2 : E.vers.length < 1000000) (hbl : body.length < 1000000) (hk : k ≠ 3) (hla : E.last = 0) :
    Calls Tryz.prog 207 #[.pointer (some ⟨b, o, none⟩), .pointer (some ⟨p, 0, none⟩), recA k t key n body] w fun e w' => (∃ v, e = .returned v) ∧ ∃ g cap g2 cap2,
      w'.heap[b]? = some (.cells (cs.setIfInBounds (o + 2) (.slice (some ⟨g, 0, none⟩) (ps.length + 1) cap)) T (0, 0)) ∧
      w'.ownsRow 0 170 1 (.slice (some ⟨g, 0, none⟩) (ps.length + 1) cap) (ps.length + 1) (ptrs (ps.take i ++ p :: ps.drop i)) ∧ (es.ownBlock = some g ∨ w.heap.size ≤ g) ∧
      EntAt w' p ⟨E.key, n, E.vers ++ [⟨n, t, k == 2, body⟩]⟩ (.slice (some ⟨g2, 0, none⟩) (E.vers.length + 1) cap2) ∧ (vs.ownBlock = some g2 ∨ w.heap.size ≤ g2) ∧
      Off (fun k => k = b ∨ k = p ∨ es.ownBlock = some k ∨ vs.ownBlock = some k) w w' := by
  have hal : Below w.heap.size w (w.alloc (.cells #[.int .u8 k, .int .i64 t, .string ⟨key.toArray⟩, .int .i64 n, .string ⟨body.toArray⟩] 181)) := (Below.refl _ _).alloc (Nat.le_refl _) _
  have HE : Hid _ := hE.below hal
  have HK : Hid _ := hky.below hal
  have hblt : b < w.heap.size := (Array.getElem?_eq_some_iff.1 hbk).1
  have HBK : Hid _ := (hal.block b hblt).trans hbk
  have HA : Hid _ := hal
  have HI : Hid _ := hi
  have HR : Hid _ := hr
  have hltv : ∀ g, vs.ownBlock = some g → g < w.heap.size := fun g h => (hE.row.lt g h).2
  have HLV : Hid _ := hltv
  have hplt : p < w.heap.size := hE.lt
  have HLE : Hid (es.ownBlock ≠ some w.heap.size) := fun e => absurd (hky.row.lt _ e).2 (Nat.lt_irrefl _)
  clear hE hal hky hbk hi hr hltv
  have hk3 : ((k : Int) == 3) = false := beq_eq_false_iff_ne.2 (by omega)
  have hkn : decide (0 < E.last) = false := by simp [hla]
  go_enter Tryz.func207, Tryz.ntmps207
  go_wp2_with fail
  refine (isKnown_any p E vs _ HE.out).mono ?_
  rintro e w1 ⟨rfl, rfl⟩
  rw [hkn]
  go_wp2_with fail
  refine (sinsert_any b o p cs T es ps K E vs i _ HBK.out hc HE.out HK.out HR.out hl hkl HI.out hbp hbe hpe hvb hve).mono ?_
  rintro e w2 ⟨g, cap, ⟨v, rfl⟩, hb2, hrow2, hg2, hE2, ho2⟩
  have hr2 : w2.heap[w.heap.size]? = some (.cells #[.int .u8 k, .int .i64 t, .string ⟨key.toArray⟩, .int .i64 n, .string ⟨body.toArray⟩] 181 (0, 0)) :=
    (ho2.block w.heap.size (by simp) (by rintro (h | h | h); omega; omega; exact HLE.out h)).trans (heap_alloc_new _ _)
  have r0 : w2.cell? ⟨w.heap.size, 0, none⟩ = some (.int .u8 k) := by simp [World.cell?, hr2]
  have r1 : w2.cell? ⟨w.heap.size, 1, none⟩ = some (.int .i64 t) := by simp [World.cell?, hr2]
  have r2 : w2.cell? ⟨w.heap.size, 2, none⟩ = some (.string ⟨key.toArray⟩) := by simp [World.cell?, hr2]
  have r3 : w2.cell? ⟨w.heap.size, 3, none⟩ = some (.int .i64 n) := by simp [World.cell?, hr2]
  have r4 : w2.cell? ⟨w.heap.size, 4, none⟩ = some (.string ⟨body.toArray⟩) := by simp [World.cell?, hr2]
  have H1 : Hid _ := hb2
  have H2 : Hid _ := hrow2
  have H3 : Hid _ := hE2
  have H4 : Hid _ := ho2
  clear hb2 hrow2 hE2 ho2 hr2
  go_wp2_with fail
  refine (push_any p E vs k t n key body _ H3.out hp hl2 hbl).mono ?_
  rintro e w3 ⟨g3, cap3, ⟨v3, rfl⟩, hE3, hg3, ho3⟩
  have hblt2 : b < w2.heap.size := (Array.getElem?_eq_some_iff.1 H1.out).1
  have hb3 := (ho3.block b hblt2 (by rintro (h | h); exact hbp h; exact hvb h)).trans H1.out
  have hgp : g ≠ p := by
    intro e
    rcases hg2 with h | h
    · exact hpe (e ▸ h)
    · simp at h; omega
  have hrow3 : w3.ownsRow 0 170 1 (.slice (some ⟨g, 0, none⟩) (ps.length + 1) cap) (ps.length + 1) (ptrs (ps.take i ++ p :: ps.drop i)) := by
    refine ⟨H2.out.1, ?_⟩
    rcases H2.out.2 with h0 | ⟨g', cap', cur, hv, h1, hg, h2⟩
    · exact Or.inl h0
    · cases hv
      refine Or.inr ⟨g, cap, cur, rfl, h1, ?_, h2⟩
      refine (ho3.block g (Array.getElem?_eq_some_iff.1 hg).1 ?_).trans hg
      rintro (h | h)
      · exact hgp h
      · rcases hg2 with h' | h'
        · exact hve g h h'
        · have := HLV.out g h
          simp at h'
          omega
  have H5 : Hid _ := hE3
  have H6 : Hid _ := hb3
  have H7 : Hid _ := hrow3
  have H8 : Hid _ := ho3
  clear hE3 hb3 hrow3 ho3
  go_wp2
  refine bodyPost_end (results_none Tryz.results207 _ _ _) rfl ⟨⟨_, rfl⟩, g, cap, g3, cap3, H6.out, H7.out, hg2.imp_right (fun h => by simp at h; omega), H5.out, hg3.imp_right (fun h => ?_), ?_⟩
  · have h5 := H4.out.size
    simp at h5
    omega
  · refine ((Off.of_below HA.out).trans' H4.out (fun k _ h => ?_)).trans' H8.out (fun k _ h => ?_)
    · rcases h with h | h | h
      · exact Or.inl h
      · exact Or.inr (Or.inl h)
      · exact Or.inr (Or.inr (Or.inl h))
    · rcases h with h | h
      · exact Or.inr (Or.inl h)
      · exact Or.inr (Or.inr (Or.inr h))
end Go.Proofs.YtmehkneofinmiaaGreatDoor

namespace Go.Proofs.YtmehkneofinmiaaGreatDoor
open Go.RowKit Go.MuLone
noncomputable def appRs (P : Program) (ts : Array TypeId) (ty : TypeId) (w : World) (args : Array Value) : Value × World :=
  match (Builtin.append_ ts ty args).run P w with
  | .ok v w' => (v, w')
  | _ => (undef, w)
def AppOks (P : Program) (ts : Array TypeId) (ty : TypeId) (w : World) (args : Array Value) : Prop := ∃ v w', (Builtin.append_ ts ty args).run P w = .ok v w'
theorem apps_run {P : Program} {ts : Array TypeId} {ty : TypeId} {w : World} {args : Array Value} (h : AppOks P ts ty w args) :
    (appS ts ty args).run P w = .ok (appRs P ts ty w args).1 (appRs P ts ty w args).2 := by
  obtain ⟨v, w', h⟩ := h
  simp only [appRs, appS, h]
theorem apps_is {P : Program} {ts : Array TypeId} {ty : TypeId} {w w' : World} {args : Array Value} {v : Value} (h : (Builtin.append_ ts ty args).run P w = .ok v w') :
    AppOks P ts ty w args ∧ (appRs P ts ty w args).1 = v ∧ (appRs P ts ty w args).2 = w' := ⟨⟨v, w', h⟩, by simp only [appRs, h], by simp only [appRs, h]⟩
theorem app_str_at {P : Program} (w : World) (t u ty e : TypeId) (i : TypeInfo) (ht : P.underlying t = some (.slice e)) (hu : P.underlying u = some .string) (hi : P.info? e = some i) (hz : i.zero = some (.int .u8 0)) (hsize : i.size = 1) (hby : i.bytes = 1)
    (v : Value) (n : Nat) (xs : List Value) (hown : w.ownsRow 0 e 1 v n xs) (s : ByteArray) (hs : 0 < s.size) (hb : n + s.size ≤ 140737488355328) (v' : Value) (w' : World) (hr : (Builtin.append_ #[t, u] ty #[v, .string s]).run P w = .ok v' w') :
    v'.ownBlock = v.ownBlock ∨ v'.ownBlock = some w.heap.size := by
  rcases hown.2 with ⟨rfl, rfl⟩ | ⟨g, cap, cur, rfl, _, hg, hn, hm, hc, htk⟩
  · have h := run_append_nil_string (P := P) w t u ty e i (.int .u8 0) ht hu hi hz s (by omega) (by omega) (by rw [hby]; omega)
    rw [h] at hr
    injection hr with h1
    rw [← h1]
    exact Or.inr rfl
  · by_cases hroom : n + s.size ≤ cap
    · have h := Lib.run_append_room_string (P := P) w t u ty e i ht hu hi hsize g n cap cur hg s hroom (by omega)
      rw [h] at hr
      injection hr with h1
      rw [← h1]
      exact Or.inl rfl
    · have h := Lib.run_append_grow_string (P := P) w t u ty e i (.int .u8 0) ht hu hi hz ⟨g, 0, none⟩ n cap xs (by rw [hsize]; exact hown.1) (hown.cells (g := g) rfl) s (by omega) (by omega) (by rw [hby]; exact growslice_fits (by omega) (by omega))
      rw [h] at hr
      injection hr with h1
      rw [← h1]
      exact Or.inr rfl
attribute [local go_sem ↓] appS_is
attribute [local go_sem] apps_run
theorem unlocked_row {u : World} {b off : Nat} {cs : Array Value} {T : TypeId} {jr : Value} (h : u.heap[b]? = some (.cells ((cs.setIfInBounds off (.int .i32 1)).setIfInBounds (off + 4) jr) T (0, 0))) (h0 : cs[off]? = some (.int .i32 0)) :
    (u.setCell ⟨b, off, none⟩ (.int .i32 0)).heap[b]? = some (.cells (cs.setIfInBounds (off + 4) jr) T (0, 0)) := by
  rw [heap_set h]
  congr 2
  apply Array.ext_getElem?
  intro i
  have hlt := (Array.getElem?_eq_some_iff.1 h0).1
  simp only [Array.getElem?_setIfInBounds, Array.size_setIfInBounds]
  by_cases e : off = i
  · subst e
    simp [hlt]
    exact (Array.getElem?_eq_some_iff.1 h0).2.symm
  · by_cases e4 : off + 4 = i
    · simp [e, e4]
    · simp [e, e4]
theorem Byt.set_far {w : World} {base : Nat} {v : Value} {l : List UInt8} (h : Byt w base v l) {b i : Nat} {x : Value} (hb : v.ownBlock ≠ some b) : Byt (w.setCell ⟨b, i, none⟩ x) base v l := by
  refine ⟨h.1, ?_⟩
  rcases h.2 with h0 | ⟨g, cap, cur, hv, h1, hg, h2⟩
  · exact Or.inl h0
  · refine Or.inr ⟨g, cap, cur, hv, h1, ?_, h2⟩
    have hne : b ≠ g := fun e => by subst e; apply hb; rw [hv]; rfl
    rw [← hg]
    simp [World.setCell, Array.getElem?_modify, hne]
theorem hgb' {g b n : Nat} {o : Option Nat} (h : some g = o ∨ n ≤ g) (ho : o ≠ some b) (hb : b < n) : g ≠ b := by
  intro e
  subst e
  rcases h with h | h
  · exact ho h.symm
  · omega
set_option maxRecDepth 100000 in
set_option maxHeartbeats 4000000 in
theorem enter_any (b off : Nat) (cs : Array Value) (T : TypeId) (t kd t0 n : Nat) (key body : List UInt8) (jr : Value) (J : List UInt8) (w : World)
    (hb : w.heap[b]? = some (.cells cs T (0, 0))) (h0 : cs[off]? = some (.int .i32 0)) (h2 : cs[off + 2]? = some (.int .i64 t)) (h4 : cs[off + 4]? = some jr) (hj : Byt w 0 jr J) (hjb : jr.ownBlock ≠ some b)
    (hk : kd < 256) (ht : t < 9223372036854775807) (hn : n < 9223372036854775807) (hkl : key.length < 100000) (hbl : body.length < 100000) (hJ : J.length < 100000000000000) :
    Calls Tryz.prog 234 #[.pointer (some ⟨b, off, none⟩), .agg #[.int .u8 kd, .int .i64 t0, .string ⟨key.toArray⟩, .int .i64 n, .string ⟨body.toArray⟩]] w fun e w' => e = .returned (.int .i64 t) ∧
      ∃ jr', w'.heap[b]? = some (.cells (cs.setIfInBounds (off + 4) jr') T (0, 0)) ∧ Byt w' 0 jr' (J ++ recF kd t key n body) ∧ (jr'.ownBlock = jr.ownBlock ∨ ∃ g, jr'.ownBlock = some g ∧ w.heap.size ≤ g) ∧ Off (fun k => k = b ∨ jr.ownBlock = some k) w w' := by
  obtain ⟨i0, hi0, hz0, hz1, hz2⟩ := info_parts infoU8
  have c0 : w.cell? ⟨b, off, none⟩ = some (.int .i32 0) := by simp [World.cell?, hb, h0]
  have c2 : w.cell? ⟨b, off + 2, none⟩ = some (.int .i64 t) := by simp [World.cell?, hb, h2]
  have c4 : w.cell? ⟨b, off + 4, none⟩ = some jr := by simp [World.cell?, hb, h4]
  have f0 : w.frozen? ⟨b, off, none⟩ = false := by simp [World.frozen?, hb]
  have hlt : b < w.heap.size := (Array.getElem?_eq_some_iff.1 hb).1
  go_enter_defers Tryz.func234, Tryz.ntmps234
  have a0 : (w.alloc (.cells #[.int .u8 kd, .int .i64 t0, .string ⟨key.toArray⟩, .int .i64 n, .string ⟨body.toArray⟩] 181)).cell? ⟨b, off, none⟩ = some (.int .i32 0) := by simp [World.cell?, heap_alloc_old _ _ hlt, hb, h0]
  have z0 : (w.alloc (.cells #[.int .u8 kd, .int .i64 t0, .string ⟨key.toArray⟩, .int .i64 n, .string ⟨body.toArray⟩] 181)).frozen? ⟨b, off, none⟩ = false := by simp [World.frozen?, heap_alloc_old _ _ hlt, hb]
  go_wp2_with (go_at_call 83; refine (lock_free Tryz.muLib ⟨b, off, none⟩ _ a0 z0).mono ?_; rintro e w' ⟨rfl, rfl⟩)
  obtain ⟨x, hx⟩ : ∃ x, x = (w.setCell ⟨b, off, none⟩ (.int .i32 1)).alloc (.cells #[.int .u8 kd, .int .i64 t, .string ⟨key.toArray⟩, .int .i64 n, .string ⟨body.toArray⟩] 181) := ⟨_, rfl⟩
  rw [← hx]
  have hsz : x.heap.size = w.heap.size + 1 := by rw [hx]; simp
  have hO : Off (fun k => k = b ∨ jr.ownBlock = some k) w x := by rw [hx]; exact ((Off.refl _ _).set b off _ (Or.inl (Or.inl rfl))).alloc _
  have hB : x.heap[b]? = some (.cells (cs.setIfInBounds off (.int .i32 1)) T (0, 0)) := by
    rw [hx, heap_alloc_old _ _ (by simpa using hlt)]
    exact heap_set hb
  have hR : Byt x 0 jr J := by
    refine ⟨hj.1, ?_⟩
    rcases hj.2 with h0 | ⟨g, cap, cur, hv, h1, hg, h2⟩
    · exact Or.inl h0
    · refine Or.inr ⟨g, cap, cur, hv, h1, ?_, h2⟩
      have hne : b ≠ g := fun e => by subst e; apply hjb; rw [hv]; rfl
      rw [hx, heap_alloc_old _ _ (by simpa using (Array.getElem?_eq_some_iff.1 hg).1), ← hg]
      simp [World.setCell, Array.getElem?_modify, hne]
  have hC : x.heap[w.heap.size]? = some (.cells #[.int .u8 kd, .int .i64 t, .string ⟨key.toArray⟩, .int .i64 n, .string ⟨body.toArray⟩] 181 (0, 0)) := by
    rw [hx]
    have := heap_alloc_new (w.setCell ⟨b, off, none⟩ (.int .i32 1)) (.cells #[.int .u8 kd, .int .i64 t, .string ⟨key.toArray⟩, .int .i64 n, .string ⟨body.toArray⟩] 181)
    simpa using this
  have hnb : jr.ownBlock ≠ some w.heap.size := fun e => absurd (hj.lt _ e).2 (Nat.lt_irrefl _)
  have hbn : b ≠ w.heap.size := by omega
  clear hx c2 c4 a0 z0
  have HB : Hid _ := hB
  have HC : Hid _ := hC
  have HR : Hid _ := hR
  have HO : Hid _ := hO
  have HSZ : Hid _ := hsz
  have HW : Hid _ := hb
  have H0 : Hid _ := h0
  have H2 : Hid _ := h2
  have H4 : Hid _ := h4
  have HJ0 : Hid _ := hj
  have hltx : b < x.heap.size := by omega
  have hbx : w.heap.size < x.heap.size := by omega
  have c4 : x.cell? ⟨b, off + 4, none⟩ = some jr := by simp [World.cell?, hB, h4]
  have c2 : x.cell? ⟨b, off + 2, none⟩ = some (.int .i64 t) := by simp [World.cell?, hB, h2]
  have f4 : x.frozen? ⟨b, off + 4, none⟩ = false := by simp [World.frozen?, hB]
  have b0 : x.cell? ⟨w.heap.size, 0, none⟩ = some (.int .u8 (kd : Int)) := by simp [World.cell?, hC]
  have b1 : x.cell? ⟨w.heap.size, 1, none⟩ = some (.int .i64 (t : Int)) := by simp [World.cell?, hC]
  have b2 : x.cell? ⟨w.heap.size, 2, none⟩ = some (.string ⟨key.toArray⟩) := by simp [World.cell?, hC]
  have b3 : x.cell? ⟨w.heap.size, 3, none⟩ = some (.int .i64 (n : Int)) := by simp [World.cell?, hC]
  have b4 : x.cell? ⟨w.heap.size, 4, none⟩ = some (.string ⟨body.toArray⟩) := by simp [World.cell?, hC]
  have hoff : off < cs.size := (Array.getElem?_eq_some_iff.1 h0).1
  have hoff4 : off + 4 < cs.size := (Array.getElem?_eq_some_iff.1 h4).1
  clear hB hC hR hO hsz hb h0 h2 h4 hj
  have HT : Hid (∀ w1, Below x.drew.heap.size x.drew w1 → ∃ g cap w2, w1.cell? ⟨b, off + 4, none⟩ = some jr ∧
      AppOks Tryz.prog #[115, 9] 115 w1 #[jr, .string ⟨(recF kd t key n body).toArray⟩] ∧ (appRs Tryz.prog #[115, 9] 115 w1 #[jr, .string ⟨(recF kd t key n body).toArray⟩]).1 = (.slice (some ⟨g, 0, none⟩) (J.length + (recF kd t key n body).length) cap) ∧ (appRs Tryz.prog #[115, 9] 115 w1 #[jr, .string ⟨(recF kd t key n body).toArray⟩]).2 = w2 ∧ w2.cell? ⟨b, off + 4, none⟩ = some jr ∧ w2.frozen? ⟨b, off + 4, none⟩ = false ∧
      (w1.cell? ⟨w.heap.size, 0, none⟩ = some (.int .u8 (kd : Int)) ∧ w1.cell? ⟨w.heap.size, 1, none⟩ = some (.int .i64 (t : Int)) ∧ w1.cell? ⟨w.heap.size, 2, none⟩ = some (.string ⟨key.toArray⟩) ∧ w1.cell? ⟨w.heap.size, 3, none⟩ = some (.int .i64 (n : Int)) ∧ w1.cell? ⟨w.heap.size, 4, none⟩ = some (.string ⟨body.toArray⟩)) ∧ (w2.cell? ⟨w.heap.size, 0, none⟩ = some (.int .u8 (kd : Int)) ∧ w2.cell? ⟨w.heap.size, 1, none⟩ = some (.int .i64 (t : Int)) ∧ w2.cell? ⟨w.heap.size, 2, none⟩ = some (.string ⟨key.toArray⟩) ∧ w2.cell? ⟨w.heap.size, 3, none⟩ = some (.int .i64 (n : Int)) ∧ w2.cell? ⟨w.heap.size, 4, none⟩ = some (.string ⟨body.toArray⟩)) ∧ ((w2.setCell ⟨b, off + 4, none⟩ (.slice (some ⟨g, 0, none⟩) (J.length + (recF kd t key n body).length) cap)).cell? ⟨w.heap.size, 0, none⟩ = some (.int .u8 (kd : Int)) ∧ (w2.setCell ⟨b, off + 4, none⟩ (.slice (some ⟨g, 0, none⟩) (J.length + (recF kd t key n body).length) cap)).cell? ⟨w.heap.size, 1, none⟩ = some (.int .i64 (t : Int)) ∧ (w2.setCell ⟨b, off + 4, none⟩ (.slice (some ⟨g, 0, none⟩) (J.length + (recF kd t key n body).length) cap)).cell? ⟨w.heap.size, 2, none⟩ = some (.string ⟨key.toArray⟩) ∧ (w2.setCell ⟨b, off + 4, none⟩ (.slice (some ⟨g, 0, none⟩) (J.length + (recF kd t key n body).length) cap)).cell? ⟨w.heap.size, 3, none⟩ = some (.int .i64 (n : Int)) ∧ (w2.setCell ⟨b, off + 4, none⟩ (.slice (some ⟨g, 0, none⟩) (J.length + (recF kd t key n body).length) cap)).cell? ⟨w.heap.size, 4, none⟩ = some (.string ⟨body.toArray⟩)) ∧
      ((w2.setCell ⟨b, off + 4, none⟩ (.slice (some ⟨g, 0, none⟩) (J.length + (recF kd t key n body).length) cap)).heap[b]? = some (.cells ((cs.setIfInBounds off (.int .i32 1)).setIfInBounds (off + 4) (.slice (some ⟨g, 0, none⟩) (J.length + (recF kd t key n body).length) cap)) T (0, 0)) ∧ Byt (w2.setCell ⟨b, off + 4, none⟩ (.slice (some ⟨g, 0, none⟩) (J.length + (recF kd t key n body).length) cap)) 0 (.slice (some ⟨g, 0, none⟩) (J.length + (recF kd t key n body).length) cap) (J ++ recF kd t key n body) ∧ (some g = jr.ownBlock ∨ w.heap.size ≤ g) ∧ Off (fun k => k = b ∨ jr.ownBlock = some k) w (w2.setCell ⟨b, off + 4, none⟩ (.slice (some ⟨g, 0, none⟩) (J.length + (recF kd t key n body).length) cap)))) := by
    intro w1 hb1
    have hb1 : Below x.heap.size x w1 := ⟨hb1.os, hb1.tape, hb1.output, hb1.size, hb1.block⟩
    have hB1 : w1.heap[b]? = _ := (hb1.block b hltx).trans HB.out
    have hC1 : w1.heap[w.heap.size]? = _ := (hb1.block _ hbx).trans HC.out
    have hR1 := Byt.below (base := 0) (l := J) HR.out hb1
    have hb1l : b < w1.heap.size := Nat.lt_of_lt_of_le hltx hb1.size
    have hw1 : w.heap.size < w1.heap.size := Nat.lt_of_lt_of_le hbx hb1.size
    have hrl := recF_len kd t key n body
    have hsr : (⟨(recF kd t key n body).toArray⟩ : ByteArray).size = 20 + key.length + body.length := by rw [Lib.size_eq]; exact hrl
    obtain ⟨v', w2, hrun, hown, hgrow, hnil⟩ := Lib.run_append_own_string (P := Tryz.prog) w1 0 115 9 115 5 i0 Tryz.underlying115 Tryz.underlying9 hi0 hz0 hz1 hz2 jr J.length (u8s J) hR1 ⟨(recF kd t key n body).toArray⟩ (by unfold maxLen; omega) (by omega) (by omega)
    have hown' : Byt w2 0 v' (J ++ recF kd t key n body) := by
      rw [Lib.size_eq, strCells_u8s, ← u8s_app] at hown
      unfold Byt
      rw [List.length_append]
      exact hown
    have hat := app_str_at (P := Tryz.prog) w1 115 9 115 5 i0 Tryz.underlying115 Tryz.underlying9 hi0 hz0 hz1 hz2 jr J.length (u8s J) hR1 ⟨(recF kd t key n body).toArray⟩ (by omega) (by omega) v' w2 hrun
    obtain ⟨g, cap, rfl⟩ : ∃ g cap, v' = (.slice (some ⟨g, 0, none⟩) (J.length + (recF kd t key n body).length) cap) := by
      rcases hown'.2 with ⟨_, h0⟩ | ⟨g, cap, cur, hv, _⟩
      · rw [List.length_append, hrl] at h0; omega
      · rw [List.length_append] at hv; exact ⟨g, cap, hv⟩
    have hgs : some g = jr.ownBlock ∨ w1.heap.size ≤ g := by
      rcases hat with h | h
      · exact Or.inl h
      · right
        injection h with h
        simp only at h
        omega
    have hgb : b ≠ g := by
      intro e
      rcases hgs with h | h
      · exact hjb (h ▸ e ▸ rfl)
      · omega
    have hB2 : w2.heap[b]? = _ := (hgrow.block b hb1l (Ne.symm hjb)).trans hB1
    have hC2 : w2.heap[w.heap.size]? = _ := (hgrow.block _ hw1 (Ne.symm hnb)).trans hC1
    have hC3 : (w2.setCell ⟨b, off + 4, none⟩ (.slice (some ⟨g, 0, none⟩) (J.length + (recF kd t key n body).length) cap)).heap[w.heap.size]? = some (.cells #[.int .u8 kd, .int .i64 t, .string ⟨key.toArray⟩, .int .i64 n, .string ⟨body.toArray⟩] 181 (0, 0)) := by
      rw [← hC2]
      simp [World.setCell, Array.getElem?_modify, hbn]
    obtain ⟨hok, hr1, hr2⟩ := apps_is hrun
    refine ⟨g, cap, w2, by simp [World.cell?, hB1, H4.out], hok, hr1, hr2, by simp [World.cell?, hB2, H4.out], by simp [World.frozen?, hB2], by simp [World.cell?, hC1], by simp [World.cell?, hC2], by simp only [World.cell?, hC3]; simp,
      heap_set hB2, ?_, hgs.imp_right (fun h => by omega), ?_⟩
    · refine ⟨hown'.1, ?_⟩
      rcases hown'.2 with ⟨hc, _⟩ | ⟨g', cap', cur, hv, h1, hg, h2⟩
      · cases hc
      · injection hv with e1 e2 e3
        injection e1 with e1
        injection e1 with e1
        subst e1
        subst e3
        refine Or.inr ⟨g, cap, cur, by rw [List.length_append], h1, ?_, h2⟩
        rw [← hg]
        simp [World.setCell, Array.getElem?_modify, hgb]
    · exact ((HO.out.trans (Off.of_below hb1)).grown hgrow (fun k hk => Or.inl (Or.inr hk))).set b _ _ (Or.inl (Or.inl rfl))
  refine wp_region_noPanic ?_
  refine wp_region_held_drew (S := fun y => (y.cell? ⟨w.heap.size, 0, none⟩ = some (.int .u8 (kd : Int)) ∧ y.cell? ⟨w.heap.size, 1, none⟩ = some (.int .i64 (t : Int)) ∧ y.cell? ⟨w.heap.size, 2, none⟩ = some (.string ⟨key.toArray⟩) ∧ y.cell? ⟨w.heap.size, 3, none⟩ = some (.int .i64 (n : Int)) ∧ y.cell? ⟨w.heap.size, 4, none⟩ = some (.string ⟨body.toArray⟩))) (by kernel_rfl) ⟨b0, b1, b2, b3, b4⟩ (fun hHeld => ?_)
  refine wpAnyH_take (i := 0) (v := ?_) rfl (by kernel_rfl) (by kernel_rfl) (by kernel_rfl) (fun _ _ _ h => h) (Or.inl ⟨by rfl, ?_⟩) hHeld ?_
  rotate_left
  · intro y hSw
    go_simp
    try with_reducible rfl
  try simp only [Act.put]
  refine wpAnyH_take (i := 1) (v := ?_) rfl (by kernel_rfl) (by kernel_rfl) (by kernel_rfl) (fun _ _ _ h => h) (Or.inl ⟨by rfl, ?_⟩) hHeld ?_
  rotate_left
  · intro y hSw
    go_simp
    try with_reducible rfl
  try simp only [Act.put]
  refine wpAnyH_take (i := 2) (v := ?_) rfl (by kernel_rfl) (by kernel_rfl) (by kernel_rfl) (fun _ _ _ h => h) (Or.inl ⟨by rfl, ?_⟩) hHeld ?_
  rotate_left
  · intro y hSw
    go_simp
    try with_reducible rfl
  try simp only [Act.put]
  refine wpAnyH_take (i := 3) (v := ?_) rfl (by kernel_rfl) (by kernel_rfl) (by kernel_rfl) (fun _ _ _ h => h) (Or.inl ⟨by rfl, ?_⟩) hHeld ?_
  rotate_left
  · intro y hSw
    go_simp
    try with_reducible rfl
  try simp only [Act.put]
  refine wpAnyH_take (i := 5) (v := ?_) rfl (by kernel_rfl) (by kernel_rfl) (by kernel_rfl) (fun _ _ _ h => h) (Or.inl ⟨by rfl, ?_⟩) hHeld ?_
  rotate_left
  · intro y hSw
    go_simp
    try with_reducible rfl
  try simp only [Act.put]
  refine wpAnyH_ready (rs := [4, 6]) (by kernel_rfl) (by simp) ?_
  refine AllReadyH.cons rfl (fun K hK => ?_) (AllReadyH.cons rfl (fun K hK => ?_) AllReadyH.nil)
  · go_simp
    refine hK.out _ _ hHeld (fun _ => ?_)
    clear hK K
    try simp only [Act.put]
    refine wpAnyH_ready (rs := [6]) (by kernel_rfl) (by simp) ?_
    refine AllReadyH.cons rfl (fun K hK => ?_) AllReadyH.nil
    go_simp
    refine (text_rec kd t n key body _ hk ht hn hkl hbl).mono ?_
    rintro e w1 ⟨rfl, hb1⟩
    obtain ⟨g, cap, w2, g2, hok, hr1, hr2, d4, z4, hS1, hS2, hS3, hfin⟩ := HT.out w1 hb1
    have HF : Hid _ := hfin
    clear hfin
    try go_wp2_with fail
    refine hK.out _ _ hS1 (fun hHeld1 => ?_)
    clear hK K
    try simp only [Act.put]
    refine wpAnyH_ready (rs := [7]) (by kernel_rfl) (by simp) ?_
    refine AllReadyH.cons rfl (fun K hK => ?_) AllReadyH.nil
    go_simp
    refine hK.out _ _ hS2 (fun hHeld3 => ?_)
    clear hK K
    try simp only [Act.put]
    refine wpAnyH_take (i := 8) (v := ?_) rfl (by kernel_rfl) (by kernel_rfl) (by kernel_rfl) (fun _ _ _ h => h) (Or.inl ⟨by rfl, ?_⟩) hHeld3 ?_
    rotate_left
    · intro y hSw
      go_simp
      try with_reducible rfl
    try simp only [Act.put]
    refine wpAnyH_take (i := 9) (v := ?_) rfl (by kernel_rfl) (by kernel_rfl) (by kernel_rfl) (fun _ _ _ h => h) (Or.inl ⟨by rfl, ?_⟩) hHeld3 ?_
    rotate_left
    · intro y hSw
      go_simp
      try with_reducible rfl
    try simp only [Act.put]
    refine wpAnyH_ready (rs := [10]) (by kernel_rfl) (by simp) ?_
    refine AllReadyH.cons rfl (fun K hK => ?_) AllReadyH.nil
    go_simp
    refine hK.out _ _ hS3 (fun hHeld4 => ?_)
    clear hK K
    try simp only [Act.put]
    refine wpAnyH_done (by kernel_rfl) ?_ _
    refine NoPanic.normal ?_
    obtain ⟨u, hu⟩ : ∃ u, u = w2.setCell ⟨b, off + 4, none⟩ (.slice (some ⟨g, 0, none⟩) (J.length + (recF kd t key n body).length) cap) := ⟨_, rfl⟩
    rw [← hu]
    rw [← hu] at HF
    have hB3 := HF.out.1
    have u0 : u.cell? ⟨b, off, none⟩ = some (.int .i32 1) := by
      simp only [World.cell?, hB3]
      simp [hoff]
    have u2 : u.cell? ⟨b, off + 2, none⟩ = some (.int .i64 t) := by
      simp only [World.cell?, hB3]
      simp [H2.out]
    have uf : u.frozen? ⟨b, off, none⟩ = false := by simp [World.frozen?, hB3]
    clear hHeld4 hHeld3 hHeld1 hS1 hS2 hS3 hu hr1 hr2 hok d4 z4 g2
    go_wp2
    refine leaves_cons (f := 84) (args := #[.pointer (some ⟨b, off, none⟩)]) (by simp) (by simp [go_sem]) ?_
    refine (unlock_deferred Tryz.muLib ⟨b, off, none⟩ .returning _ u0 uf).mono ?_
    rintro e u' w'' ⟨rfl, rfl, rfl⟩
    exact ⟨_, results_tmp rfl _ _ _, rfl, _, unlocked_row hB3 H0.out, Byt.set_far HF.out.2.1 (fun e => (hgb' HF.out.2.2.1 hjb hlt) (by injection e)), HF.out.2.2.1.elim Or.inl (fun h => Or.inr ⟨_, rfl, h⟩), HF.out.2.2.2.set b off _ (Or.inl (Or.inl rfl))⟩
  · go_simp
    refine (text_rec kd t n key body _ hk ht hn hkl hbl).mono ?_
    rintro e w1 ⟨rfl, hb1⟩
    obtain ⟨g, cap, w2, g2, hok, hr1, hr2, d4, z4, hS1, hS2, hS3, hfin⟩ := HT.out w1 hb1
    have HF : Hid _ := hfin
    clear hfin
    try go_wp2_with fail
    refine hK.out _ _ hS1 (fun hHeld1 => ?_)
    clear hK K
    try simp only [Act.put]
    refine wpAnyH_ready (rs := [4]) (by kernel_rfl) (by simp) ?_
    refine AllReadyH.cons rfl (fun K hK => ?_) AllReadyH.nil
    go_simp
    refine hK.out _ _ hHeld1 (fun _ => ?_)
    clear hK K
    try simp only [Act.put]
    refine wpAnyH_ready (rs := [7]) (by kernel_rfl) (by simp) ?_
    refine AllReadyH.cons rfl (fun K hK => ?_) AllReadyH.nil
    go_simp
    refine hK.out _ _ hS2 (fun hHeld3 => ?_)
    clear hK K
    try simp only [Act.put]
    refine wpAnyH_take (i := 8) (v := ?_) rfl (by kernel_rfl) (by kernel_rfl) (by kernel_rfl) (fun _ _ _ h => h) (Or.inl ⟨by rfl, ?_⟩) hHeld3 ?_
    rotate_left
    · intro y hSw
      go_simp
      try with_reducible rfl
    try simp only [Act.put]
    refine wpAnyH_take (i := 9) (v := ?_) rfl (by kernel_rfl) (by kernel_rfl) (by kernel_rfl) (fun _ _ _ h => h) (Or.inl ⟨by rfl, ?_⟩) hHeld3 ?_
    rotate_left
    · intro y hSw
      go_simp
      try with_reducible rfl
    try simp only [Act.put]
    refine wpAnyH_ready (rs := [10]) (by kernel_rfl) (by simp) ?_
    refine AllReadyH.cons rfl (fun K hK => ?_) AllReadyH.nil
    go_simp
    refine hK.out _ _ hS3 (fun hHeld4 => ?_)
    clear hK K
    try simp only [Act.put]
    refine wpAnyH_done (by kernel_rfl) ?_ _
    refine NoPanic.normal ?_
    obtain ⟨u, hu⟩ : ∃ u, u = w2.setCell ⟨b, off + 4, none⟩ (.slice (some ⟨g, 0, none⟩) (J.length + (recF kd t key n body).length) cap) := ⟨_, rfl⟩
    rw [← hu]
    rw [← hu] at HF
    have hB3 := HF.out.1
    have u0 : u.cell? ⟨b, off, none⟩ = some (.int .i32 1) := by
      simp only [World.cell?, hB3]
      simp [hoff]
    have u2 : u.cell? ⟨b, off + 2, none⟩ = some (.int .i64 t) := by
      simp only [World.cell?, hB3]
      simp [H2.out]
    have uf : u.frozen? ⟨b, off, none⟩ = false := by simp [World.frozen?, hB3]
    clear hHeld4 hHeld3 hHeld1 hS1 hS2 hS3 hu hr1 hr2 hok d4 z4 g2
    go_wp2
    refine leaves_cons (f := 84) (args := #[.pointer (some ⟨b, off, none⟩)]) (by simp) (by simp [go_sem]) ?_
    refine (unlock_deferred Tryz.muLib ⟨b, off, none⟩ .returning _ u0 uf).mono ?_
    rintro e u' w'' ⟨rfl, rfl, rfl⟩
    exact ⟨_, results_tmp rfl _ _ _, rfl, _, unlocked_row hB3 H0.out, Byt.set_far HF.out.2.1 (fun e => (hgb' HF.out.2.2.1 hjb hlt) (by injection e)), HF.out.2.2.1.elim Or.inl (fun h => Or.inr ⟨_, rfl, h⟩), HF.out.2.2.2.set b off _ (Or.inl (Or.inl rfl))⟩
end Go.Proofs.YtmehkneofinmiaaGreatDoor

/-
  Texts of this proof, part 31.
-/
import Derived.Test.YtmehkneofinmiabGreatDoorP22
import Derived.Test.YtmehkneofinmiabGreatDoorP04
import Derived.Test.YtmehkneofinmiabGreatDoorP29
namespace Go.Proofs.YtmehkneofinmiabGreatDoor
open Go.RowKit
theorem setCell_id {w : World} {a : Addr} {v : Value} (h : w.cell? a = some v) : w.setCell a v = w := by
  cases w with | mk heap tape drawn os output =>
  simp only [World.setCell, World.mk.injEq, and_true]
  apply Array.ext
  · simp
  · intro i h1 h2
    simp only [Array.getElem_modify]
    split
    · rename_i e
      subst e
      simp only [World.cell?] at h
      rw [Array.getElem?_eq_getElem h2] at h
      revert h
      cases heap[a.block] with
      | cells c t f =>
        intro h
        simp only at h
        cases hs : a.spot with
        | some _ => rw [hs] at h; simp at h
        | none =>
          rw [hs] at h
          simp only [Option.isSome_none, Bool.false_eq_true, if_false] at h ⊢
          have hlt : a.off < c.size := (Array.getElem?_eq_some_iff.1 h).1
          have hv : c[a.off] = v := (Array.getElem?_eq_some_iff.1 h).2
          congr 1
          apply Array.ext
          · simp
          · intro j j1 j2
            by_cases hj : a.off = j
            · subst hj; simp [hv]
            · exact Array.getElem_setIfInBounds_ne (by simpa using j1) hj
      | _ => intro _; rfl
    · rfl
theorem oneCell_ptrs {ps : List Nat} {v : Value} (h : v ∈ ptrs ps) : v.oneCell' = true := by
  simp only [ptrs, List.mem_map] at h
  obtain ⟨p, _, rfl⟩ := h
  rfl
theorem ptrs_put (ps : List Nat) (i p : Nat) : (ptrs ps).take i ++ .pointer (some ⟨p, 0, none⟩) :: (ptrs ps).drop i = ptrs (ps.take i ++ p :: ps.drop i) := by
  simp [ptrs, List.map_take, List.map_drop]
set_option maxHeartbeats 2000000 in
theorem sinsert_any (b o p : Nat) (cs : Array Value) (T : TypeId) (es : Value) (ps : List Nat) (K : List (List UInt8)) (E : Ent) (vs : Value) (i : Nat) (w : World)
    (hb : w.heap[b]? = some (.cells cs T (0, 0))) (hc : cs[o + 2]? = some es) (hE : EntAt w p E vs) (hk : Keys w es ps K) (hr : Rising K) (hl : ps.length < 1000000) (hkl : E.key.length < 1000000)
    (hi : IsPos K E.key i) (hbp : b ≠ p) (hbe : es.ownBlock ≠ some b) (hpe : es.ownBlock ≠ some p) (hvb : vs.ownBlock ≠ some b) (hve : ∀ g, vs.ownBlock = some g → es.ownBlock ≠ some g) :
    Calls Tryz.prog 201 #[.pointer (some ⟨b, o, none⟩), .pointer (some ⟨p, 0, none⟩)] w fun e w' => ∃ g cap, (∃ v, e = .returned v) ∧
      w'.heap[b]? = some (.cells (cs.setIfInBounds (o + 2) (.slice (some ⟨g, 0, none⟩) (ps.length + 1) cap)) T (0, 0)) ∧
      w'.ownsRow 0 143 1 (.slice (some ⟨g, 0, none⟩) (ps.length + 1) cap) (ps.length + 1) (ptrs (ps.take i ++ p :: ps.drop i)) ∧ (es.ownBlock = some g ∨ w.heap.size ≤ g) ∧
      EntAt w' p E vs ∧ Off (fun k => k = b ∨ k = p ∨ es.ownBlock = some k) w w' := by
  have HB : Hid _ := hb
  have HC : Hid _ := hc
  have HE : Hid _ := hE
  have HK : Hid _ := hk
  have HI : Hid _ := hi
  clear hb hc hE hk hi
  have c0 := HE.out.c0
  have f0 := HE.out.fz 0
  have hlt := HE.out.lt
  have hblt : b < w.heap.size := (Array.getElem?_eq_some_iff.1 HB.out).1
  go_enter Tryz.func201, Tryz.ntmps201
  go_wp2_with fail
  refine (clone_any ⟨E.key.toArray⟩ _ (by rw [Lib.size_eq]; simp; omega)).mono ?_
  rintro e w1 ⟨rfl, hb1⟩
  have c1 := (hb1.cell (p := ⟨p, 0, none⟩) hlt).trans c0
  have f1 : w1.frozen? ⟨p, 0, none⟩ = false := (HE.out.below hb1).fz 0
  have hid := setCell_id c1
  have HB1 : Hid (Below w.heap.size w w1) := hb1
  have hcb : w1.cell? ⟨b, o + 2, none⟩ = some es := by
    have := (hb1.block b hblt).trans HB.out
    simp [World.cell?, this, HC.out]
  have hlt1 : p < w1.heap.size := (HE.out.below hb1).lt
  clear hb1 c0 f0
  go_wp2_with fail
  refine (splace_any b o es ps K E.key _ hcb (HK.out.below HB1.out) hr hl).mono ?_
  rintro e w2 ⟨⟨j, hj, rfl⟩, hb2⟩
  obtain rfl := hj.uniq HI.out
  obtain ⟨fd, hfd⟩ : ∃ fd, (K[j]? == some E.key) = fd := ⟨_, rfl⟩
  rw [hfd]
  have HB2 : Hid (Below w.heap.size w w2) := HB1.out.trans (hb2.mono HB1.out.size)
  have hb20 : w2.heap[b]? = some (.cells cs T (0, 0)) := (HB2.out.block b hblt).trans HB.out
  have hcb2 : w2.cell? ⟨b, o + 2, none⟩ = some es := by simp [World.cell?, hb20, HC.out]
  have hlt2 : p < w2.heap.size := Nat.lt_of_lt_of_le hlt1 hb2.size
  have hblt2 : b < w2.heap.size := (Array.getElem?_eq_some_iff.1 hb20).1
  have hje : j ≤ ps.length := by have := HI.out.le; rw [HK.out.len] at this; exact this
  have HB0 : Hid _ := hb20
  clear hb20 hb2 hj hfd HB1 hcb c1 f1 hid
  go_wp2_with fail
  have hal : Below w2.heap.size w2 (w2.alloc (.cells #[.pointer (some ⟨p, 0, none⟩)] 143)) := (Below.refl _ _).alloc (Nat.le_refl _) _
  have hK2 := HK.out.below HB2.out
  have hnb : es.ownBlock ≠ some w2.heap.size := by
    intro e
    rcases HK.out.row.2 with ⟨rfl, _⟩ | ⟨g, cap, cur, rfl, _, hg, _⟩
    · cases e
    · have h1 : g < w.heap.size := (Array.getElem?_eq_some_iff.1 hg).1
      have h2 := HB2.out.size
      simp only [Value.ownBlock, Option.some.injEq] at e
      omega
  refine (insert_any es ps.length j (ptrs ps) w2.heap.size (.pointer (some ⟨p, 0, none⟩)) _ (row_below hK2.row hal) (fun v hv => oneCell_ptrs hv) rfl (heap_alloc_new _ _) hje hnb hl).mono ?_
  rintro e w3 ⟨g, cap, rfl, hrow, hg, hoff⟩
  have hb3 : w3.heap[b]? = some (.cells cs T (0, 0)) := by
    rw [hoff.block b (by simp; omega) hbe, heap_alloc_old _ _ hblt2]
    exact HB0.out
  have c3 : w3.cell? ⟨b, o + 2, none⟩ = some es := by simp [World.cell?, hb3, HC.out]
  have f3 : w3.frozen? ⟨b, o + 2, none⟩ = false := by simp [World.frozen?, hb3]
  have HO : Hid (Off (fun k => k = b ∨ k = p ∨ es.ownBlock = some k) w w3) := ((Off.of_below HB2.out).alloc _).trans' hoff (fun k _ hk => Or.inr (Or.inr hk))
  have HR : Hid _ := hrow
  have HG : Hid _ := hg
  have HB3 : Hid _ := hb3
  have hE3 : Hid (EntAt w3 p E vs) := by
    have hE2 := (HE.out.below HB2.out).below hal
    refine ⟨(hoff.block p (by simp; omega) hpe).trans hE2.blk, hE2.row.1, ?_⟩
    rcases hE2.row.2 with h0 | ⟨g', cap', cur, hv, h1, hg', h2⟩
    · exact Or.inl h0
    · refine Or.inr ⟨g', cap', cur, hv, h1, ?_, h2⟩
      exact (hoff.block g' (Array.getElem?_eq_some_iff.1 hg').1 (hve g' (by rw [hv]; rfl))).trans hg'
  clear hrow hg hb3 hoff hal hK2
  go_wp2
  have hgb : g ≠ b := by
    intro e
    rcases HG.out with h | h
    · exact hbe (e ▸ h)
    · have h1 : w.heap.size ≤ w2.heap.size := HB2.out.size
      simp at h
      omega
  have hgp : g ≠ p := by
    intro e
    rcases HG.out with h | h
    · exact hpe (e ▸ h)
    · simp at h
      omega
  refine bodyPost_end (results_none Tryz.results201 _ _ _) rfl ⟨g, cap, ⟨_, rfl⟩, heap_set HB3.out, ?_, ?_, ?_, HO.out.set b _ _ (Or.inl (Or.inl rfl))⟩
  · have h0 := HR.out
    rw [ptrs_put] at h0
    refine ⟨h0.1, ?_⟩
    rcases h0.2 with ⟨hc, _⟩ | ⟨g', cap', cur, hv, h1, hg, h2⟩
    · cases hc
    · cases hv
      refine Or.inr ⟨g, cap, cur, rfl, h1, ?_, h2⟩
      rw [← hg]
      simp [World.setCell, Array.getElem?_modify, Ne.symm hgb]
  · rcases HG.out with h | h
    · exact Or.inl h
    · have := HB2.out.size
      simp at h
      exact Or.inr (by omega)
  · refine ⟨?_, hE3.out.row.1, ?_⟩
    · rw [← hE3.out.blk]
      simp [World.setCell, Array.getElem?_modify, hbp]
    · rcases hE3.out.row.2 with h0 | ⟨g', cap', cur, hv, h1, hg', h2⟩
      · exact Or.inl h0
      · refine Or.inr ⟨g', cap', cur, hv, h1, ?_, h2⟩
        have hne : b ≠ g' := fun e => by subst e; apply hvb; rw [hv]; rfl
        rw [← hg']
        simp [World.setCell, Array.getElem?_modify, hne]
end Go.Proofs.YtmehkneofinmiabGreatDoor

namespace Go.Proofs.YtmehkneofinmiabGreatDoor
open Go.RowKit
theorem EntAt.off {w x : World} {p : Nat} {E : Ent} {vs : Value} {S : Nat → Prop} (h : EntAt w p E vs) (ho : Off S w x) (hp : ¬ S p) (hv : ∀ g, vs.ownBlock = some g → ¬ S g) : EntAt x p E vs := by
  refine ⟨(ho.block p h.lt hp).trans h.blk, h.row.1, ?_⟩
  rcases h.row.2 with h0 | ⟨g, cap, cur, hv', h1, hg, h2⟩
  · exact Or.inl h0
  · exact Or.inr ⟨g, cap, cur, hv', h1, (ho.block g (Array.getElem?_eq_some_iff.1 hg).1 (hv g (by rw [hv']; rfl))).trans hg, h2⟩
set_option maxHeartbeats 2000000 in
theorem apply_rm (b o p : Nat) (E : Ent) (vs : Value) (t n : Nat) (key body : List UInt8) (w : World) (h : EntAt w p E vs) (hp : vs.ownBlock ≠ some p) (hl : E.vers.length < 1000000) (i : Nat) (hn : vidx E.vers n = some i) :
    Calls Tryz.prog 152 #[.pointer (some ⟨b, o, none⟩), .pointer (some ⟨p, 0, none⟩), recA 3 t key n body] w fun e w' => (∃ v, e = .returned v) ∧ ∃ vs', EntAt w' p ⟨E.key, E.last, E.vers.eraseIdx i⟩ vs' ∧ vs'.ownBlock = vs.ownBlock ∧ Off (fun k => k = p ∨ vs.ownBlock = some k) w w' := by
  have hal : Below w.heap.size w (w.alloc (.cells #[.int .u8 3, .int .i64 t, .string ⟨key.toArray⟩, .int .i64 n, .string ⟨body.toArray⟩] 108)) := (Below.refl _ _).alloc (Nat.le_refl _) _
  have HE : Hid _ := h.below hal
  have HA : Hid _ := hal
  clear h hal
  go_enter Tryz.func152, Tryz.ntmps152
  go_wp2_with fail
  refine (remove_any p E vs n _ HE.out hp hl i hn).mono ?_
  rintro e w1 ⟨⟨v, rfl⟩, vs', hE1, hv1, ho1⟩
  have H1 : Hid _ := hE1
  have H2 : Hid _ := ho1
  clear hE1 ho1
  go_wp2
  exact bodyPost_ret (results_none Tryz.results152 _ _ _) rfl ⟨⟨_, rfl⟩, vs', H1.out, hv1, (Off.of_below HA.out).trans H2.out⟩
set_option maxHeartbeats 2000000 in
theorem apply_known (b o p : Nat) (E : Ent) (vs : Value) (k t n : Nat) (key body : List UInt8) (w : World) (h : EntAt w p E vs) (hp : vs.ownBlock ≠ some p) (hl : E.vers.length < 1000000) (hb : body.length < 1000000) (hk : k ≠ 3) (hla : 0 < E.last) :
    Calls Tryz.prog 152 #[.pointer (some ⟨b, o, none⟩), .pointer (some ⟨p, 0, none⟩), recA k t key n body] w fun e w' => (∃ v, e = .returned v) ∧ ∃ g cap, EntAt w' p ⟨E.key, n, E.vers ++ [⟨n, t, k == 2, body⟩]⟩ (.slice (some ⟨g, 0, none⟩) (E.vers.length + 1) cap) ∧ (vs.ownBlock = some g ∨ w.heap.size ≤ g) ∧ Off (fun k => k = p ∨ vs.ownBlock = some k) w w' := by
  have hal : Below w.heap.size w (w.alloc (.cells #[.int .u8 k, .int .i64 t, .string ⟨key.toArray⟩, .int .i64 n, .string ⟨body.toArray⟩] 108)) := (Below.refl _ _).alloc (Nat.le_refl _) _
  have HE : Hid _ := h.below hal
  have HA : Hid _ := hal
  clear h hal
  have hk3 : ((k : Int) == 3) = false := beq_eq_false_iff_ne.2 (by omega)
  have hkn : decide (0 < E.last) = true := by simpa using hla
  go_enter Tryz.func152, Tryz.ntmps152
  go_wp2_with fail
  refine (isKnown_any p E vs _ HE.out).mono ?_
  rintro e w1 ⟨rfl, rfl⟩
  rw [hkn]
  go_wp2_with fail
  refine (push_any p E vs k t n key body _ HE.out hp hl hb).mono ?_
  rintro e w2 ⟨g, cap, ⟨v, rfl⟩, hE2, hg2, ho2⟩
  have H1 : Hid _ := hE2
  have H2 : Hid _ := ho2
  clear hE2 ho2
  go_wp2
  exact bodyPost_end (results_none Tryz.results152 _ _ _) rfl ⟨⟨_, rfl⟩, g, cap, H1.out, hg2.imp_right (fun h => by simp at h; omega), (Off.of_below HA.out).trans H2.out⟩
set_option maxHeartbeats 4000000 in
theorem apply_new (b o p : Nat) (cs : Array Value) (T : TypeId) (es : Value) (ps : List Nat) (K : List (List UInt8)) (E : Ent) (vs : Value) (i : Nat) (k t n : Nat) (key body : List UInt8) (w : World)
    (hbk : w.heap[b]? = some (.cells cs T (0, 0))) (hc : cs[o + 2]? = some es) (hE : EntAt w p E vs) (hky : Keys w es ps K) (hr : Rising K) (hl : ps.length < 1000000) (hkl : E.key.length < 1000000)
    (hi : IsPos K E.key i) (hbp : b ≠ p) (hbe : es.ownBlock ≠ some b) (hpe : es.ownBlock ≠ some p) (hvb : vs.ownBlock ≠ some b) (hve : ∀ g, vs.ownBlock = some g → es.ownBlock ≠ some g)
    (hp : vs.ownBlock ≠ some p) (hl2 : E.vers.length < 1000000) (hbl : body.length < 1000000) (hk : k ≠ 3) (hla : E.last = 0) :
    Calls Tryz.prog 152 #[.pointer (some ⟨b, o, none⟩), .pointer (some ⟨p, 0, none⟩), recA k t key n body] w fun e w' => (∃ v, e = .returned v) ∧ ∃ g cap g2 cap2,
      w'.heap[b]? = some (.cells (cs.setIfInBounds (o + 2) (.slice (some ⟨g, 0, none⟩) (ps.length + 1) cap)) T (0, 0)) ∧
      w'.ownsRow 0 143 1 (.slice (some ⟨g, 0, none⟩) (ps.length + 1) cap) (ps.length + 1) (ptrs (ps.take i ++ p :: ps.drop i)) ∧ (es.ownBlock = some g ∨ w.heap.size ≤ g) ∧
      EntAt w' p ⟨E.key, n, E.vers ++ [⟨n, t, k == 2, body⟩]⟩ (.slice (some ⟨g2, 0, none⟩) (E.vers.length + 1) cap2) ∧ (vs.ownBlock = some g2 ∨ w.heap.size ≤ g2) ∧
      Off (fun k => k = b ∨ k = p ∨ es.ownBlock = some k ∨ vs.ownBlock = some k) w w' := by
  have hal : Below w.heap.size w (w.alloc (.cells #[.int .u8 k, .int .i64 t, .string ⟨key.toArray⟩, .int .i64 n, .string ⟨body.toArray⟩] 108)) := (Below.refl _ _).alloc (Nat.le_refl _) _
  have HE : Hid _ := hE.below hal
  have HK : Hid _ := hky.below hal
  have hblt : b < w.heap.size := (Array.getElem?_eq_some_iff.1 hbk).1
  have HBK : Hid _ := (hal.block b hblt).trans hbk
  have HA : Hid _ := hal
  have HI : Hid _ := hi
  have HR : Hid _ := hr
  have hltv : ∀ g, vs.ownBlock = some g → g < w.heap.size := fun g h => (hE.row.lt g h).2
  have HLV : Hid _ := hltv
  have hplt : p < w.heap.size := hE.lt
  have HLE : Hid (es.ownBlock ≠ some w.heap.size) := fun e => absurd (hky.row.lt _ e).2 (Nat.lt_irrefl _)
  clear hE hal hky hbk hi hr hltv
  have hk3 : ((k : Int) == 3) = false := beq_eq_false_iff_ne.2 (by omega)
  have hkn : decide (0 < E.last) = false := by simp [hla]
  go_enter Tryz.func152, Tryz.ntmps152
  go_wp2_with fail
  refine (isKnown_any p E vs _ HE.out).mono ?_
  rintro e w1 ⟨rfl, rfl⟩
  rw [hkn]
  go_wp2_with fail
  refine (sinsert_any b o p cs T es ps K E vs i _ HBK.out hc HE.out HK.out HR.out hl hkl HI.out hbp hbe hpe hvb hve).mono ?_
  rintro e w2 ⟨g, cap, ⟨v, rfl⟩, hb2, hrow2, hg2, hE2, ho2⟩
  have hr2 : w2.heap[w.heap.size]? = some (.cells #[.int .u8 k, .int .i64 t, .string ⟨key.toArray⟩, .int .i64 n, .string ⟨body.toArray⟩] 108 (0, 0)) :=
    (ho2.block w.heap.size (by simp) (by rintro (h | h | h); omega; omega; exact HLE.out h)).trans (heap_alloc_new _ _)
  have r0 : w2.cell? ⟨w.heap.size, 0, none⟩ = some (.int .u8 k) := by simp [World.cell?, hr2]
  have r1 : w2.cell? ⟨w.heap.size, 1, none⟩ = some (.int .i64 t) := by simp [World.cell?, hr2]
  have r2 : w2.cell? ⟨w.heap.size, 2, none⟩ = some (.string ⟨key.toArray⟩) := by simp [World.cell?, hr2]
  have r3 : w2.cell? ⟨w.heap.size, 3, none⟩ = some (.int .i64 n) := by simp [World.cell?, hr2]
  have r4 : w2.cell? ⟨w.heap.size, 4, none⟩ = some (.string ⟨body.toArray⟩) := by simp [World.cell?, hr2]
  have H1 : Hid _ := hb2
  have H2 : Hid _ := hrow2
  have H3 : Hid _ := hE2
  have H4 : Hid _ := ho2
  clear hb2 hrow2 hE2 ho2 hr2
  go_wp2_with fail
  refine (push_any p E vs k t n key body _ H3.out hp hl2 hbl).mono ?_
  rintro e w3 ⟨g3, cap3, ⟨v3, rfl⟩, hE3, hg3, ho3⟩
  have hblt2 : b < w2.heap.size := (Array.getElem?_eq_some_iff.1 H1.out).1
  have hb3 := (ho3.block b hblt2 (by rintro (h | h); exact hbp h; exact hvb h)).trans H1.out
  have hgp : g ≠ p := by
    intro e
    rcases hg2 with h | h
    · exact hpe (e ▸ h)
    · simp at h; omega
  have hrow3 : w3.ownsRow 0 143 1 (.slice (some ⟨g, 0, none⟩) (ps.length + 1) cap) (ps.length + 1) (ptrs (ps.take i ++ p :: ps.drop i)) := by
    refine ⟨H2.out.1, ?_⟩
    rcases H2.out.2 with h0 | ⟨g', cap', cur, hv, h1, hg, h2⟩
    · exact Or.inl h0
    · cases hv
      refine Or.inr ⟨g, cap, cur, rfl, h1, ?_, h2⟩
      refine (ho3.block g (Array.getElem?_eq_some_iff.1 hg).1 ?_).trans hg
      rintro (h | h)
      · exact hgp h
      · rcases hg2 with h' | h'
        · exact hve g h h'
        · have := HLV.out g h
          simp at h'
          omega
  have H5 : Hid _ := hE3
  have H6 : Hid _ := hb3
  have H7 : Hid _ := hrow3
  have H8 : Hid _ := ho3
  clear hE3 hb3 hrow3 ho3
  go_wp2
  refine bodyPost_end (results_none Tryz.results152 _ _ _) rfl ⟨⟨_, rfl⟩, g, cap, g3, cap3, H6.out, H7.out, hg2.imp_right (fun h => by simp at h; omega), H5.out, hg3.imp_right (fun h => ?_), ?_⟩
  · have h5 := H4.out.size
    simp at h5
    omega
  · refine ((Off.of_below HA.out).trans' H4.out (fun k _ h => ?_)).trans' H8.out (fun k _ h => ?_)
    · rcases h with h | h | h
      · exact Or.inl h
      · exact Or.inr (Or.inl h)
      · exact Or.inr (Or.inr (Or.inl h))
    · rcases h with h | h
      · exact Or.inr (Or.inl h)
      · exact Or.inr (Or.inr (Or.inr h))
end Go.Proofs.YtmehkneofinmiabGreatDoor

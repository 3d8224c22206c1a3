/-
  The walk of 'Tagged'.
-/
import Derived.Test.YtmehkneofinmiaaDoorS1
import Derived.Laws.OwnMore
namespace Go.Proofs.YtmehkneofinmiaaDoor
open Go.RowKit

def Wof (a : TagL) (j : Nat) : Bool := (a.getD j (false, [])).1
def Tof (a : TagL) (j : Nat) : ByteArray := ⟨(a.getD j (false, [])).2.toArray⟩
/-- A struct that holds a list, and the list's row. -/
structure Pc (x : World) (any : Bool) (a : TagL) (g k : Nat) (v : Value) : Prop where
  c0 : x.cell? ⟨g, 0, none⟩ = some (.bool any)
  c1 : x.cell? ⟨g, 1, none⟩ = some v
  r : RowIs x k a.length (Wof a) (Tof a)
  f : ∀ j, j < a.length → x.frozen? ⟨k, j * 2, none⟩ = false ∧ x.frozen? ⟨k, j * 2 + 1, none⟩ = false
  lg : g < x.heap.size
  lk : 0 < a.length → k < x.heap.size
theorem Pc.below {x y : World} {any : Bool} {a : TagL} {g k : Nat} {v : Value} (h : Pc x any a g k v) (hb : Below x.heap.size x y) : Pc y any a g k v := by
  have lg := h.lg
  have lk := h.lk
  have sz := hb.size
  refine ⟨(hb.cell (p := ⟨g, 0, none⟩) lg).trans h.c0, (hb.cell (p := ⟨g, 1, none⟩) lg).trans h.c1, fun j hj => ⟨?_, ?_⟩, fun j hj => ⟨?_, ?_⟩, by omega, fun h0 => by have := lk h0; omega⟩
  · exact (hb.cell (p := ⟨k, j * 2, none⟩) (lk (by omega))).trans (h.r j hj).1
  · exact (hb.cell (p := ⟨k, j * 2 + 1, none⟩) (lk (by omega))).trans (h.r j hj).2
  · exact (hb.frozen (p := ⟨k, j * 2, none⟩) (lk (by omega))).trans (h.f j hj).1
  · exact (hb.frozen (p := ⟨k, j * 2 + 1, none⟩) (lk (by omega))).trans (h.f j hj).2
theorem Pc.set {x : World} {any : Bool} {a : TagL} {g k : Nat} {v : Value} (h : Pc x any a g k v) (b o : Nat) (u : Value) (hg : b ≠ g) (hk : b ≠ k) : Pc (x.setCell ⟨b, o, none⟩ u) any a g k v := by
  have ob : ∀ (c p : Nat), c ≠ b → (x.setCell ⟨b, o, none⟩ u).cell? ⟨c, p, none⟩ = x.cell? ⟨c, p, none⟩ := fun c p hc => World.cell?_setCell_other _ _ _ _ (by intro q; injection q; omega)
  refine ⟨(ob _ _ (by omega)).trans h.c0, (ob _ _ (by omega)).trans h.c1, fun j hj => ⟨(ob _ _ (by omega)).trans (h.r j hj).1, (ob _ _ (by omega)).trans (h.r j hj).2⟩, fun j hj => ?_, by simpa [World.setCell] using h.lg, fun h0 => by simpa [World.setCell] using h.lk h0⟩
  rw [World.frozen?_setCell, World.frozen?_setCell]
  exact h.f j hj
/-- What a reading has given, laid in a struct. -/
theorem Pc.made {w1 : World} {any : Bool} {a : TagL} {base : Nat} {v : Value} (h : w1.ownsRow base 33 2 v a.length (cellsT a)) :
    ∃ o cp k, v = .slice o a.length cp ∧ a.length ≤ 9223372036854775807 ∧ (0 < a.length → o = some ⟨k, 0, none⟩ ∧ base ≤ k ∧ k < w1.heap.size) ∧ Pc (w1.alloc (.cells #[.bool any, .slice o a.length cp] 28)) any a w1.heap.size k (.slice o a.length cp) := by
  rcases h.2 with ⟨rfl, h0⟩ | ⟨g, cap, cur, rfl, hg, hh, r⟩
  · refine ⟨none, 0, 0, by rw [h0], by omega, fun hp => by omega, by simp, by simp, fun j hj => by omega, fun j hj => by omega, by simp, fun hp => by omega⟩
  · have hlt : g < w1.heap.size := (Array.getElem?_eq_some_iff.1 hh).1
    have hb : Below w1.heap.size w1 (w1.alloc (.cells #[.bool any, .slice (some ⟨g, 0, none⟩) a.length cap] 28)) := (Below.refl _ _).alloc (Nat.le_refl _) _
    refine ⟨some ⟨g, 0, none⟩, cap, g, rfl, by have := r.1; have := r.2.1; unfold maxLen at *; omega, fun _ => ⟨rfl, hg, hlt⟩, by simp, by simp, fun j hj => ?_, fun j _ => ⟨?_, ?_⟩, by simp, fun _ => by simp; omega⟩
    · obtain ⟨y, hy⟩ : ∃ y, a[j]? = some y := ⟨a[j], List.getElem?_eq_getElem hj⟩
      have hc := cellsT_at a j y hy
      have hd : a.getD j (false, []) = y := by rw [List.getD, hy]; rfl
      have c1 := h.cells (g := g) rfl _ _ hc.1
      have c2 := h.cells (g := g) rfl _ _ hc.2
      rw [Go.WideShapes.add_plain, Nat.zero_add] at c1 c2
      unfold Wof Tof
      rw [hd]
      exact ⟨(hb.cell (p := ⟨g, j * 2, none⟩) hlt).trans c1, (hb.cell (p := ⟨g, j * 2 + 1, none⟩) hlt).trans c2⟩
    · exact (hb.frozen (p := ⟨g, j * 2, none⟩) hlt).trans (h.frozenAt _)
    · exact (hb.frozen (p := ⟨g, j * 2 + 1, none⟩) hlt).trans (h.frozenAt _)

/-- What stays while the first list is written into. -/
structure Tw (w x : World) (any : Bool) (a : TagL) (g5 g7 g9 k5 k7 k9 : Nat) (v5 v7 v9 : Value) : Prop where
  b : Below w.heap.size w x
  p5 : Pc x any a g5 k5 v5
  p9 : Pc x any a g9 k9 v9
  c7 : x.cell? ⟨g7, 1, none⟩ = some v7
  r7 : ∀ j, j < a.length → ∃ b t, x.cell? ⟨k7, j * 2, none⟩ = some (.bool b) ∧ x.cell? ⟨k7, j * 2 + 1, none⟩ = some (.string t)
  f7 : ∀ j, j < a.length → x.frozen? ⟨k7, j * 2, none⟩ = false ∧ x.frozen? ⟨k7, j * 2 + 1, none⟩ = false
  ne : 0 < a.length → k7 ≠ g5 ∧ k7 ≠ g7 ∧ k7 ≠ g9 ∧ k7 ≠ k5 ∧ k7 ≠ k9 ∧ w.heap.size ≤ k7
theorem Tw.put {w x : World} {any : Bool} {a : TagL} {g5 g7 g9 k5 k7 k9 : Nat} {v5 v7 v9 : Value} (h : Tw w x any a g5 g7 g9 k5 k7 k9 v5 v7 v9) (i : Nat) (hi : i < a.length) (b : Bool) (t : ByteArray) :
    Tw w ((x.setCell ⟨k7, i * 2, none⟩ (.bool b)).setCell ⟨k7, i * 2 + 1, none⟩ (.string t)) any a g5 g7 g9 k5 k7 k9 v5 v7 v9 := by
  obtain ⟨n1, n2, n3, n4, n5, n6⟩ := h.ne (by omega)
  refine ⟨(h.b.setCell n6 _).setCell n6 _, (h.p5.set _ _ _ n1 n4).set _ _ _ n1 n4, (h.p9.set _ _ _ n3 n5).set _ _ _ n3 n5, ?_, fun j hj => ?_, fun j hj => ?_, fun _ => ⟨n1, n2, n3, n4, n5, n6⟩⟩
  · rw [World.cell?_setCell_other _ _ _ _ (by intro q; injection q; omega), World.cell?_setCell_other _ _ _ _ (by intro q; injection q; omega)]
    exact h.c7
  · obtain ⟨b0, t0, e0, e1⟩ := h.r7 j hj
    obtain ⟨b1, t1, e2, e3⟩ := h.r7 i hi
    by_cases e : j = i
    · subst e
      refine ⟨b, t, ?_, ?_⟩
      · rw [World.cell?_setCell_other _ _ _ _ (by intro q; injection q; omega)]
        exact World.cell?_setCell_same _ _ _ e0
      · have e5 : (x.setCell ⟨k7, j * 2, none⟩ (.bool b)).cell? ⟨k7, j * 2 + 1, none⟩ = some (.string t0) := by
          rw [World.cell?_setCell_other _ _ _ _ (by intro q; injection q; omega)]
          exact e1
        exact World.cell?_setCell_same _ _ _ e5
    · refine ⟨b0, t0, ?_, ?_⟩
      · rw [World.cell?_setCell_other _ _ _ _ (by intro q; injection q; omega), World.cell?_setCell_other _ _ _ _ (by intro q; injection q; omega)]
        exact e0
      · rw [World.cell?_setCell_other _ _ _ _ (by intro q; injection q; omega), World.cell?_setCell_other _ _ _ _ (by intro q; injection q; omega)]
        exact e1
  · simp only [World.frozen?_setCell]
    exact h.f7 j hj

set_option maxRecDepth 100000 in
set_option maxHeartbeats 2000000 in
theorem tagged_walk (text body : ByteArray) (w : World) (hM : MaxIs w) (hT : Tz w) (h1 : text.size ≤ 67108864) (h2 : body.size ≤ 67108864) :
    Calls Tryd.prog 4 #[.string text, .string body] w fun e w' => e = .returned (.bool true) ∧ Below w.heap.size w w' := by
  obtain ⟨any, fine, a, H12, H11⟩ := tags_same text h1
  have HR : Hid _ := H11
  have HP : Hid _ := H12
  clear H11 H12
  go_enter Tryd.func4, Tryd.ntmps4
  go_wp2_with fail
  refine Calls.mono (HR.out _) ?_
  rintro e w1 ⟨hb1, v5, rfl, ho5⟩
  obtain ⟨o5, cp5, k5, rfl, hnm, hk5, p5⟩ := Pc.made (any := any) ho5
  go_wp2_with fail
  have hB1 := hb1.alloc (o := .cells #[.bool any, .slice o5 a.length cp5] 28) hb1.size
  refine Calls.mono (HP.out _ (hM.below hB1)) ?_
  rintro e w2 ⟨hb2, v7, rfl, ho7⟩
  obtain ⟨o7, cp7, k7, rfl, _, hk7, p7⟩ := Pc.made (any := any) ho7
  have p5b := (p5.below hb2).below ((Below.refl _ _).alloc (Nat.le_refl _) (.cells #[.bool any, .slice o7 a.length cp7] 28))
  have hB2 : Below w.heap.size w (w2.alloc (.cells #[.bool any, .slice o7 a.length cp7] 28)) := (hB1.trans (hb2.mono hB1.size)).alloc (Nat.le_trans hB1.size hb2.size) _
  have z1 := hb1.size
  have z2 := hb2.size
  rw [World.size_alloc] at z2
  clear p5 hb1 ho5 ho7 hb2 hB1
  go_wp2_with fail
  refine Calls.mono (HP.out _ (hM.below hB2)) ?_
  rintro e w3 ⟨hb3, v9, rfl, ho9⟩
  obtain ⟨o9, cp9, k9, rfl, _, hk9, p9⟩ := Pc.made (any := any) ho9
  have hal : Below w3.heap.size w3 (w3.alloc (.cells #[.bool any, .slice o9 a.length cp9] 28)) := (Below.refl _ _).alloc (Nat.le_refl _) _
  have k71 := (p7.below hb3).c1
  have k51 := (p5b.below hb3).c1
  have hl7 := (p7.below hb3).lg
  have hl5 := (p5b.below hb3).lg
  have p5c := (p5b.below hb3).below hal
  have p7c := (p7.below hb3).below hal
  have hB3 : Below w.heap.size w (w3.alloc (.cells #[.bool any, .slice o9 a.length cp9] 28)) := (hB2.trans (hb3.mono hB2.size)).alloc (Nat.le_trans hB2.size hb3.size) _
  have z3 := hb3.size
  rw [World.size_alloc] at z3 hk7 hk9
  clear p5b p7 hb3 hB2 ho9 hal HP HR
  obtain ⟨x3, hx3⟩ : ∃ x3, x3 = w3.alloc (.cells #[.bool any, .slice o9 a.length cp9] 28) := ⟨_, rfl⟩
  rw [← hx3] at p5c p7c p9 hB3
  obtain ⟨n, hn⟩ : ∃ n, a.length = n := ⟨_, rfl⟩
  rw [hn] at hx3 hnm
  have HS : Hid _ := sameTags_yes o7 o5 n cp7 cp5 k7 k5 (Wof a) (Tof a) x3 hnm (fun h0 => (hk7 (by omega)).1) (fun h0 => (hk5 (by omega)).1) (by rw [← hn]; exact p7c.r) (by rw [← hn]; exact p5c.r)
  rw [hx3] at HS
  rw [hn] at k71 k51
  rw [hn]
  go_wp2_with fail
  refine Calls.mono HS.out ?_
  rintro e w4 ⟨rfl, q4, hq4⟩
  have hb4 : Below x3.heap.size x3 w4 := by rw [hq4, ← hx3]; exact below_drewN (Below.refl _ _) q4
  have tw : Tw w w4 any a w1.heap.size w2.heap.size w3.heap.size k5 k7 k9 (.slice o5 n cp5) (.slice o7 n cp7) (.slice o9 n cp9) := by
    rw [hn] at p5c p7c p9
    have q7 := p7c.below hb4
    refine ⟨hB3.trans (hb4.mono hB3.size), p5c.below hb4, p9.below hb4, q7.c1, fun j hj => ⟨_, _, q7.r j hj⟩, q7.f, fun h0 => ?_⟩
    have e5 := hk5 h0
    have e7 := hk7 h0
    have e9 := hk9 h0
    omega
  have c70 := (p7c.below hb4).c0
  clear HS hq4 hb4 p5c p7c p9 hB3 k71 k51 hl5 hl7
  have c50 := tw.p5.c0
  cases any with
  | false =>
    go_wp2
    clear c70 c50
    go_loopw [12] (fun i wr => ∃ k : Nat, k ≤ n ∧ i = .int .i64 k ∧ Tw w wr false a w1.heap.size w2.heap.size w3.heap.size k5 k7 k9 (.slice o5 n cp5) (.slice o7 n cp7) (.slice o9 n cp9)) (fun i _ => n - (intOf i).toNat)
    case atStart => exact ⟨0, Nat.zero_le _, rfl, tw⟩
    case round =>
      obtain ⟨k, hk, rfl, twk⟩ := hrel
      have c7 := twk.c7
      by_cases hlt : k < n
      · obtain ⟨rfl, _, _⟩ := hk7 (by omega)
        obtain ⟨b0, t0, e0, e1⟩ := twk.r7 k (by omega)
        obtain ⟨f0, f1⟩ := twk.f7 k (by omega)
        have HX : Hid _ := twk.put k (by omega) false ⟨#[111, 119, 110]⟩
        go_wp2
        exact ⟨⟨k + 1, by omega, by go_num, HX.out⟩, by simp [intOf]; omega⟩
      · have c91 := twk.p9.c1
        have c51 := twk.p5.c1
        have HS : Hid _ := sameTags_yes o9 o5 n cp9 cp5 k9 k5 (Wof a) (Tof a) wr hnm (fun h0 => (hk9 (by omega)).1) (fun h0 => (hk5 (by omega)).1) (by rw [← hn]; exact twk.p9.r) (by rw [← hn]; exact twk.p5.r)
        go_wp2_with fail
        refine Calls.mono HS.out ?_
        rintro e w5 ⟨rfl, q5, hq5⟩
        have hb5 : Below wr.heap.size wr w5 := by rw [hq5]; exact below_drewN (Below.refl _ _) q5
        have hB5 := twk.b.trans (hb5.mono twk.b.size)
        have p9 := twk.p9.below hb5
        have p5 := twk.p5.below hb5
        clear HS hq5 hb5 c91 c51 c7 twk tw
        go_wp2_with fail
        refine (progTag body w5 (by omega) (hT.below hB5)).mono ?_
        rintro e w6 ⟨rfl, hb6⟩
        have hB6 := hB5.trans (hb6.mono hB5.size)
        have p9b := p9.below hb6
        have p5b := p5.below hb6
        obtain ⟨S, hS⟩ : ∃ S : ByteArray, (⟨(hexN 16 (fnv body.data.toList)).toArray⟩ : ByteArray) = S := ⟨_, rfl⟩
        rw [hS]
        clear hb6 hB5 p9 p5
        go_wp2_with fail
        refine (refTag body w6 (by omega)).mono ?_
        rintro e w7 ⟨rfl, hb7⟩
        have hB7 := hB6.trans (hb7.mono hB6.size)
        have d9 := (p9b.below hb7).c0
        have d5 := (p5b.below hb7).c0
        rw [hS]
        have ks : (S.toList == S.toList) = true := by simp
        clear hb7 hB6 p9b p5b
        go_wp2
        go_ret
        exact ⟨rfl, hB7⟩
  | true =>
    go_wp2
    clear c70 c50
    go_loopw [12] (fun i wr => ∃ k : Nat, k ≤ n ∧ i = .int .i64 k ∧ Tw w wr true a w1.heap.size w2.heap.size w3.heap.size k5 k7 k9 (.slice o5 n cp5) (.slice o7 n cp7) (.slice o9 n cp9)) (fun i _ => n - (intOf i).toNat)
    case atStart => exact ⟨0, Nat.zero_le _, rfl, tw⟩
    case round =>
      obtain ⟨k, hk, rfl, twk⟩ := hrel
      have c7 := twk.c7
      by_cases hlt : k < n
      · obtain ⟨rfl, _, _⟩ := hk7 (by omega)
        obtain ⟨b0, t0, e0, e1⟩ := twk.r7 k (by omega)
        obtain ⟨f0, f1⟩ := twk.f7 k (by omega)
        have HX : Hid _ := twk.put k (by omega) false ⟨#[111, 119, 110]⟩
        go_wp2
        exact ⟨⟨k + 1, by omega, by go_num, HX.out⟩, by simp [intOf]; omega⟩
      · have c91 := twk.p9.c1
        have c51 := twk.p5.c1
        have HS : Hid _ := sameTags_yes o9 o5 n cp9 cp5 k9 k5 (Wof a) (Tof a) wr hnm (fun h0 => (hk9 (by omega)).1) (fun h0 => (hk5 (by omega)).1) (by rw [← hn]; exact twk.p9.r) (by rw [← hn]; exact twk.p5.r)
        go_wp2_with fail
        refine Calls.mono HS.out ?_
        rintro e w5 ⟨rfl, q5, hq5⟩
        have hb5 : Below wr.heap.size wr w5 := by rw [hq5]; exact below_drewN (Below.refl _ _) q5
        have hB5 := twk.b.trans (hb5.mono twk.b.size)
        have p9 := twk.p9.below hb5
        have p5 := twk.p5.below hb5
        clear HS hq5 hb5 c91 c51 c7 twk tw
        go_wp2_with fail
        refine (progTag body w5 (by omega) (hT.below hB5)).mono ?_
        rintro e w6 ⟨rfl, hb6⟩
        have hB6 := hB5.trans (hb6.mono hB5.size)
        have p9b := p9.below hb6
        have p5b := p5.below hb6
        obtain ⟨S, hS⟩ : ∃ S : ByteArray, (⟨(hexN 16 (fnv body.data.toList)).toArray⟩ : ByteArray) = S := ⟨_, rfl⟩
        rw [hS]
        clear hb6 hB5 p9 p5
        go_wp2_with fail
        refine (refTag body w6 (by omega)).mono ?_
        rintro e w7 ⟨rfl, hb7⟩
        have hB7 := hB6.trans (hb7.mono hB6.size)
        have d9 := (p9b.below hb7).c0
        have d5 := (p5b.below hb7).c0
        rw [hS]
        have ks : (S.toList == S.toList) = true := by simp
        clear hb7 hB6 p9b p5b
        go_wp2
        go_ret
        exact ⟨rfl, hB7⟩
end Go.Proofs.YtmehkneofinmiaaDoor

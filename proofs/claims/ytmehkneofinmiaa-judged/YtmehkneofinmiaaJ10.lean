/-
  The argument of 'Judged' opened.
-/
import Derived.Test.YtmehkneofinmiaaJ2
import Derived.ProofKit
import Derived.SizedLaws
import Derived.Deep.SlicePairs
namespace Go.Proofs.Ytmehkneofinmiaa
open Go.ChangeShapes Go.WideShapes Go.ChangeAt Go.RowKit

theorem array14 {α : Type} {cs : Array α} (h : cs.size = 14) : ∃ c0 c1 c2 c3 c4 c5 c6 c7 c8 c9 c10 c11 c12 c13, cs = #[c0, c1, c2, c3, c4, c5, c6, c7, c8, c9, c10, c11, c12, c13] := by
  obtain ⟨l⟩ := cs
  match l, h with
  | [c0, c1, c2, c3, c4, c5, c6, c7, c8, c9, c10, c11, c12, c13], _ => exact ⟨c0, c1, c2, c3, c4, c5, c6, c7, c8, c9, c10, c11, c12, c13, rfl⟩
theorem list12 {α : Type} {l : List α} (h : l.length = 12) : ∃ c0 c1 c2 c3 c4 c5 c6 c7 c8 c9 c10 c11, l = [c0, c1, c2, c3, c4, c5, c6, c7, c8, c9, c10, c11] := by
  match l, h with
  | [c0, c1, c2, c3, c4, c5, c6, c7, c8, c9, c10, c11], _ => exact ⟨c0, c1, c2, c3, c4, c5, c6, c7, c8, c9, c10, c11, rfl⟩
theorem list2 {α : Type} {l : List α} (h : l.length = 2) : ∃ c0 c1, l = [c0, c1] := by
  match l, h with
  | [c0, c1], _ => exact ⟨c0, c1, rfl⟩

theorem cells3 : Try.prog.cellsOf 3 = 1 := by kernel_rfl
theorem cells4 : Try.prog.cellsOf 4 = 1 := by kernel_rfl
theorem cells9 : Try.prog.cellsOf 9 = 1 := by kernel_rfl
theorem cells22 : Try.prog.cellsOf 22 = 1 := by kernel_rfl
theorem cells24 : Try.prog.cellsOf 24 = 2 := by kernel_rfl
theorem cells26 : Try.prog.cellsOf 26 = 14 := by kernel_rfl
theorem cells32 : Try.prog.cellsOf 32 = 2 := by kernel_rfl
theorem bytes32 : Try.prog.bytesOf 32 = 24 := by kernel_rfl

section
variable {H : Type} {enc : TypeId × Value → H} {W : World} {base : Nat} {spare : Nat → Bool} {held : Bool}

/-- the conditions' lists, a level down -/
theorem open_tags {fuel : Nat} {c0 c1 : Value} {x : DataW H × List MemPlace} (h : DataW.trod enc Try.prog W base spare held fuel 24 [c0, c1] = some x) :
    ∃ (am : Bool) (k : Nat) (y : DataW H × List MemPlace), c0 = .bool am ∧ DataW.trod enc Try.prog W base spare held k 22 [c1] = some y ∧ ∀ z ∈ y.1.weights Try.prog 22, z ∈ x.1.weights Try.prog 24 := by
  obtain ⟨xs, n, _, rfl, _, hl, hf⟩ := DataW.trod_struct Try.underlying24 h
  obtain ⟨x0, x1, rfl⟩ := list2 hl
  have g0 := hf 0 _ rfl
  have g1 := hf 1 _ rfl
  simp [cells4, cells22] at g0 g1
  obtain ⟨am, e0, _⟩ := DataW.trod_bool Try.underlying4 g0
  simp at e0
  refine ⟨am, n, x1, e0, g1, fun z hz => ?_⟩
  simp only [DataW.weights, Try.underlying24]
  exact DataW.weights_mem_each (j := 1) (t := 22) (d := x1.1) rfl rfl z hz

theorem open_ask {r : Reach} {b0 : Nat} {v : Value} {d : DataW H} {p : List MemPlace} (hv : Value.okWide Try.prog W r b0 26 v) (h : DataW.Trod enc Try.prog W base spare held 26 v d p) :
    ∃ (wt hm am hn an hs hu th : Bool) (since unl tm : Int) (tag : ByteArray) (lm ln : Value) (k1 k2 : Nat) (y1 y2 : DataW H × List MemPlace),
      v = .agg #[.bool wt, .bool hm, .bool am, lm, .bool hn, .bool an, ln, .bool hs, .int .i64 since, .bool hu, .int .i64 unl, .bool th, .string tag, .int .i64 tm] ∧
      DataW.trod enc Try.prog W base spare held k1 22 [lm] = some y1 ∧ DataW.trod enc Try.prog W base spare held k2 22 [ln] = some y2 ∧
      (∀ z ∈ y1.1.weights Try.prog 22, z ∈ d.weights Try.prog 26) ∧ ∀ z ∈ y2.1.weights Try.prog 22, z ∈ d.weights Try.prog 26 := by
  obtain ⟨cs, rfl, hsz⟩ := okWide_struct Try.underlying26 hv
  obtain ⟨c0, c1, c2, c3, c4, c5, c6, c7, c8, c9, c10, c11, c12, c13, rfl⟩ := array14 (hsz.trans cells26)
  obtain ⟨fuel, hf0⟩ := h
  obtain ⟨xs, n, _, hx, _, hl, hf⟩ := DataW.trod_struct Try.underlying26 hf0
  obtain ⟨x0, x1, x2, x3, x4, x5, x6, x7, x8, x9, x10, x11, rfl⟩ := list12 hl
  have g0 := hf 0 _ rfl
  have g1 := hf 1 _ rfl
  have g2 := hf 2 _ rfl
  have g3 := hf 3 _ rfl
  have g4 := hf 4 _ rfl
  have g5 := hf 5 _ rfl
  have g6 := hf 6 _ rfl
  have g7 := hf 7 _ rfl
  have g8 := hf 8 _ rfl
  have g9 := hf 9 _ rfl
  have g10 := hf 10 _ rfl
  have g11 := hf 11 _ rfl
  clear hf hf0
  simp [cells3, cells4, cells9, cells24, Value.cells] at g0 g1 g2 g3 g4 g5 g6 g7 g8 g9 g10 g11
  obtain ⟨wt, e0, _⟩ := DataW.trod_bool Try.underlying4 g0
  obtain ⟨hm, e1, _⟩ := DataW.trod_bool Try.underlying4 g1
  obtain ⟨am, k1, y1, e2, t1, s1⟩ := open_tags g2
  obtain ⟨hn, e3, _⟩ := DataW.trod_bool Try.underlying4 g3
  obtain ⟨an, k2, y2, e4, t2, s2⟩ := open_tags g4
  obtain ⟨hs, e5, _⟩ := DataW.trod_bool Try.underlying4 g5
  obtain ⟨since, e6, _⟩ := DataW.trod_int Try.underlying3 g6
  obtain ⟨hu, e7, _⟩ := DataW.trod_bool Try.underlying4 g7
  obtain ⟨unl, e8, _⟩ := DataW.trod_int Try.underlying3 g8
  obtain ⟨th, e9, _⟩ := DataW.trod_bool Try.underlying4 g9
  obtain ⟨tag, e10, _⟩ := DataW.trod_string Try.underlying9 g10
  obtain ⟨tm, e11, _⟩ := DataW.trod_int Try.underlying3 g11
  simp only [List.cons.injEq, and_true] at e0 e1 e3 e5 e6 e7 e8 e9 e10 e11
  subst e0 e1 e2 e3 e4 e5 e6 e7 e8 e9 e10 e11
  simp only [Prod.mk.injEq] at hx
  refine ⟨wt, hm, am, hn, an, hs, hu, th, since, unl, tm, tag, c3, c6, k1, k2, y1, y2, rfl, t1, t2, fun z hz => ?_, fun z hz => ?_⟩
  · rw [hx.1]
    simp only [DataW.weights, Try.underlying26]
    exact DataW.weights_mem_each (j := 2) (t := 24) (d := x2.1) rfl rfl z (s1 z hz)
  · rw [hx.1]
    simp only [DataW.weights, Try.underlying26]
    exact DataW.weights_mem_each (j := 4) (t := 24) (d := x4.1) rfl rfl z (s2 z hz)

/-- a list of tags that came in -/
theorem open_list {k : Nat} {v : Value} {y : DataW H × List MemPlace} (h : DataW.trod enc Try.prog W base (fun _ => true) held k 22 [v] = some y) (hw : ∀ z ∈ y.1.weights Try.prog 22, z ≤ reachBytes) :
    ∃ (o : Option Addr) (n cap : Nat) (Wk : Nat → Bool) (T : Nat → ByteArray), v = .slice o n cap ∧ ListAt W v n Wk T ∧ 24 * (n + 2) ≤ 281474976710656 := by
  rcases Deep.open_slice_pairs Try.underlying22 Try.underlying32 cells32 rfl rfl cells4 cells9 h with ⟨e, _⟩ | ⟨a, len, cap, m, n, V0, V1, D0, D1, P0, P1, e, hb, hl, hm, hmm, hx, hc⟩
  · simp at e
    exact ⟨none, 0, 0, fun _ => false, fun _ => ByteArray.empty, e, ⟨Nat.zero_le _, Or.inl ⟨_, _, e, rfl⟩⟩, by omega⟩
  · simp at e hmm
    subst hmm
    have hz := hw ((len + (m - len)) * 24) (by rw [hx]; simp [DataW.weights, Try.underlying22, bytes32])
    have h0 : ∀ i, i < len → ∃ b, V0 i = .bool b := fun i hi => by
      obtain ⟨b, e0, _⟩ := DataW.trod_bool Try.underlying4 (hc i (by omega)).2.2.1
      simp at e0
      exact ⟨b, e0⟩
    have h1 : ∀ i, i < len → ∃ b, V1 i = .string b := fun i hi => by
      obtain ⟨b, e0, _⟩ := DataW.trod_string Try.underlying9 (hc i (by omega)).2.2.2
      simp at e0
      exact ⟨b, e0⟩
    obtain ⟨Wk, hWk⟩ := Deep.choose_lt h0
    obtain ⟨T, hT⟩ := Deep.choose_lt h1
    refine ⟨some a, len, m, Wk, T, e, ⟨by omega, ?_⟩, by have := reachBytes_lt; omega⟩
    by_cases hlen : len = 0
    · subst hlen
      exact Or.inl ⟨_, _, e, rfl⟩
    · obtain ⟨b, off, spot⟩ := a
      have hspot : spot = none := by simpa [Addr.add] using World.cell?_spot (hc 0 (by omega)).1
      subst hspot
      refine Or.inr ⟨b, off, m, e, fun i hi => ?_, fun i hi => ?_⟩
      · have := (hc i (by omega)).1
        rw [add_plain] at this
        rw [this, hWk i hi]
      · have := (hc i (by omega)).2.1
        rw [add_plain] at this
        rw [show off + i * 2 + 1 = off + (i * 2 + 1) by omega, this, hT i hi]
end

end Go.Proofs.Ytmehkneofinmiaa

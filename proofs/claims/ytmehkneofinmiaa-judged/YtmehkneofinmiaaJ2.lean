/-
  Walks of 'matches' and 'excluded'.
-/
import Derived.Test.YtmehkneofinmiaaJ1
namespace Go.Proofs.Ytmehkneofinmiaa
open Go.RowKit

theorem bcell {B : Nat} {W w1 : World} (hb : Below B W w1) : (∀ b o, b < B → w1.cell? ⟨b, o, none⟩ = W.cell? ⟨b, o, none⟩) ∧ (∀ b o, b < B → w1.frozen? ⟨b, o, none⟩ = W.frozen? ⟨b, o, none⟩) :=
  ⟨fun b o h => hb.cell (p := ⟨b, o, none⟩) h, fun b o h => hb.frozen (p := ⟨b, o, none⟩) h⟩

theorem cell_lt {w : World} {b o : Nat} {v : Value} (h : w.cell? ⟨b, o, none⟩ = some v) : b < w.heap.size := by
  by_cases hb : b < w.heap.size
  · exact hb
  · simp [World.cell?, Array.getElem?_eq_none (by omega : w.heap.size ≤ b)] at h

theorem cell_past {w : World} {o : Obj} {n i : Nat} {v : Value} (h : n < w.heap.size) (hc : w.cell? ⟨n, i, none⟩ = some v) : (w.alloc o).cell? ⟨n, i, none⟩ = some v := by
  rw [World.cell?_alloc_past (hn := h)]; exact hc

set_option maxHeartbeats 400000 in
theorem matches_any (wt hm am hn an hs hu th : Bool) (since unl tm : Int) (tag : ByteArray) (ln : Value) (b off n cap : Nat) (W : Nat → Bool) (T : Nat → ByteArray) (w : World) (hn0 : n ≤ maxLen) (ht : TagsAt w b off n W T) :
    Calls Try.prog 8 #[.agg #[.bool wt, .bool hm, .bool am, .slice (some ⟨b, off, none⟩) n cap, .bool hn, .bool an, ln, .bool hs, .int .i64 since, .bool hu, .int .i64 unl, .bool th, .string tag, .int .i64 tm]] w
      fun e w' => e = .returned (.bool (th && (am || hits W T tag true n))) ∧ Below w.heap.size w w' := by
  unfold maxLen at hn0
  obtain ⟨h0, h1⟩ := ht
  cases th
  · go_enter Try.func8, Try.ntmps8
    go_wp2
    go_ret
    exact ⟨rfl, (Below.refl _ _).alloc (Nat.le_refl _) _⟩
  cases am
  rotate_left
  · go_enter Try.func8, Try.ntmps8
    go_wp2
    go_ret
    exact ⟨rfl, (Below.refl _ _).alloc (Nat.le_refl _) _⟩
  go_enter Try.func8, Try.ntmps8
  go_wp2
  go_loopw [15] (fun i wr => ∃ k : Nat, k ≤ n ∧ i = .int .i64 k ∧ Hid (hits W T tag true k = false) ∧ Below w.heap.size w wr ∧ wr.cell? ⟨w.heap.size, 12, none⟩ = some (.string tag) ∧ w.heap.size < wr.heap.size) (fun i _ => n - (intOf i).toNat)
  case atStart => exact ⟨0, Nat.zero_le _, rfl, rfl, (Below.refl _ _).alloc (Nat.le_refl _) _, by simp, by simp⟩
  case round =>
    obtain ⟨k, hk, rfl, hh, hb, hc, hz⟩ := hrel
    by_cases hlt : k < n
    · have hbb : b < w.heap.size := cell_lt (h0 k hlt)
      have c0 := (hb.cell (p := ⟨b, off + k * 2, none⟩) hbb).trans (h0 k hlt)
      have c1 := (hb.cell (p := ⟨b, off + k * 2 + 1, none⟩) hbb).trans (h1 k hlt)
      clear h0 h1
      go_wp2
      · exact ⟨⟨k + 1, by omega, by go_num, hits_no hh.out (by simp_all [hit]), hb.alloc (by omega) _, cell_past hz hc, by simp; omega⟩, by simp [intOf]; omega⟩
      · go_ret
        exact ⟨ret_bool (by rw [hits_of hlt (by simp_all [hit])]; rfl), hb.alloc (by omega) _⟩
      · exact ⟨⟨k + 1, by omega, by go_num, hits_no hh.out (by simp_all [hit]), hb.alloc (by omega) _, cell_past hz hc, by simp; omega⟩, by simp [intOf]; omega⟩
    · go_wp2
      go_ret
      exact ⟨ret_bool (by rw [show n = k by omega, hh.out]; rfl), hb⟩
set_option maxHeartbeats 400000 in
theorem matches_nil (o : Option Addr) (cap : Nat) (wt hm am hn an hs hu th : Bool) (since unl tm : Int) (tag : ByteArray) (ln : Value) (w : World) :
    Calls Try.prog 8 #[.agg #[.bool wt, .bool hm, .bool am, .slice o 0 cap, .bool hn, .bool an, ln, .bool hs, .int .i64 since, .bool hu, .int .i64 unl, .bool th, .string tag, .int .i64 tm]] w
      fun e w' => e = .returned (.bool (th && (am || false))) ∧ Below w.heap.size w w' := by
  cases th
  · go_enter Try.func8, Try.ntmps8
    go_wp2
    go_ret
    exact ⟨rfl, (Below.refl _ _).alloc (Nat.le_refl _) _⟩
  cases am
  rotate_left
  · go_enter Try.func8, Try.ntmps8
    go_wp2
    go_ret
    exact ⟨rfl, (Below.refl _ _).alloc (Nat.le_refl _) _⟩
  go_enter Try.func8, Try.ntmps8
  go_wp2
  go_loopw [15] (fun i wr => i = .int .i64 0 ∧ Below w.heap.size w wr) (fun _ _ => 0)
  case atStart => exact ⟨rfl, (Below.refl _ _).alloc (Nat.le_refl _) _⟩
  case round =>
    obtain ⟨rfl, hb⟩ := hrel
    go_wp2
    go_ret
    exact ⟨rfl, hb⟩

set_option maxHeartbeats 400000 in
theorem excluded_any (wt hm am hn an hs hu th : Bool) (since unl tm : Int) (tag : ByteArray) (lm : Value) (b off n cap : Nat) (W : Nat → Bool) (T : Nat → ByteArray) (w : World) (hn0 : n ≤ maxLen) (ht : TagsAt w b off n W T) :
    Calls Try.prog 9 #[.agg #[.bool wt, .bool hm, .bool am, lm, .bool hn, .bool an, .slice (some ⟨b, off, none⟩) n cap, .bool hs, .int .i64 since, .bool hu, .int .i64 unl, .bool th, .string tag, .int .i64 tm]] w
      fun e w' => e = .returned (.bool (th && (an || hits W T tag false n))) ∧ Below w.heap.size w w' := by
  unfold maxLen at hn0
  obtain ⟨h0, h1⟩ := ht
  cases th
  · go_enter Try.func9, Try.ntmps9
    go_wp2
    go_ret
    exact ⟨rfl, (Below.refl _ _).alloc (Nat.le_refl _) _⟩
  cases an
  rotate_left
  · go_enter Try.func9, Try.ntmps9
    go_wp2
    go_ret
    exact ⟨rfl, (Below.refl _ _).alloc (Nat.le_refl _) _⟩
  go_enter Try.func9, Try.ntmps9
  go_wp2
  go_loopw [15] (fun i wr => ∃ k : Nat, k ≤ n ∧ i = .int .i64 k ∧ Hid (hits W T tag false k = false) ∧ Below w.heap.size w wr ∧ wr.cell? ⟨w.heap.size, 12, none⟩ = some (.string tag) ∧ w.heap.size < wr.heap.size) (fun i _ => n - (intOf i).toNat)
  case atStart => exact ⟨0, Nat.zero_le _, rfl, rfl, (Below.refl _ _).alloc (Nat.le_refl _) _, by simp, by simp⟩
  case round =>
    obtain ⟨k, hk, rfl, hh, hb, hc, hz⟩ := hrel
    by_cases hlt : k < n
    · have hbb : b < w.heap.size := cell_lt (h0 k hlt)
      have c0 := (hb.cell (p := ⟨b, off + k * 2, none⟩) hbb).trans (h0 k hlt)
      have c1 := (hb.cell (p := ⟨b, off + k * 2 + 1, none⟩) hbb).trans (h1 k hlt)
      clear h0 h1
      go_wp2
      · go_ret
        exact ⟨ret_bool (by rw [hits_of hlt (by simp_all [hit])]; rfl), hb.alloc (by omega) _⟩
      · exact ⟨⟨k + 1, by omega, by go_num, hits_no hh.out (by simp_all [hit]), hb.alloc (by omega) _, cell_past hz hc, by simp; omega⟩, by simp [intOf]; omega⟩
    · go_wp2
      go_ret
      exact ⟨ret_bool (by rw [show n = k by omega, hh.out]; rfl), hb⟩
set_option maxHeartbeats 400000 in
theorem excluded_nil (o : Option Addr) (cap : Nat) (wt hm am hn an hs hu th : Bool) (since unl tm : Int) (tag : ByteArray) (lm : Value) (w : World) :
    Calls Try.prog 9 #[.agg #[.bool wt, .bool hm, .bool am, lm, .bool hn, .bool an, .slice o 0 cap, .bool hs, .int .i64 since, .bool hu, .int .i64 unl, .bool th, .string tag, .int .i64 tm]] w
      fun e w' => e = .returned (.bool (th && (an || false))) ∧ Below w.heap.size w w' := by
  cases th
  · go_enter Try.func9, Try.ntmps9
    go_wp2
    go_ret
    exact ⟨rfl, (Below.refl _ _).alloc (Nat.le_refl _) _⟩
  cases an
  rotate_left
  · go_enter Try.func9, Try.ntmps9
    go_wp2
    go_ret
    exact ⟨rfl, (Below.refl _ _).alloc (Nat.le_refl _) _⟩
  go_enter Try.func9, Try.ntmps9
  go_wp2
  go_loopw [15] (fun i wr => i = .int .i64 0 ∧ Below w.heap.size w wr) (fun _ _ => 0)
  case atStart => exact ⟨rfl, (Below.refl _ _).alloc (Nat.le_refl _) _⟩
  case round =>
    obtain ⟨rfl, hb⟩ := hrel
    go_wp2
    go_ret
    exact ⟨rfl, hb⟩


/-- A list of tags as a value: of no element, or in memory. -/
def ListAt (w : World) (v : Value) (n : Nat) (W : Nat → Bool) (T : Nat → ByteArray) : Prop :=
  n ≤ maxLen ∧ ((∃ o cap, v = .slice o 0 cap ∧ n = 0) ∨ ∃ b off cap, v = .slice (some ⟨b, off, none⟩) n cap ∧ TagsAt w b off n W T)

theorem TagsAt.below {w w' : World} {b off n : Nat} {W : Nat → Bool} {T : Nat → ByteArray} (h : TagsAt w b off n W T) (hb : Below w.heap.size w w') : TagsAt w' b off n W T :=
  ⟨fun i hi => (hb.cell (p := ⟨b, off + i * 2, none⟩) (cell_lt (h.1 i hi))).trans (h.1 i hi), fun i hi => (hb.cell (p := ⟨b, off + i * 2 + 1, none⟩) (cell_lt (h.2 i hi))).trans (h.2 i hi)⟩

theorem ListAt.below {w w' : World} {v : Value} {n : Nat} {W : Nat → Bool} {T : Nat → ByteArray} (h : ListAt w v n W T) (hb : Below w.heap.size w w') : ListAt w' v n W T := by
  refine ⟨h.1, ?_⟩
  rcases h.2 with h0 | ⟨b, off, cap, e, ht⟩
  · exact Or.inl h0
  · exact Or.inr ⟨b, off, cap, e, ht.below hb⟩

def mB (th am : Bool) (W : Nat → Bool) (T : Nat → ByteArray) (tag : ByteArray) (strong : Bool) (n : Nat) : Bool := th && (am || hits W T tag strong n)

theorem some_l (v : Value) (n : Nat) (W : Nat → Bool) (T : Nat → ByteArray) (t : ByteArray) (strong : Bool) (w : World) (h : ListAt w v n W T) :
    Calls Try.prog 10 #[v, .string t, .bool strong] w fun e w' => e = .returned (.bool (hits W T t strong n)) ∧ w' = w := by
  obtain ⟨hn, ⟨o, cap, rfl, rfl⟩ | ⟨b, off, cap, rfl, ht⟩⟩ := h
  · exact some_nil o cap t strong w
  · exact some_any b off n cap W T t strong w hn ht

theorem matches_l (wt hm am hn an hs hu th : Bool) (since unl tm : Int) (tag : ByteArray) (lm ln : Value) (n : Nat) (W : Nat → Bool) (T : Nat → ByteArray) (w : World) (h : ListAt w lm n W T) :
    Calls Try.prog 8 #[.agg #[.bool wt, .bool hm, .bool am, lm, .bool hn, .bool an, ln, .bool hs, .int .i64 since, .bool hu, .int .i64 unl, .bool th, .string tag, .int .i64 tm]] w
      fun e w' => e = .returned (.bool (mB th am W T tag true n)) ∧ Below w.heap.size w w' := by
  obtain ⟨hn0, ⟨o, cap, rfl, rfl⟩ | ⟨b, off, cap, rfl, ht⟩⟩ := h
  · exact matches_nil o cap wt hm am hn an hs hu th since unl tm tag ln w
  · exact matches_any wt hm am hn an hs hu th since unl tm tag ln b off n cap W T w hn0 ht

theorem excluded_l (wt hm am hn an hs hu th : Bool) (since unl tm : Int) (tag : ByteArray) (lm ln : Value) (n : Nat) (W : Nat → Bool) (T : Nat → ByteArray) (w : World) (h : ListAt w ln n W T) :
    Calls Try.prog 9 #[.agg #[.bool wt, .bool hm, .bool am, lm, .bool hn, .bool an, ln, .bool hs, .int .i64 since, .bool hu, .int .i64 unl, .bool th, .string tag, .int .i64 tm]] w
      fun e w' => e = .returned (.bool (mB th an W T tag false n)) ∧ Below w.heap.size w w' := by
  obtain ⟨hn0, ⟨o, cap, rfl, rfl⟩ | ⟨b, off, cap, rfl, ht⟩⟩ := h
  · exact excluded_nil o cap wt hm am hn an hs hu th since unl tm tag lm w
  · exact excluded_any wt hm am hn an hs hu th since unl tm tag lm b off n cap W T w hn0 ht
end Go.Proofs.Ytmehkneofinmiaa

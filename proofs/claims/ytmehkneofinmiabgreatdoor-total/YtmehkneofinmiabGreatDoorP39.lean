/-
  Texts of this proof, part 39.
-/
import Derived.Test.YtmehkneofinmiabGreatDoorP38
import Derived.Test.YtmehkneofinmiabGreatDoorP29
import Derived.Test.YtmehkneofinmiabGreatDoorP19
import Derived.Test.YtmehkneofinmiabGreatDoorP14
import Derived.Deep.DeepCutAuto
import Derived.Deep.RegionHeld3
namespace Go.Proofs.YtmehkneofinmiabGreatDoor.Jd
open Go.RowKit
theorem bcell {B : Nat} {W w1 : World} (hb : Below B W w1) : (∀ b o, b < B → w1.cell? ⟨b, o, none⟩ = W.cell? ⟨b, o, none⟩) ∧ (∀ b o, b < B → w1.frozen? ⟨b, o, none⟩ = W.frozen? ⟨b, o, none⟩) :=
  ⟨fun b o h => hb.cell (p := ⟨b, o, none⟩) h, fun b o h => hb.frozen (p := ⟨b, o, none⟩) h⟩
theorem cell_lt {w : World} {b o : Nat} {v : Value} (h : w.cell? ⟨b, o, none⟩ = some v) : b < w.heap.size := by
  by_cases hb : b < w.heap.size
  · exact hb
  · simp [World.cell?, Array.getElem?_eq_none (by omega : w.heap.size ≤ b)] at h
theorem cell_past {w : World} {o : Obj} {n i : Nat} {v : Value} (h : n < w.heap.size) (hc : w.cell? ⟨n, i, none⟩ = some v) : (w.alloc o).cell? ⟨n, i, none⟩ = some v := by
  rw [World.cell?_alloc_past (hn := h)]; exact hc
set_option maxHeartbeats 400000 in
theorem matches_any (wt hm am hn an hs hu th : Bool) (since unl tm : Int) (tag : ByteArray) (ln : Value) (b off n cap : Nat) (W : Nat → Bool) (T : Nat → ByteArray) (w : World) (hn0 : n ≤ maxLen) (ht : TagsAt w b off n W T) :
    Calls Tryz.prog 147 #[.agg #[.bool wt, .bool hm, .bool am, .slice (some ⟨b, off, none⟩) n cap, .bool hn, .bool an, ln, .bool hs, .int .i64 since, .bool hu, .int .i64 unl, .bool th, .string tag, .int .i64 tm]] w
      fun e w' => e = .returned (.bool (th && (am || hits W T tag true n))) ∧ Below w.heap.size w w' := by
  unfold maxLen at hn0
  obtain ⟨h0, h1⟩ := ht
  cases th
  · go_enter Tryz.func147, Tryz.ntmps147
    go_wp2
    go_ret
    exact ⟨rfl, (Below.refl _ _).alloc (Nat.le_refl _) _⟩
  cases am
  rotate_left
  · go_enter Tryz.func147, Tryz.ntmps147
    go_wp2
    go_ret
    exact ⟨rfl, (Below.refl _ _).alloc (Nat.le_refl _) _⟩
  go_enter Tryz.func147, Tryz.ntmps147
  go_wp2
  go_loopw [15] (fun i wr => ∃ k : Nat, k ≤ n ∧ i = .int .i64 k ∧ Hid (hits W T tag true k = false) ∧ Below w.heap.size w wr ∧ wr.cell? ⟨w.heap.size, 12, none⟩ = some (.string tag) ∧ w.heap.size < wr.heap.size) (fun i _ => n - (intOf i).toNat)
  case atStart => exact ⟨0, Nat.zero_le _, rfl, rfl, (Below.refl _ _).alloc (Nat.le_refl _) _, by simp, by simp⟩
  case round =>
    obtain ⟨k, hk, rfl, hh, hb, hc, hz⟩ := hrel
    by_cases hlt : k < n
    · have hbb : b < w.heap.size := cell_lt (h0 k hlt)
      have c0 := (hb.cell (p := ⟨b, off + k * 2, none⟩) hbb).trans (h0 k hlt)
      have c1 := (hb.cell (p := ⟨b, off + k * 2 + 1, none⟩) hbb).trans (h1 k hlt)
      clear h0 h1
      go_wp2
      · exact ⟨⟨k + 1, by omega, by go_num, hits_no hh.out (by simp_all [hit]), hb.alloc (by omega) _, cell_past hz hc, by simp; omega⟩, by simp [intOf]; omega⟩
      · go_ret
        exact ⟨ret_bool (by rw [hits_of hlt (by simp_all [hit])]; rfl), hb.alloc (by omega) _⟩
      · exact ⟨⟨k + 1, by omega, by go_num, hits_no hh.out (by simp_all [hit]), hb.alloc (by omega) _, cell_past hz hc, by simp; omega⟩, by simp [intOf]; omega⟩
    · go_wp2
      go_ret
      exact ⟨ret_bool (by rw [show n = k by omega, hh.out]; rfl), hb⟩
set_option maxHeartbeats 400000 in
theorem matches_nil (o : Option Addr) (cap : Nat) (wt hm am hn an hs hu th : Bool) (since unl tm : Int) (tag : ByteArray) (ln : Value) (w : World) :
    Calls Tryz.prog 147 #[.agg #[.bool wt, .bool hm, .bool am, .slice o 0 cap, .bool hn, .bool an, ln, .bool hs, .int .i64 since, .bool hu, .int .i64 unl, .bool th, .string tag, .int .i64 tm]] w
      fun e w' => e = .returned (.bool (th && (am || false))) ∧ Below w.heap.size w w' := by
  cases th
  · go_enter Tryz.func147, Tryz.ntmps147
    go_wp2
    go_ret
    exact ⟨rfl, (Below.refl _ _).alloc (Nat.le_refl _) _⟩
  cases am
  rotate_left
  · go_enter Tryz.func147, Tryz.ntmps147
    go_wp2
    go_ret
    exact ⟨rfl, (Below.refl _ _).alloc (Nat.le_refl _) _⟩
  go_enter Tryz.func147, Tryz.ntmps147
  go_wp2
  go_loopw [15] (fun i wr => i = .int .i64 0 ∧ Below w.heap.size w wr) (fun _ _ => 0)
  case atStart => exact ⟨rfl, (Below.refl _ _).alloc (Nat.le_refl _) _⟩
  case round =>
    obtain ⟨rfl, hb⟩ := hrel
    go_wp2
    go_ret
    exact ⟨rfl, hb⟩
set_option maxHeartbeats 400000 in
theorem excluded_any (wt hm am hn an hs hu th : Bool) (since unl tm : Int) (tag : ByteArray) (lm : Value) (b off n cap : Nat) (W : Nat → Bool) (T : Nat → ByteArray) (w : World) (hn0 : n ≤ maxLen) (ht : TagsAt w b off n W T) :
    Calls Tryz.prog 148 #[.agg #[.bool wt, .bool hm, .bool am, lm, .bool hn, .bool an, .slice (some ⟨b, off, none⟩) n cap, .bool hs, .int .i64 since, .bool hu, .int .i64 unl, .bool th, .string tag, .int .i64 tm]] w
      fun e w' => e = .returned (.bool (th && (an || hits W T tag false n))) ∧ Below w.heap.size w w' := by
  unfold maxLen at hn0
  obtain ⟨h0, h1⟩ := ht
  cases th
  · go_enter Tryz.func148, Tryz.ntmps148
    go_wp2
    go_ret
    exact ⟨rfl, (Below.refl _ _).alloc (Nat.le_refl _) _⟩
  cases an
  rotate_left
  · go_enter Tryz.func148, Tryz.ntmps148
    go_wp2
    go_ret
    exact ⟨rfl, (Below.refl _ _).alloc (Nat.le_refl _) _⟩
  go_enter Tryz.func148, Tryz.ntmps148
  go_wp2
  go_loopw [15] (fun i wr => ∃ k : Nat, k ≤ n ∧ i = .int .i64 k ∧ Hid (hits W T tag false k = false) ∧ Below w.heap.size w wr ∧ wr.cell? ⟨w.heap.size, 12, none⟩ = some (.string tag) ∧ w.heap.size < wr.heap.size) (fun i _ => n - (intOf i).toNat)
  case atStart => exact ⟨0, Nat.zero_le _, rfl, rfl, (Below.refl _ _).alloc (Nat.le_refl _) _, by simp, by simp⟩
  case round =>
    obtain ⟨k, hk, rfl, hh, hb, hc, hz⟩ := hrel
    by_cases hlt : k < n
    · have hbb : b < w.heap.size := cell_lt (h0 k hlt)
      have c0 := (hb.cell (p := ⟨b, off + k * 2, none⟩) hbb).trans (h0 k hlt)
      have c1 := (hb.cell (p := ⟨b, off + k * 2 + 1, none⟩) hbb).trans (h1 k hlt)
      clear h0 h1
      go_wp2
      · go_ret
        exact ⟨ret_bool (by rw [hits_of hlt (by simp_all [hit])]; rfl), hb.alloc (by omega) _⟩
      · exact ⟨⟨k + 1, by omega, by go_num, hits_no hh.out (by simp_all [hit]), hb.alloc (by omega) _, cell_past hz hc, by simp; omega⟩, by simp [intOf]; omega⟩
    · go_wp2
      go_ret
      exact ⟨ret_bool (by rw [show n = k by omega, hh.out]; rfl), hb⟩
set_option maxHeartbeats 400000 in
theorem excluded_nil (o : Option Addr) (cap : Nat) (wt hm am hn an hs hu th : Bool) (since unl tm : Int) (tag : ByteArray) (lm : Value) (w : World) :
    Calls Tryz.prog 148 #[.agg #[.bool wt, .bool hm, .bool am, lm, .bool hn, .bool an, .slice o 0 cap, .bool hs, .int .i64 since, .bool hu, .int .i64 unl, .bool th, .string tag, .int .i64 tm]] w
      fun e w' => e = .returned (.bool (th && (an || false))) ∧ Below w.heap.size w w' := by
  cases th
  · go_enter Tryz.func148, Tryz.ntmps148
    go_wp2
    go_ret
    exact ⟨rfl, (Below.refl _ _).alloc (Nat.le_refl _) _⟩
  cases an
  rotate_left
  · go_enter Tryz.func148, Tryz.ntmps148
    go_wp2
    go_ret
    exact ⟨rfl, (Below.refl _ _).alloc (Nat.le_refl _) _⟩
  go_enter Tryz.func148, Tryz.ntmps148
  go_wp2
  go_loopw [15] (fun i wr => i = .int .i64 0 ∧ Below w.heap.size w wr) (fun _ _ => 0)
  case atStart => exact ⟨rfl, (Below.refl _ _).alloc (Nat.le_refl _) _⟩
  case round =>
    obtain ⟨rfl, hb⟩ := hrel
    go_wp2
    go_ret
    exact ⟨rfl, hb⟩
def ListAt (w : World) (v : Value) (n : Nat) (W : Nat → Bool) (T : Nat → ByteArray) : Prop :=
  n ≤ maxLen ∧ ((∃ o cap, v = .slice o 0 cap ∧ n = 0) ∨ ∃ b off cap, v = .slice (some ⟨b, off, none⟩) n cap ∧ TagsAt w b off n W T)
theorem TagsAt.below {w w' : World} {b off n : Nat} {W : Nat → Bool} {T : Nat → ByteArray} (h : TagsAt w b off n W T) (hb : Below w.heap.size w w') : TagsAt w' b off n W T :=
  ⟨fun i hi => (hb.cell (p := ⟨b, off + i * 2, none⟩) (cell_lt (h.1 i hi))).trans (h.1 i hi), fun i hi => (hb.cell (p := ⟨b, off + i * 2 + 1, none⟩) (cell_lt (h.2 i hi))).trans (h.2 i hi)⟩
theorem ListAt.below {w w' : World} {v : Value} {n : Nat} {W : Nat → Bool} {T : Nat → ByteArray} (h : ListAt w v n W T) (hb : Below w.heap.size w w') : ListAt w' v n W T := by
  refine ⟨h.1, ?_⟩
  rcases h.2 with h0 | ⟨b, off, cap, e, ht⟩
  · exact Or.inl h0
  · exact Or.inr ⟨b, off, cap, e, ht.below hb⟩
def mB (th am : Bool) (W : Nat → Bool) (T : Nat → ByteArray) (tag : ByteArray) (strong : Bool) (n : Nat) : Bool := th && (am || hits W T tag strong n)
theorem matches_l (wt hm am hn an hs hu th : Bool) (since unl tm : Int) (tag : ByteArray) (lm ln : Value) (n : Nat) (W : Nat → Bool) (T : Nat → ByteArray) (w : World) (h : ListAt w lm n W T) :
    Calls Tryz.prog 147 #[.agg #[.bool wt, .bool hm, .bool am, lm, .bool hn, .bool an, ln, .bool hs, .int .i64 since, .bool hu, .int .i64 unl, .bool th, .string tag, .int .i64 tm]] w
      fun e w' => e = .returned (.bool (mB th am W T tag true n)) ∧ Below w.heap.size w w' := by
  obtain ⟨hn0, ⟨o, cap, rfl, rfl⟩ | ⟨b, off, cap, rfl, ht⟩⟩ := h
  · exact matches_nil o cap wt hm am hn an hs hu th since unl tm tag ln w
  · exact matches_any wt hm am hn an hs hu th since unl tm tag ln b off n cap W T w hn0 ht
theorem excluded_l (wt hm am hn an hs hu th : Bool) (since unl tm : Int) (tag : ByteArray) (lm ln : Value) (n : Nat) (W : Nat → Bool) (T : Nat → ByteArray) (w : World) (h : ListAt w ln n W T) :
    Calls Tryz.prog 148 #[.agg #[.bool wt, .bool hm, .bool am, lm, .bool hn, .bool an, ln, .bool hs, .int .i64 since, .bool hu, .int .i64 unl, .bool th, .string tag, .int .i64 tm]] w
      fun e w' => e = .returned (.bool (mB th an W T tag false n)) ∧ Below w.heap.size w w' := by
  obtain ⟨hn0, ⟨o, cap, rfl, rfl⟩ | ⟨b, off, cap, rfl, ht⟩⟩ := h
  · exact excluded_nil o cap wt hm am hn an hs hu th since unl tm tag lm w
  · exact excluded_any wt hm am hn an hs hu th since unl tm tag lm b off n cap W T w hn0 ht
end Go.Proofs.YtmehkneofinmiabGreatDoor.Jd

namespace Go.Proofs.YtmehkneofinmiabGreatDoor.Jd
open Go.RowKit
def jd (wt hm m hn x hs : Bool) (since : Int) (hu : Bool) (unl : Int) (th : Bool) (tm : Int) : Int :=
  if hm && !m then 412 else if !hm && hu && th && decide (unl < tm) then 412 else if hn && x then (if wt then 412 else 304)
  else if !hn && hs && !wt && th && decide (tm ≤ since) then 304 else 0
theorem ret_int {k : IntKind} {a b : Int} (h : a = b) : Ending.returned (.int k a) = .returned (.int k b) := by rw [h]
set_option maxHeartbeats 1000000 in
theorem judge_noM (wt am hn an hs hu th : Bool) (since unl tm : Int) (tag : ByteArray) (lm ln : Value) (n1 n2 : Nat) (W1 W2 : Nat → Bool) (T1 T2 : Nat → ByteArray) (w : World) (h2 : ListAt w ln n2 W2 T2) :
    Calls Tryz.prog 101 #[.agg #[.bool wt, .bool false, .bool am, lm, .bool hn, .bool an, ln, .bool hs, .int .i64 since, .bool hu, .int .i64 unl, .bool th, .string tag, .int .i64 tm]] w
      fun e w' => e = .returned (.int .i64 (jd wt false (mB th am W1 T1 tag true n1) hn (mB th an W2 T2 tag false n2) hs since hu unl th tm)) ∧ Below w.heap.size w w' := by
  go_enter Tryz.func101, Tryz.ntmps101
  go_wp2_with (first | (go_at_call 148; refine (excluded_l _ _ _ _ _ _ _ _ _ _ _ _ _ _ n2 W2 T2 _ (h2.below ((Below.refl _ _).alloc (Nat.le_refl _) _))).mono ?_; rintro e w' ⟨rfl, hb⟩; obtain ⟨hc, hf⟩ := bcell hb))
  all_goals
    go_ret
    refine ⟨ret_int ?_, ?_⟩
    · first | (simp [jd, *]; done) | (simp [jd, *]; omega)
    · first | exact (Below.refl _ _).alloc (Nat.le_refl _) _ | exact ((Below.refl _ _).alloc (Nat.le_refl _) _).trans (hb.mono (by simp))
set_option maxHeartbeats 1000000 in
theorem judge_yesM (wt am hn an hs hu th : Bool) (since unl tm : Int) (tag : ByteArray) (lm ln : Value) (n1 n2 : Nat) (W1 W2 : Nat → Bool) (T1 T2 : Nat → ByteArray) (w : World) (h1 : ListAt w lm n1 W1 T1) (h2 : ListAt w ln n2 W2 T2) :
    Calls Tryz.prog 101 #[.agg #[.bool wt, .bool true, .bool am, lm, .bool hn, .bool an, ln, .bool hs, .int .i64 since, .bool hu, .int .i64 unl, .bool th, .string tag, .int .i64 tm]] w
      fun e w' => e = .returned (.int .i64 (jd wt true (mB th am W1 T1 tag true n1) hn (mB th an W2 T2 tag false n2) hs since hu unl th tm)) ∧ Below w.heap.size w w' := by
  go_enter Tryz.func101, Tryz.ntmps101
  go_wp2_with fail
  refine (matches_l _ _ _ _ _ _ _ _ _ _ _ _ _ _ n1 W1 T1 _ (h1.below ((Below.refl _ _).alloc (Nat.le_refl _) _))).mono ?_
  rintro e w1 ⟨rfl, hb1⟩
  obtain ⟨hc1, hf1⟩ := bcell hb1
  have hz1 : w.heap.size < w1.heap.size := by have := hb1.size; simp at this; omega
  have hb1' := ((Below.refl _ _).alloc (Nat.le_refl w.heap.size) _).trans (hb1.mono (by simp))
  have h2' := h2.below hb1'
  go_wp2_with (first | (go_at_call 148; refine (excluded_l _ _ _ _ _ _ _ _ _ _ _ _ _ _ n2 W2 T2 _ h2').mono ?_; rintro e w' ⟨rfl, hb⟩; obtain ⟨hc, hf⟩ := bcell hb))
  all_goals
    go_ret
    refine ⟨ret_int ?_, ?_⟩
    · first | (simp [jd, *]; done) | (clear hc1 hf1 hb1 hb1' h2'; simp_all [jd]; done) | (clear hc1 hf1 hb1 hb1' h2'; simp_all [jd]; omega)
    · first | exact hb1' | exact hb1'.trans (hb.mono (by omega))
end Go.Proofs.YtmehkneofinmiabGreatDoor.Jd

namespace Go.Proofs.YtmehkneofinmiabGreatDoor.Jd
open Go.RowKit
end Go.Proofs.YtmehkneofinmiabGreatDoor.Jd

namespace Go.Proofs.YtmehkneofinmiabGreatDoor.Jd
open Go.RowKit
end Go.Proofs.YtmehkneofinmiabGreatDoor.Jd

namespace Go.Proofs.YtmehkneofinmiabGreatDoor.Jd
open Go.RowKit
end Go.Proofs.YtmehkneofinmiabGreatDoor.Jd

namespace Go.Proofs.YtmehkneofinmiabGreatDoor.Jd
open Go.RowKit
theorem judge_l (wt hm am hn an hs hu th : Bool) (since unl tm : Int) (tag : ByteArray) (lm ln : Value) (n1 n2 : Nat) (W1 W2 : Nat → Bool) (T1 T2 : Nat → ByteArray) (w : World) (h1 : ListAt w lm n1 W1 T1) (h2 : ListAt w ln n2 W2 T2) :
    Calls Tryz.prog 101 #[.agg #[.bool wt, .bool hm, .bool am, lm, .bool hn, .bool an, ln, .bool hs, .int .i64 since, .bool hu, .int .i64 unl, .bool th, .string tag, .int .i64 tm]] w
      fun e w' => e = .returned (.int .i64 (jd wt hm (mB th am W1 T1 tag true n1) hn (mB th an W2 T2 tag false n2) hs since hu unl th tm)) ∧ Below w.heap.size w w' := by
  cases hm
  · exact judge_noM wt am hn an hs hu th since unl tm tag lm ln n1 n2 W1 W2 T1 T2 w h2
  · exact judge_yesM wt am hn an hs hu th since unl tm tag lm ln n1 n2 W1 W2 T1 T2 w h1 h2
end Go.Proofs.YtmehkneofinmiabGreatDoor.Jd

namespace Go.Proofs.YtmehkneofinmiabGreatDoor
open Go.RowKit
theorem hiAsk : (Tryz.prog.info? 73).map (·.size) = some 14 := by kernel_rfl
abbrev askA (wt : Bool) (c : Cst) : Array Value := #[.bool wt, .bool c.hm, .bool c.am, c.lm, .bool c.hn, .bool c.an, c.ln, .bool c.hs, .int .i64 c.si, .bool c.hu, .int .i64 c.ul, .bool false, .string ⟨#[]⟩, .int .i64 0]
set_option maxRecDepth 100000 in
set_option maxHeartbeats 4000000 in
theorem weigh_no (wt : Bool) (c : Cst) (v : Ver) (n1 n2 : Nat) (W1 W2 : Nat → Bool) (T1 T2 : Nat → ByteArray) (w : World) (h1 : Jd.ListAt w c.lm n1 W1 T1) (h2 : Jd.ListAt w c.ln n2 W2 T2) (e1 : ∃ a n m, c.lm = .slice a n m) (e2 : ∃ a n m, c.ln = .slice a n m) :
    Calls Tryz.prog 68 #[.agg (askA wt c), verAgg v, .bool false] w fun e w' => e = .returned (.int .i64 (Jd.jd wt c.hm (Jd.mB false c.am W1 T1 ⟨#[]⟩ true n1) c.hn (Jd.mB false c.an W2 T2 ⟨#[]⟩ false n2) c.hs c.si c.hu c.ul false 0)) ∧ Below w.heap.size w w' := by
  obtain ⟨a1, m1, p1, e1⟩ := e1
  obtain ⟨a2, m2, p2, e2⟩ := e2
  have H1 : Hid _ := h1
  have H2 : Hid _ := h2
  clear h1 h2
  unfold askA verAgg
  rw [e1, e2]
  go_enter Tryz.func68, Tryz.ntmps68
  go_wp2_with fail
  have hal : Below w.heap.size w ((w.alloc (.cells #[.bool wt, .bool c.hm, .bool c.am, .slice a1 m1 p1, .bool c.hn, .bool c.an, .slice a2 m2 p2, .bool c.hs, .int .i64 c.si, .bool c.hu, .int .i64 c.ul, .bool false, .string ⟨#[]⟩, .int .i64 0] 73)).alloc (.cells #[.int .i64 v.num, .int .i64 v.time, .bool v.mark, .string ⟨v.body.toArray⟩] 147)) := ((Below.refl _ _).alloc (Nat.le_refl _) _).alloc (by simp) _
  have H1' : Jd.ListAt ((w.alloc (.cells #[.bool wt, .bool c.hm, .bool c.am, .slice a1 m1 p1, .bool c.hn, .bool c.an, .slice a2 m2 p2, .bool c.hs, .int .i64 c.si, .bool c.hu, .int .i64 c.ul, .bool false, .string ⟨#[]⟩, .int .i64 0] 73)).alloc (.cells #[.int .i64 v.num, .int .i64 v.time, .bool v.mark, .string ⟨v.body.toArray⟩] 147)) c.lm n1 W1 T1 := Jd.ListAt.below H1.out hal
  have H2' : Jd.ListAt ((w.alloc (.cells #[.bool wt, .bool c.hm, .bool c.am, .slice a1 m1 p1, .bool c.hn, .bool c.an, .slice a2 m2 p2, .bool c.hs, .int .i64 c.si, .bool c.hu, .int .i64 c.ul, .bool false, .string ⟨#[]⟩, .int .i64 0] 73)).alloc (.cells #[.int .i64 v.num, .int .i64 v.time, .bool v.mark, .string ⟨v.body.toArray⟩] 147)) c.ln n2 W2 T2 := Jd.ListAt.below H2.out hal
  rw [← e1, ← e2] at *
  refine (Jd.judge_l wt c.hm c.am c.hn c.an c.hs c.hu false c.si c.ul 0 ⟨#[]⟩ c.lm c.ln n1 n2 W1 W2 T1 T2 _ H1' H2').mono ?_
  rintro e w1 ⟨rfl, hb1⟩
  have HB : Hid (Below w.heap.size w w1) := hal.trans (hb1.mono (by simp; omega))
  clear hb1 hal H1' H2'
  go_wp2
  go_ret
  exact ⟨rfl, HB.out⟩
set_option maxRecDepth 100000 in
set_option maxHeartbeats 4000000 in
theorem weigh_yes (wt : Bool) (c : Cst) (v : Ver) (n1 n2 : Nat) (W1 W2 : Nat → Bool) (T1 T2 : Nat → ByteArray) (w : World) (h1 : Jd.ListAt w c.lm n1 W1 T1) (h2 : Jd.ListAt w c.ln n2 W2 T2) (e1 : ∃ a n m, c.lm = .slice a n m) (e2 : ∃ a n m, c.ln = .slice a n m) (hT : Tz w) (hb : v.body.length < 1000000) :
    Calls Tryz.prog 68 #[.agg (askA wt c), verAgg v, .bool true] w fun e w' => e = .returned (.int .i64 (Jd.jd wt c.hm (Jd.mB true c.am W1 T1 ⟨(hexN 16 (fnv v.body)).toArray⟩ true n1) c.hn (Jd.mB true c.an W2 T2 ⟨(hexN 16 (fnv v.body)).toArray⟩ false n2) c.hs c.si c.hu c.ul true v.time)) ∧ Below w.heap.size w w' := by
  obtain ⟨tg, htg⟩ : ∃ x, hexN 16 (fnv v.body) = x := ⟨_, rfl⟩
  have HTg : Hid (∀ y, Tz y → Calls Tryz.prog 100 #[.string ⟨v.body.toArray⟩] y fun e w' => e = .returned (.string ⟨tg.toArray⟩) ∧ Below y.heap.size y w') := by
    intro y hy
    have := progTag ⟨v.body.toArray⟩ y (by rw [Lib.size_eq]; simp; omega) hy
    rw [← htg]
    exact this
  rw [htg]
  clear htg
  obtain ⟨a1, m1, p1, e1⟩ := e1
  obtain ⟨a2, m2, p2, e2⟩ := e2
  have H1 : Hid _ := h1
  have H2 : Hid _ := h2
  clear h1 h2
  unfold askA verAgg
  rw [e1, e2]
  go_enter Tryz.func68, Tryz.ntmps68
  go_wp2_with fail
  obtain ⟨X, hX⟩ : ∃ X, X = ((w.alloc (.cells #[.bool wt, .bool c.hm, .bool c.am, .slice a1 m1 p1, .bool c.hn, .bool c.an, .slice a2 m2 p2, .bool c.hs, .int .i64 c.si, .bool c.hu, .int .i64 c.ul, .bool false, .string ⟨#[]⟩, .int .i64 0] 73)).alloc (.cells #[.int .i64 v.num, .int .i64 v.time, .bool v.mark, .string ⟨v.body.toArray⟩] 147)) := ⟨_, rfl⟩
  rw [← hX]
  have hal : Below w.heap.size w X := by rw [hX]; exact ((Below.refl _ _).alloc (Nat.le_refl _) _).alloc (by simp) _
  have hA : X.heap[w.heap.size]? = some (.cells #[.bool wt, .bool c.hm, .bool c.am, .slice a1 m1 p1, .bool c.hn, .bool c.an, .slice a2 m2 p2, .bool c.hs, .int .i64 c.si, .bool c.hu, .int .i64 c.ul, .bool false, .string ⟨#[]⟩, .int .i64 0] 73 (0, 0)) := by
    rw [hX]
    exact (heap_alloc_old _ _ (by simp)).trans (heap_alloc_new _ _)
  have hV : X.heap[w.heap.size + 1]? = some (.cells #[.int .i64 v.num, .int .i64 v.time, .bool v.mark, .string ⟨v.body.toArray⟩] 147 (0, 0)) := by
    rw [hX]
    have := heap_alloc_new (w.alloc (.cells #[.bool wt, .bool c.hm, .bool c.am, .slice a1 m1 p1, .bool c.hn, .bool c.an, .slice a2 m2 p2, .bool c.hs, .int .i64 c.si, .bool c.hu, .int .i64 c.ul, .bool false, .string ⟨#[]⟩, .int .i64 0] 73)) (.cells #[.int .i64 v.num, .int .i64 v.time, .bool v.mark, .string ⟨v.body.toArray⟩] 147)
    simpa using this
  have hXl : w.heap.size + 1 < X.heap.size := (Array.getElem?_eq_some_iff.1 hV).1
  clear hX
  have v1 : X.cell? ⟨w.heap.size + 1, 1, none⟩ = some (.int .i64 v.time) := by simp [World.cell?, hV]
  have v3 : X.cell? ⟨w.heap.size + 1, 3, none⟩ = some (.string ⟨v.body.toArray⟩) := by simp [World.cell?, hV]
  have HTX : Hid (Tz X) := hT.below hal
  have HA : Hid _ := hA
  have HV : Hid _ := hV
  have HL : Hid _ := hal
  clear hA hV hal hT
  go_region_held3 (fun y => y.cell? ⟨w.heap.size + 1, 1, none⟩ = some (.int .i64 v.time) ∧ y.cell? ⟨w.heap.size + 1, 3, none⟩ = some (.string ⟨v.body.toArray⟩)) (first | assumption | go_keep) (first
    | (go_at_call 100
       refine (HTg.out X.drew HTX.out).mono ?_
       rintro e w1 ⟨rfl, hb1⟩
       have hA1 : w1.heap[w.heap.size]? = some (.cells #[.bool wt, .bool c.hm, .bool c.am, .slice a1 m1 p1, .bool c.hn, .bool c.an, .slice a2 m2 p2, .bool c.hs, .int .i64 c.si, .bool c.hu, .int .i64 c.ul, .bool false, .string ⟨#[]⟩, .int .i64 0] 73 (0, 0)) := (hb1.block _ (Nat.lt_trans (Nat.lt_succ_self _) hXl)).trans HA.out
       have hS1 : w1.cell? ⟨w.heap.size + 1, 1, none⟩ = some (.int .i64 v.time) ∧ w1.cell? ⟨w.heap.size + 1, 3, none⟩ = some (.string ⟨v.body.toArray⟩) := ⟨(hb1.cell (p := ⟨w.heap.size + 1, 1, none⟩) hXl).trans v1, (hb1.cell (p := ⟨w.heap.size + 1, 3, none⟩) hXl).trans v3⟩
       have d1 : w1.cell? ⟨w.heap.size, 11, none⟩ = some (.bool false) := (by simp [World.cell?, hA1])
       have d2 : w1.cell? ⟨w.heap.size, 12, none⟩ = some (.string ⟨#[]⟩) := (by simp [World.cell?, hA1])
       have d3 : w1.cell? ⟨w.heap.size, 13, none⟩ = some (.int .i64 0) := (by simp [World.cell?, hA1])
       have f1 : w1.frozen? ⟨w.heap.size, 11, none⟩ = false := (by simp [World.frozen?, hA1])
       have f2 : w1.frozen? ⟨w.heap.size, 12, none⟩ = false := (by simp [World.frozen?, hA1])
       have f3 : w1.frozen? ⟨w.heap.size, 13, none⟩ = false := (by simp [World.frozen?, hA1])
       have HA1 : Hid _ := hA1
       have HB1 : Hid _ := hb1
       clear hA1 hb1))
  obtain ⟨Y, hY⟩ : ∃ Y, Y = ((w1.setCell ⟨w.heap.size, 11, none⟩ (.bool true)).setCell ⟨w.heap.size, 12, none⟩ (.string ⟨tg.toArray⟩)).setCell ⟨w.heap.size, 13, none⟩ (.int .i64 v.time) := ⟨_, rfl⟩
  rw [← hY]
  have hYA : Y.heap[w.heap.size]? = some (.cells #[.bool wt, .bool c.hm, .bool c.am, .slice a1 m1 p1, .bool c.hn, .bool c.an, .slice a2 m2 p2, .bool c.hs, .int .i64 c.si, .bool c.hu, .int .i64 c.ul, .bool true, .string ⟨tg.toArray⟩, .int .i64 v.time] 73 (0, 0)) := by
    rw [hY, heap_set (heap_set (heap_set HA1.out))]
    rfl
  have hb1 : Below X.heap.size X w1 := ⟨HB1.out.os, HB1.out.tape, HB1.out.output, HB1.out.size, HB1.out.block⟩
  have HBY : Hid (Below w.heap.size w Y) := by
    rw [hY]
    exact (((HL.out.trans (hb1.mono HL.out.size)).setCell (p := ⟨w.heap.size, 11, none⟩) (Nat.le_refl _) _).setCell (p := ⟨w.heap.size, 12, none⟩) (Nat.le_refl _) _).setCell (p := ⟨w.heap.size, 13, none⟩) (Nat.le_refl _) _
  have hl1 : Jd.ListAt Y c.lm n1 W1 T1 := Jd.ListAt.below H1.out HBY.out
  have hl2 : Jd.ListAt Y c.ln n2 W2 T2 := Jd.ListAt.below H2.out HBY.out
  have HYA : Hid _ := hYA
  have HL1 : Hid (Jd.ListAt Y c.lm n1 W1 T1) := hl1
  have HL2 : Hid (Jd.ListAt Y c.ln n2 W2 T2) := hl2
  clear hY hYA hb1 hl1 hl2 d1 d2 d3 f1 f2 f3 hS1
  go_wp2_with (refine wpList_load_row rfl 73 (.tmp 3) rfl w.heap.size rfl 73 #[.bool wt, .bool c.hm, .bool c.am, .slice a1 m1 p1, .bool c.hn, .bool c.an, .slice a2 m2 p2, .bool c.hs, .int .i64 c.si, .bool c.hu, .int .i64 c.ul, .bool true, .string ⟨tg.toArray⟩, .int .i64 v.time] (0, 0) _ HYA.out Tryz.underlying73 rfl hiAsk ?_)
  rw [← e1, ← e2]
  refine (Jd.judge_l wt c.hm c.am c.hn c.an c.hs c.hu true c.si c.ul v.time ⟨tg.toArray⟩ c.lm c.ln n1 n2 W1 W2 T1 T2 _ HL1.out HL2.out).mono ?_
  rintro e w2 ⟨rfl, hb2⟩
  have HB2 : Hid (Below w.heap.size w w2) := HBY.out.trans (hb2.mono HBY.out.size)
  clear hb2
  go_wp2
  go_ret
  exact ⟨rfl, HB2.out⟩
end Go.Proofs.YtmehkneofinmiabGreatDoor

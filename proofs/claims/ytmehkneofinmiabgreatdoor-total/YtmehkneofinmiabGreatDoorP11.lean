/-
  Texts of this proof, part 11.
-/
import Derived.Test.YtmehkneofinmiabGreatDoorP10
import Derived.Laws.Rows
namespace Go.Proofs.YtmehkneofinmiabGreatDoor
open Go.RowKit
set_option maxRecDepth 100000 in
set_option maxHeartbeats 1000000 in
theorem putsKey_any (m tk : Nat) (key : ByteArray) (tn : Nat) (wr hm am : Bool) (b1 : Option Addr) (n1 p1 : Nat) (hn an : Bool) (b2 : Option Addr) (n2 p2 : Nat) (hs : Bool) (si : Int) (hu : Bool) (ul : Int) (body : ByteArray) (w : World) :
    Calls Tryz.prog 48 #[.agg #[.int .i64 (m : Int), .int .i64 (tk : Int), .string key, .int .i64 (tn : Int), .bool wr, .bool hm, .bool am, .slice b1 n1 p1, .bool hn, .bool an, .slice b2 n2 p2, .bool hs, .int .i64 si, .bool hu, .int .i64 ul, .bool false, .string ⟨#[]⟩, .int .i64 0, .string body]] w fun e w' => e = .returned (.bool (m == 2 && tk == 1)) ∧ Below w.heap.size w w' := by
  have hal : ∀ o, Below w.heap.size w (w.alloc o) := fun o => (Below.refl _ _).alloc (Nat.le_refl _) o
  by_cases h2 : m = 2
  · subst h2
    by_cases h1 : tk = 1
    · subst h1
      go_enter Tryz.func48, Tryz.ntmps48
      go_wp2_with fail
      go_ret
      exact ⟨rfl, hal _⟩
    · have m1 : ((tk : Int) == 1) = false := by simp; omega
      have HW : Hid ((tk == 1) = false) := by show _ = _; simp [h1]
      go_enter Tryz.func48, Tryz.ntmps48
      go_wp2_with fail
      go_ret
      exact ⟨by rw [HW.out]; rfl, hal _⟩
  · have m2 : ((m : Int) == 2) = false := by simp; omega
    have HW : Hid ((m == 2) = false) := by show _ = _; simp [h2]
    go_enter Tryz.func48, Tryz.ntmps48
    go_wp2_with fail
    go_ret
    exact ⟨by rw [HW.out]; rfl, hal _⟩
def fitsF (m tk : Nat) : Bool := if m = 0 then true else if m = 2 then tk == 1 else tk == 1 || tk == 2
set_option maxRecDepth 100000 in
set_option maxHeartbeats 1000000 in
theorem methodFits_any (m tk : Nat) (key : ByteArray) (tn : Nat) (wr hm am : Bool) (b1 : Option Addr) (n1 p1 : Nat) (hn an : Bool) (b2 : Option Addr) (n2 p2 : Nat) (hs : Bool) (si : Int) (hu : Bool) (ul : Int) (body : ByteArray) (w : World) :
    Calls Tryz.prog 49 #[.agg #[.int .i64 (m : Int), .int .i64 (tk : Int), .string key, .int .i64 (tn : Int), .bool wr, .bool hm, .bool am, .slice b1 n1 p1, .bool hn, .bool an, .slice b2 n2 p2, .bool hs, .int .i64 si, .bool hu, .int .i64 ul, .bool false, .string ⟨#[]⟩, .int .i64 0, .string body]] w fun e w' => e = .returned (.bool (fitsF m tk)) ∧ Below w.heap.size w w' := by
  have hal : ∀ o, Below w.heap.size w (w.alloc o) := fun o => (Below.refl _ _).alloc (Nat.le_refl _) o
  by_cases h0 : m = 0
  · subst h0
    go_enter Tryz.func49, Tryz.ntmps49
    go_wp2_with fail
    go_ret
    exact ⟨rfl, hal _⟩
  · have m0 : ((m : Int) == 0) = false := by simp; omega
    by_cases h2 : m = 2
    · have m2 : ((m : Int) == 2) = true := by simp; omega
      have HF : Hid (fitsF m tk = (m == 2 && tk == 1)) := by show _ = _; simp [fitsF, h2]
      clear h0 h2
      go_enter Tryz.func49, Tryz.ntmps49
      go_wp2_with (refine wpList_load_row rfl 75 (.tmp 1) rfl w.heap.size rfl 75 #[.int .i64 (m : Int), .int .i64 (tk : Int), .string key, .int .i64 (tn : Int), .bool wr, .bool hm, .bool am, .slice b1 n1 p1, .bool hn, .bool an, .slice b2 n2 p2, .bool hs, .int .i64 si, .bool hu, .int .i64 ul, .bool false, .string ⟨#[]⟩, .int .i64 0, .string body] (0, 0) _ (heap_alloc_last _ _) Tryz.underlying75 rfl hi77 ?_)
      refine (putsKey_any m tk key tn wr hm am b1 n1 p1 hn an b2 n2 p2 hs si hu ul body _).mono ?_
      rintro e w1 ⟨rfl, hb⟩
      have hb' := (hal _).trans (hb.mono (by rw [World.size_alloc]; omega))
      clear hb
      rw [← HF.out]
      go_wp2_with fail
      go_ret
      exact ⟨rfl, hb'⟩
    · have m2 : ((m : Int) == 2) = false := by simp; omega
      by_cases h1 : tk = 1
      · subst h1
        have HF : Hid (fitsF m 1 = true) := by show _ = _; simp [fitsF, h0, h2]
        clear h0 h2
        go_enter Tryz.func49, Tryz.ntmps49
        go_wp2_with fail
        go_ret
        exact ⟨by rw [HF.out]; rfl, hal _⟩
      · have t1 : ((tk : Int) == 1) = false := by simp; omega
        by_cases h3 : tk = 2
        · subst h3
          have HF : Hid (fitsF m 2 = true) := by show _ = _; simp [fitsF, h0, h2]
          clear h0 h2
          go_enter Tryz.func49, Tryz.ntmps49
          go_wp2_with fail
          go_ret
          exact ⟨by rw [HF.out]; rfl, hal _⟩
        · have t2 : ((tk : Int) == 2) = false := by simp; omega
          have HF : Hid (fitsF m tk = false) := by show _ = _; simp [fitsF, h0, h2, h1, h3]
          clear h0 h2 h1 h3
          go_enter Tryz.func49, Tryz.ntmps49
          go_wp2_with fail
          go_ret
          exact ⟨by rw [HF.out]; rfl, hal _⟩
end Go.Proofs.YtmehkneofinmiabGreatDoor

/-
  Walks of 'some' and 'sameTags' over lists of tags in memory.
-/
import Derived.Test.YtmehkneofinmiaaRows
import Derived.WalkKit
import Derived.WalkSpells
import Derived.WalkLawsBesides
import Derived.Deep.QuietTactic
import Derived.BigQuiet
namespace Go.Proofs.Ytmehkneofinmiaa
open Go.RowKit

/-- A list of n tags in memory: weak or not by W, texts by T. -/
def TagsAt (w : World) (b off : Nat) (n : Nat) (W : Nat → Bool) (T : Nat → ByteArray) : Prop :=
  (∀ i, i < n → w.cell? ⟨b, off + i * 2, none⟩ = some (.bool (W i))) ∧ ∀ i, i < n → w.cell? ⟨b, off + i * 2 + 1, none⟩ = some (.string (T i))

def hit (W : Nat → Bool) (T : Nat → ByteArray) (t : ByteArray) (strong : Bool) (i : Nat) : Bool := decide ((T i).toList = t.toList) && !(strong && W i)
def hits (W : Nat → Bool) (T : Nat → ByteArray) (t : ByteArray) (strong : Bool) : Nat → Bool
  | 0 => false
  | n + 1 => hits W T t strong n || hit W T t strong n

theorem hits_of {W : Nat → Bool} {T : Nat → ByteArray} {t : ByteArray} {s : Bool} {k n : Nat} (hk : k < n) (h : hit W T t s k = true) : hits W T t s n = true := by
  induction n with
  | zero => omega
  | succ n ih =>
    by_cases e : k = n
    · subst e; simp [hits, h]
    · simp [hits, ih (by omega)]
theorem hits_no {W : Nat → Bool} {T : Nat → ByteArray} {t : ByteArray} {s : Bool} {k : Nat} (hh : hits W T t s k = false) (h : hit W T t s k = false) : hits W T t s (k + 1) = false := by
  simp [hits, hh, h]
theorem ret_bool {a b : Bool} (h : a = b) : Ending.returned (.bool a) = .returned (.bool b) := by rw [h]

set_option maxHeartbeats 400000 in
theorem some_any (b off n cap : Nat) (W : Nat → Bool) (T : Nat → ByteArray) (t : ByteArray) (strong : Bool) (w : World) (hn : n ≤ maxLen) (ht : TagsAt w b off n W T) :
    Calls Try.prog 10 #[.slice (some ⟨b, off, none⟩) n cap, .string t, .bool strong] w fun e w' => e = .returned (.bool (hits W T t strong n)) ∧ w' = w := by
  unfold maxLen at hn
  obtain ⟨h0, h1⟩ := ht
  go_enter Try.func10, Try.ntmps10
  go_wp2
  go_loop [7] (fun i => ∃ k : Nat, k ≤ n ∧ i = .int .i64 k ∧ Hid (hits W T t strong k = false)) (fun i => n - (intOf i).toNat)
  case atStart => exact ⟨0, Nat.zero_le _, rfl, rfl⟩
  case round =>
    obtain ⟨k, hk, rfl, hh⟩ := hrel
    by_cases hlt : k < n
    · have c0 := h0 k hlt
      have c1 := h1 k hlt
      clear h0 h1
      go_wp2
      · go_ret
        exact ⟨ret_bool (hits_of hlt (by simp_all [hit])).symm, rfl⟩
      · exact ⟨⟨k + 1, by omega, by omega, hits_no (by have := hh.out; simp_all) (by simp_all [hit])⟩, by simp [intOf]; omega⟩
      · go_ret
        exact ⟨ret_bool (hits_of hlt (by simp_all [hit])).symm, rfl⟩
      · exact ⟨⟨k + 1, by omega, by go_num, hits_no hh.out (by simp_all [hit])⟩, by simp [intOf]; omega⟩
    · go_wp2
      go_ret
      exact ⟨ret_bool (by rw [show n = k by omega, hh.out]), rfl⟩

theorem some_nil (o : Option Addr) (cap : Nat) (t : ByteArray) (strong : Bool) (w : World) :
    Calls Try.prog 10 #[.slice o 0 cap, .string t, .bool strong] w fun e w' => e = .returned (.bool false) ∧ w' = w := by
  go_enter Try.func10, Try.ntmps10
  go_wp2
  go_loop [7] (fun i => i = .int .i64 0) (fun _ => 0)
  case atStart => rfl
  case round =>
    subst hrel
    go_wp2
    go_ret
    exact ⟨rfl, rfl⟩

set_option maxHeartbeats 400000 in
theorem same_any (b off cap b' off' cap' n : Nat) (W : Nat → Bool) (T : Nat → ByteArray) (w : World) (hn : n ≤ maxLen) (ht : TagsAt w b off n W T) (ht' : TagsAt w b' off' n W T) :
    Calls Try.prog 11 #[.slice (some ⟨b, off, none⟩) n cap, .slice (some ⟨b', off', none⟩) n cap'] w fun e w' => e = .returned (.bool true) ∧ ∃ q, w' = w.drewN q := by
  unfold maxLen at hn
  obtain ⟨h0, h1⟩ := ht
  obtain ⟨g0, g1⟩ := ht'
  go_enter Try.func11, Try.ntmps11
  go_wp2
  go_loopw [5] (fun i wr => ∃ k : Nat, k ≤ n ∧ i = .int .i64 k ∧ ∃ q, wr = w.drewN q) (fun i _ => n - (intOf i).toNat)
  case atStart => exact ⟨0, Nat.zero_le _, rfl, 0, rfl⟩
  case round =>
    obtain ⟨k, hk, rfl, q, rfl⟩ := hrel
    by_cases hlt : k < n
    · have c0 := h0 k hlt
      have c1 := h1 k hlt
      have d0 := g0 k hlt
      have d1 := g1 k hlt
      clear h0 h1 g0 g1
      cases hW : W k
      all_goals
        rw [hW] at c0 d0
        go_wp2
        go_quiet (fail)
        go_wp2
        exact ⟨⟨k + 1, by omega, by go_num, q + nq, rfl⟩, by simp [intOf]; omega⟩
    · go_wp2
      go_ret
      exact ⟨rfl, q, rfl⟩

theorem same_zero (o o' : Option Addr) (cap cap' : Nat) (w : World) :
    Calls Try.prog 11 #[.slice o 0 cap, .slice o' 0 cap'] w fun e w' => e = .returned (.bool true) ∧ w' = w := by
  go_enter Try.func11, Try.ntmps11
  go_wp2
  go_loop [5] (fun i => i = .int .i64 0) (fun _ => 0)
  case atStart => rfl
  case round =>
    subst hrel
    go_wp2
    go_ret
    exact ⟨rfl, rfl⟩
end Go.Proofs.Ytmehkneofinmiaa

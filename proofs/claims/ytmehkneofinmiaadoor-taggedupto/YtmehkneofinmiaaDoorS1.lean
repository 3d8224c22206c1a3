/-
  Tagged: both readings of a text give the same; the walk of sameTags.
-/
import Derived.Test.YtmehkneofinmiaaDoorU5
import Derived.Test.YtmehkneofinmiaaDoorH3
import Derived.Test.YtmehkneofinmiaaDoorH5
namespace Go.Proofs.YtmehkneofinmiaaDoor
open Go.RowKit

/-- what a reading gives, whoever reads -/
def TagsOut (f : FuncId) (s : ByteArray) (any fine : Bool) (a : TagL) (w : World) : Prop :=
  Calls Tryd.prog f #[.string s] w fun e w' => Below w.heap.size w w' ∧ ∃ v, e = .returned (.tuple #[.agg #[.bool any, v], .bool fine]) ∧ w'.ownsRow (w.heap.size + 1) 33 2 v a.length (cellsT a)
theorem post_out {f : FuncId} {s : ByteArray} {l : List UInt8} {any fine : Bool} {a : TagL} {w : World} (h : Calls Tryd.prog f #[.string s] w (TagsPost l w))
    (hc : (l = [42] ∧ any = true ∧ fine = true ∧ a = []) ∨ (l ≠ [42] ∧ any = false ∧ ((tagsF (l.length + 1) l = none ∧ fine = false ∧ a = []) ∨ (tagsF (l.length + 1) l = some a ∧ fine = true)))) : TagsOut f s any fine a w := by
  refine h.mono ?_
  rintro e w' ⟨hb, ⟨hl, rfl⟩ | ⟨hl, ⟨hn, rfl⟩ | ⟨b, v, hs, rfl, ho⟩⟩⟩
  · rcases hc with ⟨_, rfl, rfl, rfl⟩ | ⟨h0, _⟩
    · exact ⟨hb, _, rfl, rfl, Or.inl ⟨rfl, rfl⟩⟩
    · exact absurd hl h0
  · rcases hc with ⟨h0, _⟩ | ⟨_, rfl, ⟨_, rfl, rfl⟩ | ⟨h1, _⟩⟩
    · exact absurd h0 hl
    · exact ⟨hb, _, rfl, rfl, Or.inl ⟨rfl, rfl⟩⟩
    · rw [hn] at h1
      cases h1
  · rcases hc with ⟨h0, _⟩ | ⟨_, rfl, ⟨h1, _⟩ | ⟨h1, rfl⟩⟩
    · exact absurd h0 hl
    · rw [hs] at h1
      cases h1
    · rw [hs] at h1
      cases h1
      exact ⟨hb, v, rfl, ho⟩
theorem tags_same (s : ByteArray) (hs : s.size ≤ 67108864) : ∃ any fine a, (∀ w, MaxIs w → TagsOut 12 s any fine a w) ∧ ∀ w, TagsOut 11 s any fine a w := by
  have hl : ((⟨(Lib.trimS s.data.toList [32, 9]).toArray⟩ : ByteArray)).size ≤ s.size := by
    rw [Lib.size_eq, Lib.size_eq]
    exact trimS_le _
  have h1 := fun w hM => tags_any s (Lib.trimS s.data.toList [32, 9]) w hM rfl hs (by rw [Lib.size_eq]; exact trimS_le _)
  have h2 := fun w => refTags_any s ⟨(Lib.trimS s.data.toList [32, 9]).toArray⟩ w rfl hs (by omega)
  generalize Lib.trimS s.data.toList [32, 9] = l at h1 h2
  by_cases hc : l = [42]
  · exact ⟨true, true, [], fun w hM => post_out (h1 w hM) (Or.inl ⟨hc, rfl, rfl, rfl⟩), fun w => post_out (h2 w) (Or.inl ⟨hc, rfl, rfl, rfl⟩)⟩
  · cases ht : tagsF (l.length + 1) l with
    | none => exact ⟨false, false, [], fun w hM => post_out (h1 w hM) (Or.inr ⟨hc, rfl, Or.inl ⟨ht, rfl, rfl⟩⟩), fun w => post_out (h2 w) (Or.inr ⟨hc, rfl, Or.inl ⟨ht, rfl, rfl⟩⟩)⟩
    | some a => exact ⟨false, true, a, fun w hM => post_out (h1 w hM) (Or.inr ⟨hc, rfl, Or.inr ⟨ht, rfl⟩⟩), fun w => post_out (h2 w) (Or.inr ⟨hc, rfl, Or.inr ⟨ht, rfl⟩⟩)⟩

/-- a row of tags as it lies -/
def RowIs (x : World) (k n : Nat) (W : Nat → Bool) (T : Nat → ByteArray) : Prop := ∀ j, j < n → x.cell? ⟨k, j * 2, none⟩ = some (.bool (W j)) ∧ x.cell? ⟨k, j * 2 + 1, none⟩ = some (.string (T j))

set_option maxHeartbeats 1000000 in
theorem sameTags_yes (oa ob : Option Addr) (n ca cb ka kb : Nat) (W : Nat → Bool) (T : Nat → ByteArray) (w : World) (hn : n ≤ 9223372036854775807) (ha : 0 < n → oa = some ⟨ka, 0, none⟩) (hb : 0 < n → ob = some ⟨kb, 0, none⟩) (ra : RowIs w ka n W T) (rb : RowIs w kb n W T) :
    Calls Tryd.prog 13 #[.slice oa n ca, .slice ob n cb] w fun e w' => e = .returned (.bool true) ∧ ∃ q, w' = w.drewN q := by
  go_enter Tryd.func13, Tryd.ntmps13
  go_wp2
  go_loopw [5] (fun i wr => ∃ (k q : Nat), k ≤ n ∧ i = .int .i64 k ∧ wr = w.drewN q) (fun i _ => n - (intOf i).toNat)
  case atStart => exact ⟨0, 0, Nat.zero_le _, rfl, rfl⟩
  case round =>
    obtain ⟨k, q, hk, rfl, hq⟩ := hrel
    by_cases hlt : k < n
    · obtain rfl := ha (by omega)
      obtain rfl := hb (by omega)
      obtain ⟨c1, c2⟩ := ra k hlt
      obtain ⟨c3, c4⟩ := rb k hlt
      have d1 : wr.cell? ⟨ka, k * 2, none⟩ = some (.bool (W k)) := by rw [hq]; exact c1
      have d2 : wr.cell? ⟨ka, k * 2 + 1, none⟩ = some (.string (T k)) := by rw [hq]; exact c2
      have d3 : wr.cell? ⟨kb, k * 2, none⟩ = some (.bool (W k)) := by rw [hq]; exact c3
      have d4 : wr.cell? ⟨kb, k * 2 + 1, none⟩ = some (.string (T k)) := by rw [hq]; exact c4
      have HQ : Hid _ := hq
      clear c1 c2 c3 c4 hq
      obtain ⟨S, hS⟩ : ∃ S, T k = S := ⟨_, rfl⟩
      obtain ⟨b, hbb⟩ : ∃ b, W k = b := ⟨_, rfl⟩
      rw [hS] at d2 d4
      rw [hbb] at d1 d3
      have ks : (S.toList != S.toList) = false := by simp
      have ks' : (S.toList == S.toList) = true := by simp
      have kb1 : (b != b) = false := by simp
      have kb2 : (b == b) = true := by simp
      cases b with
      | false =>
        go_wp2
        go_quiet (fail)
        obtain ⟨wz, hwz⟩ : ∃ wz, wz = wr.drewN nq := ⟨_, rfl⟩
        have HZ : Hid (wz = w.drewN (q + nq)) := by show wz = _; rw [hwz, HQ.out, World.drewN_drewN]
        rw [← hwz]
        clear hwz d1 d2 d3 d4
        go_wp2
        exact ⟨⟨k + 1, q + nq, by omega, by go_num, HZ.out⟩, by simp [intOf]; omega⟩
      | true =>
        go_wp2
        go_quiet (fail)
        obtain ⟨wz, hwz⟩ : ∃ wz, wz = wr.drewN nq := ⟨_, rfl⟩
        have HZ : Hid (wz = w.drewN (q + nq)) := by show wz = _; rw [hwz, HQ.out, World.drewN_drewN]
        rw [← hwz]
        clear hwz d1 d2 d3 d4
        go_wp2
        exact ⟨⟨k + 1, q + nq, by omega, by go_num, HZ.out⟩, by simp [intOf]; omega⟩
    · have HQ : Hid _ := hq
      clear hq
      go_wp2
      go_ret
      exact ⟨rfl, q, HQ.out⟩
end Go.Proofs.YtmehkneofinmiaaDoor

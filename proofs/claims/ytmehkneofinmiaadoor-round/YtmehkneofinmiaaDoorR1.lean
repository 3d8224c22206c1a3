/-
  Round: pick; what a day more does to a date; Date and Stamp as one needs them there.
-/
import Derived.Test.YtmehkneofinmiaaDoorD10
import Derived.Lib.ConvBytes
import Derived.Laws.IdiomStrings
namespace Go.Proofs.YtmehkneofinmiaaDoor
open Go.RowKit

def pk (c n : Int) : Int := if c < 0 then (-(c + 1)) % n else c % n
theorem pk_bd (c n : Int) (h : 0 < n) : 0 ≤ pk c n ∧ pk c n < n := by
  unfold pk
  split
  · exact ⟨Int.emod_nonneg _ (by omega), Int.emod_lt_of_pos _ h⟩
  · exact ⟨Int.emod_nonneg _ (by omega), Int.emod_lt_of_pos _ h⟩

set_option maxHeartbeats 400000 in
theorem pick_any (c n : Int) (w : World) (hc0 : -9223372036854775808 ≤ c) (hc1 : c ≤ 9223372036854775807) (h : 0 < n) (hn : n ≤ 9223372036854775807) :
    Calls Tryd.prog 16 #[.int .i64 c, .int .i64 n] w fun e w' => e = .returned (.int .i64 (pk c n)) ∧ w' = w := by
  by_cases hc : c < 0
  · go_enter Tryd.func16, Tryd.ntmps16
    go_wp2
    go_ret
    refine ⟨ret_int ?_, rfl⟩
    unfold pk
    rw [if_pos hc, ← Int.neg_tmod, Int.tmod_eq_emod_of_nonneg (by omega)]
  · go_enter Tryd.func16, Tryd.ntmps16
    go_wp2
    go_ret
    refine ⟨ret_int ?_, rfl⟩
    unfold pk
    rw [if_neg (by omega)]

theorem week_next : ∀ i : Fin 7, Cal.nm Cal.week i ≠ Cal.nm Cal.week ((i.val + 1) % 7) := by decide

theorem fmt_parts (d y : Int) (m : Nat) (k s : Int) (hm : m < 12) :
    (Cal.fmt d y m k s).take 3 = Cal.nm Cal.week (d % 7).toNat ∧ (Cal.fmt d y m k s).drop 17 = Cal.two (s / 3600) ++ [58] ++ Cal.two (s % 3600 / 60) ++ [58] ++ Cal.two (s % 60) ++ [32, 71, 77, 84] := by
  obtain ⟨c0, c1, c2, hw⟩ := list3 (Cal.len_week ⟨(d % 7).toNat, by omega⟩)
  obtain ⟨m0, m1, m2, hmo⟩ := list3 (Cal.len_months ⟨m, hm⟩)
  simp only at hw hmo
  unfold Cal.fmt
  rw [hw, hmo]
  simp only [Cal.two, Cal.four, List.cons_append, List.nil_append, List.take_succ_cons, List.take_zero, List.drop_succ_cons, List.drop_zero]
  exact ⟨trivial, trivial⟩

/-- A day later: another day of the week, the same time of the day. -/
theorem next_day {n : Int} {l l' : List UInt8} (h0 : 0 ≤ n) (h1 : n + 86400 ≤ 253402300799) (h : Cal.IsStamp n l) (h' : Cal.IsStamp (n + 86400) l') :
    l.length = 29 ∧ l'.length = 29 ∧ l.drop 17 = l'.drop 17 ∧ l.take 3 ≠ l'.take 3 := by
  have e1 := (complete h h0 (by omega)).1
  have e2 := (complete h' (by omega) h1).1
  obtain ⟨y, m, k, sp, rfl⟩ := h
  obtain ⟨y', m', k', sp', rfl⟩ := h'
  obtain ⟨t1, d1⟩ := fmt_parts (n / 86400) y m k (n % 86400) sp.m12
  obtain ⟨t2, d2⟩ := fmt_parts ((n + 86400) / 86400) y' m' k' ((n + 86400) % 86400) sp'.m12
  refine ⟨e1, e2, ?_, ?_⟩
  · rw [d1, d2, show (n + 86400) % 86400 = n % 86400 by omega]
  · rw [t1, t2]
    have := week_next ⟨(n / 86400 % 7).toNat, by omega⟩
    simp only at this
    rwa [show ((n / 86400 % 7).toNat + 1) % 7 = ((n + 86400) / 86400 % 7).toNat by omega] at this

/-- Date tells a number and whether; where it tells one, the text is its date. -/
theorem date_fn (s : ByteArray) : ∃ (n : Int) (ok : Bool), (∀ w, Calls Tryd.prog 7 #[.string s] w fun e w' => e = .returned (.tuple #[.int .i64 n, .bool ok]) ∧ ∃ q, w' = w.drewN q) ∧
    (ok = true → 0 ≤ n ∧ n ≤ 253402300799 ∧ Cal.IsStamp n s.data.toList) := by
  by_cases h : NoStamp s.data.toList
  · refine ⟨0, false, fun w => ?_, fun e => by cases e⟩
    refine (date_any s w).mono ?_
    rintro e w' ⟨⟨sec, a, b, hs, rfl⟩ | ⟨_, rfl⟩, hq⟩
    · exact absurd hs (h sec a b)
    · exact ⟨rfl, hq⟩
  · have h' : ∃ sec : Int, 0 ≤ sec ∧ sec ≤ 253402300799 ∧ Cal.IsStamp sec s.data.toList := by
      apply Classical.byContradiction
      intro hn
      exact h fun sec a b hs => hn ⟨sec, a, b, hs⟩
    obtain ⟨sec, s0, s1, hst⟩ := h'
    refine ⟨sec, true, fun w => ?_, fun _ => ⟨s0, s1, hst⟩⟩
    refine (date_any s w).mono ?_
    rintro e w' ⟨⟨sec', a, b, hs, rfl⟩ | ⟨hn, _⟩, hq⟩
    · obtain rfl := stamp_inj hst hs s0 s1 a b
      exact ⟨rfl, hq⟩
    · exact absurd hst (hn sec s0 s1)
theorem date_of (s : ByteArray) (n : Int) (h0 : 0 ≤ n) (h1 : n ≤ 253402300799) (h : Cal.IsStamp n s.data.toList) (w : World) :
    Calls Tryd.prog 7 #[.string s] w fun e w' => e = .returned (.tuple #[.int .i64 n, .bool true]) ∧ ∃ q, w' = w.drewN q := by
  refine (date_any s w).mono ?_
  rintro e w' ⟨⟨sec', a, b, hs, rfl⟩ | ⟨hn, _⟩, hq⟩
  · obtain rfl := stamp_inj h hs h0 h1 a b
    exact ⟨rfl, hq⟩
  · exact absurd h (hn n h0 h1)
theorem stamp_of (s : ByteArray) (n : Int) (h0 : 0 ≤ n) (h1 : n ≤ 253402300799) (h : Cal.IsStamp n s.data.toList) (w : World) (hT : Tab w) :
    Calls Tryd.prog 9 #[.int .i64 n] w fun e w' => e = .returned (.string s) ∧ Below w.heap.size w w' := by
  refine (stamp_yes n w h0 h1 hT).mono ?_
  rintro e w' ⟨⟨l', hl', rfl⟩, hb⟩
  rw [hl'.uniq h, Lib.mk_data]
  exact ⟨rfl, hb⟩
/-- Every time has a date. -/
theorem stamp_ex (n : Int) (h0 : 0 ≤ n) (h1 : n ≤ 253402300799) (w : World) (hT : Tab w) : ∃ s : ByteArray, Cal.IsStamp n s.data.toList := by
  obtain ⟨e, w', fr, ⟨⟨l, hl, _⟩, _⟩, _⟩ := stamp_yes n w h0 h1 hT []
  exact ⟨⟨l.toArray⟩, by simpa using hl⟩
end Go.Proofs.YtmehkneofinmiaaDoor

/-
  Walks of splitDays, placeOf, readClock, fitsByte.
-/
import Derived.Test.YtmehkneofinmiaaDoorD2
namespace Go.Proofs.YtmehkneofinmiaaDoor
open Go.RowKit

theorem ret_pair {a b : Int} {c : Bool} (h : a = b) : Ending.returned (.tuple #[.int .i64 a, .bool c]) = .returned (.tuple #[.int .i64 b, .bool c]) := by rw [h]
theorem guess (d : Int) (h : 0 ≤ d) : Cal.ahead (1970 + d / 366) ≤ d := by unfold Cal.ahead Cal.lya; omega
theorem ahead_bd (y : Int) (h0 : 1970 ≤ y) (h1 : y ≤ 10000) : 0 ≤ Cal.ahead y ∧ Cal.ahead y ≤ 2932897 := by
  have a := Cal.ahead_mono h0
  have b := Cal.ahead_mono h1
  rw [Cal.ahead_1970] at a
  rw [Cal.ahead_10000] at b
  exact ⟨a, b⟩
theorem cum_bd (y : Int) (m : Nat) (h : m ≤ 12) : 0 ≤ Cal.cum y m ∧ Cal.cum y m ≤ 366 := by
  have a := Cal.cum_nonneg y m
  have b := Cal.cum_le y h
  rw [Cal.cum_12] at b
  have c := Cal.ylen_bd y
  omega

set_option maxHeartbeats 1000000 in
theorem split_any (d : Int) (w : World) (h0 : 0 ≤ d) (h1 : d ≤ 2932896) :
    Calls Tryd.prog 24 #[.int .i64 d] w fun e w' => (∃ (y : Int) (m : Nat) (k : Int), Cal.Sp d y m k ∧ e = .returned (.tuple #[.int .i64 y, .int .i64 m, .int .i64 (k + 1)])) ∧ w' = w := by
  have g := guess d h0
  go_enter Tryd.func24, Tryd.ntmps24
  go_wp2
  go_loop [2] (fun t => ∃ y : Int, 1970 ≤ y ∧ y ≤ 9999 ∧ Cal.ahead y ≤ d ∧ t = .int .i64 y) (fun t => (10000 - intOf t).toNat)
  case atStart => exact ⟨_, by omega, by omega, g, rfl⟩
  case round =>
    obtain ⟨y, hy0, hy1, hy2, rfl⟩ := hrel
    have ab := ahead_bd y hy0 (by omega)
    by_cases hc : Cal.ahead (y + 1) ≤ d
    · have hy : y + 1 ≤ 9999 := by
        by_cases e : y = 9999
        · subst e; have := Cal.ahead_10000; rw [show (9999 : Int) + 1 = 10000 by rfl] at hc; omega
        · omega
      go_wp2_with (go_at_call 38; refine (ahead_any _ _ (by omega) (by omega)).mono ?_; rintro e w' ⟨rfl, rfl⟩)
      go_round
      case rel => exact ⟨y + 1, by omega, by omega, hc, rfl⟩
      case measure => simp [intOf]; omega
    · have hsucc := Cal.ahead_succ y
      have hyl := Cal.ylen_bd y
      clear g
      go_wp2_with (go_at_call 38; refine (ahead_any _ _ (by omega) (by omega)).mono ?_; rintro e w' ⟨rfl, rfl⟩)
      go_loop [3, 5] (fun mo r => ∃ m : Nat, m < 12 ∧ mo = .int .i64 m ∧ 0 ≤ d - Cal.ahead y - Cal.cum y m ∧ r = .int .i64 (d - Cal.ahead y - Cal.cum y m)) (fun mo _ => (12 - intOf mo).toNat)
      case atStart => exact ⟨0, by omega, rfl, by simp [Cal.cum]; omega, by simp [Cal.cum]⟩
      case round =>
        obtain ⟨m, hm, rfl, hr, rfl⟩ := hrel
        have mb := Cal.ml_bd y m
        have cb := cum_bd y m (by omega)
        have cs : Hid (Cal.cum y (m + 1) = Cal.cum y m + Cal.ml y m) := rfl
        by_cases hl : Cal.ml y m ≤ d - Cal.ahead y - Cal.cum y m
        · have hm11 : m + 1 < 12 := by
            by_cases e : m = 11
            · subst e; have := Cal.cum_12 y; have h12 : Cal.cum y 12 = Cal.cum y 11 + Cal.ml y (11 : Nat) := rfl; omega
            · omega
          clear hc hsucc hyl
          go_wp2_with (go_at_call 37; refine (monthDays_any _ _ _ (by omega) (by omega)).mono ?_; rintro e w' ⟨rfl, rfl⟩)
          go_round
          case rel => exact ⟨m + 1, hm11, by go_num, by rw [cs.out]; omega, by rw [cs.out]; go_num⟩
          case measure => simp [intOf]; omega
        · have sp : Cal.Sp d y m (d - Cal.ahead y - Cal.cum y m) := ⟨hy0, hm, hr, by omega, by omega⟩
          clear hc hsucc hyl
          go_wp2_with (go_at_call 37; refine (monthDays_any _ _ _ (by omega) (by omega)).mono ?_; rintro e w' ⟨rfl, rfl⟩)
          go_ret3
          exact ⟨⟨y, m, _, sp, rfl⟩, rfl⟩

set_option maxHeartbeats 400000 in
theorem placeOf_any (s t : ByteArray) (n : Nat) (w : World) (hs : s.size = 3 * n) (hn : n ≤ 12) :
    Calls Tryd.prog 36 #[.string s, .string t] w fun e w' => ((∃ i : Nat, i < n ∧ Cal.nm s.data.toList i = t.data.toList ∧ e = .returned (.tuple #[.int .i64 i, .bool true])) ∨
      ((∀ i, i < n → Cal.nm s.data.toList i ≠ t.data.toList) ∧ e = .returned (.tuple #[.int .i64 0, .bool false]))) ∧ w' = w := by
  go_enter Tryd.func36, Tryd.ntmps36
  go_wp2
  go_loop [10] (fun i => ∃ k : Nat, k ≤ n ∧ i = .int .i64 k ∧ Hid (∀ j, j < k → Cal.nm s.data.toList j ≠ t.data.toList)) (fun i => n - (intOf i).toNat)
  case atStart => exact ⟨0, Nat.zero_le _, rfl, fun j hj => absurd hj (by omega)⟩
  case round =>
    obtain ⟨k, hk, rfl, hh⟩ := hrel
    by_cases hlt : k < n
    · go_wp2_with (go_at_call 19; refine (nameAt_any _ _ _ (by omega) (by omega) (by omega)).mono ?_; rintro e w' ⟨rfl, rfl⟩)
      · go_ret2
        exact ⟨Or.inl ⟨k, hlt, by have := ‹(_ == _) = true›; simpa [Lib.toList_data] using this, rfl⟩, rfl⟩
      · refine ⟨⟨k + 1, by omega, by go_num, fun j hj => ?_⟩, by simp [intOf]; omega⟩
        by_cases e : j = k
        · subst e; have := ‹(_ == _) = false›; simpa [Lib.toList_data] using this
        · exact hh.out j (by omega)
    · go_wp2
      go_ret2
      exact ⟨Or.inr ⟨fun i hi => hh.out i (by omega), rfl⟩, rfl⟩

def mons : ByteArray := ⟨#[74, 97, 110, 70, 101, 98, 77, 97, 114, 65, 112, 114, 77, 97, 121, 74, 117, 110, 74, 117, 108, 65, 117, 103, 83, 101, 112, 79, 99, 116, 78, 111, 118, 68, 101, 99]⟩
theorem mons_list : mons.data.toList = Cal.months := rfl

theorem place_yes (t : ByteArray) (i : Nat) (w : World) (hi : i < 12) (h : Cal.nm Cal.months i = t.data.toList) :
    Calls Tryd.prog 36 #[.string mons, .string t] w fun e w' => e = .returned (.tuple #[.int .i64 i, .bool true]) ∧ w' = w := by
  refine (placeOf_any mons t 12 w rfl (by omega)).mono ?_
  rintro e w' ⟨⟨j, hj, h', rfl⟩ | ⟨h', _⟩, rfl⟩
  · rw [mons_list] at h'
    have := Cal.nm_months_inj ⟨i, hi⟩ ⟨j, hj⟩ (h.trans h'.symm)
    simp at this
    subst this
    exact ⟨rfl, rfl⟩
  · rw [mons_list] at h'
    exact absurd h (h' i hi)
theorem place_no (t : ByteArray) (w : World) (h : ∀ i, i < 12 → Cal.nm Cal.months i ≠ t.data.toList) :
    Calls Tryd.prog 36 #[.string mons, .string t] w fun e w' => e = .returned (.tuple #[.int .i64 0, .bool false]) ∧ w' = w := by
  refine (placeOf_any mons t 12 w rfl (by omega)).mono ?_
  rintro e w' ⟨⟨j, hj, h', rfl⟩ | ⟨h', rfl⟩, rfl⟩
  · exact absurd h' (h j hj)
  · exact ⟨rfl, rfl⟩

set_option maxHeartbeats 400000 in
theorem clock_yes (a b c : ByteArray) (w : World) (ha : a.size ≤ 4) (hb : b.size ≤ 4) (hc : c.size ≤ 4) (h1 : num a.data.toList ≤ 23) (h2 : num b.data.toList ≤ 59) (h3 : num c.data.toList ≤ 59) :
    Calls Tryd.prog 20 #[.string a, .string b, .string c] w fun e w' => e = .returned (.tuple #[.int .i64 (num a.data.toList * 3600 + num b.data.toList * 60 + num c.data.toList), .bool true]) ∧ w' = w := by
  have ba := num_bd a.data.toList ha
  have bb := num_bd b.data.toList hb
  have bc := num_bd c.data.toList hc
  go_enter Tryd.func20, Tryd.ntmps20
  go_wp2_with fail
  refine (readNumber_any _ _ ha).mono ?_
  rintro e w1 ⟨rfl, rfl⟩
  go_wp2_with fail
  refine (readNumber_any _ _ hb).mono ?_
  rintro e w1 ⟨rfl, rfl⟩
  go_wp2_with fail
  refine (readNumber_any _ _ hc).mono ?_
  rintro e w1 ⟨rfl, rfl⟩
  go_wp2
  go_ret2
  exact ⟨rfl, rfl⟩

set_option maxHeartbeats 400000 in
theorem clock_no (a b c : ByteArray) (w : World) (ha : a.size ≤ 4) (hb : b.size ≤ 4) (hc : c.size ≤ 4) (h : ¬ (num a.data.toList ≤ 23 ∧ num b.data.toList ≤ 59 ∧ num c.data.toList ≤ 59)) :
    Calls Tryd.prog 20 #[.string a, .string b, .string c] w fun e w' => e = .returned (.tuple #[.int .i64 0, .bool false]) ∧ w' = w := by
  have ba := num_bd a.data.toList ha
  have bb := num_bd b.data.toList hb
  have bc := num_bd c.data.toList hc
  go_enter Tryd.func20, Tryd.ntmps20
  go_wp2_with fail
  refine (readNumber_any _ _ ha).mono ?_
  rintro e w1 ⟨rfl, rfl⟩
  go_wp2_with fail
  refine (readNumber_any _ _ hb).mono ?_
  rintro e w1 ⟨rfl, rfl⟩
  go_wp2_with fail
  refine (readNumber_any _ _ hc).mono ?_
  rintro e w1 ⟨rfl, rfl⟩
  have HN : Hid _ := h
  clear h
  go_wp2
  all_goals first | (exact absurd ⟨by omega, by omega, by omega⟩ HN.out) | (go_ret2; exact ⟨rfl, rfl⟩)

def fitI (c f : Int) : Bool := if f = 63 then true else if f = 48 then decide (48 ≤ c) && decide (c ≤ 57) else c == f
set_option maxHeartbeats 400000 in
theorem fitsByte_any (c f : Int) (w : World) :
    Calls Tryd.prog 34 #[.int .u8 c, .int .u8 f] w fun e w' => e = .returned (.bool (fitI c f)) ∧ w' = w := by
  go_enter Tryd.func34, Tryd.ntmps34
  go_wp2
  all_goals go_ret
  all_goals refine ⟨ret_bool ?_, rfl⟩
  all_goals first | (simp_all [fitI]; done) | (simp_all [fitI]; omega)

set_option maxHeartbeats 1000000 in
theorem day_yes (a b c : ByteArray) (w : World) (i : Nat) (ha : a.size ≤ 4) (hc : c.size ≤ 4) (hi : i < 12) (hm : Cal.nm Cal.months i = b.data.toList) (hy : 1970 ≤ num c.data.toList) (hy1 : num c.data.toList ≤ 9999)
    (hd : 1 ≤ num a.data.toList) (hd1 : num a.data.toList ≤ Cal.ml (num c.data.toList) i) :
    Calls Tryd.prog 18 #[.string a, .string b, .string c] w fun e w' => e = .returned (.tuple #[.int .i64 (Cal.ahead (num c.data.toList) + Cal.cum (num c.data.toList) i + (num a.data.toList - 1)), .bool true]) ∧ w' = w := by
  have ba := num_bd a.data.toList ha
  have bm := Cal.ml_bd (num c.data.toList) i
  have bA := ahead_bd (num c.data.toList) hy (by omega)
  have HM : Hid _ := hm
  clear hm
  go_enter Tryd.func18, Tryd.ntmps18
  go_wp2_with fail
  refine (readNumber_any _ _ hc).mono ?_
  rintro e w1 ⟨rfl, rfl⟩
  go_wp2_with fail
  refine (readNumber_any _ _ ha).mono ?_
  rintro e w1 ⟨rfl, rfl⟩
  go_wp2_with fail
  refine (place_yes _ i _ hi HM.out).mono ?_
  rintro e w1 ⟨rfl, rfl⟩
  go_wp2_with (first | (go_at_call 37; refine (monthDays_any _ _ _ (by omega) (by omega)).mono ?_; rintro e w' ⟨rfl, rfl⟩) | (go_at_call 38; refine (ahead_any _ _ (by omega) (by omega)).mono ?_; rintro e w' ⟨rfl, rfl⟩))
  go_loop [12, 46] (fun n t => ∃ k : Nat, k ≤ i ∧ t = .int .i64 k ∧ n = .int .i64 (Cal.ahead (num c.data.toList) + num a.data.toList - 1 + Cal.cum (num c.data.toList) k)) (fun _ t => i - (intOf t).toNat)
  case atStart => exact ⟨0, Nat.zero_le _, rfl, by simp [Cal.cum]⟩
  case round =>
    obtain ⟨k, hk, rfl, rfl⟩ := hrel
    have cb := cum_bd (num c.data.toList) k (by omega)
    by_cases hlt : k < i
    · have mb := Cal.ml_bd (num c.data.toList) k
      have cs : Hid (Cal.cum (num c.data.toList) (k + 1) = Cal.cum (num c.data.toList) k + Cal.ml (num c.data.toList) k) := rfl
      go_wp2_with (go_at_call 37; refine (monthDays_any _ _ _ (by omega) (by omega)).mono ?_; rintro e w' ⟨rfl, rfl⟩)
      exact ⟨⟨k + 1, by omega, by go_num, by rw [cs.out]; go_num⟩, by simp [intOf]; omega⟩
    · go_wp2
      go_ret2
      obtain rfl : k = i := by omega
      exact ⟨ret_pair (by omega), rfl⟩

set_option maxHeartbeats 1000000 in
theorem day_no (a b c : ByteArray) (w : World) (ha : a.size ≤ 4) (hc : c.size ≤ 4) (hy1 : num c.data.toList ≤ 9999)
    (h : ¬ ∃ i, i < 12 ∧ Cal.nm Cal.months i = b.data.toList ∧ 1970 ≤ num c.data.toList ∧ 1 ≤ num a.data.toList ∧ num a.data.toList ≤ Cal.ml (num c.data.toList) i) :
    Calls Tryd.prog 18 #[.string a, .string b, .string c] w fun e w' => e = .returned (.tuple #[.int .i64 0, .bool false]) ∧ w' = w := by
  have ba := num_bd a.data.toList ha
  have bc := num_bd c.data.toList hc
  by_cases hm : ∃ i, i < 12 ∧ Cal.nm Cal.months i = b.data.toList
  · obtain ⟨i, hi, hm⟩ := hm
    have HN : Hid (¬ (1970 ≤ num c.data.toList ∧ 1 ≤ num a.data.toList ∧ num a.data.toList ≤ Cal.ml (num c.data.toList) i)) := fun k => h ⟨i, hi, hm, k⟩
    have HM : Hid _ := hm
    clear hm h
    go_enter Tryd.func18, Tryd.ntmps18
    go_wp2_with fail
    refine (readNumber_any _ _ hc).mono ?_
    rintro e w1 ⟨rfl, rfl⟩
    go_wp2_with fail
    refine (readNumber_any _ _ ha).mono ?_
    rintro e w1 ⟨rfl, rfl⟩
    go_wp2_with fail
    refine (place_yes _ i _ hi HM.out).mono ?_
    rintro e w1 ⟨rfl, rfl⟩
    by_cases h1 : num c.data.toList < 1970
    · go_wp2
      go_ret2
      exact ⟨rfl, rfl⟩
    by_cases h2 : num a.data.toList < 1
    · go_wp2
      go_ret2
      exact ⟨rfl, rfl⟩
    have h3 : Cal.ml (num c.data.toList) i < num a.data.toList := by
      have := HN.out
      omega
    have bm := Cal.ml_bd (num c.data.toList) i
    go_wp2_with (go_at_call 37; refine (monthDays_any _ _ _ (by omega) (by omega)).mono ?_; rintro e w' ⟨rfl, rfl⟩)
    go_ret2
    exact ⟨rfl, rfl⟩
  · have HM : Hid (∀ i, i < 12 → Cal.nm Cal.months i ≠ b.data.toList) := fun i hi e => hm ⟨i, hi, e⟩
    clear hm h
    go_enter Tryd.func18, Tryd.ntmps18
    go_wp2_with fail
    refine (readNumber_any _ _ hc).mono ?_
    rintro e w1 ⟨rfl, rfl⟩
    go_wp2_with fail
    refine (readNumber_any _ _ ha).mono ?_
    rintro e w1 ⟨rfl, rfl⟩
    go_wp2_with fail
    refine (place_no _ _ HM.out).mono ?_
    rintro e w1 ⟨rfl, rfl⟩
    go_wp2
    go_ret2
    exact ⟨rfl, rfl⟩
end Go.Proofs.YtmehkneofinmiaaDoor

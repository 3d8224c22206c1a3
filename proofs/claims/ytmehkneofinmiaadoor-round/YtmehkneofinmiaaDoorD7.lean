/-
  The program's Stamp.
-/
import Derived.Test.YtmehkneofinmiaaDoorD6
namespace Go.Proofs.YtmehkneofinmiaaDoor
open Go.RowKit

set_option maxHeartbeats 400000 in
theorem stamp_no (sec : Int) (w : World) (h : sec < 0 ∨ 253402300799 < sec) :
    Calls Tryd.prog 9 #[.int .i64 sec] w fun e w' => e = .returned (.string ⟨#[]⟩) ∧ w' = w := by
  rcases h with h | h
  · go_enter Tryd.func9, Tryd.ntmps9
    go_wp2
    go_ret
    exact ⟨rfl, rfl⟩
  · have h' : ¬ sec < 0 := by omega
    go_enter Tryd.func9, Tryd.ntmps9
    go_wp2
    go_ret
    exact ⟨rfl, rfl⟩

theorem mon_at (m : Nat) (w : World) (h : m < 12) :
    Calls Tryd.prog 19 #[.string mons, .int .i64 (m : Int)] w fun e w' => e = .returned (.string ⟨(Cal.nm Cal.months m).toArray⟩) ∧ w' = w := by
  have := nameAt_any mons m w (by omega) (by have : mons.size = 36 := rfl; omega) (by have : mons.size = 36 := rfl; omega)
  rw [Int.toNat_natCast, mons_list] at this
  exact this
theorem wk_at (d : Int) (w : World) :
    Calls Tryd.prog 19 #[.string wks, .int .i64 (d % 7)] w fun e w' => e = .returned (.string ⟨(Cal.nm Cal.week (d % 7).toNat).toArray⟩) ∧ w' = w := week_at d w _ (by simp)

set_option maxHeartbeats 1000000 in
theorem stamp_yes (sec : Int) (w : World) (h0 : 0 ≤ sec) (h1 : sec ≤ 253402300799) (hT : Tab w) :
    Calls Tryd.prog 9 #[.int .i64 sec] w fun e w' => (∃ l, Cal.IsStamp sec l ∧ e = .returned (.string ⟨l.toArray⟩)) ∧ Below w.heap.size w w' := by
  go_enter Tryd.func9, Tryd.ntmps9
  go_wp2_with fail
  refine (split_any _ _ (by omega) (by omega)).mono ?_
  rintro e w1 ⟨⟨y, m, k, sp, rfl⟩, rfl⟩
  have hy := sp.range (by omega)
  have hy0 := sp.y0
  have hm := sp.m12
  have hk0 := sp.k0
  have hk1 := sp.k1
  have hml := Cal.ml_bd y m
  obtain ⟨c0, c1, c2, hw⟩ := list3 (Cal.len_week ⟨(sec / 86400 % 7).toNat, by omega⟩)
  obtain ⟨m0, m1, m2, hmo⟩ := list3 (Cal.len_months ⟨m, hm⟩)
  simp only at hw hmo
  have HF : Hid (Cal.fmt (sec / 86400) y m k (sec % 86400) = [c0, c1, c2] ++ [44, 32] ++ Cal.two (k + 1) ++ [32] ++ [m0, m1, m2] ++ [32] ++ Cal.four y ++ [32] ++ Cal.two (sec % 86400 / 3600) ++ [58] ++ Cal.two (sec % 86400 % 3600 / 60) ++ [58] ++ Cal.two (sec % 86400 % 60) ++ [32, 71, 77, 84]) := by
    unfold Cal.fmt; rw [hw, hmo]; rfl
  have HW : Hid _ := hw
  have HM : Hid _ := hmo
  clear hw hmo
  go_wp2_with fail
  refine (wk_at _ _).mono ?_
  rintro e w1 ⟨rfl, rfl⟩
  rw [HW.out]
  go_wp2_with fail
  refine (padded2 _ _ (by omega) (by omega)).mono ?_
  rintro e w2 ⟨rfl, hb2⟩
  rw [Cal.two]
  go_wp2_with fail
  refine (mon_at _ _ hm).mono ?_
  rintro e w1 ⟨rfl, rfl⟩
  rw [HM.out]
  go_wp2_with fail
  refine (padded4 _ _ (by omega) (by omega) (hT.below hb2)).mono ?_
  rintro e w3 ⟨rfl, hb3⟩
  rw [Cal.four]
  have hB3 := hb2.trans (hb3.mono hb2.size)
  clear hb2 hb3
  go_wp2_with fail
  refine (padded2 _ _ (by omega) (by omega)).mono ?_
  rintro e w4 ⟨rfl, hb4⟩
  rw [Cal.two]
  have hB4 := hB3.trans (hb4.mono hB3.size)
  clear hB3 hb4
  go_wp2_with fail
  refine (padded2 _ _ (by omega) (by omega)).mono ?_
  rintro e w5 ⟨rfl, hb5⟩
  rw [Cal.two]
  have hB5 := hB4.trans (hb5.mono hB4.size)
  clear hB4 hb5
  go_wp2_with fail
  refine (padded2 _ _ (by omega) (by omega)).mono ?_
  rintro e w6 ⟨rfl, hb6⟩
  rw [Cal.two]
  have hB6 := hB5.trans (hb6.mono hB5.size)
  clear hB5 hb6
  go_wp2
  go_ret
  refine ⟨⟨_, ⟨y, m, k, sp, rfl⟩, ret_str ?_⟩, hB6⟩
  rw [HF.out, show sec % 86400 % 3600 = sec % 3600 by omega, show sec % 86400 % 60 = sec % 60 by omega]
  simp only [Cal.two, Cal.four, show sec % 60 % 10 = sec % 10 by omega]
  apply ByteArray.ext
  simp [ByteArray.data_append]
end Go.Proofs.YtmehkneofinmiaaDoor

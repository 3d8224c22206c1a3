/-
  Walks of padded.
-/
import Derived.Test.YtmehkneofinmiaaDoorD5
import Derived.Test.YtmehkneofinmiaaDoorShelf
import Derived.Lib.AppendIntMem
namespace Go.Proofs.YtmehkneofinmiaaDoor
open Go.RowKit

theorem app_mk (a b : List UInt8) : (⟨a.toArray⟩ : ByteArray) ++ ⟨b.toArray⟩ = ⟨(a ++ b).toArray⟩ := by
  apply ByteArray.ext
  simp [ByteArray.data_append]

set_option maxHeartbeats 400000 in
theorem padded_one (n : Int) (D : List UInt8) (hL : D.length = 1) (w : World) (hI : Calls Tryd.prog 39 #[.int .i64 n] w fun e w' => e = .returned (.string ⟨D.toArray⟩) ∧ Below w.heap.size w w') :
    Calls Tryd.prog 25 #[.int .i64 n, .int .i64 2] w fun e w' => e = .returned (.string ⟨(48 :: D).toArray⟩) ∧ Below w.heap.size w w' := by
  have HI : Hid _ := hI
  clear hI
  go_enter Tryd.func25, Tryd.ntmps25
  go_wp2_with fail
  refine Calls.mono HI.out ?_
  rintro e w1 ⟨rfl, hb1⟩
  go_wp2_with fail
  rw [show (max (1 : Int) 0) = ((1 : Nat) : Int) from rfl]
  refine (Tryd.strings_Repeat _ 1 _ (by omega) (by decide)).mono ?_
  rintro e w2 ⟨rfl, hb2⟩
  rw [show Lib.repeatL (ByteArray.mk #[48]).data.toList 1 = [48] from by decide]
  go_wp2
  go_ret
  refine ⟨ret_str ?_, hb1.trans (hb2.mono (by have := hb1.size; omega))⟩
  exact app_mk [48] D
set_option maxHeartbeats 400000 in
theorem padded_zero (n : Int) (wd : Nat) (D : List UInt8) (hL : D.length = wd) (hw : wd ≤ 4) (w : World) (hI : Calls Tryd.prog 39 #[.int .i64 n] w fun e w' => e = .returned (.string ⟨D.toArray⟩) ∧ Below w.heap.size w w') :
    Calls Tryd.prog 25 #[.int .i64 n, .int .i64 wd] w fun e w' => e = .returned (.string ⟨D.toArray⟩) ∧ Below w.heap.size w w' := by
  have HI : Hid _ := hI
  clear hI
  go_enter Tryd.func25, Tryd.ntmps25
  go_wp2_with fail
  refine Calls.mono HI.out ?_
  rintro e w1 ⟨rfl, hb1⟩
  go_wp2_with fail
  rw [show (0 : Int) = ((0 : Nat) : Int) from rfl]
  refine (Tryd.strings_Repeat _ 0 _ (by omega) (by decide)).mono ?_
  rintro e w2 ⟨rfl, hb2⟩
  rw [show Lib.repeatL (ByteArray.mk #[48]).data.toList 0 = [] from by decide]
  go_wp2
  go_ret
  exact ⟨ret_str (app_mk [] D), hb1.trans (hb2.mono (by have := hb1.size; omega))⟩

theorem gPow : Tryd.prog.globalNamed "internal/strconv.uint64pow10" = some 0 := by kernel_rfl
/-- the library's table of powers of ten lies where it lies -/
structure Tab (w : World) : Prop where
  tab : Lib.TabIs Tryd.prog w "internal/strconv.uint64pow10" .u64 Lib.pow10Tab
  lt : 0 < w.heap.size
theorem Tab.below {w w' : World} (h : Tab w) (hb : Below w.heap.size w w') : Tab w' :=
  ⟨var?_below hb gPow h.lt h.tab, by have := hb.size; have := h.lt; omega⟩

theorem itoa_small (n : Int) (w : World) (h0 : 0 ≤ n) (h : n < 100) :
    Calls Tryd.prog 39 #[.int .i64 n] w fun e w' => e = .returned (.string ⟨(Lib.decDigits n.toNat).toArray⟩) ∧ Below w.heap.size w w' := by
  have := Tryd.strconv_Itoa_small n.toNat (by omega) w
  rw [Int.toNat_of_nonneg h0] at this
  refine this.mono ?_
  rintro e w' ⟨rfl, rfl⟩
  exact ⟨rfl, Below.refl _ _⟩
theorem itoa_any (n : Int) (w : World) (h0 : 0 ≤ n) (h : n < 100000) (hT : Tab w) :
    Calls Tryd.prog 39 #[.int .i64 n] w fun e w' => e = .returned (.string ⟨(Lib.decDigits n.toNat).toArray⟩) ∧ Below w.heap.size w w' := by
  refine (Tryd.strconv_Itoa n (by omega) (by omega) w hT.tab).mono ?_
  rintro e w' ⟨rfl, k, os, rfl⟩
  refine ⟨ret_str ?_, Lib.below_grow _ _ (Nat.le_refl _) _ _⟩
  unfold Lib.itoa
  rw [if_neg (by omega)]

theorem padded2 (n : Int) (w : World) (h0 : 0 ≤ n) (h : n < 100) :
    Calls Tryd.prog 25 #[.int .i64 n, .int .i64 2] w fun e w' => e = .returned (.string ⟨(Cal.two n).toArray⟩) ∧ Below w.heap.size w w' := by
  have hI := itoa_small n w h0 h
  by_cases hl : n < 10
  · rw [Lib.decDigits_one (by omega)] at hI
    refine (padded_one n _ rfl w hI).mono ?_
    rintro e w' ⟨rfl, hb⟩
    refine ⟨ret_str ?_, hb⟩
    rw [Cal.two, Cal.dig, Cal.dig, show n / 10 = 0 by omega, show n % 10 = n by omega]
    rfl
  · rw [Lib.decDigits_two (by omega) (by omega)] at hI
    refine (padded_zero n 2 _ rfl (by omega) w hI).mono ?_
    rintro e w' ⟨rfl, hb⟩
    refine ⟨ret_str ?_, hb⟩
    rw [Cal.two, Cal.dig, Cal.dig, show (n / 10).toNat = n.toNat / 10 by omega, show (n % 10).toNat = n.toNat % 10 by omega]

theorem dec_four (n : Int) (h0 : 1000 ≤ n) (h : n < 10000) : Lib.decDigits n.toNat = Cal.four n := by
  rw [Lib.decDigits, dif_neg (by omega), Lib.decDigits, dif_neg (by omega), Lib.decDigits_two (by omega) (by omega), Cal.four, Cal.dig, Cal.dig, Cal.dig, Cal.dig,
    show (n / 1000).toNat = n.toNat / 10 / 10 / 10 by omega, show (n / 100 % 10).toNat = n.toNat / 10 / 10 % 10 by omega, show (n / 10 % 10).toNat = n.toNat / 10 % 10 by omega, show (n % 10).toNat = n.toNat % 10 by omega]
  rfl
theorem padded4 (n : Int) (w : World) (h0 : 1000 ≤ n) (h : n < 10000) (hT : Tab w) :
    Calls Tryd.prog 25 #[.int .i64 n, .int .i64 4] w fun e w' => e = .returned (.string ⟨(Cal.four n).toArray⟩) ∧ Below w.heap.size w w' := by
  have hI := itoa_any n w (by omega) (by omega) hT
  rw [dec_four n h0 h] at hI
  exact padded_zero n 4 _ rfl (by omega) w hI
end Go.Proofs.YtmehkneofinmiaaDoor

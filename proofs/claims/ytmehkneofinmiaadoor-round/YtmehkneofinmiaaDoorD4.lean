/-
  Walks of fitsForm and of the program's Date.
-/
import Derived.Test.YtmehkneofinmiaaDoorD3
namespace Go.Proofs.YtmehkneofinmiaaDoor
open Go.RowKit

def form : ByteArray := ⟨#[63, 63, 63, 44, 32, 48, 48, 32, 63, 63, 63, 32, 48, 48, 48, 48, 32, 48, 48, 58, 48, 48, 58, 48, 48, 32, 71, 77, 84]⟩
theorem form_size : form.size = 29 := rfl

set_option maxHeartbeats 400000 in
theorem fits_short (s : ByteArray) (w : World) (hs : s.size ≠ 29) :
    Calls Tryd.prog 17 #[.string s] w fun e w' => e = .returned (.bool false) ∧ w' = w := by
  go_enter Tryd.func17, Tryd.ntmps17
  go_wp2
  go_ret
  exact ⟨rfl, rfl⟩

def at8 (s : ByteArray) (j : Nat) : Int := ((s.data.toList.getD j 0).toNat : Int)
theorem at8_eq (s : ByteArray) (j : Nat) (h : j < s.size) : (s[j].toNat : Int) = at8 s j := by
  unfold at8
  rw [List.getD, List.getElem?_eq_getElem (by simpa using h)]; rfl

set_option maxHeartbeats 400000 in
theorem fits_long (s : ByteArray) (w : World) (hs : s.size = 29) :
    Calls Tryd.prog 17 #[.string s] w fun e w' => (∃ r : Bool, (r = true ↔ ∀ j, j < 29 → fitI (at8 s j) (at8 form j) = true) ∧ e = .returned (.bool r)) ∧ ∃ q, w' = w.drewN q := by
  have HSZ : Hid (s.size = 29) := hs
  have h29 : s.size ≤ 29 := by omega
  have h29' : 29 ≤ s.size := by omega
  clear hs
  go_enter Tryd.func17, Tryd.ntmps17
  go_wp2
  go_loopw [9] (fun i wr => ∃ k : Nat, k ≤ 29 ∧ i = .int .i64 k ∧ Hid (∃ q, wr = w.drewN q) ∧ Hid (∀ j, j < k → fitI (at8 s j) (at8 form j) = true)) (fun i _ => 29 - (intOf i).toNat)
  case atStart => exact ⟨0, Nat.zero_le _, rfl, ⟨0, rfl⟩, fun j hj => absurd hj (by omega)⟩
  case round =>
    obtain ⟨k, hk, rfl, hq, hh⟩ := hrel
    by_cases hlt : k < 29
    · have e1 := at8_eq s k (by omega)
      have e2 := at8_eq form k (by rw [form_size]; omega)
      have e3 : ∀ w', (Instr.index 9 (.string form) (.int .i64 (k : Int))).run Tryd.prog w' = .ok (.int .u8 (at8 form k)) w' := by
        intro w'
        rw [run_index_string _ 9 form .i64 k Tryd.underlying9, dif_pos ⟨by omega, by rw [form_size]; omega⟩]
        exact congrArg (fun z => Result.ok (Value.int .u8 z) w') e2
      unfold form at e3
      clear e2
      go_wp2
      go_quiet ((go_at_call 34; exact Calls.quiet_of_same (fitsByte_any _ _ _)))
      go_wp2
      · go_ret
        have hno := ‹(!fitI _ _) = true›
        refine ⟨⟨false, ⟨fun h => absurd h (by decide), fun h => ?_⟩, rfl⟩, ?_⟩
        · have := h k hlt
          unfold form at this
          rw [this] at hno
          exact absurd hno (by decide)
        · obtain ⟨q, hq⟩ := hq.out
          exact ⟨q + nq, by rw [hq, World.drewN_drewN]⟩
      · have hyes := ‹(!fitI _ _) = false›
        refine ⟨⟨k + 1, by omega, by go_num, ?_, fun j hj => ?_⟩, by simp [intOf]; omega⟩
        · obtain ⟨q, hq⟩ := hq.out
          exact ⟨q + nq, by rw [hq, World.drewN_drewN]⟩
        · by_cases e : j = k
          · subst e
            unfold form
            simpa using hyes
          · exact hh.out j (by omega)
    · go_wp2
      go_ret
      exact ⟨⟨true, ⟨fun _ j hj => hh.out j (by omega), fun _ => rfl⟩, rfl⟩, hq.out⟩

def Fits (s : ByteArray) : Prop := ∀ j, j < 29 → fitI (at8 s j) (at8 form j) = true
theorem fits_yes (s : ByteArray) (w : World) (hs : s.size = 29) (h : Fits s) :
    Calls Tryd.prog 17 #[.string s] w fun e w' => e = .returned (.bool true) ∧ ∃ q, w' = w.drewN q := by
  refine (fits_long s w hs).mono ?_
  rintro e w' ⟨⟨r, hr, rfl⟩, hq⟩
  exact ⟨ret_bool (hr.2 h), hq⟩
theorem fits_no (s : ByteArray) (w : World) (hs : s.size = 29) (h : ¬ Fits s) :
    Calls Tryd.prog 17 #[.string s] w fun e w' => e = .returned (.bool false) ∧ ∃ q, w' = w.drewN q := by
  refine (fits_long s w hs).mono ?_
  rintro e w' ⟨⟨r, hr, rfl⟩, hq⟩
  refine ⟨ret_bool ?_, hq⟩
  cases r
  · rfl
  · exact absurd (hr.1 rfl) h

set_option maxHeartbeats 400000 in
theorem date_short (s : ByteArray) (w : World) (hs : s.size ≠ 29) :
    Calls Tryd.prog 7 #[.string s] w fun e w' => e = .returned (.tuple #[.int .i64 0, .bool false]) ∧ ∃ q, w' = w.drewN q := by
  go_enter Tryd.func7, Tryd.ntmps7
  go_wp2_with fail
  refine (fits_short _ _ hs).mono ?_
  rintro e w1 ⟨rfl, rfl⟩
  go_wp2
  go_ret2
  exact ⟨rfl, 0, rfl⟩
set_option maxHeartbeats 400000 in
theorem date_unfit (s : ByteArray) (w : World) (hs : s.size = 29) (h : ¬ Fits s) :
    Calls Tryd.prog 7 #[.string s] w fun e w' => e = .returned (.tuple #[.int .i64 0, .bool false]) ∧ ∃ q, w' = w.drewN q := by
  have HS : Hid _ := hs
  clear hs
  go_enter Tryd.func7, Tryd.ntmps7
  go_wp2_with fail
  refine (fits_no _ _ HS.out h).mono ?_
  rintro e w1 ⟨rfl, hq⟩
  go_wp2
  go_ret2
  exact ⟨rfl, hq⟩

theorem drew_some {w w1 : World} {n : Nat} (h : ∃ q, w1 = w.drewN q) : ∃ q, w1.drewN n = w.drewN q := by
  obtain ⟨q, rfl⟩ := h
  exact ⟨q + n, World.drewN_drewN _ _ _⟩
theorem size_ext (s : ByteArray) (a b : Nat) (h : s.size = 29) (hb : b ≤ 29) : (s.extract a b).size = b - a := by
  rw [ByteArray.size_extract, h]; omega

set_option maxHeartbeats 400000 in
theorem date_noday (s : ByteArray) (w : World) (hs : s.size = 29) (h : Fits s) (hy1 : num (s.extract 12 16).data.toList ≤ 9999)
    (hn : ¬ ∃ i, i < 12 ∧ Cal.nm Cal.months i = (s.extract 8 11).data.toList ∧ 1970 ≤ num (s.extract 12 16).data.toList ∧ 1 ≤ num (s.extract 5 7).data.toList ∧ num (s.extract 5 7).data.toList ≤ Cal.ml (num (s.extract 12 16).data.toList) i) :
    Calls Tryd.prog 7 #[.string s] w fun e w' => e = .returned (.tuple #[.int .i64 0, .bool false]) ∧ ∃ q, w' = w.drewN q := by
  have HS : Hid _ := hs
  have z1 : 29 ≤ s.size := by omega
  have hday := fun w => day_no (s.extract 5 7) (s.extract 8 11) (s.extract 12 16) w (by rw [size_ext s _ _ hs (by omega)]; omega) (by rw [size_ext s _ _ hs (by omega)]; omega) hy1 hn
  have HD : Hid _ := hday
  clear hs hday hn hy1
  go_enter Tryd.func7, Tryd.ntmps7
  go_wp2_with fail
  refine (fits_yes _ _ HS.out h).mono ?_
  rintro e w1 ⟨rfl, hq⟩
  have HQ : Hid _ := hq
  clear hq h
  go_wp2
  go_quiet ((go_at_call 18; exact Calls.quiet_of_same (HD.out _)))
  go_wp2
  go_quiet (fail)
  go_wp2
  go_ret2
  exact ⟨rfl, drew_some (drew_some HQ.out)⟩

def wks : ByteArray := ⟨#[84, 104, 117, 70, 114, 105, 83, 97, 116, 83, 117, 110, 77, 111, 110, 84, 117, 101, 87, 101, 100]⟩
theorem wks_list : wks.data.toList = Cal.week := rfl
theorem week_at (d : Int) (w : World) (v : ByteArray) (hv : Cal.nm Cal.week (d % 7).toNat = v.data.toList) :
    Calls Tryd.prog 19 #[.string wks, .int .i64 (d % 7)] w fun e w' => e = .returned (.string v) ∧ w' = w := by
  refine (nameAt_any wks (d % 7) w (by omega) (by have : wks.size = 21 := rfl; omega) (by have : wks.size = 21 := rfl; omega)).mono ?_
  rintro e w' ⟨rfl, rfl⟩
  rw [wks_list, hv, Lib.mk_data]
  exact ⟨rfl, rfl⟩

set_option maxHeartbeats 1000000 in
theorem date_week (s : ByteArray) (w : World) (D : Int) (d0 : 0 ≤ D) (d1 : D ≤ 3000000) (hs : s.size = 29) (h : Fits s) (v : ByteArray) (hv : Cal.nm Cal.week (D % 7).toNat = v.data.toList)
    (hday : ∀ w, Calls Tryd.prog 18 #[.string (s.extract 5 7), .string (s.extract 8 11), .string (s.extract 12 16)] w fun e w' => e = .returned (.tuple #[.int .i64 D, .bool true]) ∧ w' = w)
    (hne : ((s.extract 0 3).toList == v.toList) = false) :
    Calls Tryd.prog 7 #[.string s] w fun e w' => e = .returned (.tuple #[.int .i64 0, .bool false]) ∧ ∃ q, w' = w.drewN q := by
  have HS : Hid _ := hs
  have z1 : 29 ≤ s.size := by omega
  have HD : Hid _ := hday
  have hwk := fun w => week_at D w v hv
  have HW : Hid _ := hwk
  clear hs hday hv hwk
  go_enter Tryd.func7, Tryd.ntmps7
  go_wp2_with fail
  refine (fits_yes _ _ HS.out h).mono ?_
  rintro e w1 ⟨rfl, hq⟩
  have HQ : Hid _ := hq
  clear hq h
  go_wp2
  go_quiet ((go_at_call 18; exact Calls.quiet_of_same (HD.out _)))
  go_wp2
  obtain ⟨w2, hw2⟩ : ∃ w2, w2 = w1.drewN nq := ⟨_, rfl⟩
  rw [← hw2]
  have HQ2 : Hid (∃ q, w2 = w.drewN q) := by rw [hw2]; exact drew_some HQ.out
  clear hw2 HQ
  go_quiet ((go_at_call 19; exact Calls.quiet_of_same (HW.out _)))
  go_wp2
  go_ret2
  exact ⟨rfl, drew_some HQ2.out⟩
set_option maxHeartbeats 1000000 in
theorem date_noclock (s : ByteArray) (w : World) (D : Int) (d0 : 0 ≤ D) (d1 : D ≤ 3000000) (hs : s.size = 29) (h : Fits s) (v : ByteArray) (hv : Cal.nm Cal.week (D % 7).toNat = v.data.toList)
    (hday : ∀ w, Calls Tryd.prog 18 #[.string (s.extract 5 7), .string (s.extract 8 11), .string (s.extract 12 16)] w fun e w' => e = .returned (.tuple #[.int .i64 D, .bool true]) ∧ w' = w)
    (hne : ((s.extract 0 3).toList == v.toList) = true)
    (hclk : ∀ w, Calls Tryd.prog 20 #[.string (s.extract 17 19), .string (s.extract 20 22), .string (s.extract 23 25)] w fun e w' => e = .returned (.tuple #[.int .i64 0, .bool false]) ∧ w' = w) :
    Calls Tryd.prog 7 #[.string s] w fun e w' => e = .returned (.tuple #[.int .i64 0, .bool false]) ∧ ∃ q, w' = w.drewN q := by
  have HS : Hid _ := hs
  have z1 : 29 ≤ s.size := by omega
  have HD : Hid _ := hday
  have hwk := fun w => week_at D w v hv
  have HW : Hid _ := hwk
  have HC : Hid _ := hclk
  clear hs hday hv hwk hclk
  go_enter Tryd.func7, Tryd.ntmps7
  go_wp2_with fail
  refine (fits_yes _ _ HS.out h).mono ?_
  rintro e w1 ⟨rfl, hq⟩
  have HQ : Hid _ := hq
  clear hq h
  go_wp2
  go_quiet ((go_at_call 18; exact Calls.quiet_of_same (HD.out _)))
  go_wp2
  obtain ⟨w2, hw2⟩ : ∃ w2, w2 = w1.drewN nq := ⟨_, rfl⟩
  rw [← hw2]
  have HQ2 : Hid (∃ q, w2 = w.drewN q) := by rw [hw2]; exact drew_some HQ.out
  clear hw2 HQ
  go_quiet ((go_at_call 19; exact Calls.quiet_of_same (HW.out _)))
  go_wp2
  obtain ⟨w3, hw3⟩ : ∃ w3, w3 = w2.drewN nq := ⟨_, rfl⟩
  rw [← hw3]
  have HQ3 : Hid (∃ q, w3 = w.drewN q) := by rw [hw3]; exact drew_some HQ2.out
  clear hw3 HQ2
  go_quiet ((go_at_call 20; exact Calls.quiet_of_same (HC.out _)))
  go_wp2
  go_ret2
  exact ⟨rfl, drew_some HQ3.out⟩

set_option maxHeartbeats 1000000 in
theorem date_yes (s : ByteArray) (w : World) (D : Int) (d0 : 0 ≤ D) (d1 : D ≤ 3000000) (hs : s.size = 29) (h : Fits s) (v : ByteArray) (hv : Cal.nm Cal.week (D % 7).toNat = v.data.toList)
    (hday : ∀ w, Calls Tryd.prog 18 #[.string (s.extract 5 7), .string (s.extract 8 11), .string (s.extract 12 16)] w fun e w' => e = .returned (.tuple #[.int .i64 D, .bool true]) ∧ w' = w)
    (hne : ((s.extract 0 3).toList == v.toList) = true)
    (S : Int) (s0 : 0 ≤ S) (s1 : S ≤ 100000) (hclk : ∀ w, Calls Tryd.prog 20 #[.string (s.extract 17 19), .string (s.extract 20 22), .string (s.extract 23 25)] w fun e w' => e = .returned (.tuple #[.int .i64 S, .bool true]) ∧ w' = w) :
    Calls Tryd.prog 7 #[.string s] w fun e w' => e = .returned (.tuple #[.int .i64 (D * 86400 + S), .bool true]) ∧ ∃ q, w' = w.drewN q := by
  have HS : Hid _ := hs
  have z1 : 29 ≤ s.size := by omega
  have HD : Hid _ := hday
  have hwk := fun w => week_at D w v hv
  have HW : Hid _ := hwk
  have HC : Hid _ := hclk
  clear hs hday hv hwk hclk
  go_enter Tryd.func7, Tryd.ntmps7
  go_wp2_with fail
  refine (fits_yes _ _ HS.out h).mono ?_
  rintro e w1 ⟨rfl, hq⟩
  have HQ : Hid _ := hq
  clear hq h
  go_wp2
  go_quiet ((go_at_call 18; exact Calls.quiet_of_same (HD.out _)))
  go_wp2
  obtain ⟨w2, hw2⟩ : ∃ w2, w2 = w1.drewN nq := ⟨_, rfl⟩
  rw [← hw2]
  have HQ2 : Hid (∃ q, w2 = w.drewN q) := by rw [hw2]; exact drew_some HQ.out
  clear hw2 HQ
  go_quiet ((go_at_call 19; exact Calls.quiet_of_same (HW.out _)))
  go_wp2
  obtain ⟨w3, hw3⟩ : ∃ w3, w3 = w2.drewN nq := ⟨_, rfl⟩
  rw [← hw3]
  have HQ3 : Hid (∃ q, w3 = w.drewN q) := by rw [hw3]; exact drew_some HQ2.out
  clear hw3 HQ2
  go_quiet ((go_at_call 20; exact Calls.quiet_of_same (HC.out _)))
  go_wp2
  go_ret2
  exact ⟨rfl, drew_some HQ3.out⟩

end Go.Proofs.YtmehkneofinmiaaDoor

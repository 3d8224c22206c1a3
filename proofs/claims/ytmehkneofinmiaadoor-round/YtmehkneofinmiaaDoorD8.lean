/-
  Walks of the document's wide and Stamp.
-/
import Derived.Test.YtmehkneofinmiaaDoorD7
import Derived.Lib.QuietBelow
import Derived.Deep.RegionWith
namespace Go.Proofs.YtmehkneofinmiaaDoor
open Go.RowKit

def pz : Nat → List UInt8 → List UInt8
  | 0, D => D
  | k + 1, D => 48 :: pz k D
theorem pz_len (D : List UInt8) : ∀ k, (pz k D).length = k + D.length
  | 0 => by simp [pz]
  | k + 1 => by simp [pz, pz_len D k]; omega

set_option maxHeartbeats 400000 in
theorem wide_any (n : Int) (wd c : Nat) (D : List UInt8) (hL : D.length + c = wd) (hw : wd ≤ 4) (w : World) (hI : Calls Tryd.prog 39 #[.int .i64 n] w fun e w' => e = .returned (.string ⟨D.toArray⟩) ∧ Below w.heap.size w w') :
    Calls Tryd.prog 26 #[.int .i64 n, .int .i64 wd] w fun e w' => e = .returned (.string ⟨(pz c D).toArray⟩) ∧ Below w.heap.size w w' := by
  have HI : Hid _ := hI
  clear hI
  have HL : Hid _ := hL
  have h1 : D.length + c ≤ wd := by omega
  have h2 : wd ≤ D.length + c := by omega
  clear hL
  go_enter Tryd.func26, Tryd.ntmps26
  go_wp2_with fail
  refine Calls.mono HI.out ?_
  rintro e w1 ⟨rfl, hb1⟩
  have HB : Hid _ := hb1
  clear hb1
  go_wp2
  go_loop [5] (fun s => ∃ k : Nat, k ≤ c ∧ s = .string ⟨(pz k D).toArray⟩) (fun s => 5 - (match s with | .string b => b.size | _ => 0))
  case atStart => exact ⟨0, Nat.zero_le _, rfl⟩
  case round =>
    obtain ⟨k, hk, rfl⟩ := hrel
    have hlen := pz_len D k
    by_cases hlt : k < c
    · go_wp2
      have e : (⟨#[48]⟩ : ByteArray) ++ ⟨(pz k D).toArray⟩ = ⟨(pz (k + 1) D).toArray⟩ := app_mk [48] (pz k D)
      rw [e]
      refine ⟨⟨k + 1, by omega, rfl⟩, ?_⟩
      have z1 : (⟨(pz (k + 1) D).toArray⟩ : ByteArray).size = k + 1 + D.length := (Lib.size_eq _).trans (by simpa using pz_len D (k + 1))
      have z2 : (⟨(pz k D).toArray⟩ : ByteArray).size = k + D.length := (Lib.size_eq _).trans (by simpa using pz_len D k)
      show 5 - (⟨(pz (k + 1) D).toArray⟩ : ByteArray).size < 5 - (⟨(pz k D).toArray⟩ : ByteArray).size
      rw [z1, z2]; omega
    · obtain rfl : k = c := by omega
      go_wp2
      go_ret
      exact ⟨rfl, HB.out⟩

theorem wide2 (n : Int) (w : World) (h0 : 0 ≤ n) (h : n < 100) :
    Calls Tryd.prog 26 #[.int .i64 n, .int .i64 2] w fun e w' => e = .returned (.string ⟨(Cal.two n).toArray⟩) ∧ Below w.heap.size w w' := by
  have hI := itoa_small n w h0 h
  by_cases hl : n < 10
  · rw [Lib.decDigits_one (by omega)] at hI
    refine (wide_any n 2 1 _ rfl (by omega) w hI).mono ?_
    rintro e w' ⟨rfl, hb⟩
    refine ⟨ret_str ?_, hb⟩
    rw [Cal.two, Cal.dig, Cal.dig, show n / 10 = 0 by omega, show n % 10 = n by omega]
    rfl
  · rw [Lib.decDigits_two (by omega) (by omega)] at hI
    refine (wide_any n 2 0 _ rfl (by omega) w hI).mono ?_
    rintro e w' ⟨rfl, hb⟩
    refine ⟨ret_str ?_, hb⟩
    rw [Cal.two, Cal.dig, Cal.dig, show (n / 10).toNat = n.toNat / 10 by omega, show (n % 10).toNat = n.toNat % 10 by omega]
    rfl
theorem wide4 (n : Int) (w : World) (h0 : 1000 ≤ n) (h : n < 10000) (hT : Tab w) :
    Calls Tryd.prog 26 #[.int .i64 n, .int .i64 4] w fun e w' => e = .returned (.string ⟨(Cal.four n).toArray⟩) ∧ Below w.heap.size w w' := by
  have hI := itoa_any n w (by omega) (by omega) hT
  rw [dec_four n h0 h] at hI
  exact wide_any n 4 0 _ rfl (by omega) w hI

set_option maxHeartbeats 400000 in
theorem ref_stamp_no (sec : Int) (w : World) (h : sec < 0 ∨ 253402300799 < sec) :
    Calls Tryd.prog 10 #[.int .i64 sec] w fun e w' => e = .returned (.string ⟨#[]⟩) ∧ w' = w := by
  rcases h with h | h
  · go_enter Tryd.func10, Tryd.ntmps10
    go_wp2
    go_ret
    exact ⟨rfl, rfl⟩
  · have h' : ¬ sec < 0 := by omega
    go_enter Tryd.func10, Tryd.ntmps10
    go_wp2
    go_ret
    exact ⟨rfl, rfl⟩

def wksR : ByteArray := ⟨#[83, 117, 110, 77, 111, 110, 84, 117, 101, 87, 101, 100, 84, 104, 117, 70, 114, 105, 83, 97, 116]⟩
theorem cut_const (s : ByteArray) (n : Nat) (i : Nat) (hs : s.size = 3 * n) (hi : i < n) (w : World) (j : Int) (hj : j = (i : Int)) :
    (Instr.slice 9 (.string s) (some (.int .i64 (3 * j))) (some (.int .i64 (3 * j + 3))) none).run Tryd.prog w = .ok (.string ⟨(Cal.nm s.data.toList i).toArray⟩) w := by
  subst hj
  rw [run_slice_string w 9 s .i64 .i64 (3 * (i : Int)) (3 * (i : Int) + 3) Tryd.underlying9 (by omega) (by omega) (by omega)]
  rw [Lib.extract_eq, Cal.nm, show (3 * (i : Int)).toNat = i * 3 by omega, show (3 * (i : Int) + 3).toNat - i * 3 = 3 by omega]

theorem val_int {a b : Int} (h : a = b) : Value.int .i64 a = .int .i64 b := by rw [h]
def boolN : Value → Nat
  | .bool true => 1
  | _ => 0

set_option maxHeartbeats 2000000 in
theorem ref_stamp_yes (sec : Int) (w : World) (h0 : 0 ≤ sec) (h1 : sec ≤ 253402300799) (hT : Tab w) :
    Calls Tryd.prog 10 #[.int .i64 sec] w fun e w' => (∃ l, Cal.IsStamp sec l ∧ e = .returned (.string ⟨l.toArray⟩)) ∧ Below w.heap.size w w' := by
  go_enter Tryd.func10, Tryd.ntmps10
  go_wp2
  go_loop [3, 5, 6] (fun d y ag => ∃ Y : Int, 1970 ≤ Y ∧ Y ≤ 9999 ∧ y = .int .i64 Y ∧ 0 ≤ sec / 86400 - Cal.ahead Y ∧ d = .int .i64 (sec / 86400 - Cal.ahead Y) ∧ ((ag = .bool true) ∨ (ag = .bool false ∧ sec / 86400 < Cal.ahead (Y + 1))))
    (fun _ y ag => 20000 - 2 * (intOf y).toNat + boolN ag)
  case atStart => exact ⟨1970, by omega, by omega, rfl, by rw [Cal.ahead_1970]; omega, by rw [Cal.ahead_1970]; simp, Or.inl rfl⟩
  case round =>
    obtain ⟨Y, hY0, hY1, rfl, hd, rfl, rfl | ⟨rfl, hlt⟩⟩ := hrel
    · have hsucc := Cal.ahead_succ Y
      have hyl := Cal.ylen_bd Y
      have ab := ahead_bd Y hY0 (by omega)
      have hyc : (Cal.leap Y = true ∧ Cal.ylen Y = 366) ∨ (Cal.leap Y = false ∧ Cal.ylen Y = 365) := by
        unfold Cal.ylen; cases Cal.leap Y <;> simp
      rcases hyc with ⟨hlp, hy6⟩ | ⟨hlp, hy6⟩
      all_goals
        go_wp2_with (go_at_call 22; refine (leap_any _ _ (by omega) (by omega)).mono ?_; rintro e w' ⟨rfl, rfl⟩)
      · have hY2 : Y + 1 ≤ 9999 := by
          by_cases e : Y = 9999
          · subst e; have := Cal.ahead_10000; rw [show (9999 : Int) + 1 = 10000 from rfl] at hsucc; omega
          · omega
        rw [show decide ((366 : Int) ≤ sec / 86400 - Cal.ahead Y) = true from decide_eq_true (by omega)]
        exact ⟨⟨Y + 1, by omega, by omega, rfl, by omega, val_int (by omega), Or.inl rfl⟩, by simp [intOf, boolN]; omega⟩
      · rw [show decide ((366 : Int) ≤ sec / 86400 - Cal.ahead Y) = false from decide_eq_false (by omega)]
        exact ⟨⟨Y, by omega, by omega, rfl, hd, rfl, Or.inr ⟨rfl, by omega⟩⟩, by simp [boolN]⟩
      · have hY2 : Y + 1 ≤ 9999 := by
          by_cases e : Y = 9999
          · subst e; have := Cal.ahead_10000; rw [show (9999 : Int) + 1 = 10000 from rfl] at hsucc; omega
          · omega
        rw [show decide ((365 : Int) ≤ sec / 86400 - Cal.ahead Y) = true from decide_eq_true (by omega)]
        exact ⟨⟨Y + 1, by omega, by omega, rfl, by omega, val_int (by omega), Or.inl rfl⟩, by simp [intOf, boolN]; omega⟩
      · rw [show decide ((365 : Int) ≤ sec / 86400 - Cal.ahead Y) = false from decide_eq_false (by omega)]
        exact ⟨⟨Y, by omega, by omega, rfl, hd, rfl, Or.inr ⟨rfl, by omega⟩⟩, by simp [boolN]⟩
    · have hsucc := Cal.ahead_succ Y
      have hyl := Cal.ylen_bd Y
      have ab := ahead_bd Y hY0 (by omega)
      go_wp2
      go_loop [3, 9, 10] (fun d mo ag => ∃ m : Nat, m < 12 ∧ mo = .int .i64 m ∧ 0 ≤ sec / 86400 - Cal.ahead Y - Cal.cum Y m ∧ d = .int .i64 (sec / 86400 - Cal.ahead Y - Cal.cum Y m) ∧ ((ag = .bool true) ∨ (ag = .bool false ∧ sec / 86400 - Cal.ahead Y - Cal.cum Y m < Cal.ml Y m)))
        (fun _ mo ag => 24 - 2 * (intOf mo).toNat + boolN ag)
      case atStart => exact ⟨0, by omega, rfl, by simpa [Cal.cum] using hd, by simp [Cal.cum], Or.inl rfl⟩
      case round =>
        obtain ⟨m, hm, rfl, hr, rfl, rfl | ⟨rfl, hl⟩⟩ := hrel
        · have mb := Cal.ml_bd Y m
          have cb := cum_bd Y m (by omega)
          have cs : Hid (Cal.cum Y (m + 1) = Cal.cum Y m + Cal.ml Y m) := rfl
          have HM : Hid (Cal.ml Y m ≤ sec / 86400 - Cal.ahead Y - Cal.cum Y m → m + 1 < 12) := by
            intro hge
            by_cases e : m = 11
            · subst e; have := Cal.cum_12 Y; have h12 : Cal.cum Y 12 = Cal.cum Y 11 + Cal.ml Y (11 : Nat) := rfl; omega
            · omega
          clear hsucc hyl hlt
          go_wp2_with (go_at_call 23; refine (long_any _ _ _ (by omega) (by omega)).mono ?_; rintro e w' ⟨rfl, rfl⟩)
          · have h12 := HM.out (by omega)
            rw [show decide (Cal.ml Y m ≤ sec / 86400 - Cal.ahead Y - Cal.cum Y m) = true from decide_eq_true (by omega)]
            exact ⟨⟨m + 1, h12, by go_num, by rw [cs.out]; omega, val_int (by rw [cs.out]; omega), Or.inl rfl⟩, by simp [intOf, boolN]; omega⟩
          · rw [show decide (Cal.ml Y m ≤ sec / 86400 - Cal.ahead Y - Cal.cum Y m) = false from decide_eq_false (by omega)]
            exact ⟨⟨m, hm, rfl, hr, rfl, Or.inr ⟨rfl, by omega⟩⟩, by simp [boolN]⟩
        · have mb := Cal.ml_bd Y m
          have cb := cum_bd Y m (by omega)
          have sp : Cal.Sp (sec / 86400) Y m (sec / 86400 - Cal.ahead Y - Cal.cum Y m) := ⟨hY0, hm, hr, hl, by omega⟩
          clear hsucc hyl hlt
          obtain ⟨c0, c1, c2, hw⟩ := list3 (Cal.len_week ⟨(sec / 86400 % 7).toNat, by omega⟩)
          obtain ⟨m0, m1, m2, hmo⟩ := list3 (Cal.len_months ⟨m, hm⟩)
          simp only at hw hmo
          have hs1 := fun w => cut_const wksR 7 ((sec / 86400 + 4) % 7).toNat rfl (by omega) w ((sec / 86400 + 4) % 7) (by omega)
          have hs2 := fun w => cut_const mons 12 m rfl hm w m rfl
          have hwr : Cal.nm wksR.data.toList ((sec / 86400 + 4) % 7).toNat = [c0, c1, c2] := by
            have := Cal.week_same ⟨(sec / 86400 % 7).toNat, by omega⟩
            simp only at this
            rw [← hw, ← this, show ((sec / 86400 % 7).toNat + 4) % 7 = ((sec / 86400 + 4) % 7).toNat by omega]
            rfl
          rw [hwr] at hs1
          rw [mons_list, hmo] at hs2
          unfold wksR at hs1
          unfold mons at hs2
          have HF : Hid (Cal.fmt (sec / 86400) Y m (sec / 86400 - Cal.ahead Y - Cal.cum Y m) (sec % 86400) = [c0, c1, c2] ++ [44, 32] ++ Cal.two (sec / 86400 - Cal.ahead Y - Cal.cum Y m + 1) ++ [32] ++ [m0, m1, m2] ++ [32] ++ Cal.four Y ++ [32] ++ Cal.two (sec % 86400 / 3600) ++ [58] ++ Cal.two (sec % 86400 % 3600 / 60) ++ [58] ++ Cal.two (sec % 86400 % 60) ++ [32, 71, 77, 84]) := by
            unfold Cal.fmt; rw [hw, hmo]; rfl
          have hwd := fun (d : Nat) (os : Array Obj) => Calls.regrown_of (wide2 (sec / 86400 - Cal.ahead Y - Cal.cum Y m + 1) (Sort.grow (redrawn w d) os) (by omega) (by omega))
          have hwy := fun (d : Nat) (os : Array Obj) => Calls.regrown_of (wide4 Y (Sort.grow (redrawn w d) os) (by omega) (by omega) (hT.below (below_regrown w d os)))
          simp only [Cal.two, Cal.four] at hwd hwy
          have HD : Hid _ := hwd
          have HY : Hid _ := hwy
          clear hw hmo hwr hwd hwy
          go_wp2
          refine wp_region_quiet_below (by kernel_rfl) (by kernel_rfl) ?_
          repeat (first | go_big_quiet_step (first | (go_at_call_of 26 (Value.int IntKind.i64 2); exact HD.out _ _) | (go_at_call_of 26 (Value.int IntKind.i64 4); exact HY.out _ _)) | quiet_step (first | (go_at_call_of 26 (Value.int IntKind.i64 2); exact HD.out _ _) | (go_at_call_of 26 (Value.int IntKind.i64 4); exact HY.out _ _)))
          refine wpQuiet_nil ?_
          intro w2 hw'
          have hB2 : Below w.heap.size w w2 := by
            obtain ⟨⟨dq, osq⟩, hw''⟩ := hw'
            rw [hw'']
            exact below_regrown w dq osq
          clear hw' HD HY hs1 hs2
          go_wp2_with fail
          refine (wide2 _ _ (by omega) (by omega)).mono ?_
          rintro e w4 ⟨rfl, hb4⟩
          rw [Cal.two]
          have hB4 := hB2.trans (hb4.mono hB2.size)
          clear hB2 hb4
          go_wp2_with fail
          refine (wide2 _ _ (by omega) (by omega)).mono ?_
          rintro e w5 ⟨rfl, hb5⟩
          rw [Cal.two]
          have hB5 := hB4.trans (hb5.mono hB4.size)
          clear hB4 hb5
          go_wp2_with fail
          refine (wide2 _ _ (by omega) (by omega)).mono ?_
          rintro e w6 ⟨rfl, hb6⟩
          rw [Cal.two]
          have hB6 := hB5.trans (hb6.mono hB5.size)
          clear hB5 hb6
          go_wp2
          go_ret
          refine ⟨⟨_, ⟨Y, m, _, sp, rfl⟩, ret_str ?_⟩, hB6⟩
          rw [HF.out, show sec % 86400 % 3600 / 60 = sec % 86400 / 60 % 60 by omega, show sec % 86400 % 60 = sec % 60 by omega]
          simp only [Cal.two, Cal.four, show sec % 60 % 10 = sec % 10 by omega, show sec % 86400 / 60 % 60 % 10 = sec % 86400 / 60 % 10 by omega]
          clear HF sp
          apply ByteArray.ext
          simp [ByteArray.data_append]
end Go.Proofs.YtmehkneofinmiaaDoor

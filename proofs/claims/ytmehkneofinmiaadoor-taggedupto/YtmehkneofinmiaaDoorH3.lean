/-
  The walk of the program's Tag.
-/
import Derived.Test.YtmehkneofinmiaaDoorH2
import Derived.Test.YtmehkneofinmiaaDoorShelf
namespace Go.Proofs.YtmehkneofinmiaaDoor
open Go.RowKit

theorem rep_one (c : Nat) : Lib.repeatL [48] c = List.replicate c 48 := by
  induction c with
  | zero => rfl
  | succ c ih =>
    simp [Lib.repeatL, List.replicate_succ] at ih ⊢
    exact ih

set_option maxHeartbeats 1000000 in
theorem progTag (s : ByteArray) (w : World) (hs : s.size ≤ 9223372036854775807) (h : Tz w) : Calls Tryd.prog 14 #[.string s] w fun e w' => e = .returned (.string ⟨(hexN 16 (fnv s.data.toList)).toArray⟩) ∧ Below w.heap.size w w' := by
  go_enter Tryd.func14, Tryd.ntmps14
  go_wp2
  go_loop [3, 8] (fun hh i => ∃ k : Nat, k ≤ s.size ∧ i = .int .i64 k ∧ hh = .int .u64 ((fnv (s.data.toList.take k) : Nat) : Int)) (fun _ i => s.size - (intOf i).toNat)
  case atStart => exact ⟨0, Nat.zero_le _, rfl, rfl⟩
  case round =>
    obtain ⟨k, hk, rfl, rfl⟩ := hrel
    by_cases hlt : k < s.size
    · have hlt' := fnv_lt (s.data.toList.take k)
      have HX : Hid (fnv (s.data.toList.take (k + 1)) = fnvS (fnv (s.data.toList.take k)) s[k]) := by
        show _ = _
        rw [take_snoc s k hlt, fnv_snoc]
      obtain ⟨F, hF⟩ : ∃ F, fnv (s.data.toList.take k) = F := ⟨_, rfl⟩
      rw [hF] at hlt' HX ⊢
      have hst := xor_step F s[k] hlt'
      have hwr : IntKind.u64.wrap (s[k].toNat : Int) = (s[k].toNat : Int) := by
        rw [IntKind.wrap_u64]
        have := s[k].toNat_lt
        omega
      rw [← hwr] at hst
      obtain ⟨F2, hF2⟩ : ∃ F2, fnvS F s[k] = F2 := ⟨_, rfl⟩
      rw [hF2] at HX hst
      have HS : Hid _ := hst
      clear hst hwr
      go_wp2
      exact ⟨⟨k + 1, by omega, by go_num, by rw [HS.out, HX.out]⟩, by simp [intOf]; omega⟩
    · obtain rfl : k = s.size := by omega
      rw [List.take_of_length_le (by rw [Lib.size_eq]; exact Nat.le_refl _)]
      have hl := fnv_lt s.data.toList
      obtain ⟨F, hF⟩ : ∃ F, fnv s.data.toList = F := ⟨_, rfl⟩
      rw [hF] at hl ⊢
      have hp := hex_pad 15 F (by omega)
      have hm := hexM_len 16 F
      have hq := hexM_pos 16 F (by omega)
      have HP : Hid _ := hp
      clear hp
      go_wp2_with fail
      refine (formatUint F _ hl h).mono ?_
      rintro e w1 ⟨rfl, hb1⟩
      obtain ⟨M, hM⟩ : ∃ M, hexM 16 F = M := ⟨_, rfl⟩
      rw [hM] at hm hq HP ⊢
      go_wp2_with fail
      rw [show (16 : Int) - (M.length : Int) = ((16 - M.length : Nat) : Int) by omega]
      have hrp := Tryd.strings_Repeat ⟨#[48]⟩ (16 - M.length) w1 (by omega) (by show 1 * _ ≤ _; omega)
      rw [show (⟨#[48]⟩ : ByteArray).data.toList = [48] from rfl, rep_one] at hrp
      refine hrp.mono ?_
      rintro e w2 ⟨rfl, hb2⟩
      clear hrp
      obtain ⟨Z, hZ⟩ : ∃ Z, List.replicate (16 - M.length) (48 : UInt8) = Z := ⟨_, rfl⟩
      have hZl : Z.length ≤ 16 := by rw [← hZ]; simp
      have HP2 : Hid (Z ++ M = hexN 16 F) := by
        have := HP.out
        rw [show 15 + 1 - M.length = 16 - M.length by omega, hZ] at this
        exact this
      rw [hZ]
      clear hZ HP
      go_wp2
      go_ret
      refine ⟨ret_str ?_, hb1.trans (hb2.mono hb1.size)⟩
      rw [hF, ← HP2.out]
      apply ByteArray.ext
      simp [ByteArray.data_append]
end Go.Proofs.YtmehkneofinmiaaDoor

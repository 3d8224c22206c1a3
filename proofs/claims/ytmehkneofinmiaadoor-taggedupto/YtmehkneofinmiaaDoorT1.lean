/-
  Walks of isTagByte, isTagText, cutComma and strings.Clone.
-/
import Derived.Test.YtmehkneofinmiaaDoorD2
import Derived.Test.YtmehkneofinmiaaDoorShelf2
namespace Go.Proofs.YtmehkneofinmiaaDoor
open Go.RowKit

def tbI (c : Int) : Bool := c == 33 || (decide (35 ≤ c) && decide (c ≤ 126)) || decide (128 ≤ c)
def tb (c : UInt8) : Bool := tbI c.toNat
def okText (l : List UInt8) : Bool := l.all tb

set_option maxHeartbeats 400000 in
theorem isTagByte_any (c : Int) (w : World) :
    Calls Tryd.prog 68 #[.int .u8 c] w fun e w' => e = .returned (.bool (tbI c)) ∧ w' = w := by
  go_enter Tryd.func68, Tryd.ntmps68
  go_wp2
  all_goals go_ret
  all_goals refine ⟨ret_bool ?_, rfl⟩
  all_goals first | (simp_all [tbI]; done) | (rw [Bool.eq_iff_iff]; simp [tbI]; omega)

set_option maxHeartbeats 400000 in
theorem isTagText_any (s : ByteArray) (w : World) (hs : s.size ≤ 9223372036854775807) :
    Calls Tryd.prog 49 #[.string s] w fun e w' => e = .returned (.bool (okText s.data.toList)) ∧ w' = w := by
  go_enter Tryd.func49, Tryd.ntmps49
  go_wp2
  go_loop [6] (fun i => ∃ k : Nat, k ≤ s.size ∧ i = .int .i64 k ∧ Hid ((s.data.toList.take k).all tb = true)) (fun i => s.size - (intOf i).toNat)
  case atStart => exact ⟨0, Nat.zero_le _, rfl, rfl⟩
  case round =>
    obtain ⟨k, hk, rfl, ha⟩ := hrel
    by_cases hlt : k < s.size
    · have HA : Hid ((s.data.toList.take (k + 1)).all tb = tb s[k]) := by
        have := ha.out
        show _ = _
        rw [take_snoc s k hlt, List.all_append, this]; simp
      have HN : Hid (tb s[k] = false → okText s.data.toList = false) := fun hd => by
        unfold okText
        rw [List.all_eq_false]
        exact ⟨s[k], List.getElem_mem (l := s.data.toList) (by simpa using hlt), by simp [hd]⟩
      go_wp2_with (go_at_call 68; refine (isTagByte_any _ _).mono ?_; rintro e w' ⟨rfl, rfl⟩)
      · go_ret
        have h := ‹(!tbI _) = true›
        exact ⟨ret_bool (HN.out (by simpa [tb] using h)).symm, rfl⟩
      · have h := ‹(!tbI _) = false›
        exact ⟨⟨k + 1, by omega, by go_num, HA.out.trans (by simpa [tb] using h)⟩, by simp [intOf]; omega⟩
    · go_wp2
      go_ret
      have := ha.out
      rw [List.take_of_length_le (by simp; omega)] at this
      exact ⟨ret_bool this.symm, rfl⟩

def strip (l : List UInt8) : List UInt8 := Lib.trimLeftS l [32, 9]

set_option maxHeartbeats 400000 in
theorem cutComma_any (s : ByteArray) (w : World) :
    Calls Tryd.prog 31 #[.string s] w fun e w' => e = .returned (.tuple #[.string ⟨(strip (Lib.trimPrefix (strip s.data.toList) [44])).toArray⟩, .bool (Lib.hasPrefix (strip s.data.toList) [44])]) ∧ Below w.heap.size w w' := by
  go_enter Tryd.func31, Tryd.ntmps31
  go_wp2_with fail
  refine (Tryd.trimLeft_blanks _ _).mono ?_
  rintro e w1 ⟨rfl, hb1⟩
  go_wp2_with fail
  refine (Tryd.strings_CutPrefix _ _ _).mono ?_
  rintro e w2 ⟨rfl, rfl⟩
  go_wp2_with fail
  refine (Tryd.trimLeft_blanks _ _).mono ?_
  rintro e w3 ⟨rfl, hb3⟩
  go_wp2
  go_ret2
  exact ⟨rfl, hb1.trans (hb3.mono hb1.size)⟩

set_option maxHeartbeats 400000 in
theorem clone_any (s : ByteArray) (w : World) (hs : s.size ≤ 281474976710656) :
    Calls Tryd.prog 50 #[.string s] w fun e w' => e = .returned (.string s) ∧ Below w.heap.size w w' := by
  go_enter Tryd.func50, Tryd.ntmps50
  go_wp2_with fail
  refine (Tryd.stringslite_Clone _ _ hs).mono ?_
  rintro e w1 ⟨rfl, hb1⟩
  go_wp2
  go_ret
  exact ⟨rfl, hb1⟩
end Go.Proofs.YtmehkneofinmiaaDoor

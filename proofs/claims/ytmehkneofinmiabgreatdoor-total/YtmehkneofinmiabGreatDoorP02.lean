/-
  Texts of this proof, part 2.
-/
import Derived.Test.YtmehkneofinmiabGreatDoorP01
import Derived.WalkKit
namespace Go.Proofs.YtmehkneofinmiabGreatDoor
open Go.RowKit
def digI (c : Int) : Bool := decide (48 ≤ c) && decide (c ≤ 57)
def nameI (c : Int) : Bool := (decide (97 ≤ c) && decide (c ≤ 122)) || ((decide (65 ≤ c) && decide (c ≤ 90)) || (digI c || c == 45))
def keyI (c : Int) : Bool := nameI c || (c == 46 || c == 95)
def digB (c : UInt8) : Bool := digI c.toNat
def nameB (c : UInt8) : Bool := nameI c.toNat
def keyB (c : UInt8) : Bool := keyI c.toNat
def keyOK (l : List UInt8) : Bool := !l.isEmpty && (decide (l.length ≤ 40) && l.all keyB)
def nameOK (l : List UInt8) : Bool := l.all nameB && !l.isEmpty
set_option maxHeartbeats 400000 in
theorem isDigit_any (c : Int) (w : World) : Calls Tryz.prog 221 #[.int .u8 c] w fun e w' => e = .returned (.bool (digI c)) ∧ w' = w := by
  go_enter Tryz.func221, Tryz.ntmps221
  go_wp2
  all_goals go_ret
  all_goals refine ⟨ret_bool ?_, rfl⟩
  all_goals first | (simp_all [digI]; done) | (rw [Bool.eq_iff_iff]; simp [digI]; omega)
set_option maxHeartbeats 400000 in
theorem isNameByte_any (c : Int) (w : World) : Calls Tryz.prog 220 #[.int .u8 c] w fun e w' => e = .returned (.bool (nameI c)) ∧ w' = w := by
  go_enter Tryz.func220, Tryz.ntmps220
  go_wp2_with (go_at_call 221; refine (isDigit_any _ _).mono ?_; rintro e w' ⟨rfl, rfl⟩)
  all_goals go_ret
  all_goals refine ⟨ret_bool ?_, rfl⟩
  all_goals first | (simp_all [nameI]; done) | (simp_all [nameI, digI]; done) | (simp_all [nameI, digI]; omega) | (rw [Bool.eq_iff_iff]; simp_all [nameI, digI]; omega)
set_option maxHeartbeats 400000 in
theorem isKeyByte_any (c : Int) (w : World) : Calls Tryz.prog 177 #[.int .u8 c] w fun e w' => e = .returned (.bool (keyI c)) ∧ w' = w := by
  go_enter Tryz.func177, Tryz.ntmps177
  go_wp2_with (go_at_call 220; refine (isNameByte_any _ _).mono ?_; rintro e w' ⟨rfl, rfl⟩)
  all_goals go_ret
  all_goals refine ⟨ret_bool ?_, rfl⟩
  all_goals first | (simp_all [keyI]; done) | (rw [Bool.eq_iff_iff]; simp [keyI]; omega)
theorem nil_of_size {s : ByteArray} (h : s.size = 0) : s = ⟨#[]⟩ := by
  have hz := Lib.size_eq s
  apply ByteArray.ext
  apply Array.toList_inj.1
  exact List.eq_nil_of_length_eq_zero (by omega)
theorem list_of (s : ByteArray) : s.toList = s.data.toList := by
  obtain ⟨⟨l⟩⟩ := s
  simp
theorem ne_nil {s : ByteArray} (h : ¬ s.size = 0) : (s.toList == []) = false ∧ s.data.toList.isEmpty = false := by
  have hz := Lib.size_eq s
  have : s.data.toList ≠ [] := by
    intro e
    rw [e] at hz
    exact h hz
  refine ⟨?_, by simpa using this⟩
  rw [list_of]
  simpa using this
set_option maxHeartbeats 400000 in
theorem isKey_any (s : ByteArray) (w : World) (hs : s.size ≤ 9223372036854775807) :
    Calls Tryz.prog 130 #[.string s] w fun e w' => e = .returned (.bool (keyOK s.data.toList)) ∧ w' = w := by
  have hz := Lib.size_eq s
  by_cases h0 : s.size = 0
  · obtain rfl := nil_of_size h0
    try clear hz
    try clear hne2
    go_enter Tryz.func130, Tryz.ntmps130
    go_wp2
    go_ret
    exact ⟨rfl, rfl⟩
  · obtain ⟨hne, hne2⟩ := ne_nil h0
    by_cases h40 : s.size ≤ 40
    · have HK : Hid (keyOK s.data.toList = s.data.toList.all keyB) := by
        show _ = _
        unfold keyOK
        rw [hne2, ← hz, decide_eq_true h40, Bool.not_false, Bool.true_and, Bool.true_and]
      try clear hz
      try clear hne2
      go_enter Tryz.func130, Tryz.ntmps130
      go_wp2
      go_loop [13] (fun i => ∃ k : Nat, k ≤ s.size ∧ i = .int .i64 k ∧ Hid ((s.data.toList.take k).all keyB = true)) (fun i => s.size - (intOf i).toNat)
      case atStart => exact ⟨0, Nat.zero_le _, rfl, rfl⟩
      case round =>
        obtain ⟨k, hk, rfl, ha⟩ := hrel
        by_cases hlt : k < s.size
        · have HA : Hid ((s.data.toList.take (k + 1)).all keyB = keyB s[k]) := by
            have := ha.out
            show _ = _
            rw [take_snoc s k hlt, List.all_append, this]; simp
          have HN : Hid (keyB s[k] = false → keyOK s.data.toList = false) := fun hd => by
            rw [HK.out, List.all_eq_false]
            exact ⟨s[k], List.getElem_mem (l := s.data.toList) (by simpa using hlt), by simp [hd]⟩
          go_wp2_with (go_at_call 177; refine (isKeyByte_any _ _).mono ?_; rintro e w' ⟨rfl, rfl⟩)
          · go_ret
            have h := ‹(!keyI _) = true›
            exact ⟨ret_bool (HN.out (by simpa [keyB] using h)).symm, rfl⟩
          · have h := ‹(!keyI _) = false›
            exact ⟨⟨k + 1, by omega, by go_num, HA.out.trans (by simpa [keyB] using h)⟩, by simp [intOf]; omega⟩
        · go_wp2
          go_ret
          have := ha.out
          rw [List.take_of_length_le (by simp; omega)] at this
          exact ⟨ret_bool (HK.out.trans this).symm, rfl⟩
    · have HK : Hid (keyOK s.data.toList = false) := by
        show _ = _
        unfold keyOK
        rw [← hz, decide_eq_false h40, Bool.false_and, Bool.and_false]
      try clear hz
      try clear hne2
      go_enter Tryz.func130, Tryz.ntmps130
      go_wp2
      go_ret
      exact ⟨ret_bool HK.out.symm, rfl⟩
set_option maxHeartbeats 400000 in
theorem isName_any (s : ByteArray) (w : World) (hs : s.size ≤ 9223372036854775807) :
    Calls Tryz.prog 179 #[.string s] w fun e w' => e = .returned (.bool (nameOK s.data.toList)) ∧ w' = w := by
  by_cases h0 : s.size = 0
  · obtain rfl := nil_of_size h0
    try clear hz
    try clear hne2
    go_enter Tryz.func179, Tryz.ntmps179
    go_wp2
    go_loop [6] (fun i => i = .int .i64 0) (fun _ => 0)
    case atStart => exact rfl
    case round =>
      subst hrel
      go_wp2
      go_ret
      exact ⟨rfl, rfl⟩
  · obtain ⟨hne, hne2⟩ := ne_nil h0
    have hne3 : (s.toList != []) = true := by simpa using hne
    have HK : Hid (nameOK s.data.toList = s.data.toList.all nameB) := by
      show _ = _
      unfold nameOK
      rw [hne2]
      simp
    try clear hz
    try clear hne2
    go_enter Tryz.func179, Tryz.ntmps179
    go_wp2
    go_loop [6] (fun i => ∃ k : Nat, k ≤ s.size ∧ i = .int .i64 k ∧ Hid ((s.data.toList.take k).all nameB = true)) (fun i => s.size - (intOf i).toNat)
    case atStart => exact ⟨0, Nat.zero_le _, rfl, rfl⟩
    case round =>
      obtain ⟨k, hk, rfl, ha⟩ := hrel
      by_cases hlt : k < s.size
      · have HA : Hid ((s.data.toList.take (k + 1)).all nameB = nameB s[k]) := by
          have := ha.out
          show _ = _
          rw [take_snoc s k hlt, List.all_append, this]; simp
        have HN : Hid (nameB s[k] = false → nameOK s.data.toList = false) := fun hd => by
          rw [HK.out, List.all_eq_false]
          exact ⟨s[k], List.getElem_mem (l := s.data.toList) (by simpa using hlt), by simp [hd]⟩
        go_wp2_with (go_at_call 220; refine (isNameByte_any _ _).mono ?_; rintro e w' ⟨rfl, rfl⟩)
        · go_ret
          have h := ‹(!nameI _) = true›
          exact ⟨ret_bool (HN.out (by simpa [nameB] using h)).symm, rfl⟩
        · have h := ‹(!nameI _) = false›
          exact ⟨⟨k + 1, by omega, by go_num, HA.out.trans (by simpa [nameB] using h)⟩, by simp [intOf]; omega⟩
      · go_wp2
        go_ret
        have := ha.out
        rw [List.take_of_length_le (by simp; omega)] at this
        exact ⟨ret_bool (HK.out.trans this).symm, rfl⟩
def numV (l : List UInt8) : Nat := l.foldl (fun n c => n * 10 + (c.toNat - 48)) 0
def numF (l : List UInt8) : Option Nat := if l.isEmpty || (decide (9 < l.length) || (l.head? == some 48 || !l.all digB)) then none else some (numV l)
theorem numV_snoc (l : List UInt8) (c : UInt8) : numV (l ++ [c]) = numV l * 10 + (c.toNat - 48) := by
  unfold numV
  rw [List.foldl_append, List.foldl_cons, List.foldl_nil]
theorem numV_lt (l : List UInt8) (h : l.all digB = true) : numV l < 10 ^ l.length := by
  suffices hg : ∀ (l : List UInt8) (x : Nat), l.all digB = true → l.foldl (fun n c => n * 10 + (c.toNat - 48)) x < (x + 1) * 10 ^ l.length by
    have := hg l 0 h
    rw [Nat.zero_add, Nat.one_mul] at this
    exact this
  intro l
  induction l with
  | nil => intro x _; simp
  | cons c l ih =>
    intro x hx
    simp only [List.all_cons, Bool.and_eq_true] at hx
    have hc : c.toNat - 48 ≤ 9 := by
      have := hx.1
      unfold digB digI at this
      simp at this
      omega
    have := ih (x * 10 + (c.toNat - 48)) hx.2
    rw [List.foldl_cons, List.length_cons, Nat.pow_succ]
    refine Nat.lt_of_lt_of_le this ?_
    rw [show (x + 1) * (10 ^ l.length * 10) = ((x + 1) * 10) * 10 ^ l.length by rw [Nat.mul_comm (10 ^ l.length) 10, Nat.mul_assoc]]
    exact Nat.mul_le_mul_right _ (by omega)
def numOut : Option Nat → Value
  | some n => .tuple #[.int .i64 (n : Int), .bool true]
  | none => .tuple #[.int .i64 0, .bool false]
theorem head_of (s : ByteArray) (h : 0 < s.size) : s.data.toList.head? = some s[0] := by
  rw [List.head?_eq_getElem?, List.getElem?_eq_getElem (by rw [← Lib.size_eq]; exact h)]
  rfl
set_option maxHeartbeats 1000000 in
theorem wireNumber_any (s : ByteArray) (w : World) (hs : s.size ≤ 9223372036854775807) :
    Calls Tryz.prog 178 #[.string s] w fun e w' => e = .returned (numOut (numF s.data.toList)) ∧ w' = w := by
  have hz := Lib.size_eq s
  by_cases h0 : s.size = 0
  · obtain rfl := nil_of_size h0
    try clear hz
    try clear hne2
    go_enter Tryz.func178, Tryz.ntmps178
    go_wp2
    go_ret2
    exact ⟨rfl, rfl⟩
  · obtain ⟨hne, hne2⟩ := ne_nil h0
    have hpos : 0 < s.size := by omega
    by_cases h9 : s.size ≤ 9
    · by_cases h48 : (s[0].toNat : Int) = 48
      · have HK : Hid (numF s.data.toList = none) := by
          show _ = _
          unfold numF
          have e : s[0] = 48 := by
            apply UInt8.toNat_inj.1
            show _ = 48
            omega
          rw [head_of s hpos, e]
          simp
        try clear hz
        try clear hne2
        go_enter Tryz.func178, Tryz.ntmps178
        go_wp2
        rw [HK.out]
        go_ret2
        exact ⟨rfl, rfl⟩
      · have h48' : ((s[0].toNat : Int) == 48) = false := by simpa using h48
        have HK : Hid (numF s.data.toList = if s.data.toList.all digB then some (numV s.data.toList) else none) := by
          show _ = _
          unfold numF
          have e : ¬ s[0] = 48 := by
            intro e
            rw [e] at h48
            exact h48 rfl
          rw [head_of s hpos, hne2, ← hz]
          cases s.data.toList.all digB <;> simp [e] <;> omega
        try clear hz
        try clear hne2
        go_enter Tryz.func178, Tryz.ntmps178
        go_wp2
        go_loop [4, 20] (fun n i => ∃ k : Nat, k ≤ s.size ∧ i = .int .i64 k ∧ n = .int .i64 (numV (s.data.toList.take k) : Int) ∧ Hid ((s.data.toList.take k).all digB = true)) (fun _ i => s.size - (intOf i).toNat)
        case atStart => exact ⟨0, Nat.zero_le _, rfl, rfl, rfl⟩
        case round =>
          obtain ⟨k, hk, rfl, rfl, ha⟩ := hrel
          by_cases hlt : k < s.size
          · have HA : Hid ((s.data.toList.take (k + 1)).all digB = digB s[k]) := by
              have := ha.out
              show _ = _
              rw [take_snoc s k hlt, List.all_append, this]; simp
            have HN : Hid (digB s[k] = false → numF s.data.toList = none) := fun hd => by
              rw [HK.out, if_neg]
              rw [Bool.not_eq_true, List.all_eq_false]
              exact ⟨s[k], List.getElem_mem (l := s.data.toList) (by simpa using hlt), by simp [hd]⟩
            have HV : Hid (numV (s.data.toList.take (k + 1)) = numV (s.data.toList.take k) * 10 + (s[k].toNat - 48)) := by
              show _ = _
              rw [take_snoc s k hlt, numV_snoc]
            have hl := numV_lt (s.data.toList.take k) ha.out
            have hp : 10 ^ (s.data.toList.take k).length ≤ 10 ^ 9 := Nat.pow_le_pow_right (by decide) (by simp; omega)
            obtain ⟨V, hV⟩ : ∃ V, numV (s.data.toList.take k) = V := ⟨_, rfl⟩
            rw [hV] at HV hl ⊢
            have hV9 : V < 1000000000 := by omega
            have hcl := s[k].toNat_lt
            by_cases hd : digB s[k] = true
            · have hd' : digI (s[k].toNat : Int) = true := hd
              have h48k : 48 ≤ (s[k].toNat : Int) ∧ (s[k].toNat : Int) ≤ 57 := by
                unfold digI at hd'
                simpa using hd'
              clear hl hp
              go_wp2_with (go_at_call 221; refine (isDigit_any _ _).mono ?_; rintro e w' ⟨rfl, rfl⟩)
              refine ⟨⟨k + 1, by omega, by go_num, ?_, HA.out.trans hd⟩, by simp [intOf]; omega⟩
              rw [HV.out]
              congr 1
              omega
            · have hd' : digI (s[k].toNat : Int) = false := by simpa [digB] using hd
              clear hl hp
              go_wp2_with (go_at_call 221; refine (isDigit_any _ _).mono ?_; rintro e w' ⟨rfl, rfl⟩)
              rw [HN.out (by simpa using hd)]
              go_ret2
              exact ⟨rfl, rfl⟩
          · go_wp2
            have hall := ha.out
            rw [List.take_of_length_le (by simp; omega)] at hall ⊢
            rw [HK.out, hall, if_pos rfl]
            go_ret2
            exact ⟨rfl, rfl⟩
    · have HK : Hid (numF s.data.toList = none) := by
        show _ = _
        unfold numF
        rw [← hz]
        simp
        omega
      try clear hz
      try clear hne2
      go_enter Tryz.func178, Tryz.ntmps178
      go_wp2
      rw [HK.out]
      go_ret2
      exact ⟨rfl, rfl⟩
def methF (l : List UInt8) : Option Nat := if l = [71, 69, 84] then some 0 else if l = [72, 69, 65, 68] then some 1 else if l = [80, 85, 84] then some 2 else if l = [68, 69, 76, 69, 84, 69] then some 3 else none
theorem beq_list (s : ByteArray) (l : List UInt8) (h : ¬ s.data.toList = l) : (s.toList == l) = false := by
  rw [list_of]
  simpa using h
theorem of_list {s : ByteArray} {l : List UInt8} (h : s.data.toList = l) : s = ⟨l.toArray⟩ := by
  apply ByteArray.ext
  apply Array.toList_inj.1
  rw [h]
set_option maxHeartbeats 400000 in
theorem readMethod_any (s : ByteArray) (w : World) : Calls Tryz.prog 82 #[.string s] w fun e w' => e = .returned (numOut (methF s.data.toList)) ∧ w' = w := by
  by_cases h1 : s.data.toList = [71, 69, 84]
  · obtain rfl := of_list h1
    go_enter Tryz.func82, Tryz.ntmps82
    go_wp2
    go_ret2
    exact ⟨rfl, rfl⟩
  · by_cases h2 : s.data.toList = [72, 69, 65, 68]
    · obtain rfl := of_list h2
      go_enter Tryz.func82, Tryz.ntmps82
      go_wp2
      go_ret2
      exact ⟨rfl, rfl⟩
    · by_cases h3 : s.data.toList = [80, 85, 84]
      · obtain rfl := of_list h3
        go_enter Tryz.func82, Tryz.ntmps82
        go_wp2
        go_ret2
        exact ⟨rfl, rfl⟩
      · by_cases h4 : s.data.toList = [68, 69, 76, 69, 84, 69]
        · obtain rfl := of_list h4
          go_enter Tryz.func82, Tryz.ntmps82
          go_wp2
          go_ret2
          exact ⟨rfl, rfl⟩
        · have b1 := beq_list s _ h1
          have b2 := beq_list s _ h2
          have b3 := beq_list s _ h3
          have b4 := beq_list s _ h4
          have HM : Hid (methF s.data.toList = none) := by
            show _ = _
            unfold methF
            rw [if_neg h1, if_neg h2, if_neg h3, if_neg h4]
          clear h1 h2 h3 h4
          go_enter Tryz.func82, Tryz.ntmps82
          go_wp2
          rw [HM.out]
          go_ret2
          exact ⟨rfl, rfl⟩
end Go.Proofs.YtmehkneofinmiabGreatDoor

namespace Go.Proofs.YtmehkneofinmiabGreatDoor
open Go.RowKit
theorem mk_app (a b : List UInt8) : (⟨a.toArray⟩ : ByteArray) ++ ⟨b.toArray⟩ = ⟨(a ++ b).toArray⟩ := by
  apply ByteArray.ext
  simp
def crlf : List UInt8 := [13, 10]
def reqB (method target fields body : List UInt8) : List UInt8 := method ++ [32] ++ target ++ crlf ++ fields ++ crlf ++ body
set_option maxHeartbeats 1000000 in
theorem request_any (a b c d : List UInt8) (w : World) (ha : a.length < 100000) (hb : b.length < 100000) (hc : c.length < 100000) (hd : d.length < 100000) :
    Calls Tryz.prog 12 #[.string ⟨a.toArray⟩, .string ⟨b.toArray⟩, .string ⟨c.toArray⟩, .string ⟨d.toArray⟩] w fun e w' => e = .returned (.string ⟨(reqB a b c d).toArray⟩) ∧ w' = w := by
  go_enter Tryz.func12, Tryz.ntmps12
  go_wp2
  go_ret
  refine ⟨?_, rfl⟩
  show Ending.returned (.string _) = _
  rw [mk_app, mk_app, mk_app, mk_app, mk_app, mk_app]
  rfl
end Go.Proofs.YtmehkneofinmiabGreatDoor

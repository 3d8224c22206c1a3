/-
  Texts of this proof, part 2.
-/
import Derived.Test.YtmehkneofinmiaaGreatDoorP01
import Derived.WalkKit
namespace Go.Proofs.YtmehkneofinmiaaGreatDoor
open Go.RowKit

theorem mk_app (a b : List UInt8) : (⟨a.toArray⟩ : ByteArray) ++ ⟨b.toArray⟩ = ⟨(a ++ b).toArray⟩ := by
  apply ByteArray.ext
  simp
def crlf : List UInt8 := [13, 10]
/-- a request's bytes -/
def reqB (method target fields body : List UInt8) : List UInt8 := method ++ [32] ++ target ++ crlf ++ fields ++ crlf ++ body
set_option maxHeartbeats 1000000 in
theorem request_any (a b c d : List UInt8) (w : World) (ha : a.length < 100000) (hb : b.length < 100000) (hc : c.length < 100000) (hd : d.length < 100000) :
    Calls Tryz.prog 16 #[.string ⟨a.toArray⟩, .string ⟨b.toArray⟩, .string ⟨c.toArray⟩, .string ⟨d.toArray⟩] w fun e w' => e = .returned (.string ⟨(reqB a b c d).toArray⟩) ∧ w' = w := by
  go_enter Tryz.func16, Tryz.ntmps16
  go_wp2
  go_ret
  refine ⟨?_, rfl⟩
  show Ending.returned (.string _) = _
  rw [mk_app, mk_app, mk_app, mk_app, mk_app, mk_app]
  rfl

set_option maxRecDepth 100000 in
set_option maxHeartbeats 4000000 in
/-- the code of an answer that begins with three digits and CRLF -/
theorem code_s (s : ByteArray) (w : World) (h5 : 5 ≤ s.size) (hs : s.size ≤ 9223372036854775807) (he : (s.extract 3 5).toList = [13, 10]) (hd : (s.data.toList.take 3).all digB = true) :
    Calls Tryz.prog 20 #[.string s] w fun e w' => e = .returned (.int .i64 (numV (s.data.toList.take 3) : Int)) ∧ w' = w := by
  have HD : Hid _ := hd
  clear hd
  go_enter Tryz.func20, Tryz.ntmps20
  go_wp2
  go_loop [3, 4] (fun n i => ∃ k : Nat, k ≤ 3 ∧ i = .int .i64 k ∧ n = .int .i64 (numV (s.data.toList.take k) : Int)) (fun _ i => 3 - (intOf i).toNat)
  case atStart => exact ⟨0, Nat.zero_le _, rfl, rfl⟩
  case round =>
    obtain ⟨k, hk, rfl, rfl⟩ := hrel
    have hda : ∀ j, j ≤ 3 → (s.data.toList.take j).all digB = true := fun j hj => by
      have := HD.out
      rw [List.all_eq_true] at this ⊢
      intro x hx
      exact this x (by
        rw [show s.data.toList.take j = (s.data.toList.take 3).take j by rw [List.take_take, Nat.min_eq_left hj]] at hx
        exact List.mem_of_mem_take hx)
    have hl := numV_lt (s.data.toList.take k) (hda k hk)
    have hp : 10 ^ (s.data.toList.take k).length ≤ 10 ^ 3 := Nat.pow_le_pow_right (by decide) (by simp; omega)
    by_cases hlt : k < 3
    · have hks : k < s.size := by omega
      have HV : Hid (numV (s.data.toList.take (k + 1)) = numV (s.data.toList.take k) * 10 + (s[k].toNat - 48)) := by
        show _ = _
        rw [take_snoc s k hks, numV_snoc]
      have hdk : digB s[k] = true := by
        have := hda (k + 1) (by omega)
        rw [take_snoc s k hks, List.all_append, Bool.and_eq_true] at this
        have h2 := this.2
        rw [List.all_cons, Bool.and_eq_true] at h2
        exact h2.1
      have h48k : 48 ≤ (s[k].toNat : Int) ∧ (s[k].toNat : Int) ≤ 57 := by
        unfold digB digI at hdk
        simpa using hdk
      obtain ⟨V, hV⟩ : ∃ V, numV (s.data.toList.take k) = V := ⟨_, rfl⟩
      rw [hV] at HV hl ⊢
      have hV9 : V < 1000 := by omega
      clear hl hp hda hdk
      go_wp2
      refine ⟨⟨k + 1, by omega, by go_num, ?_⟩, by simp [intOf]; omega⟩
      rw [HV.out]
      congr 1
      omega
    · obtain rfl : k = 3 := by omega
      clear hda
      obtain ⟨V, hV⟩ : ∃ V, numV (s.data.toList.take 3) = V := ⟨_, rfl⟩
      rw [hV] at hl ⊢
      go_wp2
      go_ret
      exact ⟨rfl, rfl⟩
/-- where CRLF CRLF begins first -/
def headI (l : List UInt8) : Option Nat := (List.range (l.length - 3)).find? fun i => (l.drop i).take 4 == [13, 10, 13, 10]
set_option maxRecDepth 100000 in
set_option maxHeartbeats 4000000 in
theorem head_s (s : ByteArray) (w : World) (hs : s.size ≤ 1000000000) (k : Nat) (hk : k + 4 ≤ s.size) (he : (s.extract k (k + 4)).toList = [13, 10, 13, 10]) (hn : ∀ j, j < k → (s.extract j (j + 4)).toList ≠ [13, 10, 13, 10]) :
    Calls Tryz.prog 24 #[.string s] w fun e w' => e = .returned (.int .i64 ((k + 4 : Nat) : Int)) ∧ w' = w := by
  have HN : Hid _ := hn
  have HE : Hid _ := he
  clear hn he
  go_enter Tryz.func24, Tryz.ntmps24
  go_wp2
  go_loop [3] (fun i => ∃ j : Nat, j ≤ k ∧ i = .int .i64 j) (fun i => k - (intOf i).toNat)
  case atStart => exact ⟨0, Nat.zero_le _, rfl⟩
  case round =>
    obtain ⟨j, hj, rfl⟩ := hrel
    by_cases hlt : j < k
    · have hne : ((s.extract j (j + 4)).toList == [13, 10, 13, 10]) = false := beq_eq_false_iff_ne.2 (HN.out j hlt)
      go_wp2
      exact ⟨⟨j + 1, by omega, by go_num⟩, by simp [intOf]; omega⟩
    · obtain rfl : j = k := by omega
      have hye : (s.extract j (j + 4)).toList = [13, 10, 13, 10] := HE.out
      go_wp2
      go_ret
      exact ⟨rfl, rfl⟩
/-- where an answer's body begins -/
structure HeadAt (s : ByteArray) (k : Nat) : Prop where
  le : k + 4 ≤ s.size
  hit : (s.extract k (k + 4)).toList = [13, 10, 13, 10]
  no : ∀ j, j < k → (s.extract j (j + 4)).toList ≠ [13, 10, 13, 10]
theorem body_s (s : ByteArray) (w : World) (hs : s.size ≤ 1000000000) (k : Nat) (h : HeadAt s k) :
    Calls Tryz.prog 21 #[.string s] w fun e w' => e = .returned (.string (s.extract (k + 4) s.size)) ∧ w' = w := by
  have hk := h.le
  have HH : Hid _ := h
  clear h
  go_enter Tryz.func21, Tryz.ntmps21
  go_wp2_with (go_at_call 24; refine (head_s s _ hs k HH.out.le HH.out.hit HH.out.no).mono ?_; rintro e w' ⟨rfl, rfl⟩)
  go_ret
  exact ⟨rfl, rfl⟩
set_option maxRecDepth 100000 in
set_option maxHeartbeats 4000000 in
/-- a field's value: it begins first at i, and ends at t -/
theorem field_s (s : ByteArray) (name : List UInt8) (w : World) (hs : s.size ≤ 1000000000) (hn : name.length ≤ 1000) (m : Nat) (hm : m = name.length + 4) (k : Nat) (h : HeadAt s k) (i : Nat) (hi : i + m ≤ k + 2) (he : (s.extract i (i + m)).toList = [13, 10] ++ name ++ [58, 32])
    (hno : ∀ j, j < i → (s.extract j (j + m)).toList ≠ [13, 10] ++ name ++ [58, 32]) (t : Nat) (ht : i + m ≤ t) (htn : t < k + 4) (hv : ∀ (j : Nat) (hj : j < s.size), i + m ≤ j → j < t → s[j] ≠ 13) (hc : ∀ h : t < s.size, s[t] = 13) :
    Calls Tryz.prog 22 #[.string s, .string ⟨name.toArray⟩] w fun e w' => e = .returned (.string (s.extract (i + m) t)) ∧ w' = w := by
  have hk := h.le
  have HH : Hid _ := h
  have HE : Hid _ := he
  have HO : Hid _ := hno
  have HV : Hid _ := hv
  have HC : Hid _ := hc
  clear h he hno hv hc
  go_enter Tryz.func22, Tryz.ntmps22
  go_wp2_with (go_at_call 24; refine (head_s s _ hs k HH.out.le HH.out.hit HH.out.no).mono ?_; rintro e w' ⟨rfl, rfl⟩)
  have hWs : (({ data := #[13, 10] } ++ { data := name.toArray } ++ { data := #[58, 32] } : ByteArray)).size = name.length + 4 := by simp [ByteArray.size]
  have HW : Hid ((({ data := #[13, 10] } ++ { data := name.toArray } ++ { data := #[58, 32] } : ByteArray)).toList = [13, 10] ++ name ++ [58, 32]) := by
    show _ = _
    rw [list_of]
    simp
  generalize ({ data := #[13, 10] } ++ { data := name.toArray } ++ { data := #[58, 32] } : ByteArray) = V at hWs HW ⊢
  generalize ({ data := #[13, 10] } ++ { data := name.toArray } : ByteArray) = V1
  rw [← hm] at hWs
  have hm2 : m ≤ 1004 := by omega
  clear hm
  go_loop [7] (fun x => ∃ j : Nat, j ≤ i ∧ x = .int .i64 j) (fun x => i - (intOf x).toNat)
  case atStart => exact ⟨0, Nat.zero_le _, rfl⟩
  case round =>
    obtain ⟨j, hj, rfl⟩ := hrel
    by_cases hlt : j < i
    · have hne : ((s.extract j (j + m)).toList == V.toList) = false := beq_eq_false_iff_ne.2 (by rw [HW.out]; exact HO.out j hlt)
      go_wp2
      exact ⟨⟨j + 1, by omega, by go_num⟩, by simp [intOf]; omega⟩
    · obtain rfl : j = i := by omega
      have hye : ((s.extract j (j + m)).toList == V.toList) = true := beq_iff_eq.2 (by rw [HW.out]; exact HE.out)
      go_wp2
      go_loop [9] (fun x => ∃ z : Nat, j + m ≤ z ∧ z ≤ t ∧ x = .int .i64 z) (fun x => t - (intOf x).toNat)
      case atStart => exact ⟨j + m, Nat.le_refl _, ht, by go_num⟩
      case round =>
        obtain ⟨z, hz, hzt, rfl⟩ := hrel
        by_cases hlt2 : z < t
        · have hzs : z < s.size := by omega
          have h13 : ((s[z].toNat : Int) == 13) = false := beq_eq_false_iff_ne.2 (fun e => HV.out z hzs hz hlt2 (UInt8.toNat_inj.1 (show s[z].toNat = 13 by omega)))
          go_wp2
          exact ⟨⟨z + 1, by omega, by omega, by go_num⟩, by simp [intOf]; omega⟩
        · obtain rfl : z = t := by omega
          have hzs : z < s.size := by omega
          have h13 : ((s[z].toNat : Int) == 13) = true := beq_iff_eq.2 (by rw [HC.out hzs]; rfl)
          go_wp2
          go_ret
          exact ⟨rfl, rfl⟩
end Go.Proofs.YtmehkneofinmiaaGreatDoor

/-
  Texts of this proof, part 4.
-/
import Derived.Test.YtmehkneofinmiabGreatDoorP03
import Derived.Test.YtmehkneofinmiabGreatDoorP01
import Derived.Shelf.Strings.SlTrimAscii
namespace Go.Proofs
theorem Tryz.set64 : (Tryz.prog.info? 292).map (fun i => (i.zero, i.size)) = some (some (.agg (Array.replicate 256 (.bool false))), 256) := by kernel_rfl
open Go.RowKit Go.Lib in
theorem Tryz.trim_blanks (s : ByteArray) (w : World) (hs : s.size ≤ 9223372036854775807) :
    Calls Tryz.prog 182 #[.string s, .string ⟨#[32, 9]⟩] w fun e w' => e = .returned (.string ⟨(Lib.trimS s.data.toList [32, 9]).toArray⟩) ∧ Below w.heap.size w w' :=
  Any.strings_Trim_laid Tryz.lays160 Tryz.set64 s ⟨#[32, 9]⟩ w hs (by decide) (ascii_of_all (by decide))
open Go.RowKit Go.Lib in
theorem Tryz.trimLeft_blanks (s : ByteArray) (w : World) :
    Calls Tryz.prog 274 #[.string s, .string ⟨#[32, 9]⟩] w fun e w' => e = .returned (.string ⟨(Lib.trimLeftS s.data.toList [32, 9]).toArray⟩) ∧ Below w.heap.size w w' :=
  Any.strings_TrimLeft_laid Tryz.lays161 Tryz.set64 s ⟨#[32, 9]⟩ w (by decide) (ascii_of_all (by decide))
end Go.Proofs

namespace Go.Proofs.YtmehkneofinmiabGreatDoor
open Go.RowKit
def tbI (c : Int) : Bool := c == 33 || (decide (35 ≤ c) && decide (c ≤ 126)) || decide (128 ≤ c)
def tb (c : UInt8) : Bool := tbI c.toNat
def okText (l : List UInt8) : Bool := l.all tb
set_option maxHeartbeats 400000 in
theorem isTagByte_any (c : Int) (w : World) :
    Calls Tryz.prog 283 #[.int .u8 c] w fun e w' => e = .returned (.bool (tbI c)) ∧ w' = w := by
  go_enter Tryz.func283, Tryz.ntmps283
  go_wp2
  all_goals go_ret
  all_goals refine ⟨ret_bool ?_, rfl⟩
  all_goals first | (simp_all [tbI]; done) | (rw [Bool.eq_iff_iff]; simp [tbI]; omega)
set_option maxHeartbeats 400000 in
theorem isTagText_any (s : ByteArray) (w : World) (hs : s.size ≤ 9223372036854775807) :
    Calls Tryz.prog 273 #[.string s] w fun e w' => e = .returned (.bool (okText s.data.toList)) ∧ w' = w := by
  go_enter Tryz.func273, Tryz.ntmps273
  go_wp2
  go_loop [6] (fun i => ∃ k : Nat, k ≤ s.size ∧ i = .int .i64 k ∧ Hid ((s.data.toList.take k).all tb = true)) (fun i => s.size - (intOf i).toNat)
  case atStart => exact ⟨0, Nat.zero_le _, rfl, rfl⟩
  case round =>
    obtain ⟨k, hk, rfl, ha⟩ := hrel
    by_cases hlt : k < s.size
    · have HA : Hid ((s.data.toList.take (k + 1)).all tb = tb s[k]) := by
        have := ha.out
        show _ = _
        rw [take_snoc s k hlt, List.all_append, this]; simp
      have HN : Hid (tb s[k] = false → okText s.data.toList = false) := fun hd => by
        unfold okText
        rw [List.all_eq_false]
        exact ⟨s[k], List.getElem_mem (l := s.data.toList) (by simpa using hlt), by simp [hd]⟩
      go_wp2_with (go_at_call 283; refine (isTagByte_any _ _).mono ?_; rintro e w' ⟨rfl, rfl⟩)
      · go_ret
        have h := ‹(!tbI _) = true›
        exact ⟨ret_bool (HN.out (by simpa [tb] using h)).symm, rfl⟩
      · have h := ‹(!tbI _) = false›
        exact ⟨⟨k + 1, by omega, by go_num, HA.out.trans (by simpa [tb] using h)⟩, by simp [intOf]; omega⟩
    · go_wp2
      go_ret
      have := ha.out
      rw [List.take_of_length_le (by simp; omega)] at this
      exact ⟨ret_bool this.symm, rfl⟩
def strip (l : List UInt8) : List UInt8 := Lib.trimLeftS l [32, 9]
set_option maxHeartbeats 400000 in
theorem cutComma_any (s : ByteArray) (w : World) :
    Calls Tryz.prog 256 #[.string s] w fun e w' => e = .returned (.tuple #[.string ⟨(strip (Lib.trimPrefix (strip s.data.toList) [44])).toArray⟩, .bool (Lib.hasPrefix (strip s.data.toList) [44])]) ∧ Below w.heap.size w w' := by
  go_enter Tryz.func256, Tryz.ntmps256
  go_wp2_with fail
  refine (Tryz.trimLeft_blanks _ _).mono ?_
  rintro e w1 ⟨rfl, hb1⟩
  go_wp2_with fail
  refine (Tryz.strings_CutPrefix _ _ _).mono ?_
  rintro e w2 ⟨rfl, rfl⟩
  go_wp2_with fail
  refine (Tryz.trimLeft_blanks _ _).mono ?_
  rintro e w3 ⟨rfl, hb3⟩
  go_wp2
  go_ret2
  exact ⟨rfl, hb1.trans (hb3.mono hb1.size)⟩
set_option maxHeartbeats 400000 in
theorem clone_any (s : ByteArray) (w : World) (hs : s.size ≤ 281474976710656) :
    Calls Tryz.prog 240 #[.string s] w fun e w' => e = .returned (.string s) ∧ Below w.heap.size w w' := by
  go_enter Tryz.func240, Tryz.ntmps240
  go_wp2_with fail
  refine (Tryz.stringslite_Clone _ _ hs).mono ?_
  rintro e w1 ⟨rfl, hb1⟩
  go_wp2
  go_ret
  exact ⟨rfl, hb1⟩
end Go.Proofs.YtmehkneofinmiabGreatDoor

namespace Go.Proofs.YtmehkneofinmiabGreatDoor
open Go.RowKit
def tagF (l : List UInt8) : Option (Bool × List UInt8 × List UInt8) :=
  let q := Lib.trimPrefix l [87, 47]
  let c := Lib.cut (Lib.trimPrefix q [34]) [34]
  if Lib.hasPrefix q [34] && (c.2.2 && okText c.1) then some (Lib.hasPrefix l [87, 47], c.1, c.2.1) else none
def MaxIs (w : World) : Prop := ∃ m : Int, w.cell? ⟨1, 0, none⟩ = some (.int .i64 m)
theorem cell_lt {w : World} {b o : Nat} {v : Value} (h : w.cell? ⟨b, o, none⟩ = some v) : b < w.heap.size := World.block_lt_of_cell? _ _ h
theorem MaxIs.below {w w' : World} (h : MaxIs w) (hb : Below w.heap.size w w') : MaxIs w' := by
  obtain ⟨m, hm⟩ := h
  exact ⟨m, (hb.cell (p := ⟨1, 0, none⟩) (cell_lt hm)).trans hm⟩
def Gives (f : FuncId) (args : Array Value) (v : Value) (T : World → Prop) : Prop := ∀ w, T w → Calls Tryz.prog f args w fun e w' => e = .returned v ∧ Below w.heap.size w w'
def tagOut : Bool → Bool → ByteArray → ByteArray → Value
  | true, weak, name, behind => .tuple #[.agg #[.bool weak, .string name], .string behind, .bool true]
  | false, _, _, _ => .tuple #[.agg #[.bool false, .string ⟨#[]⟩], .string ⟨#[]⟩, .bool false]
structure Bx (w x : World) : Prop where
  b : Below w.heap.size w x
  c0 : x.cell? ⟨w.heap.size, 0, none⟩ = some (.bool false)
  c1 : x.cell? ⟨w.heap.size, 1, none⟩ = some (.string ⟨#[]⟩)
  f0 : x.frozen? ⟨w.heap.size, 0, none⟩ = false
  f1 : x.frozen? ⟨w.heap.size, 1, none⟩ = false
  lt : w.heap.size < x.heap.size
theorem Bx.made (w : World) : Bx w (w.alloc (.cells #[.bool false, .string ⟨#[]⟩] 273)) :=
  ⟨(Below.refl _ _).alloc (Nat.le_refl _) _, by simp, by simp, by simp, by simp, by simp⟩
theorem Bx.below {w x y : World} (h : Bx w x) (hb : Below x.heap.size x y) : Bx w y := by
  have lt := h.lt
  have k := hb.size
  exact ⟨h.b.trans (hb.mono (by omega)), (hb.cell (p := ⟨_, 0, none⟩) lt).trans h.c0, (hb.cell (p := ⟨_, 1, none⟩) lt).trans h.c1, (hb.frozen (p := ⟨_, 0, none⟩) lt).trans h.f0, (hb.frozen (p := ⟨_, 1, none⟩) lt).trans h.f1, by omega⟩
set_option maxHeartbeats 1000000 in
theorem cutTag_run (s q inner name behind : ByteArray) (weak opened closed good : Bool) (w : World) (hM : MaxIs w)
    (h1 : Gives 129 #[.string s, .string ⟨#[87, 47]⟩] (.tuple #[.string q, .bool weak]) MaxIs) (h2 : Gives 129 #[.string q, .string ⟨#[34]⟩] (.tuple #[.string inner, .bool opened]) MaxIs)
    (h3 : Gives 81 #[.string inner, .string ⟨#[34]⟩] (.tuple #[.string name, .string behind, .bool closed]) MaxIs) (h4 : Gives 273 #[.string name] (.bool good) MaxIs) (h5 : Gives 240 #[.string name] (.string name) MaxIs) :
    Calls Tryz.prog 255 #[.string s] w fun e w' => e = .returned (tagOut (opened && (closed && good)) weak name behind) ∧ Below w.heap.size w w' := by
  have bx := Bx.made w
  have H1 : Hid _ := h1
  have H2 : Hid _ := h2
  have H3 : Hid _ := h3
  have H4 : Hid _ := h4
  have H5 : Hid _ := h5
  clear h1 h2 h3 h4 h5
  go_enter Tryz.func255, Tryz.ntmps255
  go_wp2_with fail
  refine Calls.mono (H1.out _ (hM.below bx.b)) ?_
  rintro e w1 ⟨rfl, hb1⟩
  have bx1 := bx.below hb1
  clear bx hb1
  go_wp2_with fail
  refine Calls.mono (H2.out _ (hM.below bx1.b)) ?_
  rintro e w2 ⟨rfl, hb2⟩
  have bx2 := bx1.below hb2
  clear bx1 hb2
  cases opened with
  | false =>
    obtain ⟨q1, q2, q3, q4, q5, q6⟩ := bx2
    go_wp2
    exact bodyPost_ret (v := .tuple #[.agg #[.bool false, .string ⟨#[]⟩], .string ⟨#[]⟩, .bool false]) (by simp [results, Tryz.results255, go_sem, q2, q3]) rfl ⟨rfl, (q1.setCell (Nat.le_refl _) _).setCell (Nat.le_refl _) _⟩
  | true =>
    go_wp2_with fail
    refine Calls.mono (H3.out _ (hM.below bx2.b)) ?_
    rintro e w3 ⟨rfl, hb3⟩
    have bx3 := bx2.below hb3
    clear bx2 hb3
    cases closed with
    | false =>
      obtain ⟨q1, q2, q3, q4, q5, q6⟩ := bx3
      go_wp2
      exact bodyPost_ret (v := .tuple #[.agg #[.bool false, .string ⟨#[]⟩], .string ⟨#[]⟩, .bool false]) (by simp [results, Tryz.results255, go_sem, q2, q3]) rfl ⟨rfl, (q1.setCell (Nat.le_refl _) _).setCell (Nat.le_refl _) _⟩
    | true =>
      go_wp2_with fail
      refine Calls.mono (H4.out _ (hM.below bx3.b)) ?_
      rintro e w4 ⟨rfl, hb4⟩
      have bx4 := bx3.below hb4
      clear bx3 hb4
      cases good with
      | false =>
        obtain ⟨q1, q2, q3, q4, q5, q6⟩ := bx4
        go_wp2
        exact bodyPost_ret (v := .tuple #[.agg #[.bool false, .string ⟨#[]⟩], .string ⟨#[]⟩, .bool false]) (by simp [results, Tryz.results255, go_sem, q2, q3]) rfl ⟨rfl, (q1.setCell (Nat.le_refl _) _).setCell (Nat.le_refl _) _⟩
      | true =>
        go_wp2_with fail
        refine Calls.mono (H5.out _ (hM.below bx4.b)) ?_
        rintro e w5 ⟨rfl, hb5⟩
        have bx5 := bx4.below hb5
        clear bx4 hb5
        obtain ⟨q1, q2, q3, q4, q5, q6⟩ := bx5
        go_wp2
        exact bodyPost_ret (v := .tuple #[.agg #[.bool weak, .string name], .string behind, .bool true]) (by simp [results, Tryz.results255, go_sem, q2, q3]) rfl ⟨rfl, (q1.setCell (Nat.le_refl _) _).setCell (Nat.le_refl _) _⟩
theorem tagF_def (l : List UInt8) : tagF l = if Lib.hasPrefix (Lib.trimPrefix l [87, 47]) [34] && ((Lib.cut (Lib.trimPrefix (Lib.trimPrefix l [87, 47]) [34]) [34]).2.2 && okText (Lib.cut (Lib.trimPrefix (Lib.trimPrefix l [87, 47]) [34]) [34]).1)
    then some (Lib.hasPrefix l [87, 47], (Lib.cut (Lib.trimPrefix (Lib.trimPrefix l [87, 47]) [34]) [34]).1, (Lib.cut (Lib.trimPrefix (Lib.trimPrefix l [87, 47]) [34]) [34]).2.1) else none := rfl
theorem cut_len (l p : List UInt8) : (Lib.cut l p).1.length ≤ l.length := by
  unfold Lib.cut
  split
  · simp; omega
  · exact Nat.le_refl _
theorem cutTag_any (s : ByteArray) (w : World) (hM : MaxIs w) (hs : s.size < 4294967281) :
    Calls Tryz.prog 255 #[.string s] w fun e w' => ((∃ weak name behind, tagF s.data.toList = some (weak, name, behind) ∧ e = .returned (.tuple #[.agg #[.bool weak, .string ⟨name.toArray⟩], .string ⟨behind.toArray⟩, .bool true])) ∨
      (tagF s.data.toList = none ∧ e = .returned (.tuple #[.agg #[.bool false, .string ⟨#[]⟩], .string ⟨#[]⟩, .bool false]))) ∧ Below w.heap.size w w' := by
  have z1 := Lib.trimPrefix_le s.data.toList [87, 47]
  have z2 := Lib.trimPrefix_le (Lib.trimPrefix s.data.toList [87, 47]) [34]
  have z3 := cut_len (Lib.trimPrefix (Lib.trimPrefix s.data.toList [87, 47]) [34]) [34]
  have z0 := Lib.size_eq s
  have g1 : Gives 129 #[.string s, .string ⟨#[87, 47]⟩] (.tuple #[.string ⟨(Lib.trimPrefix s.data.toList [87, 47]).toArray⟩, .bool (Lib.hasPrefix s.data.toList [87, 47])]) MaxIs := fun w _ => by
    refine (Tryz.strings_CutPrefix s ⟨#[87, 47]⟩ w).mono ?_
    rintro e w' ⟨rfl, rfl⟩
    exact ⟨rfl, Below.refl _ _⟩
  have g2 : Gives 129 #[.string ⟨(Lib.trimPrefix s.data.toList [87, 47]).toArray⟩, .string ⟨#[34]⟩] (.tuple #[.string ⟨(Lib.trimPrefix (Lib.trimPrefix s.data.toList [87, 47]) [34]).toArray⟩, .bool (Lib.hasPrefix (Lib.trimPrefix s.data.toList [87, 47]) [34])]) MaxIs := fun w _ => by
    refine (Tryz.strings_CutPrefix ⟨(Lib.trimPrefix s.data.toList [87, 47]).toArray⟩ ⟨#[34]⟩ w).mono ?_
    rintro e w' ⟨rfl, rfl⟩
    exact ⟨rfl, Below.refl _ _⟩
  generalize hq : Lib.trimPrefix (Lib.trimPrefix s.data.toList [87, 47]) [34] = inner at z2 z3 g2
  have g3 : Gives 81 #[.string ⟨inner.toArray⟩, .string ⟨#[34]⟩] (.tuple #[.string ⟨(Lib.cut inner [34]).1.toArray⟩, .string ⟨(Lib.cut inner [34]).2.1.toArray⟩, .bool (Lib.cut inner [34]).2.2]) MaxIs := fun w hw => by
    obtain ⟨m, hm⟩ := hw
    refine (Tryz.strings_Cut ⟨inner.toArray⟩ ⟨#[34]⟩ m w (by rw [Lib.size_eq]; simp; omega) hm).mono ?_
    rintro e w' ⟨rfl, n, rfl⟩
    exact ⟨rfl, below_drewN (Below.refl _ _) n⟩
  generalize hc : Lib.cut inner [34] = c at z3 g3
  have g4 : Gives 273 #[.string ⟨c.1.toArray⟩] (.bool (okText c.1)) MaxIs := fun w _ => by
    refine (isTagText_any ⟨c.1.toArray⟩ w (by rw [Lib.size_eq]; simp; omega)).mono ?_
    rintro e w' ⟨rfl, rfl⟩
    exact ⟨rfl, Below.refl _ _⟩
  have g5 : Gives 240 #[.string ⟨c.1.toArray⟩] (.string ⟨c.1.toArray⟩) MaxIs := fun w _ => clone_any ⟨c.1.toArray⟩ w (by rw [Lib.size_eq]; simp; omega)
  refine (cutTag_run s _ _ _ _ _ _ _ _ w hM g1 g2 g3 g4 g5).mono ?_
  rintro e w' ⟨rfl, hb⟩
  refine ⟨?_, hb⟩
  rw [tagF_def, hq, hc]
  cases hB : (Lib.hasPrefix (Lib.trimPrefix s.data.toList [87, 47]) [34] && (c.2.2 && okText c.1)) with
  | true => exact Or.inl ⟨_, _, _, rfl, rfl⟩
  | false => exact Or.inr ⟨rfl, rfl⟩
end Go.Proofs.YtmehkneofinmiabGreatDoor

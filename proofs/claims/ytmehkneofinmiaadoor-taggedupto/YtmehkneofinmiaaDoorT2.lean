/-
  The walk of cutTag.
-/
import Derived.Test.YtmehkneofinmiaaDoorT1
namespace Go.Proofs.YtmehkneofinmiaaDoor
open Go.RowKit

/-- one tag at the front of a text: weak or not, its text, what stands behind it -/
def tagF (l : List UInt8) : Option (Bool × List UInt8 × List UInt8) :=
  let q := Lib.trimPrefix l [87, 47]
  let c := Lib.cut (Lib.trimPrefix q [34]) [34]
  if Lib.hasPrefix q [34] && (c.2.2 && okText c.1) then some (Lib.hasPrefix l [87, 47], c.1, c.2.1) else none

/-- the library's variable MaxLen holds some number -/
def MaxIs (w : World) : Prop := ∃ m : Int, w.cell? ⟨3, 0, none⟩ = some (.int .i64 m)
theorem cell_lt {w : World} {b o : Nat} {v : Value} (h : w.cell? ⟨b, o, none⟩ = some v) : b < w.heap.size := World.block_lt_of_cell? _ _ h
theorem MaxIs.below {w w' : World} (h : MaxIs w) (hb : Below w.heap.size w w') : MaxIs w' := by
  obtain ⟨m, hm⟩ := h
  exact ⟨m, (hb.cell (p := ⟨3, 0, none⟩) (cell_lt hm)).trans hm⟩

/-- what a call gives, in whatever world: nothing that was there turns -/
def Gives (f : FuncId) (args : Array Value) (v : Value) (T : World → Prop) : Prop := ∀ w, T w → Calls Tryd.prog f args w fun e w' => e = .returned v ∧ Below w.heap.size w w'

def tagOut : Bool → Bool → ByteArray → ByteArray → Value
  | true, weak, name, behind => .tuple #[.agg #[.bool weak, .string name], .string behind, .bool true]
  | false, _, _, _ => .tuple #[.agg #[.bool false, .string ⟨#[]⟩], .string ⟨#[]⟩, .bool false]

/-- The cell of a result that the call has laid, untouched so far. -/
structure Bx (w x : World) : Prop where
  b : Below w.heap.size w x
  c0 : x.cell? ⟨w.heap.size, 0, none⟩ = some (.bool false)
  c1 : x.cell? ⟨w.heap.size, 1, none⟩ = some (.string ⟨#[]⟩)
  f0 : x.frozen? ⟨w.heap.size, 0, none⟩ = false
  f1 : x.frozen? ⟨w.heap.size, 1, none⟩ = false
  lt : w.heap.size < x.heap.size
theorem Bx.made (w : World) : Bx w (w.alloc (.cells #[.bool false, .string ⟨#[]⟩] 33)) :=
  ⟨(Below.refl _ _).alloc (Nat.le_refl _) _, by simp, by simp, by simp, by simp, by simp⟩
theorem Bx.below {w x y : World} (h : Bx w x) (hb : Below x.heap.size x y) : Bx w y := by
  have lt := h.lt
  have k := hb.size
  exact ⟨h.b.trans (hb.mono (by omega)), (hb.cell (p := ⟨_, 0, none⟩) lt).trans h.c0, (hb.cell (p := ⟨_, 1, none⟩) lt).trans h.c1, (hb.frozen (p := ⟨_, 0, none⟩) lt).trans h.f0, (hb.frozen (p := ⟨_, 1, none⟩) lt).trans h.f1, by omega⟩

set_option maxHeartbeats 1000000 in
theorem cutTag_run (s q inner name behind : ByteArray) (weak opened closed good : Bool) (w : World) (hM : MaxIs w)
    (h1 : Gives 47 #[.string s, .string ⟨#[87, 47]⟩] (.tuple #[.string q, .bool weak]) MaxIs) (h2 : Gives 47 #[.string q, .string ⟨#[34]⟩] (.tuple #[.string inner, .bool opened]) MaxIs)
    (h3 : Gives 48 #[.string inner, .string ⟨#[34]⟩] (.tuple #[.string name, .string behind, .bool closed]) MaxIs) (h4 : Gives 49 #[.string name] (.bool good) MaxIs) (h5 : Gives 50 #[.string name] (.string name) MaxIs) :
    Calls Tryd.prog 30 #[.string s] w fun e w' => e = .returned (tagOut (opened && (closed && good)) weak name behind) ∧ Below w.heap.size w w' := by
  have bx := Bx.made w
  have H1 : Hid _ := h1
  have H2 : Hid _ := h2
  have H3 : Hid _ := h3
  have H4 : Hid _ := h4
  have H5 : Hid _ := h5
  clear h1 h2 h3 h4 h5
  go_enter Tryd.func30, Tryd.ntmps30
  go_wp2_with fail
  refine Calls.mono (H1.out _ (hM.below bx.b)) ?_
  rintro e w1 ⟨rfl, hb1⟩
  have bx1 := bx.below hb1
  clear bx hb1
  go_wp2_with fail
  refine Calls.mono (H2.out _ (hM.below bx1.b)) ?_
  rintro e w2 ⟨rfl, hb2⟩
  have bx2 := bx1.below hb2
  clear bx1 hb2
  cases opened with
  | false =>
    obtain ⟨q1, q2, q3, q4, q5, q6⟩ := bx2
    go_wp2
    exact bodyPost_ret (v := .tuple #[.agg #[.bool false, .string ⟨#[]⟩], .string ⟨#[]⟩, .bool false]) (by simp [results, Tryd.results30, go_sem, q2, q3]) rfl ⟨rfl, (q1.setCell (Nat.le_refl _) _).setCell (Nat.le_refl _) _⟩
  | true =>
    go_wp2_with fail
    refine Calls.mono (H3.out _ (hM.below bx2.b)) ?_
    rintro e w3 ⟨rfl, hb3⟩
    have bx3 := bx2.below hb3
    clear bx2 hb3
    cases closed with
    | false =>
      obtain ⟨q1, q2, q3, q4, q5, q6⟩ := bx3
      go_wp2
      exact bodyPost_ret (v := .tuple #[.agg #[.bool false, .string ⟨#[]⟩], .string ⟨#[]⟩, .bool false]) (by simp [results, Tryd.results30, go_sem, q2, q3]) rfl ⟨rfl, (q1.setCell (Nat.le_refl _) _).setCell (Nat.le_refl _) _⟩
    | true =>
      go_wp2_with fail
      refine Calls.mono (H4.out _ (hM.below bx3.b)) ?_
      rintro e w4 ⟨rfl, hb4⟩
      have bx4 := bx3.below hb4
      clear bx3 hb4
      cases good with
      | false =>
        obtain ⟨q1, q2, q3, q4, q5, q6⟩ := bx4
        go_wp2
        exact bodyPost_ret (v := .tuple #[.agg #[.bool false, .string ⟨#[]⟩], .string ⟨#[]⟩, .bool false]) (by simp [results, Tryd.results30, go_sem, q2, q3]) rfl ⟨rfl, (q1.setCell (Nat.le_refl _) _).setCell (Nat.le_refl _) _⟩
      | true =>
        go_wp2_with fail
        refine Calls.mono (H5.out _ (hM.below bx4.b)) ?_
        rintro e w5 ⟨rfl, hb5⟩
        have bx5 := bx4.below hb5
        clear bx4 hb5
        obtain ⟨q1, q2, q3, q4, q5, q6⟩ := bx5
        go_wp2
        exact bodyPost_ret (v := .tuple #[.agg #[.bool weak, .string name], .string behind, .bool true]) (by simp [results, Tryd.results30, go_sem, q2, q3]) rfl ⟨rfl, (q1.setCell (Nat.le_refl _) _).setCell (Nat.le_refl _) _⟩

theorem tagF_def (l : List UInt8) : tagF l = if Lib.hasPrefix (Lib.trimPrefix l [87, 47]) [34] && ((Lib.cut (Lib.trimPrefix (Lib.trimPrefix l [87, 47]) [34]) [34]).2.2 && okText (Lib.cut (Lib.trimPrefix (Lib.trimPrefix l [87, 47]) [34]) [34]).1)
    then some (Lib.hasPrefix l [87, 47], (Lib.cut (Lib.trimPrefix (Lib.trimPrefix l [87, 47]) [34]) [34]).1, (Lib.cut (Lib.trimPrefix (Lib.trimPrefix l [87, 47]) [34]) [34]).2.1) else none := rfl

theorem cut_len (l p : List UInt8) : (Lib.cut l p).1.length ≤ l.length := by
  unfold Lib.cut
  split
  · simp; omega
  · exact Nat.le_refl _

/-- cutTag whole: the tag at the front of a text, or none. -/
theorem cutTag_any (s : ByteArray) (w : World) (hM : MaxIs w) (hs : s.size < 4294967281) :
    Calls Tryd.prog 30 #[.string s] w fun e w' => ((∃ weak name behind, tagF s.data.toList = some (weak, name, behind) ∧ e = .returned (.tuple #[.agg #[.bool weak, .string ⟨name.toArray⟩], .string ⟨behind.toArray⟩, .bool true])) ∨
      (tagF s.data.toList = none ∧ e = .returned (.tuple #[.agg #[.bool false, .string ⟨#[]⟩], .string ⟨#[]⟩, .bool false]))) ∧ Below w.heap.size w w' := by
  have z1 := Lib.trimPrefix_le s.data.toList [87, 47]
  have z2 := Lib.trimPrefix_le (Lib.trimPrefix s.data.toList [87, 47]) [34]
  have z3 := cut_len (Lib.trimPrefix (Lib.trimPrefix s.data.toList [87, 47]) [34]) [34]
  have z0 := Lib.size_eq s
  have g1 : Gives 47 #[.string s, .string ⟨#[87, 47]⟩] (.tuple #[.string ⟨(Lib.trimPrefix s.data.toList [87, 47]).toArray⟩, .bool (Lib.hasPrefix s.data.toList [87, 47])]) MaxIs := fun w _ => by
    refine (Tryd.strings_CutPrefix s ⟨#[87, 47]⟩ w).mono ?_
    rintro e w' ⟨rfl, rfl⟩
    exact ⟨rfl, Below.refl _ _⟩
  have g2 : Gives 47 #[.string ⟨(Lib.trimPrefix s.data.toList [87, 47]).toArray⟩, .string ⟨#[34]⟩] (.tuple #[.string ⟨(Lib.trimPrefix (Lib.trimPrefix s.data.toList [87, 47]) [34]).toArray⟩, .bool (Lib.hasPrefix (Lib.trimPrefix s.data.toList [87, 47]) [34])]) MaxIs := fun w _ => by
    refine (Tryd.strings_CutPrefix ⟨(Lib.trimPrefix s.data.toList [87, 47]).toArray⟩ ⟨#[34]⟩ w).mono ?_
    rintro e w' ⟨rfl, rfl⟩
    exact ⟨rfl, Below.refl _ _⟩
  generalize hq : Lib.trimPrefix (Lib.trimPrefix s.data.toList [87, 47]) [34] = inner at z2 z3 g2
  have g3 : Gives 48 #[.string ⟨inner.toArray⟩, .string ⟨#[34]⟩] (.tuple #[.string ⟨(Lib.cut inner [34]).1.toArray⟩, .string ⟨(Lib.cut inner [34]).2.1.toArray⟩, .bool (Lib.cut inner [34]).2.2]) MaxIs := fun w hw => by
    obtain ⟨m, hm⟩ := hw
    refine (Tryd.strings_Cut ⟨inner.toArray⟩ ⟨#[34]⟩ m w (by rw [Lib.size_eq]; simp; omega) hm).mono ?_
    rintro e w' ⟨rfl, n, rfl⟩
    exact ⟨rfl, below_drewN (Below.refl _ _) n⟩
  generalize hc : Lib.cut inner [34] = c at z3 g3
  have g4 : Gives 49 #[.string ⟨c.1.toArray⟩] (.bool (okText c.1)) MaxIs := fun w _ => by
    refine (isTagText_any ⟨c.1.toArray⟩ w (by rw [Lib.size_eq]; simp; omega)).mono ?_
    rintro e w' ⟨rfl, rfl⟩
    exact ⟨rfl, Below.refl _ _⟩
  have g5 : Gives 50 #[.string ⟨c.1.toArray⟩] (.string ⟨c.1.toArray⟩) MaxIs := fun w _ => clone_any ⟨c.1.toArray⟩ w (by rw [Lib.size_eq]; simp; omega)
  refine (cutTag_run s _ _ _ _ _ _ _ _ w hM g1 g2 g3 g4 g5).mono ?_
  rintro e w' ⟨rfl, hb⟩
  refine ⟨?_, hb⟩
  rw [tagF_def, hq, hc]
  cases hB : (Lib.hasPrefix (Lib.trimPrefix s.data.toList [87, 47]) [34] && (c.2.2 && okText c.1)) with
  | true => exact Or.inl ⟨_, _, _, rfl, rfl⟩
  | false => exact Or.inr ⟨rfl, rfl⟩
end Go.Proofs.YtmehkneofinmiaaDoor

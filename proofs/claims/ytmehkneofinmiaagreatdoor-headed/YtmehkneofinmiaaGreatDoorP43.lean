/-
  Texts of this proof, part 43.
-/
import Derived.Test.YtmehkneofinmiaaGreatDoorP42
namespace Go.Proofs.YtmehkneofinmiaaGreatDoor
open Go.RowKit

theorem addL (a b : List UInt8) (h : a.length + b.length ≤ 100000) : ∀ w : World, (Op.stringOp .add ⟨a.toArray⟩ ⟨b.toArray⟩).run Tryz.prog w = .ok (.string ⟨(a ++ b).toArray⟩) w := by
  have := addS' ⟨a.toArray⟩ ⟨b.toArray⟩ (by simp [ByteArray.size]; omega)
  rw [mk_app] at this
  exact this
def HeadIs (T : List UInt8) (n : Nat) : Prop := ∀ y : World, Calls Tryz.prog 24 #[.string ⟨T.toArray⟩] y fun e w' => e = .returned (.int .i64 n) ∧ w' = y
/-- what is answered to Headed's requests -/
structure HdD (D : List UInt8 → List UInt8 → Prop) (U tg : List UInt8) (S : Nat → List UInt8) (t : Nat) (G H A C : List UInt8) : Prop where
  d1 : D (reqB [71, 69, 84] U [] []) G
  d2 : D (reqB [72, 69, 65, 68] U [] []) H
  d3 : D (reqB [71, 69, 84] U ([73, 102, 45, 78, 111, 110, 101, 45, 77, 97, 116, 99, 104, 58, 32, 34, 110, 111, 34, 44, 32, 87, 47] ++ tg ++ [13, 10]) []) A
  d4 : D (reqB [71, 69, 84] U ([105, 102, 45, 110, 111, 110, 101, 45, 109, 97, 116, 99, 104, 58, 32, 34, 110, 111, 34] ++ [13, 10]) []) G
  d5 : D (reqB [71, 69, 84] U ([73, 102, 45, 77, 111, 100, 105, 102, 105, 101, 100, 45, 83, 105, 110, 99, 101, 58, 32] ++ (S t) ++ [13, 10]) []) A
  d6 : D (reqB [72, 69, 65, 68] U ([73, 102, 45, 85, 110, 109, 111, 100, 105, 102, 105, 101, 100, 45, 83, 105, 110, 99, 101, 58, 32] ++ (S t) ++ [13, 10]) []) H
  d7 : D (reqB [71, 69, 84] U ([73, 102, 45, 77, 97, 116, 99, 104, 58, 32, 87, 47] ++ tg ++ [13, 10]) []) C
  d8 : t ≠ 0 → D (reqB [71, 69, 84] U ([73, 102, 45, 77, 111, 100, 105, 102, 105, 101, 100, 45, 83, 105, 110, 99, 101, 58, 32] ++ (S (t - 1)) ++ [13, 10]) []) G
  d9 : t ≠ 0 → D (reqB [71, 69, 84] U ([73, 102, 45, 85, 110, 109, 111, 100, 105, 102, 105, 101, 100, 45, 83, 105, 110, 99, 101, 58, 32] ++ (S (t - 1)) ++ [13, 10]) []) C
  d10 : t ≠ 0 → D (reqB [80, 85, 84] U ([73, 102, 45, 85, 110, 109, 111, 100, 105, 102, 105, 101, 100, 45, 83, 105, 110, 99, 101, 58, 32] ++ (S (t - 1)) ++ [13, 10]) [110, 111, 116, 32, 116, 111, 32, 98, 101]) C
theorem four_cells {B b s q : Nat} {K : List UInt8} {I : World → Prop} {D : List UInt8 → List UInt8 → Prop} {S : Nat → List UInt8} {cur : Value} {th : Bool} (h : Hsk B b s q K I D S cur th) {y : World} (hy : I y) {vb : Nat} {nu t : Int} {bd tg : ByteArray} {f : Nat × Nat} (hv : y.heap[vb]? = some (.cells #[.int .i64 nu, .int .i64 t, .bool false, .string bd, .string tg] 56 f)) :
    y.cell? ⟨b, 0, none⟩ = some (.pointer (some ⟨s, 0, none⟩)) ∧ y.cell? ⟨b, 1 + q * 3, none⟩ = some (.string ⟨K.toArray⟩) ∧ y.cell? ⟨vb, 1, none⟩ = some (.int .i64 t) ∧ y.cell? ⟨vb, 4, none⟩ = some (.string tg) :=
  ⟨h.c0 _ hy, h.ck _ hy, by simp [World.cell?, hv], by simp [World.cell?, hv]⟩
set_option maxRecDepth 100000 in
set_option maxHeartbeats 16000000 in
theorem headed_some (x z : Int) (v : Value) (w : World) (q : Nat) (hq : pk z 5 = q) (hq5 : q < 5) (iz0 : -9223372036854775808 ≤ z) (iz1 : z ≤ 9223372036854775807) (K : List UInt8) (hK : K.length ≤ 40) (S : Nat → List UInt8) (hSl : ∀ t, t < 2678400 → (S t).length ≤ 40)
    (nu t : Nat) (bd tg : List UInt8) (htl : tg.length ≤ 18) (ht : t < 2678400) (G H A C : List UInt8) (hA0 : CodeIs A 304) (hC0 : CodeIs C 412) (hAC : A ≠ C) (n : Nat) (hn : HeadIs G n) (hnl : n ≤ G.length) (_hGl : G.length ≤ 1000000000) (hGH : (⟨G.toArray⟩ : ByteArray).extract 0 n = ⟨H.toArray⟩)
    (hP : Calls Tryz.prog 14 #[.int .i64 x, v] w fun e w' => ∃ (b s : Nat) (I : World → Prop) (D : List UInt8 → List UInt8 → Prop), e = .returned (.pointer (some ⟨b, 0, none⟩)) ∧ Hsk w.heap.size b s q K I D S (.agg #[.int .i64 nu, .int .i64 t, .bool false, .string ⟨bd.toArray⟩, .string ⟨tg.toArray⟩]) true ∧ I w' ∧ Off (fun k => w.heap.size ≤ k) w w' ∧ HdD D (47 :: K) tg S t G H A C)
    (hv : ∃ a n m, v = .slice a n m) :
    Calls Tryz.prog 8 #[.int .i64 x, v, .int .i64 z] w fun e w' => e = .returned (.bool true) ∧ Off (fun k => w.heap.size ≤ k) w w' := by
  obtain ⟨a0, n0, m0, rfl⟩ := hv
  have hqI : (q : Int) < 5 := by omega
  have HPL : Hid _ := hP
  obtain ⟨cd, hcA, hcC⟩ : ∃ cd : List UInt8 → Int, cd A = 304 ∧ cd C = 412 := ⟨fun T => if T = A then 304 else 412, if_pos rfl, if_neg (fun e => hAC e.symm)⟩
  have HCD : Hid (∀ T, T = A ∨ T = C → ∀ y, Calls Tryz.prog 20 #[.string ⟨T.toArray⟩] y fun e w' => e = .returned (.int .i64 (cd T)) ∧ w' = y) := by
    rintro T (rfl | rfl) y
    · rw [hcA]; exact hA0 y
    · rw [hcC]; exact hC0 y
  have HN0 : Hid (HeadIs G n) := hn
  have sl1 := hSl t ht
  have sl2 := hSl (t - 1) (by omega)
  have HSL : Hid _ := hSl
  clear hP hA0 hC0 hAC hn hSl
  go_enter Tryz.func8, Tryz.ntmps8
  go_wp2_with fail
  refine Calls.mono HPL.out ?_
  rintro e w1 ⟨b, s, I, D, rfl, hs, i1, o1, hd⟩
  have HS : Hid _ := hs
  have HI1 : Hid _ := i1
  have HO1 : Hid _ := o1
  have HDD : Hid _ := hd
  have lt1 := hs.sz _ i1
  clear hs i1 o1 hd HPL
  have hA : ∀ w : World, (Op.stringOp .add ⟨#[47]⟩ ⟨K.toArray⟩).run Tryz.prog w = .ok (.string ⟨(47 :: K).toArray⟩) w := by
    have := addS' ⟨#[47]⟩ ⟨K.toArray⟩ (by simp [ByteArray.size]; omega)
    rw [show (⟨#[47]⟩ : ByteArray) ++ ⟨K.toArray⟩ = ⟨(47 :: K).toArray⟩ from mk_app [47] K] at this
    exact this
  obtain ⟨U, hU⟩ : ∃ U, 47 :: K = U := ⟨_, rfl⟩
  have hUl : U.length ≤ 41 := by rw [← hU]; simp; omega
  rw [hU] at hA HDD
  clear hU
  have hB3 : ∀ w : World, (Op.stringOp .add ⟨#[73, 102, 45, 78, 111, 110, 101, 45, 77, 97, 116, 99, 104, 58, 32, 34, 110, 111, 34, 44, 32, 87, 47]⟩ ⟨tg.toArray⟩).run Tryz.prog w = .ok (.string ⟨([73, 102, 45, 78, 111, 110, 101, 45, 77, 97, 116, 99, 104, 58, 32, 34, 110, 111, 34, 44, 32, 87, 47] ++ tg).toArray⟩) w := addL [73, 102, 45, 78, 111, 110, 101, 45, 77, 97, 116, 99, 104, 58, 32, 34, 110, 111, 34, 44, 32, 87, 47] tg (by simp; omega)
  have hE3 : ∀ w : World, (Op.stringOp .add ⟨([73, 102, 45, 78, 111, 110, 101, 45, 77, 97, 116, 99, 104, 58, 32, 34, 110, 111, 34, 44, 32, 87, 47] ++ tg).toArray⟩ ⟨#[13, 10]⟩).run Tryz.prog w = .ok (.string ⟨([73, 102, 45, 78, 111, 110, 101, 45, 77, 97, 116, 99, 104, 58, 32, 34, 110, 111, 34, 44, 32, 87, 47] ++ tg ++ [13, 10]).toArray⟩) w := addL ([73, 102, 45, 78, 111, 110, 101, 45, 77, 97, 116, 99, 104, 58, 32, 34, 110, 111, 34, 44, 32, 87, 47] ++ tg) [13, 10] (by simp; omega)
  have hB5 : ∀ w : World, (Op.stringOp .add ⟨#[73, 102, 45, 77, 111, 100, 105, 102, 105, 101, 100, 45, 83, 105, 110, 99, 101, 58, 32]⟩ ⟨(S t).toArray⟩).run Tryz.prog w = .ok (.string ⟨([73, 102, 45, 77, 111, 100, 105, 102, 105, 101, 100, 45, 83, 105, 110, 99, 101, 58, 32] ++ (S t)).toArray⟩) w := addL [73, 102, 45, 77, 111, 100, 105, 102, 105, 101, 100, 45, 83, 105, 110, 99, 101, 58, 32] (S t) (by simp; omega)
  have hE5 : ∀ w : World, (Op.stringOp .add ⟨([73, 102, 45, 77, 111, 100, 105, 102, 105, 101, 100, 45, 83, 105, 110, 99, 101, 58, 32] ++ (S t)).toArray⟩ ⟨#[13, 10]⟩).run Tryz.prog w = .ok (.string ⟨([73, 102, 45, 77, 111, 100, 105, 102, 105, 101, 100, 45, 83, 105, 110, 99, 101, 58, 32] ++ (S t) ++ [13, 10]).toArray⟩) w := addL ([73, 102, 45, 77, 111, 100, 105, 102, 105, 101, 100, 45, 83, 105, 110, 99, 101, 58, 32] ++ (S t)) [13, 10] (by simp; omega)
  have hB6 : ∀ w : World, (Op.stringOp .add ⟨#[73, 102, 45, 85, 110, 109, 111, 100, 105, 102, 105, 101, 100, 45, 83, 105, 110, 99, 101, 58, 32]⟩ ⟨(S t).toArray⟩).run Tryz.prog w = .ok (.string ⟨([73, 102, 45, 85, 110, 109, 111, 100, 105, 102, 105, 101, 100, 45, 83, 105, 110, 99, 101, 58, 32] ++ (S t)).toArray⟩) w := addL [73, 102, 45, 85, 110, 109, 111, 100, 105, 102, 105, 101, 100, 45, 83, 105, 110, 99, 101, 58, 32] (S t) (by simp; omega)
  have hE6 : ∀ w : World, (Op.stringOp .add ⟨([73, 102, 45, 85, 110, 109, 111, 100, 105, 102, 105, 101, 100, 45, 83, 105, 110, 99, 101, 58, 32] ++ (S t)).toArray⟩ ⟨#[13, 10]⟩).run Tryz.prog w = .ok (.string ⟨([73, 102, 45, 85, 110, 109, 111, 100, 105, 102, 105, 101, 100, 45, 83, 105, 110, 99, 101, 58, 32] ++ (S t) ++ [13, 10]).toArray⟩) w := addL ([73, 102, 45, 85, 110, 109, 111, 100, 105, 102, 105, 101, 100, 45, 83, 105, 110, 99, 101, 58, 32] ++ (S t)) [13, 10] (by simp; omega)
  have hB7 : ∀ w : World, (Op.stringOp .add ⟨#[73, 102, 45, 77, 97, 116, 99, 104, 58, 32, 87, 47]⟩ ⟨tg.toArray⟩).run Tryz.prog w = .ok (.string ⟨([73, 102, 45, 77, 97, 116, 99, 104, 58, 32, 87, 47] ++ tg).toArray⟩) w := addL [73, 102, 45, 77, 97, 116, 99, 104, 58, 32, 87, 47] tg (by simp; omega)
  have hE7 : ∀ w : World, (Op.stringOp .add ⟨([73, 102, 45, 77, 97, 116, 99, 104, 58, 32, 87, 47] ++ tg).toArray⟩ ⟨#[13, 10]⟩).run Tryz.prog w = .ok (.string ⟨([73, 102, 45, 77, 97, 116, 99, 104, 58, 32, 87, 47] ++ tg ++ [13, 10]).toArray⟩) w := addL ([73, 102, 45, 77, 97, 116, 99, 104, 58, 32, 87, 47] ++ tg) [13, 10] (by simp; omega)
  have hB8 : ∀ w : World, (Op.stringOp .add ⟨#[73, 102, 45, 77, 111, 100, 105, 102, 105, 101, 100, 45, 83, 105, 110, 99, 101, 58, 32]⟩ ⟨(S (t - 1)).toArray⟩).run Tryz.prog w = .ok (.string ⟨([73, 102, 45, 77, 111, 100, 105, 102, 105, 101, 100, 45, 83, 105, 110, 99, 101, 58, 32] ++ (S (t - 1))).toArray⟩) w := addL [73, 102, 45, 77, 111, 100, 105, 102, 105, 101, 100, 45, 83, 105, 110, 99, 101, 58, 32] (S (t - 1)) (by simp; omega)
  have hE8 : ∀ w : World, (Op.stringOp .add ⟨([73, 102, 45, 77, 111, 100, 105, 102, 105, 101, 100, 45, 83, 105, 110, 99, 101, 58, 32] ++ (S (t - 1))).toArray⟩ ⟨#[13, 10]⟩).run Tryz.prog w = .ok (.string ⟨([73, 102, 45, 77, 111, 100, 105, 102, 105, 101, 100, 45, 83, 105, 110, 99, 101, 58, 32] ++ (S (t - 1)) ++ [13, 10]).toArray⟩) w := addL ([73, 102, 45, 77, 111, 100, 105, 102, 105, 101, 100, 45, 83, 105, 110, 99, 101, 58, 32] ++ (S (t - 1))) [13, 10] (by simp; omega)
  have hB9 : ∀ w : World, (Op.stringOp .add ⟨#[73, 102, 45, 85, 110, 109, 111, 100, 105, 102, 105, 101, 100, 45, 83, 105, 110, 99, 101, 58, 32]⟩ ⟨(S (t - 1)).toArray⟩).run Tryz.prog w = .ok (.string ⟨([73, 102, 45, 85, 110, 109, 111, 100, 105, 102, 105, 101, 100, 45, 83, 105, 110, 99, 101, 58, 32] ++ (S (t - 1))).toArray⟩) w := addL [73, 102, 45, 85, 110, 109, 111, 100, 105, 102, 105, 101, 100, 45, 83, 105, 110, 99, 101, 58, 32] (S (t - 1)) (by simp; omega)
  have hE9 : ∀ w : World, (Op.stringOp .add ⟨([73, 102, 45, 85, 110, 109, 111, 100, 105, 102, 105, 101, 100, 45, 83, 105, 110, 99, 101, 58, 32] ++ (S (t - 1))).toArray⟩ ⟨#[13, 10]⟩).run Tryz.prog w = .ok (.string ⟨([73, 102, 45, 85, 110, 109, 111, 100, 105, 102, 105, 101, 100, 45, 83, 105, 110, 99, 101, 58, 32] ++ (S (t - 1)) ++ [13, 10]).toArray⟩) w := addL ([73, 102, 45, 85, 110, 109, 111, 100, 105, 102, 105, 101, 100, 45, 83, 105, 110, 99, 101, 58, 32] ++ (S (t - 1))) [13, 10] (by simp; omega)
  have hB10 : ∀ w : World, (Op.stringOp .add ⟨#[73, 102, 45, 85, 110, 109, 111, 100, 105, 102, 105, 101, 100, 45, 83, 105, 110, 99, 101, 58, 32]⟩ ⟨(S (t - 1)).toArray⟩).run Tryz.prog w = .ok (.string ⟨([73, 102, 45, 85, 110, 109, 111, 100, 105, 102, 105, 101, 100, 45, 83, 105, 110, 99, 101, 58, 32] ++ (S (t - 1))).toArray⟩) w := addL [73, 102, 45, 85, 110, 109, 111, 100, 105, 102, 105, 101, 100, 45, 83, 105, 110, 99, 101, 58, 32] (S (t - 1)) (by simp; omega)
  have hE10 : ∀ w : World, (Op.stringOp .add ⟨([73, 102, 45, 85, 110, 109, 111, 100, 105, 102, 105, 101, 100, 45, 83, 105, 110, 99, 101, 58, 32] ++ (S (t - 1))).toArray⟩ ⟨#[13, 10]⟩).run Tryz.prog w = .ok (.string ⟨([73, 102, 45, 85, 110, 109, 111, 100, 105, 102, 105, 101, 100, 45, 83, 105, 110, 99, 101, 58, 32] ++ (S (t - 1)) ++ [13, 10]).toArray⟩) w := addL ([73, 102, 45, 85, 110, 109, 111, 100, 105, 102, 105, 101, 100, 45, 83, 105, 110, 99, 101, 58, 32] ++ (S (t - 1))) [13, 10] (by simp; omega)
  have HQ1 : Hid (∀ y, Calls Tryz.prog 16 #[.string ⟨#[71, 69, 84]⟩, .string ⟨U.toArray⟩, .string ⟨#[]⟩, .string ⟨#[]⟩] y fun e w' => e = .returned (.string ⟨(reqB [71, 69, 84] U [] []).toArray⟩) ∧ w' = y) :=
    fun y => request_any [71, 69, 84] U [] [] y (by decide) (by omega) (by decide) (by decide)
  have HD1 : Hid _ := HDD.out.d1
  obtain ⟨R1, hR1⟩ : ∃ R, reqB [71, 69, 84] U [] [] = R := ⟨_, rfl⟩
  rw [hR1] at HQ1 HD1
  clear hR1
  have HQ2 : Hid (∀ y, Calls Tryz.prog 16 #[.string ⟨#[72, 69, 65, 68]⟩, .string ⟨U.toArray⟩, .string ⟨#[]⟩, .string ⟨#[]⟩] y fun e w' => e = .returned (.string ⟨(reqB [72, 69, 65, 68] U [] []).toArray⟩) ∧ w' = y) :=
    fun y => request_any [72, 69, 65, 68] U [] [] y (by decide) (by omega) (by decide) (by decide)
  have HD2 : Hid _ := HDD.out.d2
  obtain ⟨R2, hR2⟩ : ∃ R, reqB [72, 69, 65, 68] U [] [] = R := ⟨_, rfl⟩
  rw [hR2] at HQ2 HD2
  clear hR2
  have HQ3 : Hid (∀ y, Calls Tryz.prog 16 #[.string ⟨#[71, 69, 84]⟩, .string ⟨U.toArray⟩, .string ⟨([73, 102, 45, 78, 111, 110, 101, 45, 77, 97, 116, 99, 104, 58, 32, 34, 110, 111, 34, 44, 32, 87, 47] ++ tg ++ [13, 10]).toArray⟩, .string ⟨#[]⟩] y fun e w' => e = .returned (.string ⟨(reqB [71, 69, 84] U ([73, 102, 45, 78, 111, 110, 101, 45, 77, 97, 116, 99, 104, 58, 32, 34, 110, 111, 34, 44, 32, 87, 47] ++ tg ++ [13, 10]) []).toArray⟩) ∧ w' = y) :=
    fun y => request_any [71, 69, 84] U ([73, 102, 45, 78, 111, 110, 101, 45, 77, 97, 116, 99, 104, 58, 32, 34, 110, 111, 34, 44, 32, 87, 47] ++ tg ++ [13, 10]) [] y (by decide) (by omega) (by simp; omega) (by decide)
  have HD3 : Hid _ := HDD.out.d3
  obtain ⟨R3, hR3⟩ : ∃ R, reqB [71, 69, 84] U ([73, 102, 45, 78, 111, 110, 101, 45, 77, 97, 116, 99, 104, 58, 32, 34, 110, 111, 34, 44, 32, 87, 47] ++ tg ++ [13, 10]) [] = R := ⟨_, rfl⟩
  rw [hR3] at HQ3 HD3
  clear hR3
  have HQ4 : Hid (∀ y, Calls Tryz.prog 16 #[.string ⟨#[71, 69, 84]⟩, .string ⟨U.toArray⟩, .string ⟨#[105, 102, 45, 110, 111, 110, 101, 45, 109, 97, 116, 99, 104, 58, 32, 34, 110, 111, 34, 13, 10]⟩, .string ⟨#[]⟩] y fun e w' => e = .returned (.string ⟨(reqB [71, 69, 84] U [105, 102, 45, 110, 111, 110, 101, 45, 109, 97, 116, 99, 104, 58, 32, 34, 110, 111, 34, 13, 10] []).toArray⟩) ∧ w' = y) :=
    fun y => request_any [71, 69, 84] U [105, 102, 45, 110, 111, 110, 101, 45, 109, 97, 116, 99, 104, 58, 32, 34, 110, 111, 34, 13, 10] [] y (by decide) (by omega) (by decide) (by decide)
  have HD4 : Hid _ := HDD.out.d4
  have HD4 : Hid (D (reqB [71, 69, 84] U [105, 102, 45, 110, 111, 110, 101, 45, 109, 97, 116, 99, 104, 58, 32, 34, 110, 111, 34, 13, 10] []) G) := HDD.out.d4
  obtain ⟨R4, hR4⟩ : ∃ R, reqB [71, 69, 84] U [105, 102, 45, 110, 111, 110, 101, 45, 109, 97, 116, 99, 104, 58, 32, 34, 110, 111, 34, 13, 10] [] = R := ⟨_, rfl⟩
  rw [hR4] at HQ4 HD4
  clear hR4
  have HQ5 : Hid (∀ y, Calls Tryz.prog 16 #[.string ⟨#[71, 69, 84]⟩, .string ⟨U.toArray⟩, .string ⟨([73, 102, 45, 77, 111, 100, 105, 102, 105, 101, 100, 45, 83, 105, 110, 99, 101, 58, 32] ++ (S t) ++ [13, 10]).toArray⟩, .string ⟨#[]⟩] y fun e w' => e = .returned (.string ⟨(reqB [71, 69, 84] U ([73, 102, 45, 77, 111, 100, 105, 102, 105, 101, 100, 45, 83, 105, 110, 99, 101, 58, 32] ++ (S t) ++ [13, 10]) []).toArray⟩) ∧ w' = y) :=
    fun y => request_any [71, 69, 84] U ([73, 102, 45, 77, 111, 100, 105, 102, 105, 101, 100, 45, 83, 105, 110, 99, 101, 58, 32] ++ (S t) ++ [13, 10]) [] y (by decide) (by omega) (by simp; omega) (by decide)
  have HD5 : Hid _ := HDD.out.d5
  obtain ⟨R5, hR5⟩ : ∃ R, reqB [71, 69, 84] U ([73, 102, 45, 77, 111, 100, 105, 102, 105, 101, 100, 45, 83, 105, 110, 99, 101, 58, 32] ++ (S t) ++ [13, 10]) [] = R := ⟨_, rfl⟩
  rw [hR5] at HQ5 HD5
  clear hR5
  have HQ6 : Hid (∀ y, Calls Tryz.prog 16 #[.string ⟨#[72, 69, 65, 68]⟩, .string ⟨U.toArray⟩, .string ⟨([73, 102, 45, 85, 110, 109, 111, 100, 105, 102, 105, 101, 100, 45, 83, 105, 110, 99, 101, 58, 32] ++ (S t) ++ [13, 10]).toArray⟩, .string ⟨#[]⟩] y fun e w' => e = .returned (.string ⟨(reqB [72, 69, 65, 68] U ([73, 102, 45, 85, 110, 109, 111, 100, 105, 102, 105, 101, 100, 45, 83, 105, 110, 99, 101, 58, 32] ++ (S t) ++ [13, 10]) []).toArray⟩) ∧ w' = y) :=
    fun y => request_any [72, 69, 65, 68] U ([73, 102, 45, 85, 110, 109, 111, 100, 105, 102, 105, 101, 100, 45, 83, 105, 110, 99, 101, 58, 32] ++ (S t) ++ [13, 10]) [] y (by decide) (by omega) (by simp; omega) (by decide)
  have HD6 : Hid _ := HDD.out.d6
  obtain ⟨R6, hR6⟩ : ∃ R, reqB [72, 69, 65, 68] U ([73, 102, 45, 85, 110, 109, 111, 100, 105, 102, 105, 101, 100, 45, 83, 105, 110, 99, 101, 58, 32] ++ (S t) ++ [13, 10]) [] = R := ⟨_, rfl⟩
  rw [hR6] at HQ6 HD6
  clear hR6
  have HQ7 : Hid (∀ y, Calls Tryz.prog 16 #[.string ⟨#[71, 69, 84]⟩, .string ⟨U.toArray⟩, .string ⟨([73, 102, 45, 77, 97, 116, 99, 104, 58, 32, 87, 47] ++ tg ++ [13, 10]).toArray⟩, .string ⟨#[]⟩] y fun e w' => e = .returned (.string ⟨(reqB [71, 69, 84] U ([73, 102, 45, 77, 97, 116, 99, 104, 58, 32, 87, 47] ++ tg ++ [13, 10]) []).toArray⟩) ∧ w' = y) :=
    fun y => request_any [71, 69, 84] U ([73, 102, 45, 77, 97, 116, 99, 104, 58, 32, 87, 47] ++ tg ++ [13, 10]) [] y (by decide) (by omega) (by simp; omega) (by decide)
  have HD7 : Hid _ := HDD.out.d7
  obtain ⟨R7, hR7⟩ : ∃ R, reqB [71, 69, 84] U ([73, 102, 45, 77, 97, 116, 99, 104, 58, 32, 87, 47] ++ tg ++ [13, 10]) [] = R := ⟨_, rfl⟩
  rw [hR7] at HQ7 HD7
  clear hR7
  have HQ8 : Hid (∀ y, Calls Tryz.prog 16 #[.string ⟨#[71, 69, 84]⟩, .string ⟨U.toArray⟩, .string ⟨([73, 102, 45, 77, 111, 100, 105, 102, 105, 101, 100, 45, 83, 105, 110, 99, 101, 58, 32] ++ (S (t - 1)) ++ [13, 10]).toArray⟩, .string ⟨#[]⟩] y fun e w' => e = .returned (.string ⟨(reqB [71, 69, 84] U ([73, 102, 45, 77, 111, 100, 105, 102, 105, 101, 100, 45, 83, 105, 110, 99, 101, 58, 32] ++ (S (t - 1)) ++ [13, 10]) []).toArray⟩) ∧ w' = y) :=
    fun y => request_any [71, 69, 84] U ([73, 102, 45, 77, 111, 100, 105, 102, 105, 101, 100, 45, 83, 105, 110, 99, 101, 58, 32] ++ (S (t - 1)) ++ [13, 10]) [] y (by decide) (by omega) (by simp; omega) (by decide)
  have HD8 : Hid _ := HDD.out.d8
  obtain ⟨R8, hR8⟩ : ∃ R, reqB [71, 69, 84] U ([73, 102, 45, 77, 111, 100, 105, 102, 105, 101, 100, 45, 83, 105, 110, 99, 101, 58, 32] ++ (S (t - 1)) ++ [13, 10]) [] = R := ⟨_, rfl⟩
  rw [hR8] at HQ8 HD8
  clear hR8
  have HQ9 : Hid (∀ y, Calls Tryz.prog 16 #[.string ⟨#[71, 69, 84]⟩, .string ⟨U.toArray⟩, .string ⟨([73, 102, 45, 85, 110, 109, 111, 100, 105, 102, 105, 101, 100, 45, 83, 105, 110, 99, 101, 58, 32] ++ (S (t - 1)) ++ [13, 10]).toArray⟩, .string ⟨#[]⟩] y fun e w' => e = .returned (.string ⟨(reqB [71, 69, 84] U ([73, 102, 45, 85, 110, 109, 111, 100, 105, 102, 105, 101, 100, 45, 83, 105, 110, 99, 101, 58, 32] ++ (S (t - 1)) ++ [13, 10]) []).toArray⟩) ∧ w' = y) :=
    fun y => request_any [71, 69, 84] U ([73, 102, 45, 85, 110, 109, 111, 100, 105, 102, 105, 101, 100, 45, 83, 105, 110, 99, 101, 58, 32] ++ (S (t - 1)) ++ [13, 10]) [] y (by decide) (by omega) (by simp; omega) (by decide)
  have HD9 : Hid _ := HDD.out.d9
  obtain ⟨R9, hR9⟩ : ∃ R, reqB [71, 69, 84] U ([73, 102, 45, 85, 110, 109, 111, 100, 105, 102, 105, 101, 100, 45, 83, 105, 110, 99, 101, 58, 32] ++ (S (t - 1)) ++ [13, 10]) [] = R := ⟨_, rfl⟩
  rw [hR9] at HQ9 HD9
  clear hR9
  have HQ10 : Hid (∀ y, Calls Tryz.prog 16 #[.string ⟨#[80, 85, 84]⟩, .string ⟨U.toArray⟩, .string ⟨([73, 102, 45, 85, 110, 109, 111, 100, 105, 102, 105, 101, 100, 45, 83, 105, 110, 99, 101, 58, 32] ++ (S (t - 1)) ++ [13, 10]).toArray⟩, .string ⟨#[110, 111, 116, 32, 116, 111, 32, 98, 101]⟩] y fun e w' => e = .returned (.string ⟨(reqB [80, 85, 84] U ([73, 102, 45, 85, 110, 109, 111, 100, 105, 102, 105, 101, 100, 45, 83, 105, 110, 99, 101, 58, 32] ++ (S (t - 1)) ++ [13, 10]) [110, 111, 116, 32, 116, 111, 32, 98, 101]).toArray⟩) ∧ w' = y) :=
    fun y => request_any [80, 85, 84] U ([73, 102, 45, 85, 110, 109, 111, 100, 105, 102, 105, 101, 100, 45, 83, 105, 110, 99, 101, 58, 32] ++ (S (t - 1)) ++ [13, 10]) [110, 111, 116, 32, 116, 111, 32, 98, 101] y (by decide) (by omega) (by simp; omega) (by decide)
  have HD10 : Hid _ := HDD.out.d10
  obtain ⟨R10, hR10⟩ : ∃ R, reqB [80, 85, 84] U ([73, 102, 45, 85, 110, 109, 111, 100, 105, 102, 105, 101, 100, 45, 83, 105, 110, 99, 101, 58, 32] ++ (S (t - 1)) ++ [13, 10]) [110, 111, 116, 32, 116, 111, 32, 98, 101] = R := ⟨_, rfl⟩
  rw [hR10] at HQ10 HD10
  clear hR10
  obtain ⟨L3, hL3⟩ : ∃ L, [73, 102, 45, 78, 111, 110, 101, 45, 77, 97, 116, 99, 104, 58, 32, 34, 110, 111, 34, 44, 32, 87, 47] ++ tg ++ [13, 10] = L := ⟨_, rfl⟩
  rw [hL3] at hE3 HQ3
  clear hL3
  obtain ⟨M3, hM3⟩ : ∃ L, [73, 102, 45, 78, 111, 110, 101, 45, 77, 97, 116, 99, 104, 58, 32, 34, 110, 111, 34, 44, 32, 87, 47] ++ tg = L := ⟨_, rfl⟩
  rw [hM3] at hB3 hE3
  clear hM3
  obtain ⟨L5, hL5⟩ : ∃ L, [73, 102, 45, 77, 111, 100, 105, 102, 105, 101, 100, 45, 83, 105, 110, 99, 101, 58, 32] ++ (S t) ++ [13, 10] = L := ⟨_, rfl⟩
  rw [hL5] at hE5 HQ5
  clear hL5
  obtain ⟨M5, hM5⟩ : ∃ L, [73, 102, 45, 77, 111, 100, 105, 102, 105, 101, 100, 45, 83, 105, 110, 99, 101, 58, 32] ++ (S t) = L := ⟨_, rfl⟩
  rw [hM5] at hB5 hE5
  clear hM5
  obtain ⟨L6, hL6⟩ : ∃ L, [73, 102, 45, 85, 110, 109, 111, 100, 105, 102, 105, 101, 100, 45, 83, 105, 110, 99, 101, 58, 32] ++ (S t) ++ [13, 10] = L := ⟨_, rfl⟩
  rw [hL6] at hE6 HQ6
  clear hL6
  obtain ⟨M6, hM6⟩ : ∃ L, [73, 102, 45, 85, 110, 109, 111, 100, 105, 102, 105, 101, 100, 45, 83, 105, 110, 99, 101, 58, 32] ++ (S t) = L := ⟨_, rfl⟩
  rw [hM6] at hB6 hE6
  clear hM6
  obtain ⟨L7, hL7⟩ : ∃ L, [73, 102, 45, 77, 97, 116, 99, 104, 58, 32, 87, 47] ++ tg ++ [13, 10] = L := ⟨_, rfl⟩
  rw [hL7] at hE7 HQ7
  clear hL7
  obtain ⟨M7, hM7⟩ : ∃ L, [73, 102, 45, 77, 97, 116, 99, 104, 58, 32, 87, 47] ++ tg = L := ⟨_, rfl⟩
  rw [hM7] at hB7 hE7
  clear hM7
  obtain ⟨L8, hL8⟩ : ∃ L, [73, 102, 45, 77, 111, 100, 105, 102, 105, 101, 100, 45, 83, 105, 110, 99, 101, 58, 32] ++ (S (t - 1)) ++ [13, 10] = L := ⟨_, rfl⟩
  rw [hL8] at hE8 HQ8
  clear hL8
  obtain ⟨M8, hM8⟩ : ∃ L, [73, 102, 45, 77, 111, 100, 105, 102, 105, 101, 100, 45, 83, 105, 110, 99, 101, 58, 32] ++ (S (t - 1)) = L := ⟨_, rfl⟩
  rw [hM8] at hB8 hE8
  clear hM8
  obtain ⟨L9, hL9⟩ : ∃ L, [73, 102, 45, 85, 110, 109, 111, 100, 105, 102, 105, 101, 100, 45, 83, 105, 110, 99, 101, 58, 32] ++ (S (t - 1)) ++ [13, 10] = L := ⟨_, rfl⟩
  rw [hL9] at hE9 HQ9 hE10 HQ10
  clear hL9
  obtain ⟨M9, hM9⟩ : ∃ L, [73, 102, 45, 85, 110, 109, 111, 100, 105, 102, 105, 101, 100, 45, 83, 105, 110, 99, 101, 58, 32] ++ (S (t - 1)) = L := ⟨_, rfl⟩
  rw [hM9] at hB9 hE9 hB10 hE10
  clear hM9
  clear HDD
  have s0 : True := trivial
  go_wp2_with fail
  go_region_held3 (fun _ => True) (first | trivial | assumption) (first
    | (go_at_call 23
       refine (pick_any _ _ _ (by omega) (by omega) (by omega) (by omega)).mono ?_
       rintro e w2 ⟨rfl, rfl⟩
       rw [hq]))
  go_wp2_with fail
  have s1 : w1.cell? ⟨b, 0, none⟩ = some (.pointer (some ⟨s, 0, none⟩)) ∧ w1.cell? ⟨b, 1 + q * 3, none⟩ = some (.string ⟨K.toArray⟩) := ⟨HS.out.c0 _ HI1.out, HS.out.ck _ HI1.out⟩
  go_region_held3 (fun y => y.cell? ⟨b, 0, none⟩ = some (.pointer (some ⟨s, 0, none⟩)) ∧ y.cell? ⟨b, 1 + q * 3, none⟩ = some (.string ⟨K.toArray⟩)) (first | assumption | go_keep) (first
    | (go_at_call 16
       refine Calls.mono (HQ1.out _) ?_
       rintro e w2 ⟨rfl, rfl⟩)
    | (go_at_call 15
       refine Calls.mono (HS.out.asks _ _ HD1.out _ (HS.out.drw (HS.out.drw HI1.out))) ?_
       rintro e w3 ⟨rfl, i3, o3, k3⟩
       have s3 : w3.cell? ⟨b, 0, none⟩ = some (.pointer (some ⟨s, 0, none⟩)) ∧ w3.cell? ⟨b, 1 + q * 3, none⟩ = some (.string ⟨K.toArray⟩) := ⟨HS.out.c0 _ i3, HS.out.ck _ i3⟩))
  have lt3 := HS.out.sz _ i3
  have HI3 : Hid _ := i3
  have HO3 : Hid _ := ((HO1.out.trans (Off.of_below (Below.refl _ _).drew)).trans (Off.of_below (Below.refl _ _).drew)).trans o3
  clear i3 o3 k3 HO1 HI1 s1 s3
  go_wp2_with fail
  have s3 : w3.cell? ⟨b, 0, none⟩ = some (.pointer (some ⟨s, 0, none⟩)) ∧ w3.cell? ⟨b, 1 + q * 3, none⟩ = some (.string ⟨K.toArray⟩) := ⟨HS.out.c0 _ HI3.out, HS.out.ck _ HI3.out⟩
  go_region_held3 (fun y => y.cell? ⟨b, 0, none⟩ = some (.pointer (some ⟨s, 0, none⟩)) ∧ y.cell? ⟨b, 1 + q * 3, none⟩ = some (.string ⟨K.toArray⟩)) (first | assumption | go_keep) (first
    | (go_at_call 16
       refine Calls.mono (HQ2.out _) ?_
       rintro e w2 ⟨rfl, rfl⟩)
    | (go_at_call 15
       refine Calls.mono (HS.out.asks _ _ HD2.out _ (HS.out.drw HI3.out)) ?_
       rintro e w5 ⟨rfl, i5, o5, k5⟩
       have s5 : w5.cell? ⟨b, 0, none⟩ = some (.pointer (some ⟨s, 0, none⟩)) ∧ w5.cell? ⟨b, 1 + q * 3, none⟩ = some (.string ⟨K.toArray⟩) := ⟨HS.out.c0 _ i5, HS.out.ck _ i5⟩))
  have HI5 : Hid _ := i5
  have HO5 : Hid _ := (HO3.out.trans (Off.of_below (Below.refl _ _).drew)).trans o5
  clear i5 o5 k5 HO3 HI3 s3 s5
  go_wp2_with (first
    | (go_at_call 19; refine Calls.mono (HS.out.curr _ HI5.out) ?_; rintro e w6 ⟨rfl, b6⟩)
    | (go_at_call 24; refine Calls.mono (HN0.out _) ?_; rintro e w7 ⟨rfl, rfl⟩))

  obtain ⟨vb, hvb⟩ : ∃ k, w6.heap.size = k := ⟨_, rfl⟩
  obtain ⟨w8, hX⟩ : ∃ X, X = w6.alloc (.cells #[.int .i64 nu, .int .i64 t, .bool false, .string ⟨bd.toArray⟩, .string ⟨tg.toArray⟩] 56) := ⟨_, rfl⟩
  rw [← hX, hvb]
  have hbX : Below w5.heap.size w5 w8 := by rw [hX]; exact b6.alloc b6.size _
  have HI8 : Hid (I w8) := HS.out.bel _ _ HI5.out hbX
  have HO8 : Hid (Off (fun k => w.heap.size ≤ k) w w8) := HO5.out.trans (Off.of_below hbX)
  have HV8 : Hid (w8.heap[vb]? = some (.cells #[.int .i64 nu, .int .i64 t, .bool false, .string ⟨bd.toArray⟩, .string ⟨tg.toArray⟩] 56 (0, 0))) := by
    show _ = _
    rw [hX, ← hvb]
    exact heap_alloc_new _ _
  clear hX hbX b6 hvb HI5 HO5
  have s8 := four_cells HS.out HI8.out HV8.out
  have lt8 := HS.out.sz _ HI8.out
  have lv8 : vb < w8.heap.size := (Array.getElem?_eq_some_iff.1 HV8.out).1
  go_region_held3 (fun y => y.cell? ⟨b, 0, none⟩ = some (.pointer (some ⟨s, 0, none⟩)) ∧ y.cell? ⟨b, 1 + q * 3, none⟩ = some (.string ⟨K.toArray⟩) ∧ y.cell? ⟨vb, 1, none⟩ = some (.int .i64 t) ∧ y.cell? ⟨vb, 4, none⟩ = some (.string ⟨tg.toArray⟩)) (first | assumption | go_keep) (first
    | (go_at_call 16
       refine Calls.mono (HQ3.out _) ?_
       rintro e w2 ⟨rfl, rfl⟩)
    | (go_at_call 15
       refine Calls.mono (HS.out.asks _ _ HD3.out _ (HS.out.drw HI8.out)) ?_
       rintro e w9 ⟨rfl, i9, o9, k9⟩
       have v9 := k9 _ _ _ HV8.out
       have s9 := four_cells HS.out i9 v9))
  have HI9 : Hid (I w9) := i9
  have HV9 : Hid (w9.heap[vb]? = some (.cells #[.int .i64 nu, .int .i64 t, .bool false, .string ⟨bd.toArray⟩, .string ⟨tg.toArray⟩] 56 (0, 0))) := v9
  have HO9 : Hid _ := (HO8.out.trans (Off.of_below (Below.refl _ _).drew)).trans o9
  clear i9 v9 o9 k9 HI8 HV8 HO8 s8 s9 lt8 lv8
  go_wp2_with fail
  have s9 := four_cells HS.out HI9.out HV9.out
  have lt9 := HS.out.sz _ HI9.out
  have lv9 : vb < w9.heap.size := (Array.getElem?_eq_some_iff.1 HV9.out).1
  go_region_held3 (fun y => y.cell? ⟨b, 0, none⟩ = some (.pointer (some ⟨s, 0, none⟩)) ∧ y.cell? ⟨b, 1 + q * 3, none⟩ = some (.string ⟨K.toArray⟩) ∧ y.cell? ⟨vb, 1, none⟩ = some (.int .i64 t) ∧ y.cell? ⟨vb, 4, none⟩ = some (.string ⟨tg.toArray⟩)) (first | assumption | go_keep) (first
    | (go_at_call 16
       refine Calls.mono (HQ4.out _) ?_
       rintro e w2 ⟨rfl, rfl⟩)
    | (go_at_call 15
       refine Calls.mono (HS.out.asks _ _ HD4.out _ (HS.out.drw HI9.out)) ?_
       rintro e w10 ⟨rfl, i10, o10, k10⟩
       have v10 := k10 _ _ _ HV9.out
       have s10 := four_cells HS.out i10 v10))
  have HI10 : Hid (I w10) := i10
  have HV10 : Hid (w10.heap[vb]? = some (.cells #[.int .i64 nu, .int .i64 t, .bool false, .string ⟨bd.toArray⟩, .string ⟨tg.toArray⟩] 56 (0, 0))) := v10
  have HO10 : Hid _ := (HO9.out.trans (Off.of_below (Below.refl _ _).drew)).trans o10
  clear i10 v10 o10 k10 HI9 HV9 HO9 s9 s10 lt9 lv9
  go_wp2_with fail
  have s10 := four_cells HS.out HI10.out HV10.out
  have lt10 := HS.out.sz _ HI10.out
  have lv10 : vb < w10.heap.size := (Array.getElem?_eq_some_iff.1 HV10.out).1
  go_region_held3 (fun y => y.cell? ⟨b, 0, none⟩ = some (.pointer (some ⟨s, 0, none⟩)) ∧ y.cell? ⟨b, 1 + q * 3, none⟩ = some (.string ⟨K.toArray⟩) ∧ y.cell? ⟨vb, 1, none⟩ = some (.int .i64 t) ∧ y.cell? ⟨vb, 4, none⟩ = some (.string ⟨tg.toArray⟩)) (first | assumption | go_keep) (first
    | (go_at_call 16
       refine Calls.mono (HQ5.out _) ?_
       rintro e w2 ⟨rfl, rfl⟩)
    | (go_at_call 18
       refine Calls.mono (HS.out.stamp t ht _ (HS.out.drw HI10.out)) ?_
       rintro e wq ⟨rfl, bq⟩
       have iq := HS.out.bel _ _ (HS.out.drw HI10.out) bq
       have vq := (bq.block vb lv10).trans HV10.out
       have sq := four_cells HS.out iq vq)
    | (go_at_call 15
       refine Calls.mono (HS.out.asks _ _ HD5.out _ iq) ?_
       rintro e w11 ⟨rfl, i11, o11, k11⟩
       have v11 := k11 _ _ _ vq
       have s11 := four_cells HS.out i11 v11))
  have HI11 : Hid (I w11) := i11
  have HV11 : Hid (w11.heap[vb]? = some (.cells #[.int .i64 nu, .int .i64 t, .bool false, .string ⟨bd.toArray⟩, .string ⟨tg.toArray⟩] 56 (0, 0))) := v11
  have HO11 : Hid _ := ((HO10.out.trans (Off.of_below (Below.refl _ _).drew)).trans (Off.of_below bq)).trans o11
  clear i11 v11 o11 k11 HI10 HV10 HO10 s10 s11 lt10 lv10 iq vq bq sq
  go_wp2_with fail
  have s11 := four_cells HS.out HI11.out HV11.out
  have lt11 := HS.out.sz _ HI11.out
  have lv11 : vb < w11.heap.size := (Array.getElem?_eq_some_iff.1 HV11.out).1
  go_region_held3 (fun y => y.cell? ⟨b, 0, none⟩ = some (.pointer (some ⟨s, 0, none⟩)) ∧ y.cell? ⟨b, 1 + q * 3, none⟩ = some (.string ⟨K.toArray⟩) ∧ y.cell? ⟨vb, 1, none⟩ = some (.int .i64 t) ∧ y.cell? ⟨vb, 4, none⟩ = some (.string ⟨tg.toArray⟩)) (first | assumption | go_keep) (first
    | (go_at_call 16
       refine Calls.mono (HQ6.out _) ?_
       rintro e w2 ⟨rfl, rfl⟩)
    | (go_at_call 18
       refine Calls.mono (HS.out.stamp t ht _ (HS.out.drw HI11.out)) ?_
       rintro e wq ⟨rfl, bq⟩
       have iq := HS.out.bel _ _ (HS.out.drw HI11.out) bq
       have vq := (bq.block vb lv11).trans HV11.out
       have sq := four_cells HS.out iq vq)
    | (go_at_call 15
       refine Calls.mono (HS.out.asks _ _ HD6.out _ iq) ?_
       rintro e w12 ⟨rfl, i12, o12, k12⟩
       have v12 := k12 _ _ _ vq
       have s12 := four_cells HS.out i12 v12))
  have HI12 : Hid (I w12) := i12
  have HV12 : Hid (w12.heap[vb]? = some (.cells #[.int .i64 nu, .int .i64 t, .bool false, .string ⟨bd.toArray⟩, .string ⟨tg.toArray⟩] 56 (0, 0))) := v12
  have HO12 : Hid _ := ((HO11.out.trans (Off.of_below (Below.refl _ _).drew)).trans (Off.of_below bq)).trans o12
  clear i12 v12 o12 k12 HI11 HV11 HO11 s11 s12 lt11 lv11 iq vq bq sq
  go_wp2_with fail
  have s12 := four_cells HS.out HI12.out HV12.out
  have lt12 := HS.out.sz _ HI12.out
  have lv12 : vb < w12.heap.size := (Array.getElem?_eq_some_iff.1 HV12.out).1
  go_region_held3 (fun y => y.cell? ⟨b, 0, none⟩ = some (.pointer (some ⟨s, 0, none⟩)) ∧ y.cell? ⟨b, 1 + q * 3, none⟩ = some (.string ⟨K.toArray⟩) ∧ y.cell? ⟨vb, 1, none⟩ = some (.int .i64 t) ∧ y.cell? ⟨vb, 4, none⟩ = some (.string ⟨tg.toArray⟩)) (first | assumption | go_keep) (first
    | (go_at_call 16
       refine Calls.mono (HQ7.out _) ?_
       rintro e w2 ⟨rfl, rfl⟩)
    | (go_at_call 15
       refine Calls.mono (HS.out.asks _ _ HD7.out _ (HS.out.drw HI12.out)) ?_
       rintro e w13 ⟨rfl, i13, o13, k13⟩
       have v13 := k13 _ _ _ HV12.out
       have s13 := four_cells HS.out i13 v13))
  have HI13 : Hid (I w13) := i13
  have HV13 : Hid (w13.heap[vb]? = some (.cells #[.int .i64 nu, .int .i64 t, .bool false, .string ⟨bd.toArray⟩, .string ⟨tg.toArray⟩] 56 (0, 0))) := v13
  have HO13 : Hid _ := (HO12.out.trans (Off.of_below (Below.refl _ _).drew)).trans o13
  clear i13 v13 o13 k13 HI12 HV12 HO12 s12 s13 lt12 lv12
  have s13 := four_cells HS.out HI13.out HV13.out
  have hwr : IntKind.i64.wrap ((t : Int) - 1) = ((t - 1 : Nat) : Int) ∨ t = 0 := by
    by_cases h : t = 0
    · exact Or.inr h
    · left
      rw [IntKind.wrap_i64]
      omega
  by_cases ht0 : t = 0
  · subst ht0
    go_wp2_with (first
      | (go_at_call 20; refine Calls.mono (HCD.out _ (by first | exact Or.inl rfl | exact Or.inr rfl) _) ?_; rintro e w2 ⟨rfl, rfl⟩; simp only [hcA, hcC]))
    go_ret
    exact ⟨rfl, HO13.out⟩
  · have htI : ¬ (t : Int) = 0 := by omega
    have hw1 := hwr.resolve_right ht0
    go_wp2_with (first
      | (go_at_call 20; refine Calls.mono (HCD.out _ (by first | exact Or.inl rfl | exact Or.inr rfl) _) ?_; rintro e w2 ⟨rfl, rfl⟩; simp only [hcA, hcC])
      | (go_at_call 18; refine Calls.mono (HS.out.stamp (t - 1) (by omega) _ HI13.out) ?_; rintro e wq ⟨rfl, bq⟩))
    have HI14 : Hid (I wq) := HS.out.bel _ _ HI13.out bq
    have HV14 : Hid (wq.heap[vb]? = some (.cells #[.int .i64 nu, .int .i64 t, .bool false, .string ⟨bd.toArray⟩, .string ⟨tg.toArray⟩] 56 (0, 0))) := (bq.block vb (Array.getElem?_eq_some_iff.1 HV13.out).1).trans HV13.out
    have HO14 : Hid (Off (fun k => w.heap.size ≤ k) w wq) := HO13.out.trans (Off.of_below bq)
    clear HI13 HV13 HO13 bq s13
    have HD8 : Hid _ := HD8.out ht0
    have HD9 : Hid _ := HD9.out ht0
    have HD10 : Hid _ := HD10.out ht0
    obtain ⟨w14, hw14⟩ : ∃ x, x = wq := ⟨_, rfl⟩
    rw [← hw14] at HI14 HV14 HO14 ⊢
    clear hw14
    have s14 := four_cells HS.out HI14.out HV14.out
    have lt14 := HS.out.sz _ HI14.out
    have lv14 : vb < w14.heap.size := (Array.getElem?_eq_some_iff.1 HV14.out).1
    go_region_held3 (fun y => y.cell? ⟨b, 0, none⟩ = some (.pointer (some ⟨s, 0, none⟩)) ∧ y.cell? ⟨b, 1 + q * 3, none⟩ = some (.string ⟨K.toArray⟩) ∧ y.cell? ⟨vb, 1, none⟩ = some (.int .i64 t) ∧ y.cell? ⟨vb, 4, none⟩ = some (.string ⟨tg.toArray⟩)) (first | assumption | go_keep) (first
      | (go_at_call 16
         refine Calls.mono (HQ8.out _) ?_
         rintro e w2 ⟨rfl, rfl⟩)
      | (go_at_call 15
         refine Calls.mono (HS.out.asks _ _ HD8.out _ (HS.out.drw HI14.out)) ?_
         rintro e w15 ⟨rfl, i15, o15, k15⟩
         have v15 := k15 _ _ _ HV14.out
         have s15 := four_cells HS.out i15 v15))
    have HI15 : Hid (I w15) := i15
    have HV15 : Hid (w15.heap[vb]? = some (.cells #[.int .i64 nu, .int .i64 t, .bool false, .string ⟨bd.toArray⟩, .string ⟨tg.toArray⟩] 56 (0, 0))) := v15
    have HO15 : Hid _ := (HO14.out.trans (Off.of_below (Below.refl _ _).drew)).trans o15
    clear i15 v15 o15 k15 HI14 HV14 HO14 s14 s15 lt14 lv14
    go_wp2_with fail
    have s15 := four_cells HS.out HI15.out HV15.out
    have lt15 := HS.out.sz _ HI15.out
    have lv15 : vb < w15.heap.size := (Array.getElem?_eq_some_iff.1 HV15.out).1
    go_region_held3 (fun y => y.cell? ⟨b, 0, none⟩ = some (.pointer (some ⟨s, 0, none⟩)) ∧ y.cell? ⟨b, 1 + q * 3, none⟩ = some (.string ⟨K.toArray⟩) ∧ y.cell? ⟨vb, 1, none⟩ = some (.int .i64 t) ∧ y.cell? ⟨vb, 4, none⟩ = some (.string ⟨tg.toArray⟩)) (first | assumption | go_keep) (first
      | (go_at_call 16
         refine Calls.mono (HQ9.out _) ?_
         rintro e w2 ⟨rfl, rfl⟩)
      | (go_at_call 15
         refine Calls.mono (HS.out.asks _ _ HD9.out _ (HS.out.drw HI15.out)) ?_
         rintro e w16 ⟨rfl, i16, o16, k16⟩
         have v16 := k16 _ _ _ HV15.out
         have s16 := four_cells HS.out i16 v16))
    have HI16 : Hid (I w16) := i16
    have HV16 : Hid (w16.heap[vb]? = some (.cells #[.int .i64 nu, .int .i64 t, .bool false, .string ⟨bd.toArray⟩, .string ⟨tg.toArray⟩] 56 (0, 0))) := v16
    have HO16 : Hid _ := (HO15.out.trans (Off.of_below (Below.refl _ _).drew)).trans o16
    clear i16 v16 o16 k16 HI15 HV15 HO15 s15 s16 lt15 lv15
    go_wp2_with fail
    have s16 := four_cells HS.out HI16.out HV16.out
    have lt16 := HS.out.sz _ HI16.out
    have lv16 : vb < w16.heap.size := (Array.getElem?_eq_some_iff.1 HV16.out).1
    go_region_held3 (fun y => y.cell? ⟨b, 0, none⟩ = some (.pointer (some ⟨s, 0, none⟩)) ∧ y.cell? ⟨b, 1 + q * 3, none⟩ = some (.string ⟨K.toArray⟩) ∧ y.cell? ⟨vb, 1, none⟩ = some (.int .i64 t) ∧ y.cell? ⟨vb, 4, none⟩ = some (.string ⟨tg.toArray⟩)) (first | assumption | go_keep) (first
      | (go_at_call 16
         refine Calls.mono (HQ10.out _) ?_
         rintro e w2 ⟨rfl, rfl⟩)
      | (go_at_call 15
         refine Calls.mono (HS.out.asks _ _ HD10.out _ (HS.out.drw HI16.out)) ?_
         rintro e w17 ⟨rfl, i17, o17, k17⟩
         have v17 := k17 _ _ _ HV16.out
         have s17 := four_cells HS.out i17 v17))
    have HI17 : Hid (I w17) := i17
    have HV17 : Hid (w17.heap[vb]? = some (.cells #[.int .i64 nu, .int .i64 t, .bool false, .string ⟨bd.toArray⟩, .string ⟨tg.toArray⟩] 56 (0, 0))) := v17
    have HO17 : Hid _ := (HO16.out.trans (Off.of_below (Below.refl _ _).drew)).trans o17
    clear i17 v17 o17 k17 HI16 HV16 HO16 s16 s17 lt16 lv16
    go_wp2_with (go_at_call 20; refine Calls.mono (HCD.out _ (by first | exact Or.inl rfl | exact Or.inr rfl) _) ?_; rintro e w2 ⟨rfl, rfl⟩; simp only [hcC])
    go_ret
    exact ⟨rfl, HO17.out⟩
end Go.Proofs.YtmehkneofinmiaaGreatDoor

/-
 Texts of this proof, part 38.
-/
import Derived.Test.YtmehkneofinmiabGreatDoorP35
import Derived.Test.YtmehkneofinmiabGreatDoorP37
set_option maxRecDepth 100000
set_option maxHeartbeats 8000000
namespace Go.Proofs.YtmehkneofinmiabGreatDoor
open Go.RowKit
def noneT : List UInt8 := [110, 111, 110, 101]
def pickT (E : Ent) (C : Int) : List UInt8 :=
 match E.vers[(pk C E.vers.length).toNat]? with
 | none => noneT
 | some v => if v.mark then noneT else hexN 16 (fnv v.body)
theorem pickT_ok (E : Ent) (C : Int) : okText (pickT E C) = true /\ (∀ c ∈ pickT E C, c ≠ 13 /\ c ≠ 10) /\ (pickT E C).length <= 16 := by
 have hN : okText noneT = true /\ (∀ c ∈ noneT, c ≠ 13 /\ c ≠ 10) /\ noneT.length <= 16 := by decide
 unfold pickT
 split
 ·exact hN
 ·split
  ·exact hN
  ·exact ⟨(tag_ok _).1, (tag_ok _).2, Nat.le_of_eq (hexN_len _ _)⟩
noncomputable def stepF (σ : St) (k a b c : Int) : St :=
 if pk k 8 <= 2 then (ansF σ (reqB putM (47::nmK (pk a 5).toNat) [] (txtK b))).2
 else if pk k 8 = 3 then (ansF σ (reqB putM (47::nmK (pk a 5).toNat) (lineS ++ crlf) (txtK b))).2
 else if pk k 8 = 4 then (ansF σ (reqB putM (47::nmK (pk a 5).toNat) (lineM (pickT (enK σ (pk a 5).toNat) c) ++ crlf) (txtK b))).2
 else if pk k 8 = 5 then (ansF σ (reqB delM (47::nmK (pk a 5).toNat) [] [])).2
 else if pk k 8 = 6 then (ansF σ (reqB delM (47::(nmK (pk a 5).toNat ++ [63] ++ ([118, 61] ++ Lib.decDigits (1 + (pk b ((enK σ (pk a 5).toNat).last + 2 : Nat)).toNat)))) [] [])).2
 else ⟨σ.time + (pk b 5000).toNat, σ.ents, σ.log⟩
def I64 (x : Int) : Prop := -9223372036854775808 <= x /\ x <= 9223372036854775807
theorem txtK_len (c : Int) : (txtK c).length < 100 := by
 have p9 := pk_bd c 9 (by omega)
 have p4 := pk_bd c 4 (by omega)
 have := dec_len10 (n := (pk c 4).toNat) (k := 1) (by omega) (by omega)
 simp [txtK]
 omega
def StepPost (B : Nat -> Prop) (b s n c : Nat) (σ' : St) (w : World) (e : Ending) (w' : World) : Prop := e = .returned (.bool true) /\ (∃ M' vs' d', Bk B w' b s n σ' M' vs' d' (c + 1)) /\ Off B w w'
theorem marks_any {B : Nat -> Prop} {b s n : Nat} {σ : St} {M : Mem} {vs : Nat -> Value} {d c : Nat} (i : Nat) (hi : i < 5) (w : World) (h : Bk B w b s n σ M vs d c) (hc : c < 1000) :
 Calls Tryz.prog 43 #[.pointer (some ⟨b, 0, none⟩), .int .i64 i] w (StepPost B b s n c (ansF σ (reqB delM (47::nmK i) [] [])).2 w) := by
 have ha := mark_ans (σ := σ) (read_del (nmK_ok i)) (Or.inr h.many)
 by_cases hcu : (curOf (findE σ.ents (nmK i))).isSome = false
 ·rw [if_pos hcu] at ha
  refine (marks_fails i hi w h hc _ ha (Or.inl ⟨hcu, rfl⟩)).mono ?_
  rintro e w' ⟨rfl, ⟨M', hB⟩, hO⟩
  refine ⟨rfl, ⟨M', vs, d, ?_⟩, hO⟩
  rw [ha]
  exact hB
 ·rw [if_neg hcu] at ha
  have hcu' : (curOf (enK σ i)).isSome = true := by
   cases h1 : (curOf (enK σ i)).isSome with
   | true => rfl
   | false => exact absurd h1 hcu
  by_cases h20 : 20 <= (findE σ.ents (nmK i)).vers.length
  ·rw [if_pos h20] at ha
   refine (marks_fails i hi w h hc _ ha (Or.inr ⟨hcu', h20, rfl⟩)).mono ?_
   rintro e w' ⟨rfl, ⟨M', hB⟩, hO⟩
   refine ⟨rfl, ⟨M', vs, d, ?_⟩, hO⟩
   rw [ha]
   exact hB
  ·rw [if_neg h20] at ha
   refine (marks_did i hi w h hc (by show (findE σ.ents (nmK i)).vers.length < 20; omega) hcu' ha).mono ?_
   rintro e w' ⟨rfl, ⟨M', vs', hS, hb, hv⟩, hO⟩
   refine ⟨rfl, ⟨M', vs', d + 1, ?_⟩, hO⟩
   rw [ha]
   have hkl := (key_no (nmK_ok i)).2.1
   exact h.of hS i hi ⟨nmK i, (enK σ i).last + 1, (enK σ i).vers ++ [⟨(enK σ i).last + 1, σ.time, true, []⟩]⟩ rfl rfl rfl (by simp [recF_len]; omega) (by have := h.ls i; show (enK σ i).last + 1 <= _; omega) hb (by have := h.dn; omega) hv
theorem step_put {B : Nat -> Prop} {b s n : Nat} {σ : St} {M : Mem} {vs : Nat -> Value} {d c : Nat} (k a x y : Int) (hk : pk k 8 <= 2) (w : World) (h : Bk B w b s n σ M vs d c) (hc : c < 1000) (ik : I64 k) (ia : I64 a) (ix : I64 x) (iy : I64 y) :
 Calls Tryz.prog 24 #[.pointer (some ⟨b, 0, none⟩), .agg #[.int .i64 k, .int .i64 a, .int .i64 x, .int .i64 y]] w (StepPost B b s n c ((ansF σ (reqB putM (47::nmK (pk a 5).toNat) [] (txtK x))).2) w) := by
 have p5 := pk_bd a 5 (by omega)
 have p8 := pk_bd k 8 (by omega)
 obtain ⟨i, hi⟩ : ∃ n : Nat, pk a 5 = n := ⟨(pk a 5).toNat, by omega⟩
 have hi5 : i < 5 := by omega
 try rw [show (pk a 5).toNat = i by omega]
 have hlt := h.bk.lt
 obtain ⟨q0, q1, q2, q3, q4, hq⟩ := bvOut_agg (curOf (enK σ i))
 obtain ⟨tB, htB⟩ : ∃ x, (curOf (enK σ i)).isSome = x := ⟨_, rfl⟩
 have HQ : Hid (∀ z, Below w.heap.size w z -> Calls Tryz.prog 18 #[.pointer (some ⟨b, 1 + i * 3, none⟩)] z fun e w' => e = .returned (.tuple #[.agg #[.int .i64 q0, .int .i64 q1, .bool q2, .string q3, .string q4], .bool tB]) /\ Below z.heap.size z w') := by
  intro z hz
  have hz' := h.below hz
  have := bcur_any b (1 + i * 3) (vs i) (enK σ i) z (hz'.bk.ck i hi5).2.1 (hz'.bk.row i hi5) (by have := (h.facts i).1; omega)
  rw [hq, htB] at this
  exact this
 obtain ⟨⟨ik0, ik1⟩, ⟨ia0, ia1⟩, ⟨ix0, ix1⟩, ⟨iy0, iy1⟩⟩ : I64 k /\ I64 a /\ I64 x /\ I64 y := ⟨ik, ia, ix, iy⟩
 have HTX : Hid (∀ y, Below w.heap.size w y -> Calls Tryz.prog 42 #[.int .i64 x] y fun e w' => e = .returned (.string ⟨(txtK x).toArray⟩) /\ Below y.heap.size y w') :=
  fun y hy => textK_any x y (h.sto.env.tb.below hy).b ix0 ix1
 have HB : Hid _ := h
 obtain ⟨kk, hkk⟩ : ∃ n : Nat, pk k 8 = n := ⟨(pk k 8).toNat, by omega⟩
 have hkk3 : kk = 0 \/ kk = 1 \/ kk = 2 := by omega
 have HPU : Hid (∀ y, Below w.heap.size w y -> Calls Tryz.prog 41 #[.pointer (some ⟨b, 0, none⟩), .int .i64 i, .string ⟨#[]⟩, .string ⟨(txtK x).toArray⟩, .bool true] y (StepPost B b s n c (ansF σ (reqB putM (47::nmK i) [] (txtK x))).2 y)) :=
  fun y hy => puts_any i hi5 [] (txtK x) y (h.below hy) hc (by decide) (txtK_len x) k0 (read_put0 (nmK_ok i) (txtK_len x)) true (by rw [condF0]; rfl)
 clear h
 go_enter Tryz.func24, Tryz.ntmps24
 go_wp2_with (go_at_call 10; refine (pick_any _ _ _ (by omega) (by omega) (by omega) (by omega)).mono ?_; rintro e w' ⟨rfl, rfl⟩; try rw [hi])
 have hb0 : Below w.heap.size w (w.alloc (.cells #[.int .i64 k, .int .i64 a, .int .i64 x, .int .i64 y] 58)) := (Below.refl _ _).alloc (Nat.le_refl _) _
 have hh0 := heap_alloc_new w (.cells #[.int .i64 k, .int .i64 a, .int .i64 x, .int .i64 y] 58)
 have hs0 : w.heap.size < (w.alloc (.cells #[.int .i64 k, .int .i64 a, .int .i64 x, .int .i64 y] 58)).heap.size := by simp
 refine Calls.mono (HQ.out _ hb0) ?_
 rintro e w1 ⟨rfl, hb1⟩
 have hbw1 : Below w.heap.size w w1 := hb0.trans (hb1.mono (Nat.le_of_lt hs0))
 have hh1 := (hb1.block _ hs0).trans hh0
 have hs1 : w.heap.size < w1.heap.size := Nat.lt_of_lt_of_le hs0 hb1.size
 clear hb0 hb1 hh0 hs0
 have hbX : Below w.heap.size w (w1.alloc (.cells #[.int .i64 q0, .int .i64 q1, .bool q2, .string q3, .string q4] 42)) := hbw1.alloc (Nat.le_of_lt hs1) _
 have hhX := (heap_alloc_old w1 (.cells #[.int .i64 q0, .int .i64 q1, .bool q2, .string q3, .string q4] 42) hs1).trans hh1
 have o0 : w1.cell? ⟨w.heap.size, 0, none⟩ = some (.int .i64 k) := by simp [World.cell?, hh1]
 have o1 : w1.cell? ⟨w.heap.size, 1, none⟩ = some (.int .i64 a) := by simp [World.cell?, hh1]
 have o2 : w1.cell? ⟨w.heap.size, 2, none⟩ = some (.int .i64 x) := by simp [World.cell?, hh1]
 have o3 : w1.cell? ⟨w.heap.size, 3, none⟩ = some (.int .i64 y) := by simp [World.cell?, hh1]
 clear hhX hh1
 obtain ⟨X, hX⟩ : ∃ x, x = w1.alloc (.cells #[.int .i64 q0, .int .i64 q1, .bool q2, .string q3, .string q4] 42) := ⟨_, rfl⟩
 rw [<- hX] at hbX
 rcases hkk3 with rfl | rfl | rfl
 all_goals
  go_wp2_with (first
   | (go_at_call 10; refine (pick_any _ _ _ (by omega) (by omega) (by omega) (by omega)).mono ?_; rintro e w' ⟨rfl, rfl⟩; try rw [hkk])
   | (go_at_call 42; rw [<- hX]; refine Calls.mono (HTX.out _ hbX) ?_; rintro e w5 ⟨rfl, hb5⟩; have hbw5 : Below w.heap.size w w5 := hbX.trans (hb5.mono hbX.size))
   | (go_at_call 41; refine Calls.mono (HPU.out _ hbw5) ?_; rintro e w6 ⟨rfl, hB6, hO6⟩))
  go_ret
  exact ⟨rfl, hB6, (Off.of_below hbw5).trans hO6⟩
theorem step_star {B : Nat -> Prop} {b s n : Nat} {σ : St} {M : Mem} {vs : Nat -> Value} {d c : Nat} (k a x y : Int) (hk : pk k 8 = 3) (w : World) (h : Bk B w b s n σ M vs d c) (hc : c < 1000) (ik : I64 k) (ia : I64 a) (ix : I64 x) (iy : I64 y) :
 Calls Tryz.prog 24 #[.pointer (some ⟨b, 0, none⟩), .agg #[.int .i64 k, .int .i64 a, .int .i64 x, .int .i64 y]] w (StepPost B b s n c ((ansF σ (reqB putM (47::nmK (pk a 5).toNat) (lineS ++ crlf) (txtK x))).2) w) := by
 have p5 := pk_bd a 5 (by omega)
 have p8 := pk_bd k 8 (by omega)
 obtain ⟨i, hi⟩ : ∃ n : Nat, pk a 5 = n := ⟨(pk a 5).toNat, by omega⟩
 have hi5 : i < 5 := by omega
 try rw [show (pk a 5).toNat = i by omega]
 have hlt := h.bk.lt
 obtain ⟨q0, q1, q2, q3, q4, hq⟩ := bvOut_agg (curOf (enK σ i))
 obtain ⟨tB, htB⟩ : ∃ x, (curOf (enK σ i)).isSome = x := ⟨_, rfl⟩
 have HQ : Hid (∀ z, Below w.heap.size w z -> Calls Tryz.prog 18 #[.pointer (some ⟨b, 1 + i * 3, none⟩)] z fun e w' => e = .returned (.tuple #[.agg #[.int .i64 q0, .int .i64 q1, .bool q2, .string q3, .string q4], .bool tB]) /\ Below z.heap.size z w') := by
  intro z hz
  have hz' := h.below hz
  have := bcur_any b (1 + i * 3) (vs i) (enK σ i) z (hz'.bk.ck i hi5).2.1 (hz'.bk.row i hi5) (by have := (h.facts i).1; omega)
  rw [hq, htB] at this
  exact this
 obtain ⟨⟨ik0, ik1⟩, ⟨ia0, ia1⟩, ⟨ix0, ix1⟩, ⟨iy0, iy1⟩⟩ : I64 k /\ I64 a /\ I64 x /\ I64 y := ⟨ik, ia, ix, iy⟩
 have HTX : Hid (∀ y, Below w.heap.size w y -> Calls Tryz.prog 42 #[.int .i64 x] y fun e w' => e = .returned (.string ⟨(txtK x).toArray⟩) /\ Below y.heap.size y w') :=
  fun y hy => textK_any x y (h.sto.env.tb.below hy).b ix0 ix1
 have HB : Hid _ := h
 have hkk := hk
 have HPU : Hid (∀ y, Below w.heap.size w y -> Calls Tryz.prog 41 #[.pointer (some ⟨b, 0, none⟩), .int .i64 i, .string ⟨#[73, 102, 45, 78, 111, 110, 101, 45, 77, 97, 116, 99, 104, 58, 32, 42, 13, 10]⟩, .string ⟨(txtK x).toArray⟩, .bool !tB] y (StepPost B b s n c (ansF σ (reqB putM (47::nmK i) (lineS ++ crlf) (txtK x))).2 y)) :=
  fun y hy => puts_any i hi5 (lineS ++ crlf) (txtK x) y (h.below hy) hc (by decide) (txtK_len x) _ (read_star (nmK_ok i) (txtK_len x)) (!tB) (by rw [cond_star, htB]; cases tB <;> rfl)
 clear h
 go_enter Tryz.func24, Tryz.ntmps24
 go_wp2_with (go_at_call 10; refine (pick_any _ _ _ (by omega) (by omega) (by omega) (by omega)).mono ?_; rintro e w' ⟨rfl, rfl⟩; try rw [hi])
 have hb0 : Below w.heap.size w (w.alloc (.cells #[.int .i64 k, .int .i64 a, .int .i64 x, .int .i64 y] 58)) := (Below.refl _ _).alloc (Nat.le_refl _) _
 have hh0 := heap_alloc_new w (.cells #[.int .i64 k, .int .i64 a, .int .i64 x, .int .i64 y] 58)
 have hs0 : w.heap.size < (w.alloc (.cells #[.int .i64 k, .int .i64 a, .int .i64 x, .int .i64 y] 58)).heap.size := by simp
 refine Calls.mono (HQ.out _ hb0) ?_
 rintro e w1 ⟨rfl, hb1⟩
 have hbw1 : Below w.heap.size w w1 := hb0.trans (hb1.mono (Nat.le_of_lt hs0))
 have hh1 := (hb1.block _ hs0).trans hh0
 have hs1 : w.heap.size < w1.heap.size := Nat.lt_of_lt_of_le hs0 hb1.size
 clear hb0 hb1 hh0 hs0
 have hbX : Below w.heap.size w (w1.alloc (.cells #[.int .i64 q0, .int .i64 q1, .bool q2, .string q3, .string q4] 42)) := hbw1.alloc (Nat.le_of_lt hs1) _
 have hhX := (heap_alloc_old w1 (.cells #[.int .i64 q0, .int .i64 q1, .bool q2, .string q3, .string q4] 42) hs1).trans hh1
 have o0 : w1.cell? ⟨w.heap.size, 0, none⟩ = some (.int .i64 k) := by simp [World.cell?, hh1]
 have o1 : w1.cell? ⟨w.heap.size, 1, none⟩ = some (.int .i64 a) := by simp [World.cell?, hh1]
 have o2 : w1.cell? ⟨w.heap.size, 2, none⟩ = some (.int .i64 x) := by simp [World.cell?, hh1]
 have o3 : w1.cell? ⟨w.heap.size, 3, none⟩ = some (.int .i64 y) := by simp [World.cell?, hh1]
 clear hhX hh1
 obtain ⟨X, hX⟩ : ∃ x, x = w1.alloc (.cells #[.int .i64 q0, .int .i64 q1, .bool q2, .string q3, .string q4] 42) := ⟨_, rfl⟩
 rw [<- hX] at hbX
 cases tB
 all_goals
  simp only [Bool.not_true, Bool.not_false] at HPU
  go_wp2_with (first
   | (go_at_call 10; refine (pick_any _ _ _ (by omega) (by omega) (by omega) (by omega)).mono ?_; rintro e w' ⟨rfl, rfl⟩; try rw [hkk])
   | (go_at_call 42; rw [<- hX]; refine Calls.mono (HTX.out _ hbX) ?_; rintro e w5 ⟨rfl, hb5⟩; have hbw5 : Below w.heap.size w w5 := hbX.trans (hb5.mono hbX.size))
   | (go_at_call 41; refine Calls.mono (HPU.out _ hbw5) ?_; rintro e w6 ⟨rfl, hB6, hO6⟩))
  go_ret
  exact ⟨rfl, hB6, (Off.of_below hbw5).trans hO6⟩
theorem step_mark {B : Nat -> Prop} {b s n : Nat} {σ : St} {M : Mem} {vs : Nat -> Value} {d c : Nat} (k a x y : Int) (hk : pk k 8 = 5) (w : World) (h : Bk B w b s n σ M vs d c) (hc : c < 1000) (ik : I64 k) (ia : I64 a) (ix : I64 x) (iy : I64 y) :
 Calls Tryz.prog 24 #[.pointer (some ⟨b, 0, none⟩), .agg #[.int .i64 k, .int .i64 a, .int .i64 x, .int .i64 y]] w (StepPost B b s n c ((ansF σ (reqB delM (47::nmK (pk a 5).toNat) [] [])).2) w) := by
 have p5 := pk_bd a 5 (by omega)
 have p8 := pk_bd k 8 (by omega)
 obtain ⟨i, hi⟩ : ∃ n : Nat, pk a 5 = n := ⟨(pk a 5).toNat, by omega⟩
 have hi5 : i < 5 := by omega
 try rw [show (pk a 5).toNat = i by omega]
 have hlt := h.bk.lt
 obtain ⟨q0, q1, q2, q3, q4, hq⟩ := bvOut_agg (curOf (enK σ i))
 obtain ⟨tB, htB⟩ : ∃ x, (curOf (enK σ i)).isSome = x := ⟨_, rfl⟩
 have HQ : Hid (∀ z, Below w.heap.size w z -> Calls Tryz.prog 18 #[.pointer (some ⟨b, 1 + i * 3, none⟩)] z fun e w' => e = .returned (.tuple #[.agg #[.int .i64 q0, .int .i64 q1, .bool q2, .string q3, .string q4], .bool tB]) /\ Below z.heap.size z w') := by
  intro z hz
  have hz' := h.below hz
  have := bcur_any b (1 + i * 3) (vs i) (enK σ i) z (hz'.bk.ck i hi5).2.1 (hz'.bk.row i hi5) (by have := (h.facts i).1; omega)
  rw [hq, htB] at this
  exact this
 obtain ⟨⟨ik0, ik1⟩, ⟨ia0, ia1⟩, ⟨ix0, ix1⟩, ⟨iy0, iy1⟩⟩ : I64 k /\ I64 a /\ I64 x /\ I64 y := ⟨ik, ia, ix, iy⟩
 have HTX : Hid (∀ y, Below w.heap.size w y -> Calls Tryz.prog 42 #[.int .i64 x] y fun e w' => e = .returned (.string ⟨(txtK x).toArray⟩) /\ Below y.heap.size y w') :=
  fun y hy => textK_any x y (h.sto.env.tb.below hy).b ix0 ix1
 have HB : Hid _ := h
 have hkk := hk
 have HPU : Hid (∀ y, Below w.heap.size w y -> Calls Tryz.prog 43 #[.pointer (some ⟨b, 0, none⟩), .int .i64 i] y (StepPost B b s n c (ansF σ (reqB delM (47::nmK i) [] [])).2 y)) :=
  fun y hy => marks_any i hi5 y (h.below hy) hc
 clear h
 go_enter Tryz.func24, Tryz.ntmps24
 go_wp2_with (go_at_call 10; refine (pick_any _ _ _ (by omega) (by omega) (by omega) (by omega)).mono ?_; rintro e w' ⟨rfl, rfl⟩; try rw [hi])
 have hb0 : Below w.heap.size w (w.alloc (.cells #[.int .i64 k, .int .i64 a, .int .i64 x, .int .i64 y] 58)) := (Below.refl _ _).alloc (Nat.le_refl _) _
 have hh0 := heap_alloc_new w (.cells #[.int .i64 k, .int .i64 a, .int .i64 x, .int .i64 y] 58)
 have hs0 : w.heap.size < (w.alloc (.cells #[.int .i64 k, .int .i64 a, .int .i64 x, .int .i64 y] 58)).heap.size := by simp
 refine Calls.mono (HQ.out _ hb0) ?_
 rintro e w1 ⟨rfl, hb1⟩
 have hbw1 : Below w.heap.size w w1 := hb0.trans (hb1.mono (Nat.le_of_lt hs0))
 have hh1 := (hb1.block _ hs0).trans hh0
 have hs1 : w.heap.size < w1.heap.size := Nat.lt_of_lt_of_le hs0 hb1.size
 clear hb0 hb1 hh0 hs0
 have hbX : Below w.heap.size w (w1.alloc (.cells #[.int .i64 q0, .int .i64 q1, .bool q2, .string q3, .string q4] 42)) := hbw1.alloc (Nat.le_of_lt hs1) _
 have hhX := (heap_alloc_old w1 (.cells #[.int .i64 q0, .int .i64 q1, .bool q2, .string q3, .string q4] 42) hs1).trans hh1
 have o0 : w1.cell? ⟨w.heap.size, 0, none⟩ = some (.int .i64 k) := by simp [World.cell?, hh1]
 have o1 : w1.cell? ⟨w.heap.size, 1, none⟩ = some (.int .i64 a) := by simp [World.cell?, hh1]
 have o2 : w1.cell? ⟨w.heap.size, 2, none⟩ = some (.int .i64 x) := by simp [World.cell?, hh1]
 have o3 : w1.cell? ⟨w.heap.size, 3, none⟩ = some (.int .i64 y) := by simp [World.cell?, hh1]
 clear hhX hh1
 obtain ⟨X, hX⟩ : ∃ x, x = w1.alloc (.cells #[.int .i64 q0, .int .i64 q1, .bool q2, .string q3, .string q4] 42) := ⟨_, rfl⟩
 rw [<- hX] at hbX
 go_wp2_with (first
  | (go_at_call 10; refine (pick_any _ _ _ (by omega) (by omega) (by omega) (by omega)).mono ?_; rintro e w' ⟨rfl, rfl⟩; try rw [hkk])
  | (go_at_call 43; rw [<- hX]; refine Calls.mono (HPU.out _ hbX) ?_; rintro e w6 ⟨rfl, hB6, hO6⟩))
 go_ret
 exact ⟨rfl, hB6, (Off.of_below hbX).trans hO6⟩
theorem step_drop {B : Nat -> Prop} {b s n : Nat} {σ : St} {M : Mem} {vs : Nat -> Value} {d c : Nat} (k a x y : Int) (hk : pk k 8 = 6) (w : World) (h : Bk B w b s n σ M vs d c) (hc : c < 1000) (ik : I64 k) (ia : I64 a) (ix : I64 x) (iy : I64 y) :
 Calls Tryz.prog 24 #[.pointer (some ⟨b, 0, none⟩), .agg #[.int .i64 k, .int .i64 a, .int .i64 x, .int .i64 y]] w (StepPost B b s n c ((ansF σ (reqB delM (47::(nmK (pk a 5).toNat ++ [63] ++ ([118, 61] ++ Lib.decDigits (1 + (pk x ((enK σ (pk a 5).toNat).last + 2 : Nat)).toNat)))) [] [])).2) w) := by
 have p5 := pk_bd a 5 (by omega)
 have p8 := pk_bd k 8 (by omega)
 obtain ⟨i, hi⟩ : ∃ n : Nat, pk a 5 = n := ⟨(pk a 5).toNat, by omega⟩
 have hi5 : i < 5 := by omega
 try rw [show (pk a 5).toNat = i by omega]
 have hlt := h.bk.lt
 obtain ⟨q0, q1, q2, q3, q4, hq⟩ := bvOut_agg (curOf (enK σ i))
 obtain ⟨tB, htB⟩ : ∃ x, (curOf (enK σ i)).isSome = x := ⟨_, rfl⟩
 have HQ : Hid (∀ z, Below w.heap.size w z -> Calls Tryz.prog 18 #[.pointer (some ⟨b, 1 + i * 3, none⟩)] z fun e w' => e = .returned (.tuple #[.agg #[.int .i64 q0, .int .i64 q1, .bool q2, .string q3, .string q4], .bool tB]) /\ Below z.heap.size z w') := by
  intro z hz
  have hz' := h.below hz
  have := bcur_any b (1 + i * 3) (vs i) (enK σ i) z (hz'.bk.ck i hi5).2.1 (hz'.bk.row i hi5) (by have := (h.facts i).1; omega)
  rw [hq, htB] at this
  exact this
 obtain ⟨⟨ik0, ik1⟩, ⟨ia0, ia1⟩, ⟨ix0, ix1⟩, ⟨iy0, iy1⟩⟩ : I64 k /\ I64 a /\ I64 x /\ I64 y := ⟨ik, ia, ix, iy⟩
 have HTX : Hid (∀ y, Below w.heap.size w y -> Calls Tryz.prog 42 #[.int .i64 x] y fun e w' => e = .returned (.string ⟨(txtK x).toArray⟩) /\ Below y.heap.size y w') :=
  fun y hy => textK_any x y (h.sto.env.tb.below hy).b ix0 ix1
 have HB : Hid _ := h
 have hkk := hk
 have hL := h.ls i
 obtain ⟨L, hLL⟩ : ∃ x, (enK σ i).last = x := ⟨_, rfl⟩
 have hp := pk_bd x ((L + 2 : Nat) : Int) (by omega)
 rw [hLL] at hL ⊢
 obtain ⟨mm, hmm⟩ : ∃ n : Nat, pk x ((L + 2 : Nat) : Int) = n := ⟨(pk x ((L + 2 : Nat) : Int)).toNat, by omega⟩
 rw [show (pk x ((L + 2 : Nat) : Int)).toNat = mm by omega]
 have hm2 : pk x ((L : Int) + 2) = (mm : Int) := hmm
 have HPU : Hid (∀ y, Below w.heap.size w y -> Calls Tryz.prog 44 #[.pointer (some ⟨b, 0, none⟩), .int .i64 i, .int .i64 (1 + (mm : Int))] y (StepPost B b s n c (ansF σ (reqB delM (47::(nmK i ++ [63] ++ ([118, 61] ++ Lib.decDigits (1 + mm)))) [] [])).2 y)) := by
  intro y hy
  have := drops_any i hi5 (1 + mm) (by omega) (by omega) y (h.below hy) hc
  rw [show ((1 + mm : Nat) : Int) = 1 + (mm : Int) by omega] at this
  exact this
 clear h
 go_enter Tryz.func24, Tryz.ntmps24
 go_wp2_with (go_at_call 10; refine (pick_any _ _ _ (by omega) (by omega) (by omega) (by omega)).mono ?_; rintro e w' ⟨rfl, rfl⟩; try rw [hi])
 have hb0 : Below w.heap.size w (w.alloc (.cells #[.int .i64 k, .int .i64 a, .int .i64 x, .int .i64 y] 58)) := (Below.refl _ _).alloc (Nat.le_refl _) _
 have hh0 := heap_alloc_new w (.cells #[.int .i64 k, .int .i64 a, .int .i64 x, .int .i64 y] 58)
 have hs0 : w.heap.size < (w.alloc (.cells #[.int .i64 k, .int .i64 a, .int .i64 x, .int .i64 y] 58)).heap.size := by simp
 refine Calls.mono (HQ.out _ hb0) ?_
 rintro e w1 ⟨rfl, hb1⟩
 have hbw1 : Below w.heap.size w w1 := hb0.trans (hb1.mono (Nat.le_of_lt hs0))
 have hh1 := (hb1.block _ hs0).trans hh0
 have hs1 : w.heap.size < w1.heap.size := Nat.lt_of_lt_of_le hs0 hb1.size
 clear hb0 hb1 hh0 hs0
 have hbX : Below w.heap.size w (w1.alloc (.cells #[.int .i64 q0, .int .i64 q1, .bool q2, .string q3, .string q4] 42)) := hbw1.alloc (Nat.le_of_lt hs1) _
 have hhX := (heap_alloc_old w1 (.cells #[.int .i64 q0, .int .i64 q1, .bool q2, .string q3, .string q4] 42) hs1).trans hh1
 have o0 : w1.cell? ⟨w.heap.size, 0, none⟩ = some (.int .i64 k) := by simp [World.cell?, hh1]
 have o1 : w1.cell? ⟨w.heap.size, 1, none⟩ = some (.int .i64 a) := by simp [World.cell?, hh1]
 have o2 : w1.cell? ⟨w.heap.size, 2, none⟩ = some (.int .i64 x) := by simp [World.cell?, hh1]
 have o3 : w1.cell? ⟨w.heap.size, 3, none⟩ = some (.int .i64 y) := by simp [World.cell?, hh1]
 clear hhX hh1
 obtain ⟨X, hX⟩ : ∃ x, x = w1.alloc (.cells #[.int .i64 q0, .int .i64 q1, .bool q2, .string q3, .string q4] 42) := ⟨_, rfl⟩
 rw [<- hX] at hbX
 have z3 : w1.cell? ⟨b, 1 + i * 3 + 2, none⟩ = some (.int .i64 L) := by rw [((HB.out.below hbw1).bk.ck i hi5).2.2, hLL]
 have hltb : b < w1.heap.size := (HB.out.below hbw1).bk.lt
 go_wp2_with (go_at_call 10; refine (pick_any _ _ _ (by omega) (by omega) (by omega) (by omega)).mono ?_; rintro e w' ⟨rfl, rfl⟩; try rw [hkk])
 rw [<- hX]
 have x3 : X.cell? ⟨b, 1 + i * 3 + 2, none⟩ = some (.int .i64 L) := by rw [((HB.out.below hbX).bk.ck i hi5).2.2, hLL]
 have ox : X.cell? ⟨w.heap.size, 2, none⟩ = some (.int .i64 x) := ((by rw [hX]; exact (Below.refl _ _).alloc (Nat.le_refl _) _ : Below w1.heap.size w1 X).cell (p := ⟨w.heap.size, 2, none⟩) hs1).trans o2
 have hbXd : Below w.heap.size w X.drew := hbX.trans ((Below.refl _ _).drew)
 have HPK : Hid (∀ y, Calls Tryz.prog 10 #[.int .i64 x, .int .i64 ((L : Int) + 2)] y fun e w' => e = .returned (.int .i64 mm) /\ w' = y) := by
  intro y
  have := pick_any x ((L : Int) + 2) y (by omega) (by omega) (by omega) (by omega)
  rw [hm2] at this
  exact this
 have hwr : IntKind.i64.wrap ((L : Int) + 2) = (L : Int) + 2 := by rw [IntKind.wrap_i64]; omega
 have hwr2 : IntKind.i64.wrap (1 + (mm : Int)) = 1 + (mm : Int) := by rw [IntKind.wrap_i64]; omega
 clear hX
 refine wp_region_held_drew (S := (fun _ => True)) (by kernel_rfl) trivial (fun hHeld => ?_)
 refine tkH 0 rfl (by kernel_rfl) (fun _ _ _ h => h) (Or.inl ⟨by rfl, fun y hSw => by go_simp; try with_reducible rfl⟩) hHeld ?_
 try simp only [Act.put]
 refine tkH 1 rfl (by kernel_rfl) (fun _ _ _ h => h) (Or.inl ⟨by rfl, fun y hSw => by go_simp; try with_reducible rfl⟩) hHeld ?_
 try simp only [Act.put]
 refine tkH 2 rfl (by kernel_rfl) (fun _ _ _ h => h) (Or.inl ⟨by rfl, fun y hSw => by go_simp; try with_reducible rfl⟩) hHeld ?_
 try simp only [Act.put]
 refine tkH 4 rfl (by kernel_rfl) (fun _ _ _ h => h) (Or.inl ⟨by rfl, fun y hSw => by go_simp; try with_reducible rfl⟩) hHeld ?_
 try simp only [Act.put]
 refine tkH 5 rfl (by kernel_rfl) (fun _ _ _ h => h) (Or.inl ⟨by rfl, fun y hSw => by go_simp; try with_reducible rfl⟩) hHeld ?_
 try simp only [Act.put]
 refine tkH 6 rfl (by kernel_rfl) (fun _ _ _ h => h) (Or.inl ⟨by rfl, fun y hSw => by go_simp; try with_reducible rfl⟩) hHeld ?_
 try simp only [Act.put]
 refine wpAnyH_ready (rs := [3, 7]) (by kernel_rfl) (by simp) ?_
 refine AllReadyH.cons rfl (fun K hK => ?_) (AllReadyH.cons rfl (fun K hK => ?_) AllReadyH.nil)
 ·go_simp
  refine hK.out _ _ trivial (fun _ => ?_)
  clear hK K
  try simp only [Act.put]
  refine wpAnyH_ready (rs := [7]) (by kernel_rfl) (by simp) ?_
  refine AllReadyH.cons rfl (fun K hK => ?_) AllReadyH.nil
  go_simp
  refine hK.out _ _ trivial (fun _ => ?_)
  clear hK K
  try simp only [Act.put]
  refine tkH 8 rfl (by kernel_rfl) (fun _ _ _ h => h) (Or.inl ⟨by rfl, fun y hSw => by go_simp; try with_reducible rfl⟩) hHeld ?_
  try simp only [Act.put]
  refine wpAnyH_ready (rs := [9]) (by kernel_rfl) (by simp) ?_
  refine AllReadyH.cons rfl (fun K hK => ?_) AllReadyH.nil
  go_simp
  refine Calls.mono (HPK.out _) ?_
  rintro e w7 ⟨rfl, rfl⟩
  try go_wp2_with fail
  refine hK.out _ _ trivial (fun _ => ?_)
  clear hK K
  try simp only [Act.put]
  refine tkH 10 rfl (by kernel_rfl) (fun _ _ _ h => h) (Or.inl ⟨by rfl, fun y hSw => by go_simp; try with_reducible rfl⟩) hHeld ?_
  try simp only [Act.put]
  refine wpAnyH_ready (rs := [11]) (by kernel_rfl) (by simp) ?_
  refine AllReadyH.cons rfl (fun K hK => ?_) AllReadyH.nil
  go_simp
  refine Calls.mono (HPU.out _ hbXd) ?_
  rintro e w6 ⟨rfl, hB6, hO6⟩
  try go_wp2_with fail
  refine hK.out _ _ trivial (fun _ => ?_)
  clear hK K
  try simp only [Act.put]
  refine wpAnyH_ready (rs := [12]) (by kernel_rfl) (by simp) ?_
  refine AllReadyH.cons rfl (fun K hK => ?_) AllReadyH.nil
  go_simp
  refine hK.out _ _ trivial (fun _ => ?_)
  clear hK K
  try simp only [Act.put]
  refine wpAnyH_done (by kernel_rfl) ?_ _
  go_wp2
  go_ret
  exact ⟨rfl, hB6, (Off.of_below hbXd).trans hO6⟩
 ·go_simp
  refine hK.out _ _ trivial (fun _ => ?_)
  clear hK K
  try simp only [Act.put]
  refine tkH 8 rfl (by kernel_rfl) (fun _ _ _ h => h) (Or.inl ⟨by rfl, fun y hSw => by go_simp; try with_reducible rfl⟩) hHeld ?_
  try simp only [Act.put]
  refine wpAnyH_ready (rs := [3]) (by kernel_rfl) (by simp) ?_
  refine AllReadyH.cons rfl (fun K hK => ?_) AllReadyH.nil
  go_simp
  refine hK.out _ _ trivial (fun _ => ?_)
  clear hK K
  try simp only [Act.put]
  refine wpAnyH_ready (rs := [9]) (by kernel_rfl) (by simp) ?_
  refine AllReadyH.cons rfl (fun K hK => ?_) AllReadyH.nil
  go_simp
  refine Calls.mono (HPK.out _) ?_
  rintro e w7 ⟨rfl, rfl⟩
  try go_wp2_with fail
  refine hK.out _ _ trivial (fun _ => ?_)
  clear hK K
  try simp only [Act.put]
  refine tkH 10 rfl (by kernel_rfl) (fun _ _ _ h => h) (Or.inl ⟨by rfl, fun y hSw => by go_simp; try with_reducible rfl⟩) hHeld ?_
  try simp only [Act.put]
  refine wpAnyH_ready (rs := [11]) (by kernel_rfl) (by simp) ?_
  refine AllReadyH.cons rfl (fun K hK => ?_) AllReadyH.nil
  go_simp
  refine Calls.mono (HPU.out _ hbXd) ?_
  rintro e w6 ⟨rfl, hB6, hO6⟩
  try go_wp2_with fail
  refine hK.out _ _ trivial (fun _ => ?_)
  clear hK K
  try simp only [Act.put]
  refine wpAnyH_ready (rs := [12]) (by kernel_rfl) (by simp) ?_
  refine AllReadyH.cons rfl (fun K hK => ?_) AllReadyH.nil
  go_simp
  refine hK.out _ _ trivial (fun _ => ?_)
  clear hK K
  try simp only [Act.put]
  refine wpAnyH_done (by kernel_rfl) ?_ _
  go_wp2
  go_ret
  exact ⟨rfl, hB6, (Off.of_below hbXd).trans hO6⟩
theorem step_tick {B : Nat -> Prop} {b s n : Nat} {σ : St} {M : Mem} {vs : Nat -> Value} {d c : Nat} (k a x y : Int) (hk : pk k 8 = 7) (w : World) (h : Bk B w b s n σ M vs d c) (hc : c < 1000) (ik : I64 k) (ia : I64 a) (ix : I64 x) (iy : I64 y) :
 Calls Tryz.prog 24 #[.pointer (some ⟨b, 0, none⟩), .agg #[.int .i64 k, .int .i64 a, .int .i64 x, .int .i64 y]] w (StepPost B b s n c (⟨σ.time + (pk x 5000).toNat, σ.ents, σ.log⟩) w) := by
 have p5 := pk_bd a 5 (by omega)
 have p8 := pk_bd k 8 (by omega)
 obtain ⟨i, hi⟩ : ∃ n : Nat, pk a 5 = n := ⟨(pk a 5).toNat, by omega⟩
 have hi5 : i < 5 := by omega
 try rw [show (pk a 5).toNat = i by omega]
 have hlt := h.bk.lt
 obtain ⟨q0, q1, q2, q3, q4, hq⟩ := bvOut_agg (curOf (enK σ i))
 obtain ⟨tB, htB⟩ : ∃ x, (curOf (enK σ i)).isSome = x := ⟨_, rfl⟩
 have HQ : Hid (∀ z, Below w.heap.size w z -> Calls Tryz.prog 18 #[.pointer (some ⟨b, 1 + i * 3, none⟩)] z fun e w' => e = .returned (.tuple #[.agg #[.int .i64 q0, .int .i64 q1, .bool q2, .string q3, .string q4], .bool tB]) /\ Below z.heap.size z w') := by
  intro z hz
  have hz' := h.below hz
  have := bcur_any b (1 + i * 3) (vs i) (enK σ i) z (hz'.bk.ck i hi5).2.1 (hz'.bk.row i hi5) (by have := (h.facts i).1; omega)
  rw [hq, htB] at this
  exact this
 obtain ⟨⟨ik0, ik1⟩, ⟨ia0, ia1⟩, ⟨ix0, ix1⟩, ⟨iy0, iy1⟩⟩ : I64 k /\ I64 a /\ I64 x /\ I64 y := ⟨ik, ia, ix, iy⟩
 have HTX : Hid (∀ y, Below w.heap.size w y -> Calls Tryz.prog 42 #[.int .i64 x] y fun e w' => e = .returned (.string ⟨(txtK x).toArray⟩) /\ Below y.heap.size y w') :=
  fun y hy => textK_any x y (h.sto.env.tb.below hy).b ix0 ix1
 have HB : Hid _ := h
 have hkk := hk
 have hp := pk_bd x 5000 (by omega)
 obtain ⟨mm, hmm⟩ : ∃ n : Nat, pk x 5000 = n := ⟨(pk x 5000).toNat, by omega⟩
 rw [show (pk x 5000).toNat = mm by omega]
 have htm := h.tm
 clear h
 go_enter Tryz.func24, Tryz.ntmps24
 go_wp2_with (go_at_call 10; refine (pick_any _ _ _ (by omega) (by omega) (by omega) (by omega)).mono ?_; rintro e w' ⟨rfl, rfl⟩; try rw [hi])
 have hb0 : Below w.heap.size w (w.alloc (.cells #[.int .i64 k, .int .i64 a, .int .i64 x, .int .i64 y] 58)) := (Below.refl _ _).alloc (Nat.le_refl _) _
 have hh0 := heap_alloc_new w (.cells #[.int .i64 k, .int .i64 a, .int .i64 x, .int .i64 y] 58)
 have hs0 : w.heap.size < (w.alloc (.cells #[.int .i64 k, .int .i64 a, .int .i64 x, .int .i64 y] 58)).heap.size := by simp
 refine Calls.mono (HQ.out _ hb0) ?_
 rintro e w1 ⟨rfl, hb1⟩
 have hbw1 : Below w.heap.size w w1 := hb0.trans (hb1.mono (Nat.le_of_lt hs0))
 have hh1 := (hb1.block _ hs0).trans hh0
 have hs1 : w.heap.size < w1.heap.size := Nat.lt_of_lt_of_le hs0 hb1.size
 clear hb0 hb1 hh0 hs0
 have hbX : Below w.heap.size w (w1.alloc (.cells #[.int .i64 q0, .int .i64 q1, .bool q2, .string q3, .string q4] 42)) := hbw1.alloc (Nat.le_of_lt hs1) _
 have hhX := (heap_alloc_old w1 (.cells #[.int .i64 q0, .int .i64 q1, .bool q2, .string q3, .string q4] 42) hs1).trans hh1
 have o0 : w1.cell? ⟨w.heap.size, 0, none⟩ = some (.int .i64 k) := by simp [World.cell?, hh1]
 have o1 : w1.cell? ⟨w.heap.size, 1, none⟩ = some (.int .i64 a) := by simp [World.cell?, hh1]
 have o2 : w1.cell? ⟨w.heap.size, 2, none⟩ = some (.int .i64 x) := by simp [World.cell?, hh1]
 have o3 : w1.cell? ⟨w.heap.size, 3, none⟩ = some (.int .i64 y) := by simp [World.cell?, hh1]
 clear hhX hh1
 obtain ⟨X, hX⟩ : ∃ x, x = w1.alloc (.cells #[.int .i64 q0, .int .i64 q1, .bool q2, .string q3, .string q4] 42) := ⟨_, rfl⟩
 rw [<- hX] at hbX
 have hBX := HB.out.below hbX
 have z0 := hBX.bk.c0.1
 have z16 := hBX.bk.c0.2.1
 have zf := hBX.bk.fz
 have hltb := hBX.bk.lt
 rw [hX] at z0 z16 zf hltb
 have hBT := hBX.bk.set 16 (.int .i64 ((σ.time : Int) + (mm : Int))) (bookCells_time _ _ _ _ _ (σ.time + mm) _ (by omega)) (fun _ _ => rfl)
 have hOT : Off (fun k => k = b \/ ∃ i, i < 5 /\ (vs i).ownBlock = some k) X (X.setCell ⟨b, 16, none⟩ (.int .i64 ((σ.time : Int) + (mm : Int)))) := (Off.refl _ _).set b _ _ (Or.inl (Or.inl rfl))
 have hST := hBX.sto.book hBX.bk hBX.bB hBX.vB hOT
 have hOB : Off B X (X.setCell ⟨b, 16, none⟩ (.int .i64 ((σ.time : Int) + (mm : Int)))) := (Off.refl _ _).set b _ _ (Or.inl hBX.bB)
 have HTI : Hid (Calls Tryz.prog 26 #[.pointer (some ⟨s, 0, none⟩), .int .i64 mm] (X.setCell ⟨b, 16, none⟩ (.int .i64 ((σ.time : Int) + (mm : Int)))) (fun e w' => e = .returned (.int .i64 0) /\ (∃ M' vs' d', Bk B w' b s n ⟨σ.time + mm, σ.ents, σ.log⟩ M' vs' d' (c + 1)) /\ Off B w w')) := by
  refine (tick_yes mm _ hST.st (by omega)).mono ?_
  rintro e w' ⟨rfl, hS', hO'⟩
  have hsB : B s := hBX.sto.own s (Or.inl rfl)
  have hO2 : Off B _ w' := hO'.mono (fun k hk => by rw [hk]; exact hsB)
  have hb' := hBT.off hO' (fun e => (own_book hST.st (Or.inl e)).1 hBT.blk) (fun i hi g hg e => by
   obtain ⟨cur, hc⟩ := own_block (hBT.row i hi) hg
   exact (own_book hST.st (Or.inl e)).2 hc)
  exact ⟨rfl, ⟨M, vs, d, ⟨⟨hST.env.off hO2, hS', hST.own⟩, hb', hBX.bB, hBX.vB, hBX.ks, by show σ.time + mm <= _; omega, Nat.le_trans hBX.lg (Nat.mul_le_mul_right _ (Nat.le_succ _)), fun i => Nat.le_succ_of_le (hBX.ls i), Nat.le_succ_of_le hBX.dn⟩⟩, ((Off.of_below hbX).trans hOB).trans hO2⟩
 clear hBX hBT hOT hST hOB
 rw [hX] at HTI
 go_wp2_with (first
  | (go_at_call 10; refine (pick_any _ _ _ (by omega) (by omega) (by omega) (by omega)).mono ?_; rintro e w' ⟨rfl, rfl⟩; first | rw [hkk] | rw [hmm])
  | (go_at_call 26; refine Calls.mono HTI.out ?_; rintro e w6 ⟨rfl, hB6, hO6⟩))
 go_ret
 exact ⟨rfl, hB6, hO6⟩
end Go.Proofs.YtmehkneofinmiabGreatDoor

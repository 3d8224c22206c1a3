/-
 Texts of this proof, part 39.
-/
import Derived.Test.YtmehkneofinmiabGreatDoorP38
set_option maxRecDepth 100000
set_option maxHeartbeats 8000000
namespace Go.Proofs.YtmehkneofinmiabGreatDoor
open Go.RowKit
def tvN : ByteArray := ⟨#[34, 110, 111, 110, 101, 34]⟩
theorem tvN_is : (⟨#[34, 110, 111, 110, 101, 34]⟩ : ByteArray) = tvN := rfl
theorem step_match {B : Nat -> Prop} {b s n : Nat} {σ : St} {M : Mem} {vs : Nat -> Value} {d c : Nat} (k a x y : Int) (hk : pk k 8 = 4) (w : World) (h : Bk B w b s n σ M vs d c) (hc : c < 1000) (ik : I64 k) (ia : I64 a) (ix : I64 x) (iy : I64 y) :
 Calls Tryz.prog 24 #[.pointer (some ⟨b, 0, none⟩), .agg #[.int .i64 k, .int .i64 a, .int .i64 x, .int .i64 y]] w (StepPost B b s n c ((ansF σ (reqB putM (47::nmK (pk a 5).toNat) (lineM (pickT (enK σ (pk a 5).toNat) y) ++ crlf) (txtK x))).2) w) := by
 have p5 := pk_bd a 5 (by omega)
 have p8 := pk_bd k 8 (by omega)
 obtain ⟨i, hi⟩ : ∃ n : Nat, pk a 5 = n := ⟨(pk a 5).toNat, by omega⟩
 have hi5 : i < 5 := by omega
 try rw [show (pk a 5).toNat = i by omega]
 have hlt := h.bk.lt
 obtain ⟨q0, q1, q2, q3, q4, hq⟩ := bvOut_agg (curOf (enK σ i))
 obtain ⟨tB, htB⟩ : ∃ x, (curOf (enK σ i)).isSome = x := ⟨_, rfl⟩
 have HQ : Hid (∀ z, Below w.heap.size w z -> Calls Tryz.prog 18 #[.pointer (some ⟨b, 1 + i * 3, none⟩)] z fun e w' => e = .returned (.tuple #[.agg #[.int .i64 q0, .int .i64 q1, .bool q2, .string q3, .string q4], .bool tB]) /\ Below z.heap.size z w') := by
  intro z hz
  have hz' := h.below hz
  have := bcur_any b (1 + i * 3) (vs i) (enK σ i) z (hz'.bk.ck i hi5).2.1 (hz'.bk.row i hi5) (by have := (h.facts i).1; omega)
  rw [hq, htB] at this
  exact this
 obtain ⟨⟨ik0, ik1⟩, ⟨ia0, ia1⟩, ⟨ix0, ix1⟩, ⟨iy0, iy1⟩⟩ : I64 k /\ I64 a /\ I64 x /\ I64 y := ⟨ik, ia, ix, iy⟩
 have HTX : Hid (∀ y, Below w.heap.size w y -> Calls Tryz.prog 42 #[.int .i64 x] y fun e w' => e = .returned (.string ⟨(txtK x).toArray⟩) /\ Below y.heap.size y w') :=
  fun y hy => textK_any x y (h.sto.env.tb.below hy).b ix0 ix1
 have HB : Hid _ := h
 have hkk := hk
 have hln := (h.facts i).1
 obtain ⟨tg, htg⟩ : ∃ x, pickT (enK σ i) y = x := ⟨_, rfl⟩
 have htgo := pickT_ok (enK σ i) y
 rw [htg] at htgo ⊢
 obtain ⟨lets, hlets⟩ : ∃ x : Bool, x = (tB && decide (tagOf (curOf (enK σ i)) = tg)) := ⟨_, rfl⟩
 have HPU : Hid (∀ z, Below w.heap.size w z -> Calls Tryz.prog 41 #[.pointer (some ⟨b, 0, none⟩), .int .i64 i, .string ⟨(lineM tg ++ crlf).toArray⟩, .string ⟨(txtK x).toArray⟩, .bool lets] z (StepPost B b s n c (ansF σ (reqB putM (47::nmK i) (lineM tg ++ crlf) (txtK x))).2 z)) :=
  fun z hz => puts_any i hi5 (lineM tg ++ crlf) (txtK x) z (h.below hz) hc (by simp [lineM, crlf]; omega) (txtK_len x) _ (read_match (nmK_ok i) (txtK_len x) htgo.1 htgo.2.1 (by omega)) lets (by rw [cond_match, htB, hlets]; cases tB <;> simp)
 have HLE : Hid _ := hlets
 obtain ⟨vl, hvl⟩ : ∃ x, (enK σ i).vers = x := ⟨_, rfl⟩
 rw [hvl] at hln
 obtain ⟨xa, cp, hx⟩ : ∃ xa cp, vs i = .slice xa vl.length cp := by
  have hrow := h.bk.row i hi5
  rw [hvl] at hrow
  rcases hrow.2 with ⟨e, h0⟩ | ⟨g, cap, cur, e, _⟩
  ·exact ⟨_, _, by rw [e, h0]⟩
  ·exact ⟨_, _, e⟩
 have HCM : Hid (∀ tv : ByteArray, tv = ⟨(34::tg ++ [34]).toArray⟩ -> (tB = false /\ lets = false) \/ (tB = true /\ q4 = tv /\ lets = true) \/ (tB = true /\ ¬ q4 = tv /\ lets = false)) := by
  rintro tv rfl
  cases hcv : curOf (enK σ i) with
  | none =>
    left
    rw [hcv] at htB
    rw [hlets, <- htB]
    exact ⟨rfl, rfl⟩
  | some v =>
    right
    rw [hcv] at htB hq hlets
    have hvm : v.mark = false := by
     cases hg : (enK σ i).vers.getLast? with
     | none => simp [curOf, hg] at hcv
     | some u =>
       cases hm : u.mark with
       | true => simp [curOf, hg, hm] at hcv
       | false =>
         simp [curOf, hg, hm] at hcv
         rw [<- hcv]
         exact hm
    have hq4 : q4 = ⟨(34::hexN 16 (fnv v.body) ++ [34]).toArray⟩ := by
     have : bvOut (some v) = bvAgg v := rfl
     rw [this] at hq
     unfold bvAgg tagK at hq
     rw [hvm] at hq
     simp only [Value.agg.injEq, Array.mk.injEq, List.cons.injEq, Value.string.injEq] at hq
     exact hq.2.2.2.2.1.symm
    have ht : tB = true := htB.symm
    rw [ht] at hlets
    by_cases e : hexN 16 (fnv v.body) = tg
    ·left
     exact ⟨ht, by rw [hq4, e], by rw [hlets]; simp [tagOf, e]⟩
    ·right
     refine ⟨ht, fun h1 => e ?_, by rw [hlets]; simp [tagOf, e]⟩
     rw [hq4] at h1
     have h2 := congrArg (fun z : ByteArray => z.data.toList) h1
     simp only [List.cons_append, List.cons.injEq, true_and] at h2
     exact List.append_cancel_right h2
 have HSM : Hid (∀ tv : ByteArray, tv = ⟨(34::tg ++ [34]).toArray⟩ -> (tv.size <= 100 /\ ((⟨#[73, 102, 45, 77, 97, 116, 99, 104, 58, 32]⟩ : ByteArray) ++ tv) ++ ⟨#[13, 10]⟩ = ⟨(lineM tg ++ crlf).toArray⟩)) := by
  rintro tv rfl
  refine ⟨by rw [Lib.size_eq]; simp; omega, ?_⟩
  exact (congrArg (· ++ (⟨#[13, 10]⟩ : ByteArray)) (mk_app [73, 102, 45, 77, 97, 116, 99, 104, 58, 32] (34::tg ++ [34]))).trans (mk_app ([73, 102, 45, 77, 97, 116, 99, 104, 58, 32] ++ (34::tg ++ [34])) [13, 10])
 clear hlets
 clear h
 go_enter Tryz.func24, Tryz.ntmps24
 go_wp2_with (go_at_call 10; refine (pick_any _ _ _ (by omega) (by omega) (by omega) (by omega)).mono ?_; rintro e w' ⟨rfl, rfl⟩; try rw [hi])
 have hb0 : Below w.heap.size w (w.alloc (.cells #[.int .i64 k, .int .i64 a, .int .i64 x, .int .i64 y] 58)) := (Below.refl _ _).alloc (Nat.le_refl _) _
 have hh0 := heap_alloc_new w (.cells #[.int .i64 k, .int .i64 a, .int .i64 x, .int .i64 y] 58)
 have hs0 : w.heap.size < (w.alloc (.cells #[.int .i64 k, .int .i64 a, .int .i64 x, .int .i64 y] 58)).heap.size := by simp
 refine Calls.mono (HQ.out _ hb0) ?_
 rintro e w1 ⟨rfl, hb1⟩
 have hbw1 : Below w.heap.size w w1 := hb0.trans (hb1.mono (Nat.le_of_lt hs0))
 have hh1 := (hb1.block _ hs0).trans hh0
 have hs1 : w.heap.size < w1.heap.size := Nat.lt_of_lt_of_le hs0 hb1.size
 clear hb0 hb1 hh0 hs0
 have hbX : Below w.heap.size w (w1.alloc (.cells #[.int .i64 q0, .int .i64 q1, .bool q2, .string q3, .string q4] 42)) := hbw1.alloc (Nat.le_of_lt hs1) _
 have hhX := (heap_alloc_old w1 (.cells #[.int .i64 q0, .int .i64 q1, .bool q2, .string q3, .string q4] 42) hs1).trans hh1
 have o0 : w1.cell? ⟨w.heap.size, 0, none⟩ = some (.int .i64 k) := by simp [World.cell?, hh1]
 have o1 : w1.cell? ⟨w.heap.size, 1, none⟩ = some (.int .i64 a) := by simp [World.cell?, hh1]
 have o2 : w1.cell? ⟨w.heap.size, 2, none⟩ = some (.int .i64 x) := by simp [World.cell?, hh1]
 have o3 : w1.cell? ⟨w.heap.size, 3, none⟩ = some (.int .i64 y) := by simp [World.cell?, hh1]
 clear hhX hh1
 obtain ⟨X, hX⟩ : ∃ x, x = w1.alloc (.cells #[.int .i64 q0, .int .i64 q1, .bool q2, .string q3, .string q4] 42) := ⟨_, rfl⟩
 rw [<- hX] at hbX
 go_wp2_with (go_at_call 10; refine (pick_any _ _ _ (by omega) (by omega) (by omega) (by omega)).mono ?_; rintro e w' ⟨rfl, rfl⟩; try rw [hkk])
 rw [<- hX]
 have hBX := HB.out.below hbX
 have x2 : X.cell? ⟨b, 1 + i * 3 + 1, none⟩ = some (.slice xa vl.length cp) := by rw [(hBX.bk.ck i hi5).2.1, hx]
 have hrowX := hBX.bk.row i hi5
 rw [hvl] at hrowX
 have ltb := hBX.bk.lt
 have hb1X : Below w1.heap.size w1 X := by rw [hX]; exact (Below.refl _ _).alloc (Nat.le_refl _) _
 have ox : X.cell? ⟨w.heap.size, 2, none⟩ = some (.int .i64 x) := (hb1X.cell (p := ⟨w.heap.size, 2, none⟩) hs1).trans o2
 have oy : X.cell? ⟨w.heap.size, 3, none⟩ = some (.int .i64 y) := (hb1X.cell (p := ⟨w.heap.size, 3, none⟩) hs1).trans o3
 have oq : X.cell? ⟨w1.heap.size, 4, none⟩ = some (.string q4) := by
  have := heap_alloc_new w1 (.cells #[.int .i64 q0, .int .i64 q1, .bool q2, .string q3, .string q4] 42)
  rw [hX]
  simp only [World.cell?, this]
  rfl
 have hsX : w1.heap.size < X.heap.size := by rw [hX]; simp
 have hwX : w.heap.size < X.heap.size := Nat.lt_trans hs1 hsX
 have HBX : Hid _ := hBX
 have hbXd : Below w.heap.size w X.drew := hbX.trans ((Below.refl _ _).drew)
 clear hX hBX o0 o1 o2 o3 hb1X hs1 hbw1
 by_cases h0 : vl = []
 ·have htn : tg = noneT := by rw [<- htg, pickT, hvl, h0]; rfl
  have x2' : X.cell? ⟨b, 1 + i * 3 + 1, none⟩ = some (.slice xa 0 cp) := by rw [x2, h0]; rfl
  clear x2
  have x2 := x2'
  refine wp_region_held_drew (S := (fun y => y.cell? ⟨b, 1 + i * 3 + 1, none⟩ = some (.slice xa 0 cp))) (by kernel_rfl) x2 (fun hHeld => ?_)
  refine tkH 0 rfl (by kernel_rfl) (fun _ _ _ h => h) (Or.inl ⟨by rfl, fun y hSw => by go_simp; try with_reducible rfl⟩) hHeld ?_
  try simp only [Act.put]
  refine tkH 1 rfl (by kernel_rfl) (fun _ _ _ h => h) (Or.inl ⟨by rfl, fun y hSw => by go_simp; try with_reducible rfl⟩) hHeld ?_
  try simp only [Act.put]
  refine tkH 2 rfl (by kernel_rfl) (fun _ _ _ h => h) (Or.inl ⟨by rfl, fun y hSw => by go_simp; try with_reducible rfl⟩) hHeld ?_
  try simp only [Act.put]
  refine tkH 3 rfl (by kernel_rfl) (fun _ _ _ h => h) (Or.inl ⟨by rfl, fun y hSw => by go_simp; try with_reducible rfl⟩) hHeld ?_
  try simp only [Act.put]
  refine tkH 4 rfl (by kernel_rfl) (fun _ _ _ h => h) (Or.inl ⟨by rfl, fun y hSw => by go_simp; try with_reducible rfl⟩) hHeld ?_
  try simp only [Act.put]
  refine tkH 5 rfl (by kernel_rfl) (fun _ _ _ h => h) (Or.inl ⟨by rfl, fun y hSw => by go_simp; try with_reducible rfl⟩) hHeld ?_
  try simp only [Act.put]
  refine tkH 6 rfl (by kernel_rfl) (fun _ _ _ h => h) (Or.inl ⟨by rfl, fun y hSw => by go_simp; try with_reducible rfl⟩) hHeld ?_
  try simp only [Act.put]
  refine tkH (v := undef) 7 rfl (by kernel_rfl) (fun _ _ _ h => h) (Or.inr ⟨by kernel_rfl, rfl⟩) hHeld ?_
  try simp only [Act.put]
  refine tkH (v := undef) 8 rfl (by kernel_rfl) (fun _ _ _ h => h) (Or.inr ⟨by kernel_rfl, rfl⟩) hHeld ?_
  try simp only [Act.put]
  refine tkH (v := undef) 9 rfl (by kernel_rfl) (fun _ _ _ h => h) (Or.inr ⟨by kernel_rfl, rfl⟩) hHeld ?_
  try simp only [Act.put]
  refine tkH (v := undef) 10 rfl (by kernel_rfl) (fun _ _ _ h => h) (Or.inr ⟨by kernel_rfl, rfl⟩) hHeld ?_
  try simp only [Act.put]
  refine tkH (v := undef) 11 rfl (by kernel_rfl) (fun _ _ _ h => h) (Or.inr ⟨by kernel_rfl, rfl⟩) hHeld ?_
  try simp only [Act.put]
  refine tkH (v := undef) 12 rfl (by kernel_rfl) (fun _ _ _ h => h) (Or.inr ⟨by kernel_rfl, rfl⟩) hHeld ?_
  try simp only [Act.put]
  refine tkH (v := undef) 13 rfl (by kernel_rfl) (fun _ _ _ h => h) (Or.inr ⟨by kernel_rfl, rfl⟩) hHeld ?_
  try simp only [Act.put]
  refine tkH (v := undef) 14 rfl (by kernel_rfl) (fun _ _ _ h => h) (Or.inr ⟨by kernel_rfl, rfl⟩) hHeld ?_
  try simp only [Act.put]
  refine tkH (v := undef) 15 rfl (by kernel_rfl) (fun _ _ _ h => h) (Or.inr ⟨by kernel_rfl, rfl⟩) hHeld ?_
  try simp only [Act.put]
  refine tkH (v := undef) 16 rfl (by kernel_rfl) (fun _ _ _ h => h) (Or.inr ⟨by kernel_rfl, rfl⟩) hHeld ?_
  try simp only [Act.put]
  refine tkH (v := undef) 17 rfl (by kernel_rfl) (fun _ _ _ h => h) (Or.inr ⟨by kernel_rfl, rfl⟩) hHeld ?_
  try simp only [Act.put]
  refine tkH (v := undef) 18 rfl (by kernel_rfl) (fun _ _ _ h => h) (Or.inr ⟨by kernel_rfl, rfl⟩) hHeld ?_
  try simp only [Act.put]
  refine tkH (v := undef) 19 rfl (by kernel_rfl) (fun _ _ _ h => h) (Or.inr ⟨by kernel_rfl, rfl⟩) hHeld ?_
  try simp only [Act.put]
  refine tkH (v := undef) 20 rfl (by kernel_rfl) (fun _ _ _ h => h) (Or.inr ⟨by kernel_rfl, rfl⟩) hHeld ?_
  try simp only [Act.put]
  refine tkH (v := undef) 21 rfl (by kernel_rfl) (fun _ _ _ h => h) (Or.inr ⟨by kernel_rfl, rfl⟩) hHeld ?_
  try simp only [Act.put]
  refine tkH (v := undef) 22 rfl (by kernel_rfl) (fun _ _ _ h => h) (Or.inr ⟨by kernel_rfl, rfl⟩) hHeld ?_
  try simp only [Act.put]
  refine tkH 23 rfl (by kernel_rfl) (fun _ _ _ h => h) (Or.inl ⟨by rfl, fun y hSw => by go_simp; try with_reducible rfl⟩) hHeld ?_
  try simp only [Act.put]
  refine wpAnyH_done (by kernel_rfl) ?_ _
  simp only [tvN_is]
  go_simp
  obtain ⟨tv, htv⟩ : ∃ t : ByteArray, t = tvN := ⟨_, rfl⟩
  rw [<- htv]
  replace htv : tv = ⟨(34::tg ++ [34]).toArray⟩ := by rw [htv, htn]; rfl
  have HTV : Hid _ := htv
  clear htn htg h0 htv
  obtain ⟨Z, hZ⟩ : ∃ z, z = X.drew := ⟨_, rfl⟩
  rw [<- hZ] at hbXd ⊢
  have hZ1 : Below X.heap.size X Z := by rw [hZ]; exact (Below.refl _ _).drew
  have oxZ : Z.cell? ⟨w.heap.size, 2, none⟩ = some (.int .i64 x) := (hZ1.cell (p := ⟨w.heap.size, 2, none⟩) hwX).trans ox
  have oqZ : Z.cell? ⟨w1.heap.size, 4, none⟩ = some (.string q4) := (hZ1.cell (p := ⟨w1.heap.size, 4, none⟩) hsX).trans oq
  have hsZ : w1.heap.size < Z.heap.size := Nat.lt_of_lt_of_le hsX hZ1.size
  clear hZ hZ1 ox oy oq hsX x2
  obtain ⟨hvs, hsum⟩ := HSM.out tv HTV.out
  have hcs := HCM.out tv HTV.out
  rcases hcs with ⟨rfl, rfl⟩ | ⟨rfl, hqt, rfl⟩ | ⟨rfl, hqt0, rfl⟩
  rotate_right
  have hqt : (q4.toList == tv.toList) = false := by
   rw [beq_eq_false_iff_ne, ByteArray.toList_eq, ByteArray.toList_eq]
   exact fun e => hqt0 (ByteArray.ext (Array.toList_inj.1 e))
  all_goals
   go_wp2_with (first
    | (go_at_call 42; refine Calls.mono (HTX.out _ hbXd) ?_; rintro e w5 ⟨rfl, hb5⟩; have hbw5 : Below w.heap.size w w5 := hbXd.trans (hb5.mono hbXd.size); have oq5 : w5.cell? ⟨w1.heap.size, 4, none⟩ = some (.string q4) := (hb5.cell (p := ⟨w1.heap.size, 4, none⟩) hsZ).trans oqZ)
    | (go_at_call 41; refine Calls.mono (HPU.out _ hbw5) ?_; rintro e w6 ⟨rfl, hB6, hO6⟩))
   go_ret
   exact ⟨rfl, hB6, (Off.of_below hbw5).trans hO6⟩
 ·have hp := pk_bd y (vl.length : Int) (by have := List.length_pos_iff.2 h0; omega)
  obtain ⟨j, hj⟩ : ∃ j : Nat, pk y (vl.length : Int) = j := ⟨(pk y (vl.length : Int)).toNat, by omega⟩
  have hjl : j < vl.length := by omega
  obtain ⟨v, hv⟩ : ∃ v, vl[j]? = some v := ⟨_, List.getElem?_eq_getElem hjl⟩
  obtain ⟨g, cap, hvs, hn, hmx, hg, hf, d0, d1, d2, d3, d4⟩ := brow_cells hrowX j v hv
  have hxx := hx.symm.trans hvs
  simp only [Value.slice.injEq] at hxx
  obtain ⟨rfl, -, rfl⟩ := hxx
  have hpos : (0 : Int) < (vl.length : Int) := by omega
  have HPK : Hid (∀ z, Calls Tryz.prog 10 #[.int .i64 y, .int .i64 (vl.length : Int)] z fun e w' => e = .returned (.int .i64 j) /\ w' = z) := by
   intro z
   have := pick_any y (vl.length : Int) z (by omega) (by omega) (by omega) (by omega)
   rw [hj] at this
   exact this
  have htn : tg = if v.mark then noneT else hexN 16 (fnv v.body) := by
   rw [<- htg, pickT, hvl, show (pk y (vl.length : Int)).toNat = j by omega, hv]
  clear hx hvs hrowX hv hj hp h0 d0 d1 d3
  obtain ⟨N, hN⟩ : ∃ N, vl.length = N := ⟨_, rfl⟩
  rw [hN] at x2 hjl hpos HPK hn hln
  have hposN : 0 < N := by omega
  have hposM : ¬ N = 0 := by omega
  clear hN
  cases hm : v.mark with
  | true =>
    rw [hm] at htn d2
    clear d4
    go_region_held3 (fun z => z.cell? ⟨b, 1 + i * 3 + 1, none⟩ = some (.slice (some ⟨g, 0, none⟩) N cp) /\ z.cell? ⟨w.heap.size, 3, none⟩ = some (.int .i64 y) /\ z.cell? ⟨g, j * 5 + 2, none⟩ = some (.bool true)) (first | assumption | go_keep) (first
     | (go_at_call 10; refine Calls.mono (HPK.out _) ?_; rintro e w' ⟨rfl, rfl⟩))
    simp only [tvN_is]
    go_simp
    obtain ⟨tv, htv⟩ : ∃ t : ByteArray, t = tvN := ⟨_, rfl⟩
    rw [<- htv]
    replace htv : tv = ⟨(34::tg ++ [34]).toArray⟩ := by rw [htv, htn]; rfl
    have HTV : Hid _ := htv
    clear htn htg htv
    obtain ⟨Z, hZ⟩ : ∃ z, z = X.drew := ⟨_, rfl⟩
    rw [<- hZ] at hbXd ⊢
    have hZ1 : Below X.heap.size X Z := by rw [hZ]; exact (Below.refl _ _).drew
    have oxZ : Z.cell? ⟨w.heap.size, 2, none⟩ = some (.int .i64 x) := (hZ1.cell (p := ⟨w.heap.size, 2, none⟩) hwX).trans ox
    have oqZ : Z.cell? ⟨w1.heap.size, 4, none⟩ = some (.string q4) := (hZ1.cell (p := ⟨w1.heap.size, 4, none⟩) hsX).trans oq
    have hsZ : w1.heap.size < Z.heap.size := Nat.lt_of_lt_of_le hsX hZ1.size
    clear hZ hZ1 ox oy oq hsX x2 d2
    obtain ⟨hvs, hsum⟩ := HSM.out tv HTV.out
    have hcs := HCM.out tv HTV.out
    rcases hcs with ⟨rfl, rfl⟩ | ⟨rfl, hqt, rfl⟩ | ⟨rfl, hqt0, rfl⟩
    rotate_right
    have hqt : (q4.toList == tv.toList) = false := by
     rw [beq_eq_false_iff_ne, ByteArray.toList_eq, ByteArray.toList_eq]
     exact fun e => hqt0 (ByteArray.ext (Array.toList_inj.1 e))
    all_goals
     go_wp2_with (first
      | (go_at_call 42; refine Calls.mono (HTX.out _ hbXd) ?_; rintro e w5 ⟨rfl, hb5⟩; have hbw5 : Below w.heap.size w w5 := hbXd.trans (hb5.mono hbXd.size); have oq5 : w5.cell? ⟨w1.heap.size, 4, none⟩ = some (.string q4) := (hb5.cell (p := ⟨w1.heap.size, 4, none⟩) hsZ).trans oqZ)
      | (go_at_call 41; refine Calls.mono (HPU.out _ hbw5) ?_; rintro e w6 ⟨rfl, hB6, hO6⟩))
     go_ret
     exact ⟨rfl, hB6, (Off.of_below hbw5).trans hO6⟩
  | false =>
    rw [hm] at htn d2
    obtain ⟨tv, htv⟩ : ∃ t : ByteArray, t = ⟨(tagK v).toArray⟩ := ⟨_, rfl⟩
    rw [<- htv] at d4
    replace htv : tv = ⟨(34::tg ++ [34]).toArray⟩ := by rw [htv, tagK, hm, htn]; rfl
    have HTV : Hid _ := htv
    clear htn htg htv
    go_region_held3 (fun z => z.cell? ⟨b, 1 + i * 3 + 1, none⟩ = some (.slice (some ⟨g, 0, none⟩) N cp) /\ z.cell? ⟨w.heap.size, 3, none⟩ = some (.int .i64 y) /\ z.cell? ⟨g, j * 5 + 2, none⟩ = some (.bool false)) (first | assumption | go_keep) (first
     | (go_at_call 10; refine Calls.mono (HPK.out _) ?_; rintro e w' ⟨rfl, rfl⟩))
    go_wp2_with fail
    obtain ⟨X2, hX2⟩ : ∃ z, z = X.drew := ⟨_, rfl⟩
    rw [<- hX2] at hbXd ⊢
    have hb12 : Below X.heap.size X X2 := by rw [hX2]; exact (Below.refl _ _).drew
    have p2 := (hb12.cell (p := ⟨b, 1 + i * 3 + 1, none⟩) ltb).trans x2
    have py := (hb12.cell (p := ⟨w.heap.size, 3, none⟩) hwX).trans oy
    have p4 := (hb12.cell (p := ⟨g, j * 5 + 4, none⟩) hg).trans d4
    have ox2 := (hb12.cell (p := ⟨w.heap.size, 2, none⟩) hwX).trans ox
    have oq2 := (hb12.cell (p := ⟨w1.heap.size, 4, none⟩) hsX).trans oq
    have hsX2 : w1.heap.size < X2.heap.size := Nat.lt_of_lt_of_le hsX hb12.size
    have hwX2 : w.heap.size < X2.heap.size := Nat.lt_of_lt_of_le hwX hb12.size
    have ltb2 : b < X2.heap.size := Nat.lt_of_lt_of_le ltb hb12.size
    have hg2 : g < X2.heap.size := Nat.lt_of_lt_of_le hg hb12.size
    clear hX2 hb12 x2 oy d4 ox oq hsX hwX ltb hg d2 hf
    go_region_held3 (fun z => z.cell? ⟨b, 1 + i * 3 + 1, none⟩ = some (.slice (some ⟨g, 0, none⟩) N cp) /\ z.cell? ⟨w.heap.size, 3, none⟩ = some (.int .i64 y) /\ z.cell? ⟨g, j * 5 + 4, none⟩ = some (.string tv)) (first | assumption | go_keep) (first
     | (go_at_call 10; refine Calls.mono (HPK.out _) ?_; rintro e w' ⟨rfl, rfl⟩))
    go_simp
    obtain ⟨Z, hZ⟩ : ∃ z, z = X2.drew := ⟨_, rfl⟩
    have hbZ : Below w.heap.size w Z := by rw [hZ]; exact hbXd.trans (Below.refl _ _).drew
    rw [<- hZ]
    have hZ1 : Below X2.heap.size X2 Z := by rw [hZ]; exact (Below.refl _ _).drew
    have oxZ : Z.cell? ⟨w.heap.size, 2, none⟩ = some (.int .i64 x) := (hZ1.cell (p := ⟨w.heap.size, 2, none⟩) hwX2).trans ox2
    have oqZ : Z.cell? ⟨w1.heap.size, 4, none⟩ = some (.string q4) := (hZ1.cell (p := ⟨w1.heap.size, 4, none⟩) hsX2).trans oq2
    have hsZ : w1.heap.size < Z.heap.size := Nat.lt_of_lt_of_le hsX2 hZ1.size
    clear hZ hZ1 ox2 py oq2 hsX2 p2 p4
    obtain ⟨hvs, hsum⟩ := HSM.out tv HTV.out
    have hcs := HCM.out tv HTV.out
    rcases hcs with ⟨rfl, rfl⟩ | ⟨rfl, hqt, rfl⟩ | ⟨rfl, hqt0, rfl⟩
    rotate_right
    have hqt : (q4.toList == tv.toList) = false := by
     rw [beq_eq_false_iff_ne, ByteArray.toList_eq, ByteArray.toList_eq]
     exact fun e => hqt0 (ByteArray.ext (Array.toList_inj.1 e))
    all_goals
     go_wp2_with (first
      | (go_at_call 42; refine Calls.mono (HTX.out _ hbZ) ?_; rintro e w5 ⟨rfl, hb5⟩; have hbw5 : Below w.heap.size w w5 := hbZ.trans (hb5.mono hbZ.size); have oq5 : w5.cell? ⟨w1.heap.size, 4, none⟩ = some (.string q4) := (hb5.cell (p := ⟨w1.heap.size, 4, none⟩) hsZ).trans oqZ)
      | (go_at_call 41; refine Calls.mono (HPU.out _ hbw5) ?_; rintro e w6 ⟨rfl, hB6, hO6⟩))
     go_ret
     exact ⟨rfl, hB6, (Off.of_below hbw5).trans hO6⟩
theorem step_any {B : Nat -> Prop} {b s n : Nat} {σ : St} {M : Mem} {vs : Nat -> Value} {d c : Nat} (k a x y : Int) (w : World) (h : Bk B w b s n σ M vs d c) (hc : c < 1000) (ik : I64 k) (ia : I64 a) (ix : I64 x) (iy : I64 y) :
 Calls Tryz.prog 24 #[.pointer (some ⟨b, 0, none⟩), .agg #[.int .i64 k, .int .i64 a, .int .i64 x, .int .i64 y]] w (StepPost B b s n c (stepF σ k a x y) w) := by
 have p8 := pk_bd k 8 (by omega)
 unfold stepF
 by_cases h2 : pk k 8 <= 2
 ·rw [if_pos h2]
  exact step_put k a x y h2 w h hc ik ia ix iy
 rw [if_neg h2]
 by_cases h3 : pk k 8 = 3
 ·rw [if_pos h3]
  exact step_star k a x y h3 w h hc ik ia ix iy
 rw [if_neg h3]
 by_cases h4 : pk k 8 = 4
 ·rw [if_pos h4]
  exact step_match k a x y h4 w h hc ik ia ix iy
 rw [if_neg h4]
 by_cases h5 : pk k 8 = 5
 ·rw [if_pos h5]
  exact step_mark k a x y h5 w h hc ik ia ix iy
 rw [if_neg h5]
 by_cases h6 : pk k 8 = 6
 ·rw [if_pos h6]
  exact step_drop k a x y h6 w h hc ik ia ix iy
 rw [if_neg h6]
 exact step_tick k a x y (by omega) w h hc ik ia ix iy
def reqY : List UInt8 := [80, 85, 84, 32, 47, 107, 13, 10, 13, 10, 97]
def ansY : List UInt8 := [50, 48, 49, 13, 10, 69, 84, 97, 103, 58, 32, 34, 97, 102, 54, 51, 100, 99, 52, 99, 56, 54, 48, 49, 101, 99, 56, 99, 34, 13, 10, 86, 101, 114, 115, 105, 111, 110, 58, 32, 49, 13, 10, 13, 10]
theorem ans_y : (ansF st0 reqY).1 = ⟨201, [⟨eTag, qTag [97]⟩, ⟨versN, Lib.decDigits 1⟩], []⟩ := by
 have hr : readF reqY = .ok (2, ⟨1, [107], 0⟩, k0, [97]) := read_put0 (key := [107]) (what := [97]) (by decide) (by decide)
 rw [put_done hr (by rw [condF0]) (by decide) (Or.inr (by decide))]
 rfl
theorem text_y : textF 201 [⟨eTag, qTag [97]⟩, ⟨versN, Lib.decDigits 1⟩] [] = ansY := by kernel_rfl
theorem StoreAt.own_lt {w : World} {s n : Nat} {rd : Int} {lk : Nat -> Int} {σ : St} {M : Mem} (h : StoreAt w s n rd lk σ M) {k : Nat} (hk : M.own s n k) : k < w.heap.size := by
 have lt : ∀ {k : Nat} {o : Obj}, w.heap[k]? = some o -> k < w.heap.size := fun h => (Array.getElem?_eq_some_iff.1 h).1
 rcases hk with rfl | rfl | ⟨i, hi, hb⟩ | ⟨i, hi, hb⟩ | ⟨i, p, hi, hp, hb⟩ | hb
 ·exact lt h.blk
 ·obtain ⟨cs, hc, _⟩ := h.row
  exact lt hc
 ·obtain ⟨c, hc⟩ := own_block (h.kt i hi).k.row hb
  exact lt hc
 ·exact lt (h.ent i hi k hb).blk
 ·obtain ⟨c, hc⟩ := own_block (h.ent i hi p hp).row hb
  exact lt hc
 ·obtain ⟨c, hc⟩ := own_block h.jrn hb
  exact lt hc
theorem bookCells_key (s : Nat) (en : Nat -> Ent) (vs : Nat -> Value) (t d : Nat) (K : List UInt8) : ∀ i, i < 5 -> (bookCells s en vs t d).setIfInBounds (1 + i * 3) (.string ⟨K.toArray⟩) = bookCells s (fun j => if j = i then ⟨K, (en j).last, (en j).vers⟩ else en j) vs t d := by
 refine five ?_ ?_ ?_ ?_ ?_ <;> simp [bookCells]
def enO (k : Nat) (j : Nat) : Ent := ⟨if j < k then nmK j else [], 0, []⟩
theorem enO_all (j : Nat) (hj : j < 5) : enO 5 j = enK st0 j := by
 simp [enO, enK, st0, findE, hj]
theorem opened_any (x : Int) (w : World) (hM : MaxIs w) (hT : Tbl w) (ix0 : -9223372036854775808 <= x) (ix1 : x <= 9223372036854775807) :
 Calls Tryz.prog 9 #[.int .i64 x] w fun e w' => ∃ b s n M vs, e = .returned (.pointer (some ⟨b, 0, none⟩)) /\ n = 1 + (pk x 8).toNat /\ Bk (fun k => w.heap.size <= k) w' b s n st0 M vs 0 0 /\ Below w.heap.size w w' := by
 have p8 := pk_bd x 8 (by omega)
 obtain ⟨m, hm⟩ : ∃ n : Nat, pk x 8 = n := ⟨(pk x 8).toNat, by omega⟩
 have hm8 : m < 8 := by omega
 have hme : (1 : Int) + (m : Int) = ((1 + m : Nat) : Int) := by omega
 have HE : Hid _ := Env.made hM hT
 have HY : Hid _ := ans_y
 have HTY : Hid _ := text_y
 go_enter Tryz.func9, Tryz.ntmps9
 have hw1 : IntKind.i64.wrap (1 + (m : Int)) = ((1 + m : Nat) : Int) := by rw [IntKind.wrap_i64]; omega
 obtain ⟨N, hN⟩ : ∃ N, 1 + m = N := ⟨_, rfl⟩
 rw [hN] at hw1
 have HN : Hid (Calls Tryz.prog 27 #[.int .i64 N] w fun e w' => ∃ s M, e = .returned (.tuple #[.pointer (some ⟨s, 0, none⟩), .int .i64 0]) /\ StoreAt w' s N 0 (fun _ => 0) st0 M /\ Below w.heap.size w w' /\ ∀ k, M.own s N k -> w.heap.size <= k) := new_yes N w (by omega) (by omega)
 go_wp2_with (first
  | (go_at_call 10; refine (pick_any _ _ _ (by omega) (by omega) (by omega) (by omega)).mono ?_; rintro e w' ⟨rfl, rfl⟩; rw [hm]))
 refine Calls.mono HN.out ?_
 rintro e w1 ⟨s, M, rfl, hS1, hb1, hO1⟩
 go_wp2_with fail
 refine Calls.mono (new_yes 1 w1 (by omega) (by omega)) ?_
 rintro e w2 ⟨y, My, rfl, hS2, hb2, hO2⟩
 have hbw2 : Below w'.heap.size w' w2 := hb1.trans (hb2.mono hb1.size)
 have hSy : Sto (fun k => w'.heap.size <= k) w2 y 1 st0 My := ⟨HE.out.below hbw2, hS2, fun k hk => Nat.le_trans hb1.size (hO2 k hk)⟩
 have HDO : Hid (Calls Tryz.prog 11 #[.pointer (some ⟨y, 0, none⟩), .string ⟨#[80, 85, 84, 32, 47, 107, 13, 10, 13, 10, 97]⟩] w2 fun e w3 => e = .returned (.string ⟨#[50, 48, 49, 13, 10, 69, 84, 97, 103, 58, 32, 34, 97, 102, 54, 51, 100, 99, 52, 99, 56, 54, 48, 49, 101, 99, 56, 99, 34, 13, 10, 86, 101, 114, 115, 105, 111, 110, 58, 32, 49, 13, 10, 13, 10]⟩) /\ Sto (fun k => w'.heap.size <= k) w3 s N st0 M /\ Off (fun k => w'.heap.size <= k) w' w3) := by
  have hd := do_sto reqY hSy (by decide) (by decide) (a := (ansF st0 reqY).1) (σ' := (ansF st0 reqY).2) rfl
  rw [HY.out] at hd
  refine hd.mono ?_
  rintro e w3 ⟨rfl, _, M', hS3, hO3, hP3⟩
  refine ⟨?_, ⟨hS3.env, (hS1.below hb2).off hO3 (fun k hk hk2 => ?_), hO1⟩, (Off.of_below hbw2).trans hP3⟩
  ·show Ending.returned (.string ⟨(textF 201 [⟨eTag, qTag [97]⟩, ⟨versN, Lib.decDigits 1⟩] []).toArray⟩) = _
   rw [HTY.out]
   rfl
  ·have h1 := hS1.own_lt hk
   have h2 := hO2 k hk2
   omega
 have HHH : Hid (w'.heap.size <= w1.heap.size) := hb1.size
 clear hS1 hS2 hb1 hb2 hO1 hO2 hbw2 hSy HN
 go_wp2_with fail
 refine Calls.mono HDO.out ?_
 rintro e w3 ⟨rfl, hS3, hO3⟩
 have HS3 : Hid _ := hS3
 have HO3 : Hid _ := hO3
 clear hS3 hO3 HDO
 go_wp2_with fail
 have hh := heap_alloc_new w3 (.cells (bookCells s (enO 0) (fun _ => .slice none 0 0) 0 0) 31)
 have hbk0 : BookAt (w3.alloc (.cells (bookCells s (enO 0) (fun _ => .slice none 0 0) 0 0) 31)) w3.heap.size s (enO 0) (fun _ => .slice none 0 0) 0 0 :=
  ⟨hh, fun i hi => ⟨rfl, Or.inl ⟨rfl, rfl⟩⟩, fun i j _ _ _ g hg => by cases hg⟩
 have hbX : Below w3.heap.size w3 (w3.alloc (.cells (bookCells s (enO 0) (fun _ => .slice none 0 0) 0 0) 31)) := (Below.refl _ _).alloc (Nat.le_refl _) _
 obtain ⟨X, hX⟩ : ∃ x, x = w3.alloc (.cells (bookCells s (enO 0) (fun _ => .slice none 0 0) 0 0) 31) := ⟨_, rfl⟩
 rw [<- hX] at hbk0 hbX
 change Code.wp _ _ _ _ (w3.alloc (.cells (bookCells s (enO 0) (fun _ => .slice none 0 0) 0 0) 31))
 rw [<- hX]
 clear hX hh
 have HBX : Hid _ := hbX
 have hB3 : w'.heap.size <= w3.heap.size := HS3.out.env.sz _ (Nat.le_refl _)
 obtain ⟨b, hbb⟩ : ∃ b, w3.heap.size = b := ⟨_, rfl⟩
 rw [hbb] at hbk0 ⊢
 go_loopw [8] (fun iv wr => ∃ k : Nat, k <= 5 /\ iv = .int .i64 k /\ BookAt wr b s (enO k) (fun _ => .slice none 0 0) 0 0 /\ Off (fun q => q = b) X wr)
  (fun iv _ => 5 - (intOf iv).toNat)
 case atStart => exact ⟨0, by omega, rfl, hbk0, Off.refl _ _⟩
 case round =>
  obtain ⟨k, hk, rfl, hbk, hOk⟩ := hrel
  have hltb := hbk.lt
  have hfz := hbk.fz
  by_cases hk5 : k < 5
  ·have HBK : Hid _ := hbk
   have HOK : Hid _ := hOk
   clear hbk hOk hbk0
   go_wp2_with fail
   go_region_held3 (fun _ => True) (first | trivial | go_keep) (first
    | (go_at_call 28
       refine (named_any k _ hk5).mono ?_
       rintro e w5 ⟨rfl, hb5⟩
       have f5 := (HBK.out.below (show Below wr.heap.size wr w5 from ⟨hb5.os, hb5.tape, hb5.output, hb5.size, hb5.block⟩)).fz
       have l5 := (HBK.out.below (show Below wr.heap.size wr w5 from ⟨hb5.os, hb5.tape, hb5.output, hb5.size, hb5.block⟩)).lt
       have c5 := ((HBK.out.below (show Below wr.heap.size wr w5 from ⟨hb5.os, hb5.tape, hb5.output, hb5.size, hb5.block⟩)).ck k hk5).1))
   go_wp2
   have hb6 : Below wr.heap.size wr w5 := ⟨hb5.os, hb5.tape, hb5.output, hb5.size, hb5.block⟩
   refine ⟨⟨k + 1, by omega, by go_num, ?_, (HOK.out.trans (Off.of_below hb6)).set b _ _ (Or.inl rfl)⟩, by simp [intOf]; omega⟩
   refine ((HBK.out.below hb6).set _ _ (bookCells_key _ _ _ _ _ (nmK k) k hk5) (fun j _ => by split <;> rfl)).ext (fun j hj => ⟨?_, rfl⟩)
   by_cases e : j = k
   ·subst e
    simp [enO]
   ·simp only [if_neg e, enO]
    have hjk : (j < k) = (j < k + 1) := propext (by omega)
    simp only [hjk]
  ·obtain rfl : k = 5 := by omega
   have hST : Sto (fun k => w'.heap.size <= k) wr s N st0 M := by
    refine ⟨(HS3.out.env.below (hbb ▸ HBX.out)).off (hOk.mono (fun q hq => by omega)), ((HS3.out.st.below (hbb ▸ HBX.out)).off hOk (fun q hq hq2 => ?_)), HS3.out.own⟩
    have := HS3.out.st.own_lt hq
    omega
   have HF : Hid (Bk (fun k => w'.heap.size <= k) wr b s N st0 M (fun _ => .slice none 0 0) 0 0) := by
    refine ⟨hST, hbk.ext (fun j hj => ⟨enO_all j hj, rfl⟩), by omega, fun i _ g hg => (by cases hg), fun E hE => (by cases hE), Nat.zero_le _, Nat.zero_le _, fun i => Nat.le_refl _, Nat.le_refl _⟩
   have HOF : Hid (Below w'.heap.size w' wr) := by
    have h1 := (HO3.out.trans (Off.of_below (S := fun k => w'.heap.size <= k) (hbb ▸ HBX.out))).trans (hOk.mono (fun q hq => by omega))
    exact ⟨h1.os, h1.tape, h1.output, h1.size, fun q hq => h1.block q hq (by omega)⟩
   clear hbk hOk hbk0 hST
   go_wp2
   go_ret
   exact ⟨b, s, N, M, _, rfl, by omega, HF.out, HOF.out⟩
structure Stp where
 k : Int
 a : Int
 b : Int
 c : Int
def Stp.ok (o : Stp) : Prop := I64 o.k /\ I64 o.a /\ I64 o.b /\ I64 o.c
noncomputable def playF (σ : St) : List Stp -> St
 | [] => σ
 | o::l => playF (stepF σ o.k o.a o.b o.c) l
theorem playF_snoc (σ : St) (l : List Stp) (o : Stp) : playF σ (l ++ [o]) = stepF (playF σ l) o.k o.a o.b o.c := by
 induction l generalizing σ with
 | nil => rfl
 | cons a l ih => exact ih _
structure StpAt (w : World) (v : Value) (l : List Stp) : Prop where
 lie : ∃ o cap, v = .slice o l.length cap /\ (0 < l.length -> ∃ g off, o = some ⟨g, off, none⟩ /\ g < w.heap.size /\ ∀ j x, l[j]? = some x -> w.cell? ⟨g, off + j * 4, none⟩ = some (.int .i64 x.k) /\ w.cell? ⟨g, off + j * 4 + 1, none⟩ = some (.int .i64 x.a) /\ w.cell? ⟨g, off + j * 4 + 2, none⟩ = some (.int .i64 x.b) /\ w.cell? ⟨g, off + j * 4 + 3, none⟩ = some (.int .i64 x.c))
 num : ∀ x ∈ l, x.ok
 len : l.length <= 9223372036854775807
theorem played_any (x : Int) (v : Value) (l : List Stp) (w : World) (hM : MaxIs w) (hT : Tbl w) (ix0 : -9223372036854775808 <= x) (ix1 : x <= 9223372036854775807) (hv : StpAt w v l) :
 Calls Tryz.prog 17 #[.int .i64 x, v] w fun e w' => ∃ b s n M vs d c, e = .returned (.pointer (some ⟨b, 0, none⟩)) /\ n = 1 + (pk x 8).toNat /\ c <= 400 /\ Bk (fun k => w.heap.size <= k) w' b s n (playF st0 (l.take 400)) M vs d c /\ Off (fun k => w.heap.size <= k) w w' := by
 obtain ⟨o, cap, rfl, hlie⟩ := hv.lie
 have HV : Hid _ := hv
 have hlen := hv.len
 clear hv
 go_enter Tryz.func17, Tryz.ntmps17
 go_wp2_with fail
 refine Calls.mono (opened_any x w hM hT ix0 ix1) ?_
 rintro e w1 ⟨b, s, n, M, vs, rfl, hn, hB1, hb1⟩
 have HB1 : Hid _ := hB1
 have HW1 : Hid _ := hb1
 clear hB1 hb1
 go_wp2_with fail
 obtain ⟨ln, hln⟩ : ∃ x, l.length = x := ⟨_, rfl⟩
 rw [hln] at hlen hlie ⊢
 go_loopw [6, 7] (fun iv _ wr => ∃ k : Nat, k <= ln /\ k <= 400 /\ iv = .int .i64 k /\ (∃ M vs d, Bk (fun k => w.heap.size <= k) wr b s n (playF st0 (l.take k)) M vs d k) /\ Off (fun q => w.heap.size <= q) w wr)
  (fun iv _ _ => 400 - (intOf iv).toNat)
 case atStart => exact ⟨0, Nat.zero_le _, Nat.zero_le _, rfl, ⟨M, vs, 0, HB1.out⟩, Off.of_below HW1.out⟩
 case round =>
  obtain ⟨k, hk, hk4, rfl, ⟨Mk, vk, dk, hBk⟩, hOk⟩ := hrel
  by_cases hkl : k < ln
  ·by_cases hk400 : k < 400
   ·obtain ⟨y, hy⟩ : ∃ y, l[k]? = some y := ⟨_, List.getElem?_eq_getElem (by omega)⟩
    obtain ⟨g, off, rfl, hg, hcc⟩ := hlie (by omega)
    have hyn := HV.out.num y (List.mem_of_getElem? hy)
    have hc := hcc k y hy
    have hblk := hOk.block g hg (by omega)
    have s0 : wr.cell? ⟨g, off + k * 4, none⟩ = some (.int .i64 y.k) := by rw [<- hc.1]; simp only [World.cell?]; rw [hblk]
    have s1 : wr.cell? ⟨g, off + k * 4 + 1, none⟩ = some (.int .i64 y.a) := by rw [<- hc.2.1]; simp only [World.cell?]; rw [hblk]
    have s2 : wr.cell? ⟨g, off + k * 4 + 2, none⟩ = some (.int .i64 y.b) := by rw [<- hc.2.2.1]; simp only [World.cell?]; rw [hblk]
    have s3 : wr.cell? ⟨g, off + k * 4 + 3, none⟩ = some (.int .i64 y.c) := by rw [<- hc.2.2.2]; simp only [World.cell?]; rw [hblk]
    have HST : Hid (Calls Tryz.prog 24 #[.pointer (some ⟨b, 0, none⟩), .agg #[.int .i64 y.k, .int .i64 y.a, .int .i64 y.b, .int .i64 y.c]] wr (StepPost (fun k => w.heap.size <= k) b s n k (stepF (playF st0 (l.take k)) y.k y.a y.b y.c) wr)) :=
     step_any y.k y.a y.b y.c wr hBk (by omega) hyn.1 hyn.2.1 hyn.2.2.1 hyn.2.2.2
    have HTK : Hid (playF st0 (l.take (k + 1)) = stepF (playF st0 (l.take k)) y.k y.a y.b y.c) := by
     show _ = _
     rw [List.take_add_one, hy, Option.toList_some, playF_snoc]
    have HOK : Hid _ := hOk
    have hkI : (k : Int) < (ln : Int) := by omega
    have hkJ : (k : Int) < 400 := by omega
    clear hc hcc hy hblk hBk hOk hlie hyn
    go_wp2_with (go_at_call 24; refine Calls.mono HST.out ?_; rintro e w5 ⟨rfl, hB5, hO5⟩)
    exact ⟨⟨k + 1, by omega, by omega, by go_num, by rw [HTK.out]; exact hB5, HOK.out.trans hO5⟩, by simp [intOf]; omega⟩
   ·obtain rfl : k = 400 := by omega
    have HF : Hid (∃ M vs d, Bk (fun k => w.heap.size <= k) wr b s n (playF st0 (l.take 400)) M vs d 400) := ⟨Mk, vk, dk, hBk⟩
    have HOK : Hid _ := hOk
    have hkI : ((400 : Nat) : Int) < (ln : Int) := by omega
    clear hBk hOk hlie
    go_wp2
    go_ret
    obtain ⟨M', vs', d', hB'⟩ := HF.out
    exact ⟨b, s, n, M', vs', d', 400, rfl, hn, by omega, hB', HOK.out⟩
  ·obtain rfl : k = ln := by omega
   have HF : Hid (∃ M vs d, Bk (fun k => w.heap.size <= k) wr b s n (playF st0 (l.take 400)) M vs d k) := by
    refine ⟨Mk, vk, dk, ?_⟩
    rw [List.take_of_length_le (by omega)] at hBk
    rw [List.take_of_length_le (by omega)]
    exact hBk
   have HOK : Hid _ := hOk
   clear hBk hOk hlie
   go_wp2
   go_ret
   obtain ⟨M', vs', d', hB'⟩ := HF.out
   exact ⟨b, s, n, M', vs', d', k, rfl, hn, by omega, hB', HOK.out⟩
end Go.Proofs.YtmehkneofinmiabGreatDoor

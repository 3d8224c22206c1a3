/-
 Texts of this proof, part 35.
-/
import Derived.Test.YtmehkneofinmiabGreatDoorP34
set_option maxRecDepth 100000
set_option maxHeartbeats 40000000
namespace Go.Proofs.YtmehkneofinmiabGreatDoor
open Go.RowKit
attribute [local go_sem ↓] appS_is
attribute [local go_sem] app_run
theorem marks_fails {B : Nat -> Prop} {b s n : Nat} {σ : St} {M : Mem} {vs : Nat -> Value} {d c : Nat} (i : Nat) (hi : i < 5) (w : World) (h : Bk B w b s n σ M vs d c) (hc : c < 1000)
 (a : Ans) (ha : ansF σ (reqB delM (47::nmK i) [] []) = (a, σ)) (hcs : ((curOf (enK σ i)).isSome = false /\ a.told = 404) \/ ((curOf (enK σ i)).isSome = true /\ 20 <= (enK σ i).vers.length /\ a.told = 507)) :
 Calls Tryz.prog 43 #[.pointer (some ⟨b, 0, none⟩), .int .i64 i] w fun e w' => e = .returned (.bool true) /\ (∃ M', Bk B w' b s n σ M' vs d (c + 1)) /\ Off B w w' := by
 have ⟨k1, k2, k3⟩ := h.bk.ck i hi
 have ⟨c0, c16, c17⟩ := h.bk.c0
 have hlt := h.bk.lt
 have hbt := h.facts i
 rw [hbt.2.2.2] at k1
 have hkl := (key_no (nmK_ok i)).2.1
 obtain ⟨K, hK⟩ : ∃ K, nmK i = K := ⟨_, rfl⟩
 rw [hK] at k1 ha hkl
 have HB : Hid _ := h
 have HA : Hid _ := ha
 have hcu := bcur_any b (1 + i * 3) (vs i) (enK σ i) w k2 (h.bk.row i hi) (by have := hbt.1; omega)
 obtain ⟨q0, q1, q2, q3, q4, hq⟩ := bvOut_agg (curOf (enK σ i))
 obtain ⟨tB, htB⟩ : ∃ x, (curOf (enK σ i)).isSome = x := ⟨_, rfl⟩
 rw [hq, htB] at hcu
 rw [htB] at hcs
 have HQ : Hid _ := hcu
 clear h ha hbt hcu
 go_enter Tryz.func43, Tryz.ntmps43
 go_wp2_with fail
 refine Calls.mono HQ.out ?_
 rintro e w1 ⟨rfl, hb1⟩
 go_wp2_with fail
 obtain ⟨X, hX⟩ : ∃ X, X = w1.alloc (.cells #[.int .i64 q0, .int .i64 q1, .bool q2, .string q3, .string q4] 42) := ⟨_, rfl⟩
 rw [<- hX]
 have hbX : Below w.heap.size w X := by rw [hX]; exact hb1.alloc hb1.size _
 clear hX
 have HX := HB.out.below hbX
 have x1 := (HX.bk.ck i hi).1
 have x2 := HX.bk.c0.1
 rw [HX.facts i |>.2.2.2, hK] at x1
 have HDO : Hid (∀ y, Below X.heap.size X y -> Calls Tryz.prog 11 #[.pointer (some ⟨s, 0, none⟩), .string ⟨(reqB delM (47::K) [] []).toArray⟩] y fun e w' => e = .returned (.string ⟨(textF a.told a.flds a.body).toArray⟩) /\ (textF a.told a.flds a.body).length <= 1000000000 /\ ∃ M', Sto B w' s n σ M' /\ Off (M.own s n) y w' /\ Off B y w') :=
  fun y hy => do_sto _ (HX.sto.below hy) (by have := HB.out.lg; omega) (by rw [reqB_len]; simp [delM]; omega) HA.out
 have hA : ∀ w : World, (Op.stringOp .add ⟨#[47]⟩ ⟨K.toArray⟩).run Tryz.prog w = .ok (.string ⟨(47::K).toArray⟩) w := by
  have := addS ⟨#[47]⟩ ⟨K.toArray⟩ (by simp [ByteArray.size]; omega)
  rw [show (⟨#[47]⟩ : ByteArray) ++ ⟨K.toArray⟩ = ⟨(47::K).toArray⟩ from mk_app [47] K] at this
  exact this
 have HX : Hid _ := HX
 go_region_held3 (fun y => y.cell? ⟨b, 0, none⟩ = some (.pointer (some ⟨s, 0, none⟩)) /\ y.cell? ⟨b, 1 + i * 3, none⟩ = some (.string ⟨K.toArray⟩)) (first | assumption | go_keep) (first
  | (go_at_call 12
     refine (request_any delM (47::K) [] [] _ (by decide) (by simp; omega) (by decide) (by decide)).mono ?_
     rintro e w2 ⟨rfl, rfl⟩)
  | (go_at_call 11
     refine Calls.mono (HDO.out _ (Below.refl _ _).drew) ?_
     rintro e w3 ⟨rfl, hl3, M3, hS3, hO3, hP3⟩
     have y3 : w3.cell? ⟨b, 0, none⟩ = some (.pointer (some ⟨s, 0, none⟩)) /\ w3.cell? ⟨b, 1 + i * 3, none⟩ = some (.string ⟨K.toArray⟩) := by
      have hb3 := (HX.out.below (Below.refl _ _).drew).bk.did (HX.out.below (Below.refl _ _).drew).sto.st hO3
      refine ⟨hb3.c0.1, ?_⟩
      rw [(hb3.ck i hi).1, (HX.out.facts i).2.2.2, hK]))
 have hb3 := (HX.out.below (Below.refl _ _).drew).bk.did (HX.out.below (Below.refl _ _).drew).sto.st hO3
 have z2 := (hb3.ck i hi).2.1
 have HF : Hid (∃ M', Bk B w3 b s n σ M' vs d (c + 1)) := ⟨M3, (⟨hS3, hb3, HB.out.bB, HB.out.vB, HB.out.ks, HB.out.tm, HB.out.lg, HB.out.ls, HB.out.dn⟩ : Bk B w3 b s n σ M3 vs d c).more⟩
 have HO : Hid (Off B w w3) := ((Off.of_below hbX).trans (Off.of_below (Below.refl _ _).drew)).trans hP3
 have hrow := hb3.row i hi
 clear hb3 hS3 hO3 hP3 HDO HX
 rcases hcs with ⟨hT, ht⟩ | ⟨hT, h20, ht⟩
 ·subst hT
  have hcode : Calls Tryz.prog 14 #[.string ⟨(textF a.told a.flds a.body).toArray⟩] w3 fun e w' => e = .returned (.int .i64 404) /\ w' = w3 :=
   (code_text a.told a.flds a.body w3 (by omega) (by omega) hl3).mono (fun e w' h => by rw [ht] at h; exact h)
  have HCO : Hid _ := hcode
  clear hcode hrow ht hl3
  generalize (textF a.told a.flds a.body) = T at HCO ⊢
  go_wp2_with (go_at_call 14; refine Calls.mono HCO.out ?_; rintro e w4 ⟨rfl, rfl⟩)
  go_ret
  exact ⟨rfl, HF.out, HO.out⟩
 ·subst hT
  have hcode : Calls Tryz.prog 14 #[.string ⟨(textF a.told a.flds a.body).toArray⟩] w3 fun e w' => e = .returned (.int .i64 507) /\ w' = w3 :=
   (code_text a.told a.flds a.body w3 (by omega) (by omega) hl3).mono (fun e w' h => by rw [ht] at h; exact h)
  have HCO : Hid _ := hcode
  obtain ⟨x, cp, hx⟩ : ∃ x cp, vs i = .slice x (enK σ i).vers.length cp := by
   rcases hrow.2 with ⟨e, h0⟩ | ⟨g, cap, cur, e, _⟩
   ·exact ⟨_, _, by rw [e, h0]⟩
   ·exact ⟨_, _, e⟩
  rw [hx] at z2
  have h20' : (20 : Int) <= ((enK σ i).vers.length : Int) := by omega
  clear hcode hrow ht hl3
  generalize (textF a.told a.flds a.body) = T at HCO ⊢
  go_wp2_with (go_at_call 14; refine Calls.mono HCO.out ?_; rintro e w4 ⟨rfl, rfl⟩)
  go_ret
  exact ⟨rfl, HF.out, HO.out⟩
theorem marks_did {B : Nat -> Prop} {b s n : Nat} {σ σ' : St} {M : Mem} {vs : Nat -> Value} {d c : Nat} (i : Nat) (hi : i < 5) (w : World) (h : Bk B w b s n σ M vs d c) (hc : c < 1000) (h20 : (enK σ i).vers.length < 20) (hcur : (curOf (enK σ i)).isSome = true)
 (ha : ansF σ (reqB delM (47::nmK i) [] []) = (⟨204, [⟨versN, Lib.decDigits ((enK σ i).last + 1)⟩], []⟩, σ')) :
 Calls Tryz.prog 43 #[.pointer (some ⟨b, 0, none⟩), .int .i64 i] w fun e w' => e = .returned (.bool true) /\ (∃ M' vs', Sto B w' s n σ' M' /\ BookAt w' b s (fun j => if j = i then ⟨nmK i, (enK σ i).last + 1, (enK σ i).vers ++ [⟨(enK σ i).last + 1, σ.time, true, []⟩]⟩ else enK σ j) vs' σ.time (d + 1) /\ ∀ j, j < 5 -> ∀ g, (vs' j).ownBlock = some g -> B g) /\ Off B w w' := by
 have ⟨k1, k2, k3⟩ := h.bk.ck i hi
 have ⟨c0, c16, c17⟩ := h.bk.c0
 have hlt := h.bk.lt
 have hbt := h.facts i
 rw [hbt.2.2.2] at k1
 have hkl := (key_no (nmK_ok i)).2.1
 obtain ⟨K, hK⟩ : ∃ K, nmK i = K := ⟨_, rfl⟩
 rw [hK] at k1 ha hkl
 obtain ⟨told, htold⟩ : ∃ x : Nat, 204 = x := ⟨_, rfl⟩
 obtain ⟨flds, hflds⟩ : ∃ x, ([⟨versN, Lib.decDigits ((enK σ i).last + 1)⟩] : List Fld) = x := ⟨_, rfl⟩
 rw [htold, hflds] at ha
 obtain ⟨L, hL⟩ : ∃ x, (enK σ i).last = x := ⟨_, rfl⟩
 rw [hL] at k3
 have hLc : L <= c := hL ▸ h.ls i
 have hdc := h.dn
 have HB : Hid _ := h
 have HA : Hid _ := ha
 have hcu := bcur_any b (1 + i * 3) (vs i) (enK σ i) w k2 (h.bk.row i hi) (by have := hbt.1; omega)
 obtain ⟨q0, q1, q2, q3, q4, hq⟩ := bvOut_agg (curOf (enK σ i))
 rw [hq, hcur] at hcu
 have HQ : Hid _ := hcu
 clear h ha hbt hcu
 go_enter Tryz.func43, Tryz.ntmps43
 go_wp2_with fail
 refine Calls.mono HQ.out ?_
 rintro e w1 ⟨rfl, hb1⟩
 go_wp2_with fail
 obtain ⟨X, hX⟩ : ∃ X, X = w1.alloc (.cells #[.int .i64 q0, .int .i64 q1, .bool q2, .string q3, .string q4] 42) := ⟨_, rfl⟩
 rw [<- hX]
 have hbX : Below w.heap.size w X := by rw [hX]; exact hb1.alloc hb1.size _
 clear hX
 have HX := HB.out.below hbX
 have x1 := (HX.bk.ck i hi).1
 have x2 := HX.bk.c0.1
 rw [HX.facts i |>.2.2.2, hK] at x1
 have HDO : Hid (∀ y, Below X.heap.size X y -> Calls Tryz.prog 11 #[.pointer (some ⟨s, 0, none⟩), .string ⟨(reqB delM (47::K) [] []).toArray⟩] y fun e w' => e = .returned (.string ⟨(textF told flds []).toArray⟩) /\ (textF told flds []).length <= 1000000000 /\ ∃ M', Sto B w' s n σ' M' /\ Off (M.own s n) y w' /\ Off B y w') :=
  fun y hy => do_sto _ (HX.sto.below hy) (by have := HB.out.lg; omega) (by rw [reqB_len]; simp [delM]; omega) HA.out
 have hA : ∀ w : World, (Op.stringOp .add ⟨#[47]⟩ ⟨K.toArray⟩).run Tryz.prog w = .ok (.string ⟨(47::K).toArray⟩) w := by
  have := addS ⟨#[47]⟩ ⟨K.toArray⟩ (by simp [ByteArray.size]; omega)
  rw [show (⟨#[47]⟩ : ByteArray) ++ ⟨K.toArray⟩ = ⟨(47::K).toArray⟩ from mk_app [47] K] at this
  exact this
 have HX : Hid _ := HX
 go_region_held3 (fun y => y.cell? ⟨b, 0, none⟩ = some (.pointer (some ⟨s, 0, none⟩)) /\ y.cell? ⟨b, 1 + i * 3, none⟩ = some (.string ⟨K.toArray⟩)) (first | assumption | go_keep) (first
  | (go_at_call 12
     refine (request_any delM (47::K) [] [] _ (by decide) (by simp; omega) (by decide) (by decide)).mono ?_
     rintro e w2 ⟨rfl, rfl⟩)
  | (go_at_call 11
     refine Calls.mono (HDO.out _ (Below.refl _ _).drew) ?_
     rintro e w3 ⟨rfl, hl3, M3, hS3, hO3, hP3⟩
     have y3 : w3.cell? ⟨b, 0, none⟩ = some (.pointer (some ⟨s, 0, none⟩)) /\ w3.cell? ⟨b, 1 + i * 3, none⟩ = some (.string ⟨K.toArray⟩) := by
      have hb3 := (HX.out.below (Below.refl _ _).drew).bk.did (HX.out.below (Below.refl _ _).drew).sto.st hO3
      refine ⟨hb3.c0.1, ?_⟩
      rw [(hb3.ck i hi).1, (HX.out.facts i).2.2.2, hK]))
 have hb3 := (HX.out.below (Below.refl _ _).drew).bk.did (HX.out.below (Below.refl _ _).drew).sto.st hO3
 have z2 := (hb3.ck i hi).2.1
 have z3 := (hb3.ck i hi).2.2
 rw [hL] at z3
 have z16 := hb3.c0.2.1
 have z17 := hb3.c0.2.2
 have zf := hb3.fz
 have hlt3 := hb3.lt
 have hrow := hb3.row i hi
 have hcode : Calls Tryz.prog 14 #[.string ⟨(textF told flds []).toArray⟩] w3 fun e w' => e = .returned (.int .i64 told) /\ w' = w3 := code_text told flds [] w3 (by omega) (by omega) hl3
 have HCO : Hid _ := hcode
 obtain ⟨x, cp, hx⟩ : ∃ x cp, vs i = .slice x (enK σ i).vers.length cp := by
  rcases hrow.2 with ⟨e, h0⟩ | ⟨g, cap, cur, e, _⟩
  ·exact ⟨_, _, by rw [e, h0]⟩
  ·exact ⟨_, _, e⟩
 have z2' := z2
 rw [hx] at z2'
 have h20' : ¬ (20 : Int) <= ((enK σ i).vers.length : Int) := by omega
 have HB3 : Hid _ := hb3
 have HS3 : Hid _ := hS3
 have HP3 : Hid _ := hP3
 have HROW : Hid _ := hrow
 have HTO : Hid _ := htold
 have HL3 : Hid _ := hl3
 have HHL : Hid _ := hL
 have Hx : Hid _ := hx
 clear hcode hb3 hS3 hP3 hO3 HDO HX hrow htold hl3 hL hx z2
 obtain ⟨T, hT⟩ : ∃ T, textF told flds [] = T := ⟨_, rfl⟩
 rw [hT] at HCO ⊢
 have HT : Hid _ := hT
 clear hT
 go_wp2_with (go_at_call 14; refine Calls.mono HCO.out ?_; rintro e w4 ⟨rfl, rfl⟩)
 have HBY : BookAt ((w4.setCell ⟨b, 1 + i * 3 + 2, none⟩ (.int .i64 ((L : Int) + 1))).setCell ⟨b, 17, none⟩ (.int .i64 ((d : Int) + 1))) b s (fun j => if j = i then ⟨(enK σ j).key, L + 1, (enK σ j).vers⟩ else enK σ j) vs σ.time (d + 1) :=
  (HB3.out.set _ _ (bookCells_last _ _ _ _ _ (L + 1) _ (by omega) i hi) (fun j _ => by split <;> rfl)).set _ _ (bookCells_done _ _ _ _ _ (d + 1) _ (by omega)) (fun _ _ => rfl)
 have HOY : Hid (Off (fun k => k = b \/ ∃ i, i < 5 /\ (vs i).ownBlock = some k) w4 ((w4.setCell ⟨b, 1 + i * 3 + 2, none⟩ (.int .i64 ((L : Int) + 1))).setCell ⟨b, 17, none⟩ (.int .i64 ((d : Int) + 1)))) :=
  ((Off.refl _ _).set b _ _ (Or.inl (Or.inl rfl))).set b _ _ (Or.inl (Or.inl rfl))
 obtain ⟨Y, hY⟩ : ∃ Y, Y = (w4.setCell ⟨b, 1 + i * 3 + 2, none⟩ (.int .i64 ((L : Int) + 1))).setCell ⟨b, 17, none⟩ (.int .i64 ((d : Int) + 1)) := ⟨_, rfl⟩
 rw [<- hY] at HBY HOY ⊢
 clear hY z2' z3 z16 z17 zf hlt3
 have HBD := HBY.below (Below.refl _ _).drew
 have hrD := HBD.row i hi
 simp only [if_pos] at hrD
 obtain ⟨gg, cap, w2, hok, hr1, hr2, hown, hgs, hO2⟩ := brow_app Y.drew (vs i) (enK σ i).vers ⟨L + 1, σ.time, true, []⟩ ((L : Int) + 1) σ.time true ⟨#[]⟩ ⟨#[]⟩ (by simp [bvCells, tagK]) hrD (by omega)
 rw [show Y.drew.heap.size = Y.heap.size from rfl, show Y.drew.alloc (.cells #[.int .i64 ((L : Int) + 1), .int .i64 (σ.time : Int), .bool true, .string ⟨#[]⟩, .string ⟨#[]⟩] 42) = (Y.alloc (.cells #[.int .i64 ((L : Int) + 1), .int .i64 (σ.time : Int), .bool true, .string ⟨#[]⟩, .string ⟨#[]⟩] 42)).drew from rfl] at hok hr1 hr2
 have y1 := (HBY.ck i hi).2.1
 have y2 : Y.cell? ⟨b, 1 + i * 3 + 2, none⟩ = some (.int .i64 ((L : Int) + 1)) := by
  have := (HBY.ck i hi).2.2
  simp only [if_pos] at this
  simpa using this
 have y16 := HBY.c0.2.1
 have hltY := HBY.lt
 have hfarY := own_far hrD HBD.blk (by decide)
 have HBA := HBD.below ((Below.refl _ _).alloc (Nat.le_refl _) (.cells #[.int .i64 ((L : Int) + 1), .int .i64 (σ.time : Int), .bool true, .string ⟨#[]⟩, .string ⟨#[]⟩] 42))
 have a1 := (HBA.ck i hi).2.1
 have a2 : (Y.drew.alloc (.cells #[.int .i64 ((L : Int) + 1), .int .i64 (σ.time : Int), .bool true, .string ⟨#[]⟩, .string ⟨#[]⟩] 42)).cell? ⟨b, 1 + i * 3 + 2, none⟩ = some (.int .i64 ((L : Int) + 1)) := by
  have := (HBA.ck i hi).2.2
  simp only [if_pos] at this
  simpa using this
 have a16 := HBA.c0.2.1
 have hb2 : w2.heap[b]? = _ := (hO2.block b HBD.lt hfarY).trans HBD.blk
 have e1 : w2.cell? ⟨b, 1 + i * 3 + 1, none⟩ = some (vs i) := by rw [<- y1]; simp only [World.cell?]; rw [hb2, HBY.blk]
 have e2 : w2.cell? ⟨b, 1 + i * 3 + 2, none⟩ = some (.int .i64 ((L : Int) + 1)) := by rw [<- y2]; simp only [World.cell?]; rw [hb2, HBY.blk]
 have e16 : w2.cell? ⟨b, 16, none⟩ = some (.int .i64 (σ.time : Int)) := by rw [<- y16]; simp only [World.cell?]; rw [hb2, HBY.blk]
 have ef : w2.frozen? ⟨b, 1 + i * 3 + 1, none⟩ = false := by simp [World.frozen?, hb2]
 have HW := HBD.row_set i hi (.slice (some ⟨gg, 0, none⟩) ((enK σ i).vers.length + 1) cap) ((enK σ i).vers ++ [⟨L + 1, σ.time, true, []⟩]) hO2 (by rw [List.length_append]; exact hown) (fun g hg => by cases hg; exact hgs)
 have w1' : (w2.setCell ⟨b, 1 + i * 3 + 1, none⟩ (.slice (some ⟨gg, 0, none⟩) ((enK σ i).vers.length + 1) cap)).cell? ⟨b, 1 + i * 3 + 2, none⟩ = some (.int .i64 ((L : Int) + 1)) := by
  have := (HW.ck i hi).2.2
  simp only [if_pos] at this
  simpa using this
 have w16' := HW.c0.2.1
 have HS5 : Hid (Sto B (w2.setCell ⟨b, 1 + i * 3 + 1, none⟩ (.slice (some ⟨gg, 0, none⟩) ((enK σ i).vers.length + 1) cap)) s n σ' M3) :=
  HS3.out.book HB3.out HB.out.bB HB.out.vB (((HOY.out.trans (Off.of_below (Below.refl _ _).drew)).trans (hO2.mono (fun k hk => Or.inr ⟨i, hi, hk⟩))).set b _ _ (Or.inl (Or.inl rfl)))
 have HO5 : Hid (Off B w (w2.setCell ⟨b, 1 + i * 3 + 1, none⟩ (.slice (some ⟨gg, 0, none⟩) ((enK σ i).vers.length + 1) cap))) := by
  have hbb := HB.out.bB
  refine ((((((Off.of_below hbX).trans (Off.of_below (Below.refl _ _).drew)).trans HP3.out).trans (HOY.out.mono (fun k hk => ?_))).trans (Off.of_below (Below.refl _ _).drew)).trans (hO2.mono (fun k hk => HB.out.vB i hi k hk))).set b _ _ (Or.inl hbb)
  rcases hk with rfl | ⟨j, hj, hg⟩
  ·exact hbb
  ·exact HB.out.vB j hj k hg
 have hL' : (enK σ i).last = L := HHL.out
 have HB5 : Hid (∃ vs', BookAt (w2.setCell ⟨b, 1 + i * 3 + 1, none⟩ (.slice (some ⟨gg, 0, none⟩) ((enK σ i).vers.length + 1) cap)) b s (fun j => if j = i then ⟨nmK i, (enK σ i).last + 1, (enK σ i).vers ++ [⟨(enK σ i).last + 1, σ.time, true, []⟩]⟩ else enK σ j) vs' σ.time (d + 1) /\ ∀ j, j < 5 -> ∀ g, (vs' j).ownBlock = some g -> B g) := by
  refine ⟨_, HW.ext (fun j hj => ⟨?_, rfl⟩), fun j hj g => ?_⟩
  ·by_cases e : j = i
   ·subst e
    simp only [if_pos, hL']
    rw [(HB.out.facts j).2.2.2]
   ·simp only [if_neg e]
  ·by_cases e : j = i
   ·subst e
    simp only [if_pos]
    intro hg
    cases hg
    rcases hgs with h1 | h1
    ·exact HB.out.vB j hj _ h1
    ·have h2 := HS3.out.env.sz
     have h3 := HOY.out.size
     have h4 : Y.heap.size <= gg := h1
     exact h2 gg (by omega)
   ·simp only [if_neg e]
    exact HB.out.vB j hj g
 have HFV : Hid (∀ y, Calls Tryz.prog 16 #[.string ⟨T.toArray⟩, .string ⟨#[86, 101, 114, 115, 105, 111, 110]⟩] y fun e w' => e = .returned (.string ⟨(Lib.decDigits (L + 1)).toArray⟩) /\ w' = y) := by
  intro y
  have h3 := HL3.out
  rw [<- hflds, hL'] at h3
  have := field_t told [] [] versN (Lib.decDigits (L + 1)) [] y (by simp [cln_vers]) (by simp) (by decide) h3
  rw [<- HT.out, <- hflds, hL']
  exact this
 have HIT : Hid (∀ y, y = w2.setCell ⟨b, 1 + i * 3 + 1, none⟩ (.slice (some ⟨gg, 0, none⟩) ((enK σ i).vers.length + 1) cap) -> Calls Tryz.prog 13 #[.int .i64 ((L : Int) + 1)] y.drew fun e w' => e = .returned (.string ⟨(Lib.decDigits (L + 1)).toArray⟩) /\ Below y.drew.heap.size y.drew w') := by
  rintro y rfl
  have := itoa_any ((L : Int) + 1) (w2.setCell ⟨b, 1 + i * 3 + 1, none⟩ (.slice (some ⟨gg, 0, none⟩) ((enK σ i).vers.length + 1) cap)).drew (by omega) (by omega) (HS5.out.env.tb.below (Below.refl _ _).drew).b
  rw [show ((L : Int) + 1).toNat = L + 1 by omega] at this
  exact this
 have hSA := And.intro a2 a16
 have hS2 := And.intro e2 e16
 have hS3 := And.intro w1' w16'
 have htold : (told : Int) = 204 := by have := HTO.out; omega
 obtain ⟨dg, hdg⟩ : ∃ x, (⟨(Lib.decDigits (L + 1)).toArray⟩ : ByteArray) = x := ⟨_, rfl⟩
 rw [hdg] at HIT HFV
 clear hdg
 clear hL' HBY HBD hrD HBA HW hown hgs hO2 hb2 k1 k2 k3 c0 c16 c17 x1 x2 hA
 refine wp_region_held_drew (S := (fun y => y.cell? ⟨b, 1 + i * 3 + 2, none⟩ = some (.int .i64 ((L : Int) + 1)) /\ y.cell? ⟨b, 16, none⟩ = some (.int .i64 (σ.time : Int)))) (by kernel_rfl) ⟨y2, y16⟩ (fun hHeld => ?_)
 refine tkH 0 rfl (by kernel_rfl) (fun _ _ _ h => h) (Or.inl ⟨by rfl, fun y hSw => by go_simp; try with_reducible rfl⟩) hHeld ?_
 try simp only [Act.put]
 refine tkH 1 rfl (by kernel_rfl) (fun _ _ _ h => h) (Or.inl ⟨by rfl, fun y hSw => by go_simp; try with_reducible rfl⟩) hHeld ?_
 try simp only [Act.put]
 refine tkH 2 rfl (by kernel_rfl) (fun _ _ _ h => h) (Or.inl ⟨by rfl, fun y hSw => by go_simp; try with_reducible rfl⟩) hHeld ?_
 try simp only [Act.put]
 refine tkH 3 rfl (by kernel_rfl) (fun _ _ _ h => h) (Or.inl ⟨by rfl, fun y hSw => by go_simp; try with_reducible rfl⟩) hHeld ?_
 try simp only [Act.put]
 refine tkH 5 rfl (by kernel_rfl) (fun _ _ _ h => h) (Or.inl ⟨by rfl, fun y hSw => by go_simp; try with_reducible rfl⟩) hHeld ?_
 try simp only [Act.put]
 refine tkH 6 rfl (by kernel_rfl) (fun _ _ _ h => h) (Or.inl ⟨by rfl, fun y hSw => by go_simp; try with_reducible rfl⟩) hHeld ?_
 try simp only [Act.put]
 refine tkH 7 rfl (by kernel_rfl) (fun _ _ _ h => h) (Or.inl ⟨by rfl, fun y hSw => by go_simp; try with_reducible rfl⟩) hHeld ?_
 try simp only [Act.put]
 refine tkH 8 rfl (by kernel_rfl) (fun _ _ _ h => h) (Or.inl ⟨by rfl, fun y hSw => by go_simp; try with_reducible rfl⟩) hHeld ?_
 try simp only [Act.put]
 refine tkH 9 rfl (by kernel_rfl) (fun _ _ _ h => h) (Or.inl ⟨by rfl, fun y hSw => by go_simp; try with_reducible rfl⟩) hHeld ?_
 try simp only [Act.put]
 refine tkH 10 rfl (by kernel_rfl) (fun _ _ _ h => h) (Or.inl ⟨by rfl, fun y hSw => by go_simp; try with_reducible rfl⟩) hHeld ?_
 try simp only [Act.put]
 refine tkH 11 rfl (by kernel_rfl) (fun _ _ _ h => h) (Or.inl ⟨by rfl, fun y hSw => by go_simp; try with_reducible rfl⟩) hHeld ?_
 try simp only [Act.put]
 refine tkH 12 rfl (by kernel_rfl) (fun _ _ _ h => h) (Or.inl ⟨by rfl, fun y hSw => by go_simp; try with_reducible rfl⟩) hHeld ?_
 try simp only [Act.put]
 refine tkH 13 rfl (by kernel_rfl) (fun _ _ _ h => h) (Or.inl ⟨by rfl, fun y hSw => by go_simp; try with_reducible rfl⟩) hHeld ?_
 try simp only [Act.put]
 refine wpAnyH_ready (rs := [4, 14]) (by kernel_rfl) (by simp) ?_
 refine AllReadyH.cons rfl (fun K hK => ?_) (AllReadyH.cons rfl (fun K hK => ?_) AllReadyH.nil)
 ·go_simp
  refine hK.out _ _ hHeld (fun _ => ?_)
  clear hK K
  try simp only [Act.put]
  refine wpAnyH_ready (rs := [14]) (by kernel_rfl) (by simp) ?_
  refine AllReadyH.cons rfl (fun K hK => ?_) AllReadyH.nil
  go_simp
  refine hK.out _ _ hSA (fun hHeld2 => ?_)
  clear hK K
  try simp only [Act.put]
  refine wpAnyH_ready (rs := [15]) (by kernel_rfl) (by simp) ?_
  refine AllReadyH.cons rfl (fun K hK => ?_) AllReadyH.nil
  go_simp
  refine hK.out _ _ hS2 (fun hHeld3 => ?_)
  clear hK K
  try simp only [Act.put]
  refine tkH 16 rfl (by kernel_rfl) (fun _ _ _ h => h) (Or.inl ⟨by rfl, fun y hSw => by go_simp; try with_reducible rfl⟩) hHeld3 ?_
  try simp only [Act.put]
  refine tkH 17 rfl (by kernel_rfl) (fun _ _ _ h => h) (Or.inl ⟨by rfl, fun y hSw => by go_simp; try with_reducible rfl⟩) hHeld3 ?_
  try simp only [Act.put]
  refine wpAnyH_ready (rs := [18]) (by kernel_rfl) (by simp) ?_
  refine AllReadyH.cons rfl (fun K hK => ?_) AllReadyH.nil
  go_simp
  refine hK.out _ _ hS3 (fun hHeld4 => ?_)
  clear hK K
  try simp only [Act.put]
  refine wpAnyH_done (by kernel_rfl) ?_ _
  obtain ⟨W5, hW5⟩ : ∃ x, x = w2.setCell ⟨b, 1 + i * 3 + 1, none⟩ (.slice (some ⟨gg, 0, none⟩) ((enK σ i).vers.length + 1) cap) := ⟨_, rfl⟩
  rw [<- hW5] at HS5 HO5 HB5 HIT hS3 ⊢
  have g2 := hS3.1
  have hlt5 : b < W5.heap.size := cell_lt g2
  clear hW5 hok hr1 hr2 e1 e2 e16 ef hSA hS2 hS3 w1' w16' y1 y2 y16 a1 a2 a16 hHeld2 hHeld3 hHeld4 hHeld
  go_wp2_with fail
  go_region_held3 (fun y => y.cell? ⟨b, 1 + i * 3 + 2, none⟩ = some (.int .i64 ((L : Int) + 1))) (first | assumption | go_keep) (first
   | (go_at_call 16
      refine Calls.mono (HFV.out _) ?_
      rintro e w7 ⟨rfl, rfl⟩)
   | (go_at_call 13
      refine Calls.mono (HIT.out _ rfl) ?_
      rintro e w7 ⟨rfl, hb7⟩
      have g7 : w7.cell? ⟨b, 1 + i * 3 + 2, none⟩ = some (.int .i64 ((L : Int) + 1)) := (hb7.cell (p := ⟨b, 1 + i * 3 + 2, none⟩) hlt5).trans g2))
  go_wp2
  go_ret
  have hb8 : Below W5.heap.size W5 w7 := ⟨hb7.os, hb7.tape, hb7.output, hb7.size, hb7.block⟩
  obtain ⟨vs', hbk, hvb⟩ := HB5.out
  exact ⟨rfl, ⟨M3, vs', HS5.out.below hb8, hbk.below hb8, hvb⟩, HO5.out.trans (Off.of_below hb8)⟩
 ·go_simp
  refine hK.out _ _ hSA (fun hHeld2 => ?_)
  clear hK K
  try simp only [Act.put]
  refine wpAnyH_ready (rs := [4]) (by kernel_rfl) (by simp) ?_
  refine AllReadyH.cons rfl (fun K hK => ?_) AllReadyH.nil
  go_simp
  refine hK.out _ _ hHeld2 (fun _ => ?_)
  clear hK K
  try simp only [Act.put]
  refine wpAnyH_ready (rs := [15]) (by kernel_rfl) (by simp) ?_
  refine AllReadyH.cons rfl (fun K hK => ?_) AllReadyH.nil
  go_simp
  refine hK.out _ _ hS2 (fun hHeld3 => ?_)
  clear hK K
  try simp only [Act.put]
  refine tkH 16 rfl (by kernel_rfl) (fun _ _ _ h => h) (Or.inl ⟨by rfl, fun y hSw => by go_simp; try with_reducible rfl⟩) hHeld3 ?_
  try simp only [Act.put]
  refine tkH 17 rfl (by kernel_rfl) (fun _ _ _ h => h) (Or.inl ⟨by rfl, fun y hSw => by go_simp; try with_reducible rfl⟩) hHeld3 ?_
  try simp only [Act.put]
  refine wpAnyH_ready (rs := [18]) (by kernel_rfl) (by simp) ?_
  refine AllReadyH.cons rfl (fun K hK => ?_) AllReadyH.nil
  go_simp
  refine hK.out _ _ hS3 (fun hHeld4 => ?_)
  clear hK K
  try simp only [Act.put]
  refine wpAnyH_done (by kernel_rfl) ?_ _
  obtain ⟨W5, hW5⟩ : ∃ x, x = w2.setCell ⟨b, 1 + i * 3 + 1, none⟩ (.slice (some ⟨gg, 0, none⟩) ((enK σ i).vers.length + 1) cap) := ⟨_, rfl⟩
  rw [<- hW5] at HS5 HO5 HB5 HIT hS3 ⊢
  have g2 := hS3.1
  have hlt5 : b < W5.heap.size := cell_lt g2
  clear hW5 hok hr1 hr2 e1 e2 e16 ef hSA hS2 hS3 w1' w16' y1 y2 y16 a1 a2 a16 hHeld2 hHeld3 hHeld4 hHeld
  go_wp2_with fail
  go_region_held3 (fun y => y.cell? ⟨b, 1 + i * 3 + 2, none⟩ = some (.int .i64 ((L : Int) + 1))) (first | assumption | go_keep) (first
   | (go_at_call 16
      refine Calls.mono (HFV.out _) ?_
      rintro e w7 ⟨rfl, rfl⟩)
   | (go_at_call 13
      refine Calls.mono (HIT.out _ rfl) ?_
      rintro e w7 ⟨rfl, hb7⟩
      have g7 : w7.cell? ⟨b, 1 + i * 3 + 2, none⟩ = some (.int .i64 ((L : Int) + 1)) := (hb7.cell (p := ⟨b, 1 + i * 3 + 2, none⟩) hlt5).trans g2))
  go_wp2
  go_ret
  have hb8 : Below W5.heap.size W5 w7 := ⟨hb7.os, hb7.tape, hb7.output, hb7.size, hb7.block⟩
  obtain ⟨vs', hbk, hvb⟩ := HB5.out
  exact ⟨rfl, ⟨M3, vs', HS5.out.below hb8, hbk.below hb8, hvb⟩, HO5.out.trans (Off.of_below hb8)⟩
end Go.Proofs.YtmehkneofinmiabGreatDoor

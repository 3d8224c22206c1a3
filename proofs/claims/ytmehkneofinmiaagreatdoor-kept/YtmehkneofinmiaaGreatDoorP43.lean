/-
  Texts of this proof, part 43.
-/
import Derived.Test.YtmehkneofinmiaaGreatDoorP42
namespace Go.Proofs.YtmehkneofinmiaaGreatDoor
open Go.RowKit

theorem addL2 (a b : List UInt8) (h : a.length + b.length ≤ 100000) : ∀ w : World, (Op.stringOp .add ⟨a.toArray⟩ ⟨b.toArray⟩).run Tryz.prog w = .ok (.string ⟨(a ++ b).toArray⟩) w := by
  have := addS' ⟨a.toArray⟩ ⟨b.toArray⟩ (by simp [ByteArray.size]; omega)
  rw [mk_app] at this
  exact this
def BodyIs (T L : List UInt8) : Prop := ∀ y : World, Calls Tryz.prog 21 #[.string ⟨T.toArray⟩] y fun e w' => e = .returned (.string ⟨L.toArray⟩) ∧ w' = y
def VersIs (T L : List UInt8) : Prop := ∀ y : World, Calls Tryz.prog 22 #[.string ⟨T.toArray⟩, .string ⟨#[86, 101, 114, 115, 105, 111, 110]⟩] y fun e w' => e = .returned (.string ⟨L.toArray⟩) ∧ w' = y
/-- what a played store gives of all its keys -/
structure Ksk (B b s : Nat) (KK : Nat → List UInt8) (en : Nat → Ent) (vs : Nat → Value) (I : World → Prop) (D : List UInt8 → List UInt8 → Prop) : Prop where
  h : ∀ i, i < 5 → Hsk B b s i (KK i) I D stampL (bvOut (curOf (en i))) (curOf (en i)).isSome
  kl : ∀ i, i < 5 → (KK i).length ≤ 40
  cl : ∀ i, i < 5 → ∀ y, I y → y.cell? ⟨b, 1 + i * 3 + 2, none⟩ = some (.int .i64 (en i).last)
  cv : ∀ i, i < 5 → ∀ y, I y → y.cell? ⟨b, 1 + i * 3 + 1, none⟩ = some (vs i)
  row : ∀ i, i < 5 → ∀ y, I y → y.ownsRow 0 56 5 (vs i) (en i).vers.length (bRow (en i).vers)
  len : ∀ i, i < 5 → (en i).vers.length ≤ 20
  last : ∀ i, i < 5 → (en i).last ≤ 1000
  ver : ∀ i, i < 5 → ∀ v ∈ (en i).vers, 0 < v.num ∧ v.num ≤ (en i).last ∧ v.time < 2678400 ∧ v.body.length ≤ 400
  rise : ∀ i, i < 5 → (en i).vers.Pairwise fun a b => a.num < b.num
  itoa : ∀ n : Nat, n < 10000000 → ∀ y, I y → Calls Tryz.prog 17 #[.int .i64 n] y fun e w' => e = .returned (.string ⟨(Lib.decDigits n).toArray⟩) ∧ Below y.heap.size y w'
  dv : ∀ i, i < 5 → ∀ n, 0 < n → n < 1000000 → D (reqB [71, 69, 84] (47 :: (KK i ++ [63] ++ ([118, 61] ++ Lib.decDigits n))) [] []) (answV (fndV (en i).vers n))
  da : ∀ i, i < 5 → D (reqB [71, 69, 84] (47 :: (KK i ++ [63] ++ versW)) [] []) (if (en i).vers = [] then [52, 48, 52, 13, 10, 13, 10] else [50, 48, 48, 13, 10, 13, 10] ++ (en i).vers.reverse.flatMap lineF2)
  dc : ∀ i, i < 5 → ∃ G, D (reqB [71, 69, 84] (47 :: KK i) [] []) G ∧ ((curOf (en i) = none ∧ CodeIs G 404) ∨ (∃ u, curOf (en i) = some u ∧ CodeIs G 200 ∧ BodyIs G u.body ∧ VersIs G (Lib.decDigits u.num)))

theorem five_cells {y : World} {vb : Nat} {a t : Int} {m : Bool} {bd tg : ByteArray} {f : Nat × Nat} (hv : y.heap[vb]? = some (.cells #[.int .i64 a, .int .i64 t, .bool m, .string bd, .string tg] 56 f)) :
    y.cell? ⟨vb, 0, none⟩ = some (.int .i64 a) ∧ y.cell? ⟨vb, 1, none⟩ = some (.int .i64 t) ∧ y.cell? ⟨vb, 2, none⟩ = some (.bool m) ∧ y.cell? ⟨vb, 3, none⟩ = some (.string bd) ∧ y.cell? ⟨vb, 4, none⟩ = some (.string tg) := by
  simp [World.cell?, hv]
theorem curU_mem {E : Ent} {v : Ver} (h : curOf E = some v) : v ∈ E.vers ∧ v.mark = false := by
  cases hg : E.vers.getLast? with
  | none => simp [curOf, hg] at h
  | some y =>
    cases hm : y.mark with
    | true => simp [curOf, hg, hm] at h
    | false =>
      simp [curOf, hg, hm] at h
      rw [← h]
      exact ⟨List.mem_of_getLast? hg, hm⟩
theorem stampL_le (n : Nat) : (stampL n).length ≤ 40 := by unfold stampL; rw [List.length_take]; omega
set_option linter.unusedSimpArgs false in
set_option linter.unusedVariables false in
set_option maxRecDepth 100000 in
set_option maxHeartbeats 16000000 in
theorem kept_walk (x : Int) (v : Value) (w : World)
    (hP : Calls Tryz.prog 14 #[.int .i64 x, v] w fun e w' => ∃ (b s : Nat) (KK : Nat → List UInt8) (en : Nat → Ent) (vs : Nat → Value) (I : World → Prop) (D : List UInt8 → List UInt8 → Prop), e = .returned (.pointer (some ⟨b, 0, none⟩)) ∧ Ksk w.heap.size b s KK en vs I D ∧ I w' ∧ Off (fun k => w.heap.size ≤ k) w w')
    (hv : ∃ a n m, v = .slice a n m) :
    Calls Tryz.prog 7 #[.int .i64 x, v] w fun e w' => e = .returned (.bool true) ∧ Off (fun k => w.heap.size ≤ k) w w' := by
  obtain ⟨a0, n0, m0, rfl⟩ := hv
  have HPL : Hid _ := hP
  clear hP
  go_enter Tryz.func7, Tryz.ntmps7
  go_wp2_with fail
  refine Calls.mono HPL.out ?_
  rintro e w1 ⟨b, s, KK, en, vs, I, D, rfl, hs, i1, o1⟩
  have HS : Hid _ := hs
  have HI1 : Hid _ := i1
  have HO1 : Hid _ := o1
  clear hs i1 o1 HPL
  go_wp2_with fail
  go_loopw [6, 7, 8, 9, 10, 11, 12, 13, 14, 15, 16, 17] (fun iv _ _ _ _ _ _ _ _ _ _ _ wr => ∃ i : Nat, i ≤ 5 ∧ iv = .int .i64 i ∧ I wr ∧ Off (fun k => w.heap.size ≤ k) w wr)
    (fun iv _ _ _ _ _ _ _ _ _ _ _ _ => 5 - (intOf iv).toNat)
  case atStart => exact ⟨0, by omega, rfl, HI1.out, HO1.out⟩
  case round =>
    obtain ⟨i, hi, rfl, hIr, hOr⟩ := hrel
    by_cases hi5 : i < 5
    · have hS := HS.out.h i hi5
      have hiI : (i : Int) < 5 := by omega
      obtain ⟨K, hK⟩ : ∃ K, KK i = K := ⟨_, rfl⟩
      obtain ⟨l, hl⟩ : ∃ x, (en i).vers = x := ⟨_, rfl⟩
      obtain ⟨L, hL⟩ : ∃ x, (en i).last = x := ⟨_, rfl⟩
      have hkl := HS.out.kl i hi5
      have hlen := HS.out.len i hi5
      have hLb := HS.out.last i hi5
      have hver := HS.out.ver i hi5
      have hrise := HS.out.rise i hi5
      have hdv := HS.out.dv i hi5
      have hda := HS.out.da i hi5
      have hcl := HS.out.cl i hi5
      have hcv := HS.out.cv i hi5
      have hrow := HS.out.row i hi5
      rw [hK] at hS hkl hdv hda
      rw [hl] at hlen hver hrise hdv hda hrow
      rw [hL] at hver hLb hcl
      obtain ⟨xo, xc, hx⟩ : ∃ xo xc, vs i = .slice xo l.length xc := by
        rcases (hrow _ hIr).2 with ⟨e, h0⟩ | ⟨g, cap, cur, e, _⟩
        · exact ⟨_, _, by rw [e, h0]⟩
        · exact ⟨_, _, e⟩
      rw [hx] at hcv hrow
      have HS2 : Hid _ := hS
      have HDV : Hid _ := hdv
      have HDA : Hid _ := hda
      have HCL : Hid _ := hcl
      have HCV : Hid _ := hcv
      have HROW : Hid _ := hrow
      have HVER : Hid _ := hver
      have HRI : Hid _ := hrise
      have HIR : Hid _ := hIr
      have HOR : Hid _ := hOr
      have z0 := hS.c0 _ hIr
      have z1 := hS.ck _ hIr
      have z2 := hcl _ hIr
      have ltr := hS.sz _ hIr
      have hwL : IntKind.i64.wrap ((L : Int) + 1) = ((L + 1 : Nat) : Int) := by rw [IntKind.wrap_i64]; omega
      have hA : ∀ w : World, (Op.stringOp .add ⟨#[47]⟩ ⟨K.toArray⟩).run Tryz.prog w = .ok (.string ⟨(47 :: K).toArray⟩) w := addL2 [47] K (by simp; omega)
      have HLT : Hid _ := lns_top (l := l) (m := L + 1) (fun v hv => by have := (hver v hv).2.1; omega)
      clear hS hdv hda hcl hcv hrow hver hrise hIr hOr
      go_wp2_with fail
      go_loopw [8, 9, 10, 11, 12, 13] (fun ln nv _ _ _ _ wm => ∃ m : Nat, m ≤ L + 1 ∧ nv = .int .i64 m ∧ ln = .string ⟨(lnsF l m).toArray⟩ ∧ I wm ∧ Off (fun k => w.heap.size ≤ k) w wm) (fun _ nv _ _ _ _ _ => (intOf nv).toNat)
      case atStart => exact ⟨L + 1, Nat.le_refl _, rfl, by rw [HLT.out], HIR.out, HOR.out⟩
      case round =>
        obtain ⟨m, hm, rfl, rfl, hIm, hOm⟩ := hrel
        have HIM : Hid _ := hIm
        have HOM : Hid _ := hOm
        have y0 := HS2.out.c0 _ hIm
        have y1 := HS2.out.ck _ hIm
        have ltm := HS2.out.sz _ hIm
        clear hIm hOm z0 z1 z2 ltr HIR HOR
        cases m with
        | zero =>
          have hl0 := lns_0 (l := l) (fun v hv => (HVER.out v hv).1)
          have hfl := lns_len (l := l) (fun v hv => by have := HVER.out v hv; omega) hlen 0
          rw [hl0] at hfl ⊢
          have hda2 := HDA.out
          obtain ⟨G, hdG, hGc⟩ := HS.out.dc i hi5
          rw [hK] at hdG
          have hcu := HS2.out.curr
          have hB1 : ∀ w : World, (Op.stringOp .add ⟨(47 :: K).toArray⟩ ⟨#[63, 118, 101, 114, 115, 105, 111, 110, 115]⟩).run Tryz.prog w = .ok (.string ⟨(47 :: (K ++ [63] ++ versW)).toArray⟩) w := by
            have := addL2 (47 :: K) [63, 118, 101, 114, 115, 105, 111, 110, 115] (by simp; omega)
            rw [show 47 :: K ++ [63, 118, 101, 114, 115, 105, 111, 110, 115] = 47 :: (K ++ [63] ++ versW) by simp [versW]] at this
            exact this
          have HQ1 : Hid (∀ y, Calls Tryz.prog 16 #[.string ⟨#[71, 69, 84]⟩, .string ⟨(47 :: (K ++ [63] ++ versW)).toArray⟩, .string ⟨#[]⟩, .string ⟨#[]⟩] y fun e w' => e = .returned (.string ⟨(reqB [71, 69, 84] (47 :: (K ++ [63] ++ versW)) [] []).toArray⟩) ∧ w' = y) :=
            fun y => request_any [71, 69, 84] (47 :: (K ++ [63] ++ versW)) [] [] y (by decide) (by simp [versW]; omega) (by decide) (by decide)
          have HQ2 : Hid (∀ y, Calls Tryz.prog 16 #[.string ⟨#[71, 69, 84]⟩, .string ⟨(47 :: K).toArray⟩, .string ⟨#[]⟩, .string ⟨#[]⟩] y fun e w' => e = .returned (.string ⟨(reqB [71, 69, 84] (47 :: K) [] []).toArray⟩) ∧ w' = y) :=
            fun y => request_any [71, 69, 84] (47 :: K) [] [] y (by decide) (by simp; omega) (by decide) (by decide)
          have HZ : Hid ((l = [] ∧ l.reverse.flatMap lineF2 = []) ∨ (l ≠ [] ∧ l.reverse.flatMap lineF2 ≠ [])) := by
            cases hc : l.reverse with
            | nil => left; exact ⟨by simpa using hc, by simp⟩
            | cons a r =>
              right
              refine ⟨fun e => by rw [e] at hc; simp at hc, ?_⟩
              simp [lineF2]
          obtain ⟨Z, hZ⟩ : ∃ x, l.reverse.flatMap lineF2 = x := ⟨_, rfl⟩
          rw [hZ] at hfl hda2 HZ ⊢
          obtain ⟨R1, hR1⟩ : ∃ R, reqB [71, 69, 84] (47 :: (K ++ [63] ++ versW)) [] [] = R := ⟨_, rfl⟩
          obtain ⟨R2, hR2⟩ : ∃ R, reqB [71, 69, 84] (47 :: K) [] [] = R := ⟨_, rfl⟩
          rw [hR1] at hda2 HQ1
          rw [hR2] at hdG HQ2
          obtain ⟨U2, hU2⟩ : ∃ x, 47 :: (K ++ [63] ++ versW) = x := ⟨_, rfl⟩
          obtain ⟨U1, hU1⟩ : ∃ x, 47 :: K = x := ⟨_, rfl⟩
          rw [hU2] at hB1 HQ1
          rw [hU1] at hB1 hA HQ2
          have HDG : Hid _ := hdG
          have HDA2 : Hid _ := hda2
          have HCU : Hid _ := hcu
          have HGC : Hid _ := hGc
          have hZ2 : ∀ w : World, (Op.stringOp .add ⟨#[50, 48, 48, 13, 10, 13, 10]⟩ ⟨Z.toArray⟩).run Tryz.prog w = .ok (.string ⟨([50, 48, 48, 13, 10, 13, 10] ++ Z).toArray⟩) w := addL2 [50, 48, 48, 13, 10, 13, 10] Z (by simp; omega)
          obtain ⟨TT, hTT⟩ : ∃ x, (if l = [] then [52, 48, 52, 13, 10, 13, 10] else [50, 48, 48, 13, 10, 13, 10] ++ Z : List UInt8) = x := ⟨_, rfl⟩
          rw [hTT] at HDA2
          have HTT : Hid ((Z = [] ∧ TT = [52, 48, 52, 13, 10, 13, 10]) ∨ (Z ≠ [] ∧ TT = [50, 48, 48, 13, 10, 13, 10] ++ Z)) := by
            rcases HZ.out with ⟨h1, h2⟩ | ⟨h1, h2⟩
            · rw [if_pos h1] at hTT; exact Or.inl ⟨h2, hTT.symm⟩
            · rw [if_neg h1] at hTT; exact Or.inr ⟨h2, hTT.symm⟩
          clear hda2 hdG hcu hGc hl0 hZ hR1 hR2 hU1 hU2 hTT HZ
          have s5 : wr.cell? ⟨b, 0, none⟩ = some (.pointer (some ⟨s, 0, none⟩)) ∧ wr.cell? ⟨b, 1 + i * 3, none⟩ = some (.string ⟨K.toArray⟩) := ⟨y0, y1⟩
          go_wp2_with fail
          go_region_held3 (fun y => y.cell? ⟨b, 0, none⟩ = some (.pointer (some ⟨s, 0, none⟩)) ∧ y.cell? ⟨b, 1 + i * 3, none⟩ = some (.string ⟨K.toArray⟩)) (first | assumption | go_keep) (first
            | (go_at_call 16
               refine Calls.mono (HQ1.out _) ?_
               rintro e w2 ⟨rfl, rfl⟩)
            | (go_at_call 15
               refine Calls.mono (HS2.out.asks _ _ HDA2.out _ (HS2.out.drw HIM.out)) ?_
               rintro e w3 ⟨rfl, i3, o3, k3⟩
               have s3 : w3.cell? ⟨b, 0, none⟩ = some (.pointer (some ⟨s, 0, none⟩)) ∧ w3.cell? ⟨b, 1 + i * 3, none⟩ = some (.string ⟨K.toArray⟩) := ⟨HS2.out.c0 _ i3, HS2.out.ck _ i3⟩))
          have HI3 : Hid (I w3) := i3
          have HO3 : Hid (Off (fun k => w.heap.size ≤ k) w w3) := (HOM.out.trans (Off.of_below (Below.refl _ _).drew)).trans o3
          clear i3 o3 k3 s5 HIM HOM HQ1 HDA2 hB1
          rcases HGC.out with ⟨hcn, hG4⟩ | ⟨u, hcs, hG2, hGb, hGv⟩
          · have HCU2 : Hid (∀ y, I y → Calls Tryz.prog 19 #[.pointer (some ⟨b, 1 + i * 3, none⟩)] y fun e w' => e = .returned (.tuple #[.agg #[.int .i64 0, .int .i64 0, .bool false, .string ⟨#[]⟩, .string ⟨#[]⟩], .bool false]) ∧ Below y.heap.size y w') := by
              have := HCU.out
              rw [hcn] at this
              exact this
            have HG4 : Hid _ := hG4
            clear hG4 HGC hcn HCU
            rcases HTT.out with ⟨rfl, rfl⟩ | ⟨hZ0, rfl⟩
            · as_aux_lemma =>
                clear HTT
                go_wp2_with (go_at_call 19; refine Calls.mono (HCU2.out _ HI3.out) ?_; rintro e w4 ⟨rfl, b4⟩)
                obtain ⟨vb, hvb⟩ : ∃ x, w4.heap.size = x := ⟨_, rfl⟩
                obtain ⟨X, hX⟩ : ∃ X, X = w4.alloc (.cells #[.int .i64 0, .int .i64 0, .bool false, .string ⟨#[]⟩, .string ⟨#[]⟩] 56) := ⟨_, rfl⟩
                rw [← hX, hvb]
                have hbX : Below w3.heap.size w3 X := by rw [hX]; exact b4.alloc b4.size _
                have HIX : Hid (I X) := HS2.out.bel _ _ HI3.out hbX
                have HVX : Hid (X.heap[vb]? = some (.cells #[.int .i64 0, .int .i64 0, .bool false, .string ⟨#[]⟩, .string ⟨#[]⟩] 56 (0, 0))) := by
                  show _ = _
                  rw [hX, ← hvb]
                  exact heap_alloc_new _ _
                have HOX : Hid (Off (fun k => w.heap.size ≤ k) w X) := HO3.out.trans (Off.of_below hbX)
                have lvX : vb < X.heap.size := (Array.getElem?_eq_some_iff.1 HVX.out).1
                have ltX := HS2.out.sz _ HIX.out
                clear hX hbX hvb b4 HI3 HO3 s3
                have sX : X.cell? ⟨b, 0, none⟩ = some (.pointer (some ⟨s, 0, none⟩)) ∧ X.cell? ⟨b, 1 + i * 3, none⟩ = some (.string ⟨K.toArray⟩) := ⟨HS2.out.c0 _ HIX.out, HS2.out.ck _ HIX.out⟩
                go_region_held3 (fun y => y.cell? ⟨b, 0, none⟩ = some (.pointer (some ⟨s, 0, none⟩)) ∧ y.cell? ⟨b, 1 + i * 3, none⟩ = some (.string ⟨K.toArray⟩)) (first | assumption | go_keep) (first
                  | (go_at_call 16
                     refine Calls.mono (HQ2.out _) ?_
                     rintro e w2 ⟨rfl, rfl⟩)
                  | (go_at_call 15
                     refine Calls.mono (HS2.out.asks _ _ HDG.out _ (HS2.out.drw HIX.out)) ?_
                     rintro e w6 ⟨rfl, i6, o6, k6⟩
                     have v6 := k6 _ _ _ HVX.out
                     have s6 : w6.cell? ⟨b, 0, none⟩ = some (.pointer (some ⟨s, 0, none⟩)) ∧ w6.cell? ⟨b, 1 + i * 3, none⟩ = some (.string ⟨K.toArray⟩) := ⟨HS2.out.c0 _ i6, HS2.out.ck _ i6⟩))
                have HI6 : Hid (I w6) := i6
                have HV6 : Hid _ := v6
                have HO6 : Hid (Off (fun k => w.heap.size ≤ k) w w6) := (HOX.out.trans (Off.of_below (Below.refl _ _).drew)).trans o6
                have q6 := five_cells v6
                clear i6 v6 o6 k6 s6 sX HIX HVX HOX lvX ltX
                go_wp2_with fail
                refine wp_region_held_drew (S := (fun _ => True)) (by kernel_rfl) trivial (fun hHeld => ?_)
                refine wpAnyH_take (i := 0) (v := ?_) rfl (by kernel_rfl) (by kernel_rfl) (by kernel_rfl) (fun _ _ _ h => h) (Or.inl ⟨by rfl, ?_⟩) hHeld ?_
                rotate_left
                · intro y hSw
                  go_simp
                  try with_reducible rfl
                try simp only [Act.put, List.setIfInBounds_toArray, List.set_cons_zero, List.set_cons_succ]
                refine wpAnyH_take (i := 1) (v := ?_) rfl (by kernel_rfl) (by kernel_rfl) (by kernel_rfl) (fun _ _ _ h => h) (Or.inl ⟨by rfl, ?_⟩) hHeld ?_
                rotate_left
                · intro y hSw
                  go_simp
                  try with_reducible rfl
                try simp only [Act.put, List.setIfInBounds_toArray, List.set_cons_zero, List.set_cons_succ]
                refine wpAnyH_ready (rs := [2]) (by kernel_rfl) (by simp) ?_
                refine AllReadyH.cons rfl (fun K' hK' => ?_) AllReadyH.nil
                go_simp
                refine Calls.mono (HG4.out _) ?_
                rintro e w7 ⟨rfl, rfl⟩
                try go_wp2_with fail
                refine hK'.out _ _ trivial (fun _ => ?_)
                clear hK' K'
                try simp only [Act.put, List.setIfInBounds_toArray, List.set_cons_zero, List.set_cons_succ]
                refine wpAnyH_take (i := 3) (v := ?_) rfl (by kernel_rfl) (by kernel_rfl) (by kernel_rfl) (fun _ _ _ h => h) (Or.inl ⟨by rfl, ?_⟩) hHeld ?_
                rotate_left
                · intro y hSw
                  go_simp
                  try with_reducible rfl
                try simp only [Act.put, List.setIfInBounds_toArray, List.set_cons_zero, List.set_cons_succ]
                refine wpAnyH_take (i := 4) (v := ?_) rfl (by kernel_rfl) (by kernel_rfl) (by kernel_rfl) (fun _ _ _ h => h) (Or.inl ⟨by rfl, ?_⟩) hHeld ?_
                rotate_left
                · intro y hSw
                  go_simp
                  try with_reducible rfl
                try simp only [Act.put, List.setIfInBounds_toArray, List.set_cons_zero, List.set_cons_succ]
                refine wpAnyH_take (i := 5) (v := ?_) rfl (by kernel_rfl) (by kernel_rfl) (by kernel_rfl) (fun _ _ _ h => h) (Or.inl ⟨by rfl, ?_⟩) hHeld ?_
                rotate_left
                · intro y hSw
                  go_simp
                  try with_reducible rfl
                try simp only [Act.put, List.setIfInBounds_toArray, List.set_cons_zero, List.set_cons_succ]
                refine wpAnyH_take (i := 6) (v := ?_) rfl (by kernel_rfl) (by kernel_rfl) (by kernel_rfl) (fun _ _ _ h => h) (Or.inl ⟨by rfl, ?_⟩) hHeld ?_
                rotate_left
                · intro y hSw
                  go_simp
                  try with_reducible rfl
                try simp only [Act.put, List.setIfInBounds_toArray, List.set_cons_zero, List.set_cons_succ]
                refine wpAnyH_take (i := 7) (v := ?_) rfl (by kernel_rfl) (by kernel_rfl) (by kernel_rfl) (fun _ _ _ h => h) (Or.inl ⟨by rfl, ?_⟩) hHeld ?_
                rotate_left
                · intro y hSw
                  go_simp
                  try with_reducible rfl
                try simp only [Act.put, List.setIfInBounds_toArray, List.set_cons_zero, List.set_cons_succ]
                refine wpAnyH_take (i := 8) (v := undef) rfl (by kernel_rfl) (by kernel_rfl) (by kernel_rfl) (fun _ _ _ h => h) (Or.inr ⟨by kernel_rfl, rfl⟩) hHeld ?_
                try simp only [Act.put, List.setIfInBounds_toArray, List.set_cons_zero, List.set_cons_succ]
                refine wpAnyH_take (i := 9) (v := undef) rfl (by kernel_rfl) (by kernel_rfl) (by kernel_rfl) (fun _ _ _ h => h) (Or.inr ⟨by kernel_rfl, rfl⟩) hHeld ?_
                try simp only [Act.put, List.setIfInBounds_toArray, List.set_cons_zero, List.set_cons_succ]
                refine wpAnyH_take (i := 10) (v := undef) rfl (by kernel_rfl) (by kernel_rfl) (by kernel_rfl) (fun _ _ _ h => h) (Or.inr ⟨by kernel_rfl, rfl⟩) hHeld ?_
                try simp only [Act.put, List.setIfInBounds_toArray, List.set_cons_zero, List.set_cons_succ]
                refine wpAnyH_take (i := 11) (v := undef) rfl (by kernel_rfl) (by kernel_rfl) (by kernel_rfl) (fun _ _ _ h => h) (Or.inr ⟨by kernel_rfl, rfl⟩) hHeld ?_
                try simp only [Act.put, List.setIfInBounds_toArray, List.set_cons_zero, List.set_cons_succ]
                refine wpAnyH_take (i := 12) (v := undef) rfl (by kernel_rfl) (by kernel_rfl) (by kernel_rfl) (fun _ _ _ h => h) (Or.inr ⟨by kernel_rfl, rfl⟩) hHeld ?_
                try simp only [Act.put, List.setIfInBounds_toArray, List.set_cons_zero, List.set_cons_succ]
                refine wpAnyH_take (i := 13) (v := undef) rfl (by kernel_rfl) (by kernel_rfl) (by kernel_rfl) (fun _ _ _ h => h) (Or.inr ⟨by kernel_rfl, rfl⟩) hHeld ?_
                try simp only [Act.put, List.setIfInBounds_toArray, List.set_cons_zero, List.set_cons_succ]
                refine wpAnyH_take (i := 14) (v := undef) rfl (by kernel_rfl) (by kernel_rfl) (by kernel_rfl) (fun _ _ _ h => h) (Or.inr ⟨by kernel_rfl, rfl⟩) hHeld ?_
                try simp only [Act.put, List.setIfInBounds_toArray, List.set_cons_zero, List.set_cons_succ]
                refine wpAnyH_take (i := 15) (v := undef) rfl (by kernel_rfl) (by kernel_rfl) (by kernel_rfl) (fun _ _ _ h => h) (Or.inr ⟨by kernel_rfl, rfl⟩) hHeld ?_
                try simp only [Act.put, List.setIfInBounds_toArray, List.set_cons_zero, List.set_cons_succ]
                refine wpAnyH_take (i := 16) (v := undef) rfl (by kernel_rfl) (by kernel_rfl) (by kernel_rfl) (fun _ _ _ h => h) (Or.inr ⟨by kernel_rfl, rfl⟩) hHeld ?_
                try simp only [Act.put, List.setIfInBounds_toArray, List.set_cons_zero, List.set_cons_succ]
                refine wpAnyH_take (i := 17) (v := undef) rfl (by kernel_rfl) (by kernel_rfl) (by kernel_rfl) (fun _ _ _ h => h) (Or.inr ⟨by kernel_rfl, rfl⟩) hHeld ?_
                try simp only [Act.put, List.setIfInBounds_toArray, List.set_cons_zero, List.set_cons_succ]
                refine wpAnyH_take (i := 18) (v := undef) rfl (by kernel_rfl) (by kernel_rfl) (by kernel_rfl) (fun _ _ _ h => h) (Or.inr ⟨by kernel_rfl, rfl⟩) hHeld ?_
                try simp only [Act.put, List.setIfInBounds_toArray, List.set_cons_zero, List.set_cons_succ]
                refine wpAnyH_take (i := 19) (v := undef) rfl (by kernel_rfl) (by kernel_rfl) (by kernel_rfl) (fun _ _ _ h => h) (Or.inr ⟨by kernel_rfl, rfl⟩) hHeld ?_
                try simp only [Act.put, List.setIfInBounds_toArray, List.set_cons_zero, List.set_cons_succ]
                refine wpAnyH_take (i := 20) (v := undef) rfl (by kernel_rfl) (by kernel_rfl) (by kernel_rfl) (fun _ _ _ h => h) (Or.inr ⟨by kernel_rfl, rfl⟩) hHeld ?_
                try simp only [Act.put, List.setIfInBounds_toArray, List.set_cons_zero, List.set_cons_succ]
                refine wpAnyH_ready (rs := [21]) (by kernel_rfl) (by simp) ?_
                refine AllReadyH.cons rfl (fun K' hK' => ?_) AllReadyH.nil
                go_simp
                refine hK'.out _ _ trivial (fun _ => ?_)
                clear hK' K'
                try simp only [Act.put, List.setIfInBounds_toArray, List.set_cons_zero, List.set_cons_succ]
                refine wpAnyH_ready (rs := [22]) (by kernel_rfl) (by simp) ?_
                refine AllReadyH.cons rfl (fun K' hK' => ?_) AllReadyH.nil
                go_simp
                refine hK'.out _ _ trivial (fun _ => ?_)
                clear hK' K'
                try simp only [Act.put, List.setIfInBounds_toArray, List.set_cons_zero, List.set_cons_succ]
                refine wpAnyH_done (by kernel_rfl) ?_ _
                have HO7 : Hid _ := HO6.out.trans (Off.of_below (Below.refl _ _).drew)
                have HI7 : Hid _ := HS2.out.drw HI6.out
                clear HI6 HV6 HO6 q6
                go_wp2_with fail
                exact ⟨⟨i + 1, by omega, by go_num, HI7.out, HO7.out⟩, by simp [intOf]; omega⟩
            · as_aux_lemma =>
                have hZ1 : (Z == []) = false := by simpa using hZ0
                obtain ⟨TZ, hTZ⟩ : ∃ x, [50, 48, 48, 13, 10, 13, 10] ++ Z = x := ⟨_, rfl⟩
                rw [hTZ] at hZ2 ⊢
                clear hTZ
                clear HTT
                go_wp2_with (go_at_call 19; refine Calls.mono (HCU2.out _ HI3.out) ?_; rintro e w4 ⟨rfl, b4⟩)
                obtain ⟨vb, hvb⟩ : ∃ x, w4.heap.size = x := ⟨_, rfl⟩
                obtain ⟨X, hX⟩ : ∃ X, X = w4.alloc (.cells #[.int .i64 0, .int .i64 0, .bool false, .string ⟨#[]⟩, .string ⟨#[]⟩] 56) := ⟨_, rfl⟩
                rw [← hX, hvb]
                have hbX : Below w3.heap.size w3 X := by rw [hX]; exact b4.alloc b4.size _
                have HIX : Hid (I X) := HS2.out.bel _ _ HI3.out hbX
                have HVX : Hid (X.heap[vb]? = some (.cells #[.int .i64 0, .int .i64 0, .bool false, .string ⟨#[]⟩, .string ⟨#[]⟩] 56 (0, 0))) := by
                  show _ = _
                  rw [hX, ← hvb]
                  exact heap_alloc_new _ _
                have HOX : Hid (Off (fun k => w.heap.size ≤ k) w X) := HO3.out.trans (Off.of_below hbX)
                have lvX : vb < X.heap.size := (Array.getElem?_eq_some_iff.1 HVX.out).1
                have ltX := HS2.out.sz _ HIX.out
                clear hX hbX hvb b4 HI3 HO3 s3
                have sX : X.cell? ⟨b, 0, none⟩ = some (.pointer (some ⟨s, 0, none⟩)) ∧ X.cell? ⟨b, 1 + i * 3, none⟩ = some (.string ⟨K.toArray⟩) := ⟨HS2.out.c0 _ HIX.out, HS2.out.ck _ HIX.out⟩
                go_region_held3 (fun y => y.cell? ⟨b, 0, none⟩ = some (.pointer (some ⟨s, 0, none⟩)) ∧ y.cell? ⟨b, 1 + i * 3, none⟩ = some (.string ⟨K.toArray⟩)) (first | assumption | go_keep) (first
                  | (go_at_call 16
                     refine Calls.mono (HQ2.out _) ?_
                     rintro e w2 ⟨rfl, rfl⟩)
                  | (go_at_call 15
                     refine Calls.mono (HS2.out.asks _ _ HDG.out _ (HS2.out.drw HIX.out)) ?_
                     rintro e w6 ⟨rfl, i6, o6, k6⟩
                     have v6 := k6 _ _ _ HVX.out
                     have s6 : w6.cell? ⟨b, 0, none⟩ = some (.pointer (some ⟨s, 0, none⟩)) ∧ w6.cell? ⟨b, 1 + i * 3, none⟩ = some (.string ⟨K.toArray⟩) := ⟨HS2.out.c0 _ i6, HS2.out.ck _ i6⟩))
                have HI6 : Hid (I w6) := i6
                have HV6 : Hid _ := v6
                have HO6 : Hid (Off (fun k => w.heap.size ≤ k) w w6) := (HOX.out.trans (Off.of_below (Below.refl _ _).drew)).trans o6
                have q6 := five_cells v6
                clear i6 v6 o6 k6 s6 sX HIX HVX HOX lvX ltX
                go_wp2_with fail
                refine wp_region_held_drew (S := (fun _ => True)) (by kernel_rfl) trivial (fun hHeld => ?_)
                refine wpAnyH_take (i := 0) (v := ?_) rfl (by kernel_rfl) (by kernel_rfl) (by kernel_rfl) (fun _ _ _ h => h) (Or.inl ⟨by rfl, ?_⟩) hHeld ?_
                rotate_left
                · intro y hSw
                  go_simp
                  try with_reducible rfl
                try simp only [Act.put, List.setIfInBounds_toArray, List.set_cons_zero, List.set_cons_succ]
                refine wpAnyH_take (i := 1) (v := ?_) rfl (by kernel_rfl) (by kernel_rfl) (by kernel_rfl) (fun _ _ _ h => h) (Or.inl ⟨by rfl, ?_⟩) hHeld ?_
                rotate_left
                · intro y hSw
                  go_simp
                  try with_reducible rfl
                try simp only [Act.put, List.setIfInBounds_toArray, List.set_cons_zero, List.set_cons_succ]
                refine wpAnyH_ready (rs := [2]) (by kernel_rfl) (by simp) ?_
                refine AllReadyH.cons rfl (fun K' hK' => ?_) AllReadyH.nil
                go_simp
                refine Calls.mono (HG4.out _) ?_
                rintro e w7 ⟨rfl, rfl⟩
                try go_wp2_with fail
                refine hK'.out _ _ trivial (fun _ => ?_)
                clear hK' K'
                try simp only [Act.put, List.setIfInBounds_toArray, List.set_cons_zero, List.set_cons_succ]
                refine wpAnyH_take (i := 3) (v := ?_) rfl (by kernel_rfl) (by kernel_rfl) (by kernel_rfl) (fun _ _ _ h => h) (Or.inl ⟨by rfl, ?_⟩) hHeld ?_
                rotate_left
                · intro y hSw
                  go_simp
                  try with_reducible rfl
                try simp only [Act.put, List.setIfInBounds_toArray, List.set_cons_zero, List.set_cons_succ]
                refine wpAnyH_take (i := 4) (v := ?_) rfl (by kernel_rfl) (by kernel_rfl) (by kernel_rfl) (fun _ _ _ h => h) (Or.inl ⟨by rfl, ?_⟩) hHeld ?_
                rotate_left
                · intro y hSw
                  go_simp
                  try with_reducible rfl
                try simp only [Act.put, List.setIfInBounds_toArray, List.set_cons_zero, List.set_cons_succ]
                refine wpAnyH_take (i := 5) (v := ?_) rfl (by kernel_rfl) (by kernel_rfl) (by kernel_rfl) (fun _ _ _ h => h) (Or.inl ⟨by rfl, ?_⟩) hHeld ?_
                rotate_left
                · intro y hSw
                  go_simp
                  try with_reducible rfl
                try simp only [Act.put, List.setIfInBounds_toArray, List.set_cons_zero, List.set_cons_succ]
                refine wpAnyH_take (i := 6) (v := ?_) rfl (by kernel_rfl) (by kernel_rfl) (by kernel_rfl) (fun _ _ _ h => h) (Or.inl ⟨by rfl, ?_⟩) hHeld ?_
                rotate_left
                · intro y hSw
                  go_simp
                  try with_reducible rfl
                try simp only [Act.put, List.setIfInBounds_toArray, List.set_cons_zero, List.set_cons_succ]
                refine wpAnyH_take (i := 7) (v := ?_) rfl (by kernel_rfl) (by kernel_rfl) (by kernel_rfl) (fun _ _ _ h => h) (Or.inl ⟨by rfl, ?_⟩) hHeld ?_
                rotate_left
                · intro y hSw
                  go_simp
                  try with_reducible rfl
                try simp only [Act.put, List.setIfInBounds_toArray, List.set_cons_zero, List.set_cons_succ]
                refine wpAnyH_take (i := 8) (v := undef) rfl (by kernel_rfl) (by kernel_rfl) (by kernel_rfl) (fun _ _ _ h => h) (Or.inr ⟨by kernel_rfl, rfl⟩) hHeld ?_
                try simp only [Act.put, List.setIfInBounds_toArray, List.set_cons_zero, List.set_cons_succ]
                refine wpAnyH_take (i := 9) (v := undef) rfl (by kernel_rfl) (by kernel_rfl) (by kernel_rfl) (fun _ _ _ h => h) (Or.inr ⟨by kernel_rfl, rfl⟩) hHeld ?_
                try simp only [Act.put, List.setIfInBounds_toArray, List.set_cons_zero, List.set_cons_succ]
                refine wpAnyH_take (i := 10) (v := undef) rfl (by kernel_rfl) (by kernel_rfl) (by kernel_rfl) (fun _ _ _ h => h) (Or.inr ⟨by kernel_rfl, rfl⟩) hHeld ?_
                try simp only [Act.put, List.setIfInBounds_toArray, List.set_cons_zero, List.set_cons_succ]
                refine wpAnyH_take (i := 11) (v := undef) rfl (by kernel_rfl) (by kernel_rfl) (by kernel_rfl) (fun _ _ _ h => h) (Or.inr ⟨by kernel_rfl, rfl⟩) hHeld ?_
                try simp only [Act.put, List.setIfInBounds_toArray, List.set_cons_zero, List.set_cons_succ]
                refine wpAnyH_take (i := 12) (v := undef) rfl (by kernel_rfl) (by kernel_rfl) (by kernel_rfl) (fun _ _ _ h => h) (Or.inr ⟨by kernel_rfl, rfl⟩) hHeld ?_
                try simp only [Act.put, List.setIfInBounds_toArray, List.set_cons_zero, List.set_cons_succ]
                refine wpAnyH_take (i := 13) (v := undef) rfl (by kernel_rfl) (by kernel_rfl) (by kernel_rfl) (fun _ _ _ h => h) (Or.inr ⟨by kernel_rfl, rfl⟩) hHeld ?_
                try simp only [Act.put, List.setIfInBounds_toArray, List.set_cons_zero, List.set_cons_succ]
                refine wpAnyH_take (i := 14) (v := undef) rfl (by kernel_rfl) (by kernel_rfl) (by kernel_rfl) (fun _ _ _ h => h) (Or.inr ⟨by kernel_rfl, rfl⟩) hHeld ?_
                try simp only [Act.put, List.setIfInBounds_toArray, List.set_cons_zero, List.set_cons_succ]
                refine wpAnyH_take (i := 15) (v := undef) rfl (by kernel_rfl) (by kernel_rfl) (by kernel_rfl) (fun _ _ _ h => h) (Or.inr ⟨by kernel_rfl, rfl⟩) hHeld ?_
                try simp only [Act.put, List.setIfInBounds_toArray, List.set_cons_zero, List.set_cons_succ]
                refine wpAnyH_take (i := 16) (v := undef) rfl (by kernel_rfl) (by kernel_rfl) (by kernel_rfl) (fun _ _ _ h => h) (Or.inr ⟨by kernel_rfl, rfl⟩) hHeld ?_
                try simp only [Act.put, List.setIfInBounds_toArray, List.set_cons_zero, List.set_cons_succ]
                refine wpAnyH_take (i := 17) (v := undef) rfl (by kernel_rfl) (by kernel_rfl) (by kernel_rfl) (fun _ _ _ h => h) (Or.inr ⟨by kernel_rfl, rfl⟩) hHeld ?_
                try simp only [Act.put, List.setIfInBounds_toArray, List.set_cons_zero, List.set_cons_succ]
                refine wpAnyH_take (i := 18) (v := undef) rfl (by kernel_rfl) (by kernel_rfl) (by kernel_rfl) (fun _ _ _ h => h) (Or.inr ⟨by kernel_rfl, rfl⟩) hHeld ?_
                try simp only [Act.put, List.setIfInBounds_toArray, List.set_cons_zero, List.set_cons_succ]
                refine wpAnyH_take (i := 19) (v := undef) rfl (by kernel_rfl) (by kernel_rfl) (by kernel_rfl) (fun _ _ _ h => h) (Or.inr ⟨by kernel_rfl, rfl⟩) hHeld ?_
                try simp only [Act.put, List.setIfInBounds_toArray, List.set_cons_zero, List.set_cons_succ]
                refine wpAnyH_take (i := 20) (v := undef) rfl (by kernel_rfl) (by kernel_rfl) (by kernel_rfl) (fun _ _ _ h => h) (Or.inr ⟨by kernel_rfl, rfl⟩) hHeld ?_
                try simp only [Act.put, List.setIfInBounds_toArray, List.set_cons_zero, List.set_cons_succ]
                refine wpAnyH_ready (rs := [21]) (by kernel_rfl) (by simp) ?_
                refine AllReadyH.cons rfl (fun K' hK' => ?_) AllReadyH.nil
                go_simp
                refine hK'.out _ _ trivial (fun _ => ?_)
                clear hK' K'
                try simp only [Act.put, List.setIfInBounds_toArray, List.set_cons_zero, List.set_cons_succ]
                refine wpAnyH_ready (rs := [22]) (by kernel_rfl) (by simp) ?_
                refine AllReadyH.cons rfl (fun K' hK' => ?_) AllReadyH.nil
                go_simp
                refine hK'.out _ _ trivial (fun _ => ?_)
                clear hK' K'
                try simp only [Act.put, List.setIfInBounds_toArray, List.set_cons_zero, List.set_cons_succ]
                refine wpAnyH_done (by kernel_rfl) ?_ _
                have HO7 : Hid _ := HO6.out.trans (Off.of_below (Below.refl _ _).drew)
                have HI7 : Hid _ := HS2.out.drw HI6.out
                clear HI6 HV6 HO6 q6
                go_wp2_with fail
                exact ⟨⟨i + 1, by omega, by go_num, HI7.out, HO7.out⟩, by simp [intOf]; omega⟩
          · have hum := (curU_mem hcs).2
            have hun := HVER.out u (by have := (curU_mem hcs).1; rw [hl] at this; exact this)
            have HCU2 : Hid (∀ y, I y → Calls Tryz.prog 19 #[.pointer (some ⟨b, 1 + i * 3, none⟩)] y fun e w' => e = .returned (.tuple #[.agg #[.int .i64 u.num, .int .i64 u.time, .bool false, .string ⟨u.body.toArray⟩, .string ⟨(qTag u.body).toArray⟩], .bool true]) ∧ Below y.heap.size y w') := by
              have := HCU.out
              have e1 : bvOut (some u) = .agg #[.int .i64 u.num, .int .i64 u.time, .bool false, .string ⟨u.body.toArray⟩, .string ⟨(qTag u.body).toArray⟩] := by
                show bvAgg u = _
                unfold bvAgg tagK
                rw [hum]
                rfl
              rw [hcs, e1] at this
              exact this
            have HIU : Hid (∀ y, I y → Calls Tryz.prog 17 #[.int .i64 u.num] y fun e w' => e = .returned (.string ⟨(Lib.decDigits u.num).toArray⟩) ∧ Below y.heap.size y w') := HS.out.itoa u.num (by omega)
            obtain ⟨un, hun1⟩ : ∃ x, u.num = x := ⟨_, rfl⟩
            obtain ⟨ut, hut⟩ : ∃ x, u.time = x := ⟨_, rfl⟩
            obtain ⟨ub, hub⟩ : ∃ x, u.body = x := ⟨_, rfl⟩
            rw [hun1] at HIU HCU2 hGv
            rw [hut, hub] at HCU2
            rw [hub] at hGb
            obtain ⟨ug, hug⟩ : ∃ x, qTag ub = x := ⟨_, rfl⟩
            obtain ⟨Du, hDu⟩ : ∃ x, Lib.decDigits un = x := ⟨_, rfl⟩
            rw [hug] at HCU2
            rw [hDu] at HIU hGv
            have HG2 : Hid _ := hG2
            have HGB : Hid _ := hGb
            have HGV : Hid _ := hGv
            clear hG2 hGb hGv HGC hcs HCU hum hun hun1 hut hub hug hDu
            rcases HTT.out with ⟨rfl, rfl⟩ | ⟨hZ0, rfl⟩
            · as_aux_lemma =>
                clear HTT
                go_wp2_with (go_at_call 19; refine Calls.mono (HCU2.out _ HI3.out) ?_; rintro e w4 ⟨rfl, b4⟩)
                obtain ⟨vb, hvb⟩ : ∃ x, w4.heap.size = x := ⟨_, rfl⟩
                obtain ⟨X, hX⟩ : ∃ X, X = w4.alloc (.cells #[.int .i64 un, .int .i64 ut, .bool false, .string ⟨ub.toArray⟩, .string ⟨ug.toArray⟩] 56) := ⟨_, rfl⟩
                rw [← hX, hvb]
                have hbX : Below w3.heap.size w3 X := by rw [hX]; exact b4.alloc b4.size _
                have HIX : Hid (I X) := HS2.out.bel _ _ HI3.out hbX
                have HVX : Hid (X.heap[vb]? = some (.cells #[.int .i64 un, .int .i64 ut, .bool false, .string ⟨ub.toArray⟩, .string ⟨ug.toArray⟩] 56 (0, 0))) := by
                  show _ = _
                  rw [hX, ← hvb]
                  exact heap_alloc_new _ _
                have HOX : Hid (Off (fun k => w.heap.size ≤ k) w X) := HO3.out.trans (Off.of_below hbX)
                have lvX : vb < X.heap.size := (Array.getElem?_eq_some_iff.1 HVX.out).1
                have ltX := HS2.out.sz _ HIX.out
                clear hX hbX hvb b4 HI3 HO3 s3
                have sX : X.cell? ⟨b, 0, none⟩ = some (.pointer (some ⟨s, 0, none⟩)) ∧ X.cell? ⟨b, 1 + i * 3, none⟩ = some (.string ⟨K.toArray⟩) := ⟨HS2.out.c0 _ HIX.out, HS2.out.ck _ HIX.out⟩
                go_region_held3 (fun y => y.cell? ⟨b, 0, none⟩ = some (.pointer (some ⟨s, 0, none⟩)) ∧ y.cell? ⟨b, 1 + i * 3, none⟩ = some (.string ⟨K.toArray⟩)) (first | assumption | go_keep) (first
                  | (go_at_call 16
                     refine Calls.mono (HQ2.out _) ?_
                     rintro e w2 ⟨rfl, rfl⟩)
                  | (go_at_call 15
                     refine Calls.mono (HS2.out.asks _ _ HDG.out _ (HS2.out.drw HIX.out)) ?_
                     rintro e w6 ⟨rfl, i6, o6, k6⟩
                     have v6 := k6 _ _ _ HVX.out
                     have s6 : w6.cell? ⟨b, 0, none⟩ = some (.pointer (some ⟨s, 0, none⟩)) ∧ w6.cell? ⟨b, 1 + i * 3, none⟩ = some (.string ⟨K.toArray⟩) := ⟨HS2.out.c0 _ i6, HS2.out.ck _ i6⟩))
                have HI6 : Hid (I w6) := i6
                have HV6 : Hid _ := v6
                have HO6 : Hid (Off (fun k => w.heap.size ≤ k) w w6) := (HOX.out.trans (Off.of_below (Below.refl _ _).drew)).trans o6
                have q6 := five_cells v6
                clear i6 v6 o6 k6 s6 sX HIX HVX HOX lvX ltX
                go_wp2_with fail
                go_region_held3 (fun y => y.cell? ⟨vb, 0, none⟩ = some (.int .i64 un) ∧ y.cell? ⟨vb, 3, none⟩ = some (.string ⟨ub.toArray⟩)) (first | assumption | go_keep) (first
                  | (go_at_call 20
                     refine Calls.mono (HG2.out _) ?_
                     rintro e w7 ⟨rfl, rfl⟩)
                  | (go_at_call 21
                     refine Calls.mono (HGB.out _) ?_
                     rintro e w8 ⟨rfl, rfl⟩)
                  | (go_at_call 22
                     refine Calls.mono (HGV.out _) ?_
                     rintro e w9 ⟨rfl, rfl⟩)
                  | (go_at_call 17
                     refine Calls.mono (HIU.out _ (HS2.out.drw HI6.out)) ?_
                     rintro e wz ⟨rfl, bz⟩
                     have iz := HS2.out.bel _ _ (HS2.out.drw HI6.out) bz
                     have vz := (bz.block vb (Array.getElem?_eq_some_iff.1 HV6.out).1).trans HV6.out
                     have sz : wz.cell? ⟨vb, 0, none⟩ = some (.int .i64 un) ∧ wz.cell? ⟨vb, 3, none⟩ = some (.string ⟨ub.toArray⟩) := ⟨(five_cells vz).1, (five_cells vz).2.2.2.1⟩))
                have HIZ : Hid (I wz) := iz
                have HOZ : Hid (Off (fun k => w.heap.size ≤ k) w wz) := (HO6.out.trans (Off.of_below (Below.refl _ _).drew)).trans (Off.of_below bz)
                clear iz vz sz bz HI6 HV6 HO6 q6
                go_wp2_with fail
                exact ⟨⟨i + 1, by omega, by go_num, HIZ.out, HOZ.out⟩, by simp [intOf]; omega⟩
            · as_aux_lemma =>
                have hZ1 : (Z == []) = false := by simpa using hZ0
                obtain ⟨TZ, hTZ⟩ : ∃ x, [50, 48, 48, 13, 10, 13, 10] ++ Z = x := ⟨_, rfl⟩
                rw [hTZ] at hZ2 ⊢
                clear hTZ
                clear HTT
                go_wp2_with (go_at_call 19; refine Calls.mono (HCU2.out _ HI3.out) ?_; rintro e w4 ⟨rfl, b4⟩)
                obtain ⟨vb, hvb⟩ : ∃ x, w4.heap.size = x := ⟨_, rfl⟩
                obtain ⟨X, hX⟩ : ∃ X, X = w4.alloc (.cells #[.int .i64 un, .int .i64 ut, .bool false, .string ⟨ub.toArray⟩, .string ⟨ug.toArray⟩] 56) := ⟨_, rfl⟩
                rw [← hX, hvb]
                have hbX : Below w3.heap.size w3 X := by rw [hX]; exact b4.alloc b4.size _
                have HIX : Hid (I X) := HS2.out.bel _ _ HI3.out hbX
                have HVX : Hid (X.heap[vb]? = some (.cells #[.int .i64 un, .int .i64 ut, .bool false, .string ⟨ub.toArray⟩, .string ⟨ug.toArray⟩] 56 (0, 0))) := by
                  show _ = _
                  rw [hX, ← hvb]
                  exact heap_alloc_new _ _
                have HOX : Hid (Off (fun k => w.heap.size ≤ k) w X) := HO3.out.trans (Off.of_below hbX)
                have lvX : vb < X.heap.size := (Array.getElem?_eq_some_iff.1 HVX.out).1
                have ltX := HS2.out.sz _ HIX.out
                clear hX hbX hvb b4 HI3 HO3 s3
                have sX : X.cell? ⟨b, 0, none⟩ = some (.pointer (some ⟨s, 0, none⟩)) ∧ X.cell? ⟨b, 1 + i * 3, none⟩ = some (.string ⟨K.toArray⟩) := ⟨HS2.out.c0 _ HIX.out, HS2.out.ck _ HIX.out⟩
                go_region_held3 (fun y => y.cell? ⟨b, 0, none⟩ = some (.pointer (some ⟨s, 0, none⟩)) ∧ y.cell? ⟨b, 1 + i * 3, none⟩ = some (.string ⟨K.toArray⟩)) (first | assumption | go_keep) (first
                  | (go_at_call 16
                     refine Calls.mono (HQ2.out _) ?_
                     rintro e w2 ⟨rfl, rfl⟩)
                  | (go_at_call 15
                     refine Calls.mono (HS2.out.asks _ _ HDG.out _ (HS2.out.drw HIX.out)) ?_
                     rintro e w6 ⟨rfl, i6, o6, k6⟩
                     have v6 := k6 _ _ _ HVX.out
                     have s6 : w6.cell? ⟨b, 0, none⟩ = some (.pointer (some ⟨s, 0, none⟩)) ∧ w6.cell? ⟨b, 1 + i * 3, none⟩ = some (.string ⟨K.toArray⟩) := ⟨HS2.out.c0 _ i6, HS2.out.ck _ i6⟩))
                have HI6 : Hid (I w6) := i6
                have HV6 : Hid _ := v6
                have HO6 : Hid (Off (fun k => w.heap.size ≤ k) w w6) := (HOX.out.trans (Off.of_below (Below.refl _ _).drew)).trans o6
                have q6 := five_cells v6
                clear i6 v6 o6 k6 s6 sX HIX HVX HOX lvX ltX
                go_wp2_with fail
                go_region_held3 (fun y => y.cell? ⟨vb, 0, none⟩ = some (.int .i64 un) ∧ y.cell? ⟨vb, 3, none⟩ = some (.string ⟨ub.toArray⟩)) (first | assumption | go_keep) (first
                  | (go_at_call 20
                     refine Calls.mono (HG2.out _) ?_
                     rintro e w7 ⟨rfl, rfl⟩)
                  | (go_at_call 21
                     refine Calls.mono (HGB.out _) ?_
                     rintro e w8 ⟨rfl, rfl⟩)
                  | (go_at_call 22
                     refine Calls.mono (HGV.out _) ?_
                     rintro e w9 ⟨rfl, rfl⟩)
                  | (go_at_call 17
                     refine Calls.mono (HIU.out _ (HS2.out.drw HI6.out)) ?_
                     rintro e wz ⟨rfl, bz⟩
                     have iz := HS2.out.bel _ _ (HS2.out.drw HI6.out) bz
                     have vz := (bz.block vb (Array.getElem?_eq_some_iff.1 HV6.out).1).trans HV6.out
                     have sz : wz.cell? ⟨vb, 0, none⟩ = some (.int .i64 un) ∧ wz.cell? ⟨vb, 3, none⟩ = some (.string ⟨ub.toArray⟩) := ⟨(five_cells vz).1, (five_cells vz).2.2.2.1⟩))
                have HIZ : Hid (I wz) := iz
                have HOZ : Hid (Off (fun k => w.heap.size ≤ k) w wz) := (HO6.out.trans (Off.of_below (Below.refl _ _).drew)).trans (Off.of_below bz)
                clear iz vz sz bz HI6 HV6 HO6 q6
                go_wp2_with fail
                exact ⟨⟨i + 1, by omega, by go_num, HIZ.out, HOZ.out⟩, by simp [intOf]; omega⟩
        | succ m' =>
          have HST : Hid _ := lns_step HRI.out m'
          have hAl := lns_len (l := l) (fun v hv => by have := HVER.out v hv; omega) hlen (m' + 1)
          obtain ⟨n, hn⟩ : ∃ n, m' + 1 = n := ⟨_, rfl⟩
          have hn1 : n ≤ L + 1 := by omega
          have hwn : IntKind.i64.wrap ((n : Int) - 1) = (m' : Int) := by rw [IntKind.wrap_i64]; omega
          have hnI : (0 : Int) < (n : Int) := by omega
          rw [hn] at HST hAl ⊢
          obtain ⟨A, hA1⟩ : ∃ A, lnsF l n = A := ⟨_, rfl⟩
          rw [hA1] at HST hAl ⊢
          have hdl := dec_len10 (n := n) (k := 9) (by omega) (by omega)
          have hdv1 := HDV.out n (by omega) (by omega)
          have HIT : Hid (∀ y, I y → Calls Tryz.prog 17 #[.int .i64 n] y fun e w' => e = .returned (.string ⟨(Lib.decDigits n).toArray⟩) ∧ Below y.heap.size y w') := HS.out.itoa n (by omega)
          obtain ⟨Dn, hDn⟩ : ∃ x, Lib.decDigits n = x := ⟨_, rfl⟩
          rw [hDn] at hdl hdv1 HIT
          obtain ⟨T, hT⟩ : ∃ T, answV (fndV l n) = T := ⟨_, rfl⟩
          rw [hT] at hdv1
          have hB1 : ∀ w : World, (Op.stringOp .add ⟨(47 :: K).toArray⟩ ⟨#[63, 118, 61]⟩).run Tryz.prog w = .ok (.string ⟨(47 :: K ++ [63, 118, 61]).toArray⟩) w := addL2 (47 :: K) [63, 118, 61] (by simp; omega)
          have hB2 : ∀ w : World, (Op.stringOp .add ⟨(47 :: K ++ [63, 118, 61]).toArray⟩ ⟨Dn.toArray⟩).run Tryz.prog w = .ok (.string ⟨(47 :: (K ++ [63] ++ ([118, 61] ++ Dn))).toArray⟩) w := by
            have := addL2 (47 :: K ++ [63, 118, 61]) Dn (by simp; omega)
            rw [show 47 :: K ++ [63, 118, 61] ++ Dn = 47 :: (K ++ [63] ++ ([118, 61] ++ Dn)) by simp] at this
            exact this
          have HQ : Hid (∀ y, Calls Tryz.prog 16 #[.string ⟨#[71, 69, 84]⟩, .string ⟨(47 :: (K ++ [63] ++ ([118, 61] ++ Dn))).toArray⟩, .string ⟨#[]⟩, .string ⟨#[]⟩] y fun e w' => e = .returned (.string ⟨(reqB [71, 69, 84] (47 :: (K ++ [63] ++ ([118, 61] ++ Dn))) [] []).toArray⟩) ∧ w' = y) :=
            fun y => request_any [71, 69, 84] (47 :: (K ++ [63] ++ ([118, 61] ++ Dn))) [] [] y (by decide) (by simp; omega) (by decide) (by decide)
          have HD : Hid _ := hdv1
          clear hdv1
          obtain ⟨R, hR⟩ : ∃ R, reqB [71, 69, 84] (47 :: (K ++ [63] ++ ([118, 61] ++ Dn))) [] [] = R := ⟨_, rfl⟩
          rw [hR] at HQ HD
          clear hR
          obtain ⟨U3, hU3⟩ : ∃ x, 47 :: (K ++ [63] ++ ([118, 61] ++ Dn)) = x := ⟨_, rfl⟩
          obtain ⟨U2, hU2⟩ : ∃ x, 47 :: K ++ [63, 118, 61] = x := ⟨_, rfl⟩
          obtain ⟨U1, hU1⟩ : ∃ x, 47 :: K = x := ⟨_, rfl⟩
          rw [hU3] at HQ hB2
          rw [hU2] at hB1 hB2
          rw [hU1] at hB1
          have hA' := hA
          rw [hU1] at hA'
          clear hU1 hU2 hU3 hA
          have s5 : wr.cell? ⟨b, 0, none⟩ = some (.pointer (some ⟨s, 0, none⟩)) ∧ wr.cell? ⟨b, 1 + i * 3, none⟩ = some (.string ⟨K.toArray⟩) := ⟨y0, y1⟩
          go_wp2_with fail
          go_region_held3 (fun y => y.cell? ⟨b, 0, none⟩ = some (.pointer (some ⟨s, 0, none⟩)) ∧ y.cell? ⟨b, 1 + i * 3, none⟩ = some (.string ⟨K.toArray⟩)) (first | assumption | go_keep) (first
            | (go_at_call 17
               refine Calls.mono (HIT.out _ (HS2.out.drw HIM.out)) ?_
               rintro e w2 ⟨rfl, b2⟩
               have i2 := HS2.out.bel _ _ (HS2.out.drw HIM.out) b2
               have s2 : w2.cell? ⟨b, 0, none⟩ = some (.pointer (some ⟨s, 0, none⟩)) ∧ w2.cell? ⟨b, 1 + i * 3, none⟩ = some (.string ⟨K.toArray⟩) := ⟨HS2.out.c0 _ i2, HS2.out.ck _ i2⟩)
            | (go_at_call 16
               refine Calls.mono (HQ.out _) ?_
               rintro e w3 ⟨rfl, rfl⟩)
            | (go_at_call 15
               refine Calls.mono (HS2.out.asks _ _ HD.out _ i2) ?_
               rintro e w4 ⟨rfl, i4, o4, k4⟩
               have s4 : w4.cell? ⟨b, 0, none⟩ = some (.pointer (some ⟨s, 0, none⟩)) ∧ w4.cell? ⟨b, 1 + i * 3, none⟩ = some (.string ⟨K.toArray⟩) := ⟨HS2.out.c0 _ i4, HS2.out.ck _ i4⟩))
          have HI4 : Hid (I w4) := i4
          have HO4 : Hid (Off (fun k => w.heap.size ≤ k) w w4) := ((HOM.out.trans (Off.of_below (Below.refl _ _).drew)).trans (Off.of_below b2)).trans o4
          have lt4 := HS2.out.sz _ i4
          have x4 := HCV.out _ i4
          clear i4 o4 k4 s4 s2 i2 b2 s5 y0 y1 ltm HQ HD hB1 hB2 hA' HIM HOM
          go_wp2_with fail
          go_loopw [8, 11, 12, 13] (fun ln wa kv _ wi => ∃ k : Nat, k ≤ l.length ∧ kv = .int .i64 k ∧ ln = .string ⟨(A ++ lineV (fndV (l.take k) n)).toArray⟩ ∧ wa = .string ⟨(wantV (fndV (l.take k) n)).toArray⟩ ∧ I wi ∧ Off (fun k => w.heap.size ≤ k) w wi) (fun _ _ kv _ _ => l.length - (intOf kv).toNat)
          case atStart => exact ⟨0, Nat.zero_le _, rfl, by simp [fndV, lineV], by simp [fndV, wantV], HI4.out, HO4.out⟩
          case round =>
            obtain ⟨k, hk, rfl, rfl, rfl, hIk, hOk⟩ := hrel
            have HIK : Hid _ := hIk
            have HOK : Hid _ := hOk
            have x2 := HCV.out _ hIk
            have ltk := HS2.out.sz _ hIk
            clear x4 lt4
            by_cases hkl : k < l.length
            · obtain ⟨v, hv⟩ : ∃ v, l[k]? = some v := ⟨_, List.getElem?_eq_getElem hkl⟩
              obtain ⟨g, cap, hvs, hnc, hmx, hg, hf, d0, d1, d2, d3, d4⟩ := brow_cells (HROW.out _ hIk) k v hv
              simp only [Value.slice.injEq] at hvs
              obtain ⟨rfl, -, rfl⟩ := hvs
              have hft := fnd_take HRI.out hv n
              have hvv := HVER.out v (List.mem_of_getElem? hv)
              have hkI : (k : Int) < (l.length : Int) := by omega
              clear hIk hOk
              by_cases hnum : v.num = n
              · obtain ⟨f0, f1⟩ := hft.1 hnum
                have hdl2 := dec_len10 (n := v.time) (k := 9) (by omega) (by omega)
                have HIT2 : Hid (∀ y, I y → Calls Tryz.prog 17 #[.int .i64 v.time] y fun e w' => e = .returned (.string ⟨(Lib.decDigits v.time).toArray⟩) ∧ Below y.heap.size y w') := HS.out.itoa v.time (by omega)
                have HSP : Hid (∀ y, I y → Calls Tryz.prog 18 #[.int .i64 v.time] y fun e w' => e = .returned (.string ⟨(stampL v.time).toArray⟩) ∧ Below y.heap.size y w') := HS2.out.stamp v.time hvv.2.2.1
                have HL2 : Hid (lineF2 v = Dn ++ [32] ++ Lib.decDigits v.time ++ [32] ++ (if v.mark then [103, 111, 110, 101] else tagK v) ++ [10]) := by
                  show _ = _
                  unfold lineF2 tagK
                  rw [hnum, hDn]
                  cases v.mark <;> rfl
                have HW2 : Hid (v.mark = false → wantV (some v) = [50, 48, 48, 13, 10, 69, 84, 97, 103, 58, 32] ++ tagK v ++ [13, 10] ++ [76, 97, 115, 116, 45, 77, 111, 100, 105, 102, 105, 101, 100, 58, 32] ++ stampL v.time ++ [13, 10] ++ [86, 101, 114, 115, 105, 111, 110, 58, 32] ++ Dn ++ [13, 10] ++ [13, 10] ++ v.body) := by
                  intro hmk
                  have h3 : Lib.decDigits 200 = [50, 48, 48] := by kernel_rfl
                  simp only [wantV, hmk, textF, verFlds, tagK, h3, hnum, hDn]
                  simp [fldText]
                have hjl := stampL_le v.time
                have htl : (tagK v).length ≤ 18 := by unfold tagK; split <;> simp [qTag_len]
                obtain ⟨vt, hvt⟩ : ∃ x, v.time = x := ⟨_, rfl⟩
                obtain ⟨vbd, hvbd⟩ : ∃ x, v.body = x := ⟨_, rfl⟩
                obtain ⟨vtg, hvtg⟩ : ∃ x, tagK v = x := ⟨_, rfl⟩
                obtain ⟨Dt, hDt⟩ : ∃ x, Lib.decDigits v.time = x := ⟨_, rfl⟩
                obtain ⟨St, hSt⟩ : ∃ x, stampL v.time = x := ⟨_, rfl⟩
                have hbl := hvv.2.2.2
                rw [hvbd] at hbl d3 HW2
                rw [hvtg] at htl d4 HL2 HW2
                rw [hDt] at hdl2 HIT2 HL2
                rw [hSt] at hjl HSP HW2
                rw [hvt] at HIT2 HSP d1
                rw [hnum] at d0
                have e0 : A ++ lineV (none : Option Ver) = A := by simp [lineV]
                rw [f0, e0, show wantV (none : Option Ver) = [] from rfl]
                have HF1 : Hid _ := f1
                have HZ1 : Hid (A ++ lineV (fndV (l.take (k + 1)) n) = A ++ lineF2 v) := by show _ = _; rw [f1]; rfl
                have HZ2 : Hid (wantV (fndV (l.take (k + 1)) n) = wantV (some v)) := by show _ = _; rw [f1]
                clear hft f0 f1 hv e0 hvt hvbd hvtg hDt hSt
                cases hmk : v.mark with
                | true =>
                  as_aux_lemma =>
                    rw [hmk] at d2 HL2
                    have HZ3 : Hid (wantV (some v) = []) := by show _ = _; simp [wantV, hmk]
                    obtain ⟨PM1, hPM1⟩ : ∃ x, A ++ Dn = x := ⟨_, rfl⟩
                    have lPM1 : PM1.length = (A : List UInt8).length + (Dn : List UInt8).length := by rw [← hPM1, List.length_append]
                    try simp only [List.length_cons, List.length_nil] at lPM1
                    have aPM1 : ∀ w : World, (Op.stringOp .add ⟨A.toArray⟩ ⟨Dn.toArray⟩).run Tryz.prog w = .ok (.string ⟨PM1.toArray⟩) w := by
                      rw [← hPM1]
                      exact addL2 A Dn (by first | omega | (simp; omega))
                    obtain ⟨PM2, hPM2⟩ : ∃ x, PM1 ++ [32] = x := ⟨_, rfl⟩
                    have lPM2 : PM2.length = (PM1 : List UInt8).length + ([32] : List UInt8).length := by rw [← hPM2, List.length_append]
                    try simp only [List.length_cons, List.length_nil] at lPM2
                    have aPM2 : ∀ w : World, (Op.stringOp .add ⟨PM1.toArray⟩ ⟨#[32]⟩).run Tryz.prog w = .ok (.string ⟨PM2.toArray⟩) w := by
                      rw [← hPM2]
                      exact addL2 PM1 [32] (by first | omega | (simp; omega))
                    obtain ⟨PM3, hPM3⟩ : ∃ x, PM2 ++ Dt = x := ⟨_, rfl⟩
                    have lPM3 : PM3.length = (PM2 : List UInt8).length + (Dt : List UInt8).length := by rw [← hPM3, List.length_append]
                    try simp only [List.length_cons, List.length_nil] at lPM3
                    have aPM3 : ∀ w : World, (Op.stringOp .add ⟨PM2.toArray⟩ ⟨Dt.toArray⟩).run Tryz.prog w = .ok (.string ⟨PM3.toArray⟩) w := by
                      rw [← hPM3]
                      exact addL2 PM2 Dt (by first | omega | (simp; omega))
                    obtain ⟨PM4, hPM4⟩ : ∃ x, PM3 ++ [32, 103, 111, 110, 101, 10] = x := ⟨_, rfl⟩
                    have lPM4 : PM4.length = (PM3 : List UInt8).length + ([32, 103, 111, 110, 101, 10] : List UInt8).length := by rw [← hPM4, List.length_append]
                    try simp only [List.length_cons, List.length_nil] at lPM4
                    have aPM4 : ∀ w : World, (Op.stringOp .add ⟨PM3.toArray⟩ ⟨#[32, 103, 111, 110, 101, 10]⟩).run Tryz.prog w = .ok (.string ⟨PM4.toArray⟩) w := by
                      rw [← hPM4]
                      exact addL2 PM3 [32, 103, 111, 110, 101, 10] (by first | omega | (simp; omega))
                    have HZM : Hid (A ++ lineF2 v = PM4) := by
                      show _ = _
                      rw [HL2.out, ← hPM4, ← hPM3, ← hPM2, ← hPM1]
                      simp
                    clear HL2 hPM1 hPM2 hPM3 hPM4 HW2
                    go_wp2_with fail
                    obtain ⟨vb, hvb⟩ : ∃ x, wr.heap.size = x := ⟨_, rfl⟩
                    obtain ⟨X, hX⟩ : ∃ X, X = wr.alloc (.cells #[.int .i64 n, .int .i64 vt, .bool true, .string ⟨vbd.toArray⟩, .string ⟨vtg.toArray⟩] 56) := ⟨_, rfl⟩
                    rw [← hX]
                    have hbX : Below wr.heap.size wr X := by rw [hX]; exact (Below.refl _ _).alloc (Nat.le_refl _) _
                    have HIX : Hid (I X) := HS2.out.bel _ _ HIK.out hbX
                    have HVX : Hid (X.heap[vb]? = some (.cells #[.int .i64 n, .int .i64 vt, .bool true, .string ⟨vbd.toArray⟩, .string ⟨vtg.toArray⟩] 56 (0, 0))) := by
                      show _ = _
                      rw [hX, ← hvb]
                      exact heap_alloc_new _ _
                    have lvX : vb < X.heap.size := (Array.getElem?_eq_some_iff.1 HVX.out).1
                    have HOX : Hid (Off (fun k => w.heap.size ≤ k) w X) := HOK.out.trans (Off.of_below hbX)
                    clear hX hbX
                    rw [hvb]
                    clear hvb
                    have sX := (five_cells HVX.out).2
                    go_region_held3 (fun y => y.cell? ⟨vb, 1, none⟩ = some (.int .i64 vt) ∧ y.cell? ⟨vb, 2, none⟩ = some (.bool true) ∧ y.cell? ⟨vb, 3, none⟩ = some (.string ⟨vbd.toArray⟩) ∧ y.cell? ⟨vb, 4, none⟩ = some (.string ⟨vtg.toArray⟩)) (first | assumption | go_keep) (first
                      | (go_at_call_of 17 (Value.int IntKind.i64 n)
                         refine Calls.mono (HIT.out _ (HS2.out.drw HIX.out)) ?_
                         rintro e w5 ⟨rfl, b5⟩
                         have i5 := HS2.out.bel _ _ (HS2.out.drw HIX.out) b5
                         have v5 := (b5.block vb lvX).trans HVX.out
                         have s5 := (five_cells v5).2)
                      | (go_at_call_of 17 (Value.int IntKind.i64 vt)
                         refine Calls.mono (HIT2.out _ i5) ?_
                         rintro e w6 ⟨rfl, b6⟩
                         have i6 := HS2.out.bel _ _ i5 b6
                         have v6 := (b6.block vb (Array.getElem?_eq_some_iff.1 v5).1).trans v5
                         have s6 := (five_cells v6).2))
                    have q6 := five_cells v6
                    have HO6 : Hid (Off (fun k => w.heap.size ≤ k) w w6) := ((HOX.out.trans (Off.of_below (Below.refl _ _).drew)).trans (Off.of_below b5)).trans (Off.of_below b6)
                    have HI6 : Hid (I w6) := i6
                    clear i6 v6 s6 b6 i5 v5 s5 b5 sX HIX HVX HOX lvX
                    go_wp2_with fail
                    exact ⟨⟨k + 1, by omega, by go_num, by rw [HZ1.out, HZM.out], by rw [HZ2.out, HZ3.out], HI6.out, HO6.out⟩, by simp [intOf]; omega⟩
                | false =>
                  as_aux_lemma =>
                    rw [hmk] at d2 HL2
                    have hW3 := HW2.out hmk
                    obtain ⟨PW1, hPW1⟩ : ∃ x, [50, 48, 48, 13, 10, 69, 84, 97, 103, 58, 32] ++ vtg = x := ⟨_, rfl⟩
                    have lPW1 : PW1.length = ([50, 48, 48, 13, 10, 69, 84, 97, 103, 58, 32] : List UInt8).length + (vtg : List UInt8).length := by rw [← hPW1, List.length_append]
                    try simp only [List.length_cons, List.length_nil] at lPW1
                    have aPW1 : ∀ w : World, (Op.stringOp .add ⟨#[50, 48, 48, 13, 10, 69, 84, 97, 103, 58, 32]⟩ ⟨vtg.toArray⟩).run Tryz.prog w = .ok (.string ⟨PW1.toArray⟩) w := by
                      rw [← hPW1]
                      exact addL2 [50, 48, 48, 13, 10, 69, 84, 97, 103, 58, 32] vtg (by first | omega | (simp; omega))
                    obtain ⟨PW2, hPW2⟩ : ∃ x, PW1 ++ [13, 10] = x := ⟨_, rfl⟩
                    have lPW2 : PW2.length = (PW1 : List UInt8).length + ([13, 10] : List UInt8).length := by rw [← hPW2, List.length_append]
                    try simp only [List.length_cons, List.length_nil] at lPW2
                    have aPW2 : ∀ w : World, (Op.stringOp .add ⟨PW1.toArray⟩ ⟨#[13, 10]⟩).run Tryz.prog w = .ok (.string ⟨PW2.toArray⟩) w := by
                      rw [← hPW2]
                      exact addL2 PW1 [13, 10] (by first | omega | (simp; omega))
                    obtain ⟨PW3, hPW3⟩ : ∃ x, PW2 ++ [76, 97, 115, 116, 45, 77, 111, 100, 105, 102, 105, 101, 100, 58, 32] = x := ⟨_, rfl⟩
                    have lPW3 : PW3.length = (PW2 : List UInt8).length + ([76, 97, 115, 116, 45, 77, 111, 100, 105, 102, 105, 101, 100, 58, 32] : List UInt8).length := by rw [← hPW3, List.length_append]
                    try simp only [List.length_cons, List.length_nil] at lPW3
                    have aPW3 : ∀ w : World, (Op.stringOp .add ⟨PW2.toArray⟩ ⟨#[76, 97, 115, 116, 45, 77, 111, 100, 105, 102, 105, 101, 100, 58, 32]⟩).run Tryz.prog w = .ok (.string ⟨PW3.toArray⟩) w := by
                      rw [← hPW3]
                      exact addL2 PW2 [76, 97, 115, 116, 45, 77, 111, 100, 105, 102, 105, 101, 100, 58, 32] (by first | omega | (simp; omega))
                    obtain ⟨PW4, hPW4⟩ : ∃ x, PW3 ++ St = x := ⟨_, rfl⟩
                    have lPW4 : PW4.length = (PW3 : List UInt8).length + (St : List UInt8).length := by rw [← hPW4, List.length_append]
                    try simp only [List.length_cons, List.length_nil] at lPW4
                    have aPW4 : ∀ w : World, (Op.stringOp .add ⟨PW3.toArray⟩ ⟨St.toArray⟩).run Tryz.prog w = .ok (.string ⟨PW4.toArray⟩) w := by
                      rw [← hPW4]
                      exact addL2 PW3 St (by first | omega | (simp; omega))
                    obtain ⟨PW5, hPW5⟩ : ∃ x, PW4 ++ [13, 10] = x := ⟨_, rfl⟩
                    have lPW5 : PW5.length = (PW4 : List UInt8).length + ([13, 10] : List UInt8).length := by rw [← hPW5, List.length_append]
                    try simp only [List.length_cons, List.length_nil] at lPW5
                    have aPW5 : ∀ w : World, (Op.stringOp .add ⟨PW4.toArray⟩ ⟨#[13, 10]⟩).run Tryz.prog w = .ok (.string ⟨PW5.toArray⟩) w := by
                      rw [← hPW5]
                      exact addL2 PW4 [13, 10] (by first | omega | (simp; omega))
                    obtain ⟨PW6, hPW6⟩ : ∃ x, PW5 ++ [86, 101, 114, 115, 105, 111, 110, 58, 32] = x := ⟨_, rfl⟩
                    have lPW6 : PW6.length = (PW5 : List UInt8).length + ([86, 101, 114, 115, 105, 111, 110, 58, 32] : List UInt8).length := by rw [← hPW6, List.length_append]
                    try simp only [List.length_cons, List.length_nil] at lPW6
                    have aPW6 : ∀ w : World, (Op.stringOp .add ⟨PW5.toArray⟩ ⟨#[86, 101, 114, 115, 105, 111, 110, 58, 32]⟩).run Tryz.prog w = .ok (.string ⟨PW6.toArray⟩) w := by
                      rw [← hPW6]
                      exact addL2 PW5 [86, 101, 114, 115, 105, 111, 110, 58, 32] (by first | omega | (simp; omega))
                    obtain ⟨PW7, hPW7⟩ : ∃ x, PW6 ++ Dn = x := ⟨_, rfl⟩
                    have lPW7 : PW7.length = (PW6 : List UInt8).length + (Dn : List UInt8).length := by rw [← hPW7, List.length_append]
                    try simp only [List.length_cons, List.length_nil] at lPW7
                    have aPW7 : ∀ w : World, (Op.stringOp .add ⟨PW6.toArray⟩ ⟨Dn.toArray⟩).run Tryz.prog w = .ok (.string ⟨PW7.toArray⟩) w := by
                      rw [← hPW7]
                      exact addL2 PW6 Dn (by first | omega | (simp; omega))
                    obtain ⟨PW8, hPW8⟩ : ∃ x, PW7 ++ [13, 10] = x := ⟨_, rfl⟩
                    have lPW8 : PW8.length = (PW7 : List UInt8).length + ([13, 10] : List UInt8).length := by rw [← hPW8, List.length_append]
                    try simp only [List.length_cons, List.length_nil] at lPW8
                    have aPW8 : ∀ w : World, (Op.stringOp .add ⟨PW7.toArray⟩ ⟨#[13, 10]⟩).run Tryz.prog w = .ok (.string ⟨PW8.toArray⟩) w := by
                      rw [← hPW8]
                      exact addL2 PW7 [13, 10] (by first | omega | (simp; omega))
                    obtain ⟨PW9, hPW9⟩ : ∃ x, PW8 ++ [13, 10] = x := ⟨_, rfl⟩
                    have lPW9 : PW9.length = (PW8 : List UInt8).length + ([13, 10] : List UInt8).length := by rw [← hPW9, List.length_append]
                    try simp only [List.length_cons, List.length_nil] at lPW9
                    have aPW9 : ∀ w : World, (Op.stringOp .add ⟨PW8.toArray⟩ ⟨#[13, 10]⟩).run Tryz.prog w = .ok (.string ⟨PW9.toArray⟩) w := by
                      rw [← hPW9]
                      exact addL2 PW8 [13, 10] (by first | omega | (simp; omega))
                    obtain ⟨PW10, hPW10⟩ : ∃ x, PW9 ++ vbd = x := ⟨_, rfl⟩
                    have lPW10 : PW10.length = (PW9 : List UInt8).length + (vbd : List UInt8).length := by rw [← hPW10, List.length_append]
                    try simp only [List.length_cons, List.length_nil] at lPW10
                    have aPW10 : ∀ w : World, (Op.stringOp .add ⟨PW9.toArray⟩ ⟨vbd.toArray⟩).run Tryz.prog w = .ok (.string ⟨PW10.toArray⟩) w := by
                      rw [← hPW10]
                      exact addL2 PW9 vbd (by first | omega | (simp; omega))
                    have HZW : Hid (wantV (some v) = PW10) := by
                      show _ = _
                      rw [hW3, hPW1, hPW2, hPW3, hPW4, hPW5, hPW6, hPW7, hPW8, hPW9, hPW10]
                    clear hPW1 hPW2 hPW3 hPW4 hPW5 hPW6 hPW7 hPW8 hPW9 hPW10
                    obtain ⟨PL1, hPL1⟩ : ∃ x, A ++ Dn = x := ⟨_, rfl⟩
                    have lPL1 : PL1.length = (A : List UInt8).length + (Dn : List UInt8).length := by rw [← hPL1, List.length_append]
                    try simp only [List.length_cons, List.length_nil] at lPL1
                    have aPL1 : ∀ w : World, (Op.stringOp .add ⟨A.toArray⟩ ⟨Dn.toArray⟩).run Tryz.prog w = .ok (.string ⟨PL1.toArray⟩) w := by
                      rw [← hPL1]
                      exact addL2 A Dn (by first | omega | (simp; omega))
                    obtain ⟨PL2, hPL2⟩ : ∃ x, PL1 ++ [32] = x := ⟨_, rfl⟩
                    have lPL2 : PL2.length = (PL1 : List UInt8).length + ([32] : List UInt8).length := by rw [← hPL2, List.length_append]
                    try simp only [List.length_cons, List.length_nil] at lPL2
                    have aPL2 : ∀ w : World, (Op.stringOp .add ⟨PL1.toArray⟩ ⟨#[32]⟩).run Tryz.prog w = .ok (.string ⟨PL2.toArray⟩) w := by
                      rw [← hPL2]
                      exact addL2 PL1 [32] (by first | omega | (simp; omega))
                    obtain ⟨PL3, hPL3⟩ : ∃ x, PL2 ++ Dt = x := ⟨_, rfl⟩
                    have lPL3 : PL3.length = (PL2 : List UInt8).length + (Dt : List UInt8).length := by rw [← hPL3, List.length_append]
                    try simp only [List.length_cons, List.length_nil] at lPL3
                    have aPL3 : ∀ w : World, (Op.stringOp .add ⟨PL2.toArray⟩ ⟨Dt.toArray⟩).run Tryz.prog w = .ok (.string ⟨PL3.toArray⟩) w := by
                      rw [← hPL3]
                      exact addL2 PL2 Dt (by first | omega | (simp; omega))
                    obtain ⟨PL4, hPL4⟩ : ∃ x, PL3 ++ [32] = x := ⟨_, rfl⟩
                    have lPL4 : PL4.length = (PL3 : List UInt8).length + ([32] : List UInt8).length := by rw [← hPL4, List.length_append]
                    try simp only [List.length_cons, List.length_nil] at lPL4
                    have aPL4 : ∀ w : World, (Op.stringOp .add ⟨PL3.toArray⟩ ⟨#[32]⟩).run Tryz.prog w = .ok (.string ⟨PL4.toArray⟩) w := by
                      rw [← hPL4]
                      exact addL2 PL3 [32] (by first | omega | (simp; omega))
                    obtain ⟨PL5, hPL5⟩ : ∃ x, PL4 ++ vtg = x := ⟨_, rfl⟩
                    have lPL5 : PL5.length = (PL4 : List UInt8).length + (vtg : List UInt8).length := by rw [← hPL5, List.length_append]
                    try simp only [List.length_cons, List.length_nil] at lPL5
                    have aPL5 : ∀ w : World, (Op.stringOp .add ⟨PL4.toArray⟩ ⟨vtg.toArray⟩).run Tryz.prog w = .ok (.string ⟨PL5.toArray⟩) w := by
                      rw [← hPL5]
                      exact addL2 PL4 vtg (by first | omega | (simp; omega))
                    obtain ⟨PL6, hPL6⟩ : ∃ x, PL5 ++ [10] = x := ⟨_, rfl⟩
                    have lPL6 : PL6.length = (PL5 : List UInt8).length + ([10] : List UInt8).length := by rw [← hPL6, List.length_append]
                    try simp only [List.length_cons, List.length_nil] at lPL6
                    have aPL6 : ∀ w : World, (Op.stringOp .add ⟨PL5.toArray⟩ ⟨#[10]⟩).run Tryz.prog w = .ok (.string ⟨PL6.toArray⟩) w := by
                      rw [← hPL6]
                      exact addL2 PL5 [10] (by first | omega | (simp; omega))
                    have HZL : Hid (A ++ lineF2 v = PL6) := by
                      show _ = _
                      rw [HL2.out, ← hPL6, ← hPL5, ← hPL4, ← hPL3, ← hPL2, ← hPL1]
                      simp
                    clear HL2 HW2 hPL1 hPL2 hPL3 hPL4 hPL5 hPL6
                    clear hW3
                    go_wp2_with fail
                    obtain ⟨vb, hvb⟩ : ∃ x, wr.heap.size = x := ⟨_, rfl⟩
                    obtain ⟨X, hX⟩ : ∃ X, X = wr.alloc (.cells #[.int .i64 n, .int .i64 vt, .bool false, .string ⟨vbd.toArray⟩, .string ⟨vtg.toArray⟩] 56) := ⟨_, rfl⟩
                    rw [← hX]
                    have hbX : Below wr.heap.size wr X := by rw [hX]; exact (Below.refl _ _).alloc (Nat.le_refl _) _
                    have HIX : Hid (I X) := HS2.out.bel _ _ HIK.out hbX
                    have HVX : Hid (X.heap[vb]? = some (.cells #[.int .i64 n, .int .i64 vt, .bool false, .string ⟨vbd.toArray⟩, .string ⟨vtg.toArray⟩] 56 (0, 0))) := by
                      show _ = _
                      rw [hX, ← hvb]
                      exact heap_alloc_new _ _
                    have lvX : vb < X.heap.size := (Array.getElem?_eq_some_iff.1 HVX.out).1
                    have HOX : Hid (Off (fun k => w.heap.size ≤ k) w X) := HOK.out.trans (Off.of_below hbX)
                    clear hX hbX
                    rw [hvb]
                    clear hvb
                    have sX := (five_cells HVX.out).2
                    go_region_held3 (fun y => y.cell? ⟨vb, 1, none⟩ = some (.int .i64 vt) ∧ y.cell? ⟨vb, 2, none⟩ = some (.bool false) ∧ y.cell? ⟨vb, 3, none⟩ = some (.string ⟨vbd.toArray⟩) ∧ y.cell? ⟨vb, 4, none⟩ = some (.string ⟨vtg.toArray⟩)) (first | assumption | go_keep) (first
                      | (go_at_call 18
                         refine Calls.mono (HSP.out _ (HS2.out.drw HIX.out)) ?_
                         rintro e w5 ⟨rfl, b5⟩
                         have i5 := HS2.out.bel _ _ (HS2.out.drw HIX.out) b5
                         have v5 := (b5.block vb lvX).trans HVX.out
                         have s5 := (five_cells v5).2)
                      | (go_at_call 17
                         refine Calls.mono (HIT.out _ i5) ?_
                         rintro e w6 ⟨rfl, b6⟩
                         have i6 := HS2.out.bel _ _ i5 b6
                         have v6 := (b6.block vb (Array.getElem?_eq_some_iff.1 v5).1).trans v5
                         have s6 := (five_cells v6).2))
                    have HO6 : Hid (Off (fun k => w.heap.size ≤ k) w w6) := ((HOX.out.trans (Off.of_below (Below.refl _ _).drew)).trans (Off.of_below b5)).trans (Off.of_below b6)
                    have HI6 : Hid (I w6) := i6
                    have HV6 : Hid _ := v6
                    have lv6 : vb < w6.heap.size := (Array.getElem?_eq_some_iff.1 v6).1
                    clear i6 v6 b6 i5 v5 s5 b5 sX HIX HVX HOX lvX aPW1 aPW2 aPW3 aPW4 aPW5 aPW6 aPW7 aPW8 aPW9 aPW10
                    go_wp2_with fail
                    go_region_held3 (fun y => y.cell? ⟨vb, 1, none⟩ = some (.int .i64 vt) ∧ y.cell? ⟨vb, 2, none⟩ = some (.bool false) ∧ y.cell? ⟨vb, 3, none⟩ = some (.string ⟨vbd.toArray⟩) ∧ y.cell? ⟨vb, 4, none⟩ = some (.string ⟨vtg.toArray⟩)) (first | assumption | go_keep) (first
                      | (go_at_call_of 17 (Value.int IntKind.i64 n)
                         refine Calls.mono (HIT.out _ (HS2.out.drw HI6.out)) ?_
                         rintro e w7 ⟨rfl, b7⟩
                         have i7 := HS2.out.bel _ _ (HS2.out.drw HI6.out) b7
                         have v7 := (b7.block vb lv6).trans HV6.out
                         have s7 := (five_cells v7).2)
                      | (go_at_call_of 17 (Value.int IntKind.i64 vt)
                         refine Calls.mono (HIT2.out _ i7) ?_
                         rintro e w8 ⟨rfl, b8⟩
                         have i8 := HS2.out.bel _ _ i7 b8
                         have v8 := (b8.block vb (Array.getElem?_eq_some_iff.1 v7).1).trans v7
                         have s8 := (five_cells v8).2))
                    have HO8 : Hid (Off (fun k => w.heap.size ≤ k) w w8) := ((HO6.out.trans (Off.of_below (Below.refl _ _).drew)).trans (Off.of_below b7)).trans (Off.of_below b8)
                    have HI8 : Hid (I w8) := i8
                    clear i8 v8 s8 b8 i7 v7 s7 b7
                    go_wp2_with fail
                    exact ⟨⟨k + 1, by omega, by go_num, by rw [HZ1.out, HZL.out], by rw [HZ2.out, HZW.out], HI8.out, HO8.out⟩, by simp [intOf]; omega⟩
              · have f2 := hft.2 hnum
                have hnum' : ¬ (v.num : Int) = (n : Int) := by omega
                have HF2 : Hid _ := f2
                obtain ⟨P1, hP1⟩ : ∃ x, A ++ lineV (fndV (l.take k) n) = x := ⟨_, rfl⟩
                obtain ⟨P2, hP2⟩ : ∃ x, wantV (fndV (l.take k) n) = x := ⟨_, rfl⟩
                have HP1 : Hid (A ++ lineV (fndV (l.take (k + 1)) n) = P1) := by show _ = _; rw [f2]; exact hP1
                have HP2 : Hid (wantV (fndV (l.take (k + 1)) n) = P2) := by show _ = _; rw [f2]; exact hP2
                rw [hP1, hP2]
                clear hft f2 hP1 hP2 hv
                go_wp2
                exact ⟨⟨k + 1, by omega, by go_num, by rw [HP1.out], by rw [HP2.out], HS2.out.bel _ _ HIK.out ((Below.refl _ _).alloc (Nat.le_refl _) _), HOK.out.trans (Off.of_below ((Below.refl _ _).alloc (Nat.le_refl _) _))⟩, by simp [intOf]; omega⟩
            · obtain rfl : k = l.length := by omega
              as_aux_lemma =>
                rw [List.take_length]
                obtain ⟨F, hF⟩ : ∃ F, fndV l n = F := ⟨_, rfl⟩
                rw [hF] at hT HST ⊢
                have HT : Hid ((wantV F = [] ∧ T = [52, 48, 52, 13, 10, 13, 10]) ∨ (wantV F ≠ [] ∧ T = wantV F)) := by
                  have h4 : textF 404 [] [] = [52, 48, 52, 13, 10, 13, 10] := by
                    have h3 : Lib.decDigits 404 = [52, 48, 52] := by kernel_rfl
                    unfold textF
                    rw [h3]
                    rfl
                  cases F with
                  | none => exact Or.inl ⟨rfl, by rw [← hT, ← h4]; rfl⟩
                  | some v =>
                    cases hmk : v.mark with
                    | true => exact Or.inl ⟨by simp [wantV, hmk], by rw [← hT, ← h4]; simp [answV, hmk]⟩
                    | false => exact Or.inr ⟨by simp [wantV, hmk, textF], by rw [← hT]; simp [wantV, answV, hmk]⟩
                obtain ⟨Z, hZ⟩ : ∃ x, A ++ lineV F = x := ⟨_, rfl⟩
                obtain ⟨V, hV⟩ : ∃ x, wantV F = x := ⟨_, rfl⟩
                rw [hZ] at HST ⊢
                rw [hV] at HT ⊢
                clear hF hT hZ hV hIk hOk
                rcases HT.out with ⟨rfl, rfl⟩ | ⟨hV0, rfl⟩
                · clear HT
                  go_wp2_with fail
                  exact ⟨⟨m', by omega, rfl, by rw [HST.out], HIK.out, HOK.out⟩, by simp [intOf]; omega⟩
                · clear HT
                  have hV1 : (T == []) = false := by simpa using hV0
                  go_wp2_with fail
                  exact ⟨⟨m', by omega, rfl, by rw [HST.out], HIK.out, HOK.out⟩, by simp [intOf]; omega⟩
    · obtain rfl : i = 5 := by omega
      have HOR : Hid _ := hOr
      clear hOr hIr
      go_wp2
      go_ret
      exact ⟨rfl, HOR.out⟩
end Go.Proofs.YtmehkneofinmiaaGreatDoor

/-
  Texts of this proof, part 43.
-/
import Derived.Test.YtmehkneofinmiaaGreatDoorP41
import Derived.Test.YtmehkneofinmiaaGreatDoorP42
namespace Go.Proofs.YtmehkneofinmiaaGreatDoor
open Go.RowKit

/-- which key is the next one behind P, of the first j -/
def bestF (P : List UInt8) : Nat → Int
  | 0 => -1
  | j + 1 => if Op.bytesLess (nmK j) P = false ∧ nmK j ≠ P ∧ (bestF P j < 0 ∨ Op.bytesLess (nmK j) (nmK (bestF P j).toNat) = true) then (j : Int) else bestF P j
theorem bestF_rng (P : List UInt8) (j : Nat) : bestF P j = -1 ∨ (0 ≤ bestF P j ∧ bestF P j < j) := by
  induction j with
  | zero => exact Or.inl rfl
  | succ j ih =>
    unfold bestF
    split
    · right; omega
    · rcases ih with h | h
      · exact Or.inl h
      · right; omega
def lastO : Nat → List UInt8
  | 0 => []
  | k + 1 => nmK (bestF (lastO k) 5).toNat
theorem lastO_ord : ∀ k, k < 5 → bestF (lastO k) 5 = ((ordK.getD k 0 : Nat) : Int) := by decide
theorem take_ord (k : Nat) (hk : k < 5) : ordK.take (k + 1) = ordK.take k ++ [ordK.getD k 0] := by
  revert k
  decide
theorem text200 (L : List UInt8) : textF 200 [] L = [50, 48, 48, 13, 10, 13, 10] ++ L := by
  have h : Lib.decDigits 200 = [50, 48, 48] := by kernel_rfl
  unfold textF
  rw [h]
  rfl
def lineO (x : Option (List UInt8 × List UInt8)) : List UInt8 := match x with | none => [] | some x => lineK x
theorem lines_step (f : Nat → Option (List UInt8 × List UInt8)) (k : Nat) (hk : k < 5) : linesK ((ordK.take (k + 1)).filterMap f) = linesK ((ordK.take k).filterMap f) ++ lineO (f (ordK.getD k 0)) := by
  rw [take_ord k hk, List.filterMap_append]
  unfold linesK
  rw [List.flatMap_append]
  congr 1
  generalize ordK.getD k 0 = t
  cases h : f t with
  | none => rw [List.filterMap_cons, h]; rfl
  | some x => rw [List.filterMap_cons, h]; simp [lineO]
theorem ordK_lt : ∀ k, k < 5 → ordK.getD k 0 < 5 := by decide
theorem nm_pos : ∀ i, i < 5 → cmpB (nmK i) [] = 1 := by decide
theorem lines_len (f : Nat → Option (List UInt8 × List UInt8)) (hf : ∀ i x, f i = some x → x.1.length ≤ 40) (k : Nat) : (linesK ((ordK.take k).filterMap f)).length ≤ 1000 := by
  have h1 : ∀ l : List Nat, (linesK (l.filterMap f)).length ≤ l.length * 60 := by
    intro l
    induction l with
    | nil => simp [linesK]
    | cons a l ih =>
      rw [List.filterMap_cons]
      cases h : f a with
      | none => simp only [List.length_cons]; omega
      | some x =>
        have := hf a x h
        simp only [linesK, List.flatMap_cons, List.length_append, List.length_cons] at ih ⊢
        have : (lineK x).length = x.1.length + 20 := by simp [lineK, qTag_len]
        omega
  have := h1 (ordK.take k)
  have h2 : (ordK.take k).length ≤ 5 := by rw [List.length_take]; simp [ordK]; omega
  omega
theorem curL_len (σ : St) (a : List UInt8) (i : Nat) (x : List UInt8 × List UInt8) (h : curL σ a i = some x) : x.1.length ≤ 40 := by
  unfold curL at h
  split at h
  · obtain ⟨v, _, e⟩ := Option.map_eq_some_iff.1 h
    rw [← e]
    exact (key_no (nmK_ok i)).2.1
  · cases h
set_option maxRecDepth 100000 in
set_option maxHeartbeats 8000000 in
theorem listed_walk (x z : Int) (v : Value) (l : List Stp) (w : World) (hM : MaxIs w) (hT : Tbl w) (ix0 : -9223372036854775808 ≤ x) (ix1 : x ≤ 9223372036854775807) (iz0 : -9223372036854775808 ≤ z) (iz1 : z ≤ 9223372036854775807) (hv : StpAt w v l) :
    Calls Tryz.prog 9 #[.int .i64 x, v, .int .i64 z] w fun e w' => e = .returned (.bool true) ∧ Off (fun k => w.heap.size ≤ k) w w' := by
  have p5 := pk_bd z 5 (by omega)
  obtain ⟨q, hq⟩ : ∃ n : Nat, pk z 5 = n := ⟨(pk z 5).toNat, by omega⟩
  have hq5 : q < 5 := by omega
  have HPL : Hid _ := played_any x v l w hM hT ix0 ix1 hv
  obtain ⟨o, cap, rfl, hlie⟩ := hv.lie
  clear hv hlie
  go_enter Tryz.func9, Tryz.ntmps9
  go_wp2_with fail
  refine Calls.mono HPL.out ?_
  rintro e w1 ⟨b, s, n, M, vs, d, c, rfl, hn, hc4, hB1, hO1⟩
  obtain ⟨σ, hσ⟩ : ∃ σ, playF st0 (l.take 400) = σ := ⟨_, rfl⟩
  rw [hσ] at hB1
  have HB1 : Hid _ := hB1
  have HO1 : Hid _ := hO1
  clear hB1 hO1 HPL hσ
  go_wp2_with (first
    | (go_at_call 23; refine (pick_any _ _ _ (by omega) (by omega) (by omega) (by omega)).mono ?_; rintro e w' ⟨rfl, rfl⟩; rw [hq])
    | (go_at_call 25; refine (named_any q _ hq5).mono ?_; rintro e w2 ⟨rfl, hb2⟩))
  have HB2 : Hid _ := HB1.out.below hb2
  have HO2 : Hid _ := HO1.out.trans (Off.of_below hb2)
  clear HB1 HO1 hb2
  obtain ⟨Q, hQ⟩ : ∃ Q, nmK q = Q := ⟨_, rfl⟩
  rw [hQ]
  go_loopw [9, 10, 11, 12, 13, 14, 15, 16] (fun al re la iv _ _ _ _ wr => ∃ k : Nat, k ≤ 5 ∧ iv = .int .i64 k ∧ la = .string ⟨(lastO k).toArray⟩ ∧ al = .string ⟨(linesK ((ordK.take k).filterMap (curL σ []))).toArray⟩ ∧ re = .string ⟨(linesK ((ordK.take k).filterMap (curL σ Q))).toArray⟩ ∧ Below w2.heap.size w2 wr)
    (fun _ _ _ iv _ _ _ _ _ => 5 - (intOf iv).toNat)
  case atStart => exact ⟨0, by omega, rfl, rfl, rfl, rfl, Below.refl _ _⟩
  case round =>
    obtain ⟨k, hk, rfl, rfl, rfl, rfl, hbk⟩ := hrel
    by_cases hk5 : k < 5
    · have hBk := HB2.out.below hbk
      obtain ⟨P, hP⟩ : ∃ P, lastO k = P := ⟨_, rfl⟩
      rw [hP]
      have HBk : Hid _ := hBk
      have HBK : Hid _ := hbk
      have hltb := hBk.bk.lt
      clear hBk hbk
      go_wp2_with fail
      obtain ⟨W0, rfl⟩ : ∃ x, x = wr := ⟨_, rfl⟩
      have HK5 : Hid (k < 5) := hk5
      have e28 : decide ((k : Int) < 5) = true := by simp; omega
      simp only [e28]
      clear hk5
      go_loopw [13, 14] (fun be jv wi => ∃ j : Nat, j ≤ 5 ∧ jv = .int .i64 j ∧ be = .int .i64 (bestF P j) ∧ Below W0.heap.size W0 wi) (fun _ jv _ => 5 - (intOf jv).toNat)
      case atStart => exact ⟨0, by omega, rfl, rfl, Below.refl _ _⟩
      case round =>
        obtain ⟨j, hj, rfl, rfl, hbi⟩ := hrel
        have hBi := HBk.out.below hbi
        have lti := hBi.bk.lt
        have HBI : Hid _ := hbi
        have HBi : Hid _ := hBi
        clear hbi hBi
        by_cases hj5 : j < 5
        · have cJ0 := (HBi.out.bk.ck j hj5).1
          rw [(HBi.out.facts j).2.2.2] at cJ0
          obtain ⟨KJ, hKJ⟩ : ∃ K, nmK j = K := ⟨_, rfl⟩
          rw [hKJ] at cJ0
          have cJ := cJ0
          clear cJ0
          have hr := bestF_rng P j
          have HST : Hid (bestF P (j + 1) = if Op.bytesLess KJ P = false ∧ KJ ≠ P ∧ (bestF P j < 0 ∨ Op.bytesLess KJ (nmK (bestF P j).toNat) = true) then (j : Int) else bestF P j) := by
            show _ = _
            rw [← hKJ]
            rfl
          obtain ⟨bj, hbj⟩ : ∃ x, bestF P j = x := ⟨_, rfl⟩
          rw [hbj] at HST hr ⊢
          clear hbj
          go_wp2_with fail
          cases h1 : Op.bytesLess KJ P with
          | true =>
            refine wp_region_held_drew (S := (fun y => y.cell? ⟨b, 1 + j * 3, none⟩ = some (.string ⟨KJ.toArray⟩))) (by kernel_rfl) cJ (fun hHeld => ?_)
            refine wpAnyH_take (i := 0) (v := ?_) rfl (by kernel_rfl) (by kernel_rfl) (by kernel_rfl) (fun _ _ _ h => h) (Or.inl ⟨by rfl, ?_⟩) hHeld ?_
            rotate_left
            · intro y hSw
              go_simp
              try with_reducible rfl
            try simp only [Act.put]
            refine wpAnyH_take (i := 1) (v := ?_) rfl (by kernel_rfl) (by kernel_rfl) (by kernel_rfl) (fun _ _ _ h => h) (Or.inl ⟨by rfl, ?_⟩) hHeld ?_
            rotate_left
            · intro y hSw
              go_simp
              try with_reducible rfl
            try simp only [Act.put]
            refine wpAnyH_take (i := 2) (v := ?_) rfl (by kernel_rfl) (by kernel_rfl) (by kernel_rfl) (fun _ _ _ h => h) (Or.inl ⟨by rfl, ?_⟩) hHeld ?_
            rotate_left
            · intro y hSw
              go_simp
              try with_reducible rfl
            try simp only [Act.put]
            refine wpAnyH_take (i := 3) (v := ?_) rfl (by kernel_rfl) (by kernel_rfl) (by kernel_rfl) (fun _ _ _ h => h) (Or.inl ⟨by rfl, ?_⟩) hHeld ?_
            rotate_left
            · intro y hSw
              go_simp
              try with_reducible rfl
            try simp only [Act.put]
            refine wpAnyH_take (i := 4) (v := ?_) rfl (by kernel_rfl) (by kernel_rfl) (by kernel_rfl) (fun _ _ _ h => h) (Or.inl ⟨by rfl, ?_⟩) hHeld ?_
            rotate_left
            · intro y hSw
              go_simp
              try with_reducible rfl
            try simp only [Act.put]
            refine wpAnyH_take (i := 5) (v := ?_) rfl (by kernel_rfl) (by kernel_rfl) (by kernel_rfl) (fun _ _ _ h => h) (Or.inl ⟨by rfl, ?_⟩) hHeld ?_
            rotate_left
            · intro y hSw
              go_simp
              try with_reducible rfl
            try simp only [Act.put]
            refine wpAnyH_take (i := 6) (v := ?_) rfl (by kernel_rfl) (by kernel_rfl) (by kernel_rfl) (fun _ _ _ h => h) (Or.inl ⟨by rfl, ?_⟩) hHeld ?_
            rotate_left
            · intro y hSw
              go_simp
              try with_reducible rfl
            try simp only [Act.put]
            refine wpAnyH_take (i := 7) (v := ?_) rfl (by kernel_rfl) (by kernel_rfl) (by kernel_rfl) (fun _ _ _ h => h) (Or.inl ⟨by rfl, ?_⟩) hHeld ?_
            rotate_left
            · intro y hSw
              go_simp
              try with_reducible rfl
            try simp only [Act.put]
            refine wpAnyH_take (i := 8) (v := ?_) rfl (by kernel_rfl) (by kernel_rfl) (by kernel_rfl) (fun _ _ _ h => h) (Or.inl ⟨by rfl, ?_⟩) hHeld ?_
            rotate_left
            · intro y hSw
              go_simp
              try with_reducible rfl
            try simp only [Act.put]
            refine wpAnyH_take (i := 9) (v := ?_) rfl (by kernel_rfl) (by kernel_rfl) (by kernel_rfl) (fun _ _ _ h => h) (Or.inl ⟨by rfl, ?_⟩) hHeld ?_
            rotate_left
            · intro y hSw
              go_simp
              try with_reducible rfl
            try simp only [Act.put]
            refine wpAnyH_take (i := 10) (v := undef) rfl (by kernel_rfl) (by kernel_rfl) (by kernel_rfl) (fun _ _ _ h => h) (Or.inr ⟨by kernel_rfl, rfl⟩) hHeld ?_
            try simp only [Act.put]
            refine wpAnyH_take (i := 11) (v := undef) rfl (by kernel_rfl) (by kernel_rfl) (by kernel_rfl) (fun _ _ _ h => h) (Or.inr ⟨by kernel_rfl, rfl⟩) hHeld ?_
            try simp only [Act.put]
            refine wpAnyH_take (i := 12) (v := undef) rfl (by kernel_rfl) (by kernel_rfl) (by kernel_rfl) (fun _ _ _ h => h) (Or.inr ⟨by kernel_rfl, rfl⟩) hHeld ?_
            try simp only [Act.put]
            refine wpAnyH_take (i := 13) (v := undef) rfl (by kernel_rfl) (by kernel_rfl) (by kernel_rfl) (fun _ _ _ h => h) (Or.inr ⟨by kernel_rfl, rfl⟩) hHeld ?_
            try simp only [Act.put]
            refine wpAnyH_take (i := 14) (v := undef) rfl (by kernel_rfl) (by kernel_rfl) (by kernel_rfl) (fun _ _ _ h => h) (Or.inr ⟨by kernel_rfl, rfl⟩) hHeld ?_
            try simp only [Act.put]
            refine wpAnyH_take (i := 15) (v := undef) rfl (by kernel_rfl) (by kernel_rfl) (by kernel_rfl) (fun _ _ _ h => h) (Or.inr ⟨by kernel_rfl, rfl⟩) hHeld ?_
            try simp only [Act.put]
            refine wpAnyH_take (i := 16) (v := undef) rfl (by kernel_rfl) (by kernel_rfl) (by kernel_rfl) (fun _ _ _ h => h) (Or.inr ⟨by kernel_rfl, rfl⟩) hHeld ?_
            try simp only [Act.put]
            refine wpAnyH_take (i := 17) (v := undef) rfl (by kernel_rfl) (by kernel_rfl) (by kernel_rfl) (fun _ _ _ h => h) (Or.inr ⟨by kernel_rfl, rfl⟩) hHeld ?_
            try simp only [Act.put]
            refine wpAnyH_take (i := 18) (v := undef) rfl (by kernel_rfl) (by kernel_rfl) (by kernel_rfl) (fun _ _ _ h => h) (Or.inr ⟨by kernel_rfl, rfl⟩) hHeld ?_
            try simp only [Act.put]
            refine wpAnyH_take (i := 19) (v := undef) rfl (by kernel_rfl) (by kernel_rfl) (by kernel_rfl) (fun _ _ _ h => h) (Or.inr ⟨by kernel_rfl, rfl⟩) hHeld ?_
            try simp only [Act.put]
            refine wpAnyH_take (i := 20) (v := undef) rfl (by kernel_rfl) (by kernel_rfl) (by kernel_rfl) (fun _ _ _ h => h) (Or.inr ⟨by kernel_rfl, rfl⟩) hHeld ?_
            try simp only [Act.put]
            refine wpAnyH_take (i := 21) (v := undef) rfl (by kernel_rfl) (by kernel_rfl) (by kernel_rfl) (fun _ _ _ h => h) (Or.inr ⟨by kernel_rfl, rfl⟩) hHeld ?_
            try simp only [Act.put]
            refine wpAnyH_take (i := 22) (v := undef) rfl (by kernel_rfl) (by kernel_rfl) (by kernel_rfl) (fun _ _ _ h => h) (Or.inr ⟨by kernel_rfl, rfl⟩) hHeld ?_
            try simp only [Act.put]
            refine wpAnyH_take (i := 23) (v := undef) rfl (by kernel_rfl) (by kernel_rfl) (by kernel_rfl) (fun _ _ _ h => h) (Or.inr ⟨by kernel_rfl, rfl⟩) hHeld ?_
            try simp only [Act.put]
            refine wpAnyH_take (i := 24) (v := undef) rfl (by kernel_rfl) (by kernel_rfl) (by kernel_rfl) (fun _ _ _ h => h) (Or.inr ⟨by kernel_rfl, rfl⟩) hHeld ?_
            try simp only [Act.put]
            refine wpAnyH_take (i := 25) (v := undef) rfl (by kernel_rfl) (by kernel_rfl) (by kernel_rfl) (fun _ _ _ h => h) (Or.inr ⟨by kernel_rfl, rfl⟩) hHeld ?_
            try simp only [Act.put]
            refine wpAnyH_take (i := 26) (v := undef) rfl (by kernel_rfl) (by kernel_rfl) (by kernel_rfl) (fun _ _ _ h => h) (Or.inr ⟨by kernel_rfl, rfl⟩) hHeld ?_
            try simp only [Act.put]
            refine wpAnyH_take (i := 27) (v := undef) rfl (by kernel_rfl) (by kernel_rfl) (by kernel_rfl) (fun _ _ _ h => h) (Or.inr ⟨by kernel_rfl, rfl⟩) hHeld ?_
            try simp only [Act.put]
            refine wpAnyH_take (i := 28) (v := undef) rfl (by kernel_rfl) (by kernel_rfl) (by kernel_rfl) (fun _ _ _ h => h) (Or.inr ⟨by kernel_rfl, rfl⟩) hHeld ?_
            try simp only [Act.put]
            refine wpAnyH_ready (rs := [29]) (by kernel_rfl) (by simp) ?_
            refine AllReadyH.cons rfl (fun K hK => ?_) AllReadyH.nil
            go_simp
            refine hK.out _ _ hHeld (fun _ => ?_)
            clear hK K
            try simp only [Act.put]
            refine wpAnyH_done (by kernel_rfl) ?_ _
            go_wp2
            exact ⟨⟨j + 1, by omega, by go_num, by rw [HST.out, if_neg (by simp [h1])], HBI.out.trans (Below.refl _ _).drew⟩, by simp [intOf]; omega⟩
          | false =>
            by_cases h3 : KJ = P
            · subst h3
              refine wp_region_held_drew (S := (fun y => y.cell? ⟨b, 1 + j * 3, none⟩ = some (.string ⟨KJ.toArray⟩))) (by kernel_rfl) cJ (fun hHeld => ?_)
              refine wpAnyH_take (i := 0) (v := ?_) rfl (by kernel_rfl) (by kernel_rfl) (by kernel_rfl) (fun _ _ _ h => h) (Or.inl ⟨by rfl, ?_⟩) hHeld ?_
              rotate_left
              · intro y hSw
                go_simp
                try with_reducible rfl
              try simp only [Act.put]
              refine wpAnyH_take (i := 1) (v := ?_) rfl (by kernel_rfl) (by kernel_rfl) (by kernel_rfl) (fun _ _ _ h => h) (Or.inl ⟨by rfl, ?_⟩) hHeld ?_
              rotate_left
              · intro y hSw
                go_simp
                try with_reducible rfl
              try simp only [Act.put]
              refine wpAnyH_take (i := 2) (v := ?_) rfl (by kernel_rfl) (by kernel_rfl) (by kernel_rfl) (fun _ _ _ h => h) (Or.inl ⟨by rfl, ?_⟩) hHeld ?_
              rotate_left
              · intro y hSw
                go_simp
                try with_reducible rfl
              try simp only [Act.put]
              refine wpAnyH_take (i := 3) (v := ?_) rfl (by kernel_rfl) (by kernel_rfl) (by kernel_rfl) (fun _ _ _ h => h) (Or.inl ⟨by rfl, ?_⟩) hHeld ?_
              rotate_left
              · intro y hSw
                go_simp
                try with_reducible rfl
              try simp only [Act.put]
              refine wpAnyH_take (i := 4) (v := ?_) rfl (by kernel_rfl) (by kernel_rfl) (by kernel_rfl) (fun _ _ _ h => h) (Or.inl ⟨by rfl, ?_⟩) hHeld ?_
              rotate_left
              · intro y hSw
                go_simp
                try with_reducible rfl
              try simp only [Act.put]
              refine wpAnyH_take (i := 5) (v := ?_) rfl (by kernel_rfl) (by kernel_rfl) (by kernel_rfl) (fun _ _ _ h => h) (Or.inl ⟨by rfl, ?_⟩) hHeld ?_
              rotate_left
              · intro y hSw
                go_simp
                try with_reducible rfl
              try simp only [Act.put]
              refine wpAnyH_take (i := 6) (v := ?_) rfl (by kernel_rfl) (by kernel_rfl) (by kernel_rfl) (fun _ _ _ h => h) (Or.inl ⟨by rfl, ?_⟩) hHeld ?_
              rotate_left
              · intro y hSw
                go_simp
                try with_reducible rfl
              try simp only [Act.put]
              refine wpAnyH_take (i := 7) (v := ?_) rfl (by kernel_rfl) (by kernel_rfl) (by kernel_rfl) (fun _ _ _ h => h) (Or.inl ⟨by rfl, ?_⟩) hHeld ?_
              rotate_left
              · intro y hSw
                go_simp
                try with_reducible rfl
              try simp only [Act.put]
              refine wpAnyH_take (i := 8) (v := ?_) rfl (by kernel_rfl) (by kernel_rfl) (by kernel_rfl) (fun _ _ _ h => h) (Or.inl ⟨by rfl, ?_⟩) hHeld ?_
              rotate_left
              · intro y hSw
                go_simp
                try with_reducible rfl
              try simp only [Act.put]
              refine wpAnyH_take (i := 9) (v := ?_) rfl (by kernel_rfl) (by kernel_rfl) (by kernel_rfl) (fun _ _ _ h => h) (Or.inl ⟨by rfl, ?_⟩) hHeld ?_
              rotate_left
              · intro y hSw
                go_simp
                try with_reducible rfl
              try simp only [Act.put]
              refine wpAnyH_take (i := 10) (v := undef) rfl (by kernel_rfl) (by kernel_rfl) (by kernel_rfl) (fun _ _ _ h => h) (Or.inr ⟨by kernel_rfl, rfl⟩) hHeld ?_
              try simp only [Act.put]
              refine wpAnyH_take (i := 11) (v := undef) rfl (by kernel_rfl) (by kernel_rfl) (by kernel_rfl) (fun _ _ _ h => h) (Or.inr ⟨by kernel_rfl, rfl⟩) hHeld ?_
              try simp only [Act.put]
              refine wpAnyH_take (i := 12) (v := undef) rfl (by kernel_rfl) (by kernel_rfl) (by kernel_rfl) (fun _ _ _ h => h) (Or.inr ⟨by kernel_rfl, rfl⟩) hHeld ?_
              try simp only [Act.put]
              refine wpAnyH_take (i := 13) (v := undef) rfl (by kernel_rfl) (by kernel_rfl) (by kernel_rfl) (fun _ _ _ h => h) (Or.inr ⟨by kernel_rfl, rfl⟩) hHeld ?_
              try simp only [Act.put]
              refine wpAnyH_take (i := 14) (v := undef) rfl (by kernel_rfl) (by kernel_rfl) (by kernel_rfl) (fun _ _ _ h => h) (Or.inr ⟨by kernel_rfl, rfl⟩) hHeld ?_
              try simp only [Act.put]
              refine wpAnyH_take (i := 15) (v := undef) rfl (by kernel_rfl) (by kernel_rfl) (by kernel_rfl) (fun _ _ _ h => h) (Or.inr ⟨by kernel_rfl, rfl⟩) hHeld ?_
              try simp only [Act.put]
              refine wpAnyH_take (i := 16) (v := undef) rfl (by kernel_rfl) (by kernel_rfl) (by kernel_rfl) (fun _ _ _ h => h) (Or.inr ⟨by kernel_rfl, rfl⟩) hHeld ?_
              try simp only [Act.put]
              refine wpAnyH_take (i := 17) (v := undef) rfl (by kernel_rfl) (by kernel_rfl) (by kernel_rfl) (fun _ _ _ h => h) (Or.inr ⟨by kernel_rfl, rfl⟩) hHeld ?_
              try simp only [Act.put]
              refine wpAnyH_take (i := 18) (v := undef) rfl (by kernel_rfl) (by kernel_rfl) (by kernel_rfl) (fun _ _ _ h => h) (Or.inr ⟨by kernel_rfl, rfl⟩) hHeld ?_
              try simp only [Act.put]
              refine wpAnyH_take (i := 19) (v := undef) rfl (by kernel_rfl) (by kernel_rfl) (by kernel_rfl) (fun _ _ _ h => h) (Or.inr ⟨by kernel_rfl, rfl⟩) hHeld ?_
              try simp only [Act.put]
              refine wpAnyH_take (i := 20) (v := undef) rfl (by kernel_rfl) (by kernel_rfl) (by kernel_rfl) (fun _ _ _ h => h) (Or.inr ⟨by kernel_rfl, rfl⟩) hHeld ?_
              try simp only [Act.put]
              refine wpAnyH_take (i := 21) (v := undef) rfl (by kernel_rfl) (by kernel_rfl) (by kernel_rfl) (fun _ _ _ h => h) (Or.inr ⟨by kernel_rfl, rfl⟩) hHeld ?_
              try simp only [Act.put]
              refine wpAnyH_take (i := 22) (v := undef) rfl (by kernel_rfl) (by kernel_rfl) (by kernel_rfl) (fun _ _ _ h => h) (Or.inr ⟨by kernel_rfl, rfl⟩) hHeld ?_
              try simp only [Act.put]
              refine wpAnyH_take (i := 23) (v := undef) rfl (by kernel_rfl) (by kernel_rfl) (by kernel_rfl) (fun _ _ _ h => h) (Or.inr ⟨by kernel_rfl, rfl⟩) hHeld ?_
              try simp only [Act.put]
              refine wpAnyH_take (i := 24) (v := undef) rfl (by kernel_rfl) (by kernel_rfl) (by kernel_rfl) (fun _ _ _ h => h) (Or.inr ⟨by kernel_rfl, rfl⟩) hHeld ?_
              try simp only [Act.put]
              refine wpAnyH_take (i := 25) (v := undef) rfl (by kernel_rfl) (by kernel_rfl) (by kernel_rfl) (fun _ _ _ h => h) (Or.inr ⟨by kernel_rfl, rfl⟩) hHeld ?_
              try simp only [Act.put]
              refine wpAnyH_take (i := 26) (v := undef) rfl (by kernel_rfl) (by kernel_rfl) (by kernel_rfl) (fun _ _ _ h => h) (Or.inr ⟨by kernel_rfl, rfl⟩) hHeld ?_
              try simp only [Act.put]
              refine wpAnyH_take (i := 27) (v := undef) rfl (by kernel_rfl) (by kernel_rfl) (by kernel_rfl) (fun _ _ _ h => h) (Or.inr ⟨by kernel_rfl, rfl⟩) hHeld ?_
              try simp only [Act.put]
              refine wpAnyH_take (i := 28) (v := undef) rfl (by kernel_rfl) (by kernel_rfl) (by kernel_rfl) (fun _ _ _ h => h) (Or.inr ⟨by kernel_rfl, rfl⟩) hHeld ?_
              try simp only [Act.put]
              refine wpAnyH_ready (rs := [29]) (by kernel_rfl) (by simp) ?_
              refine AllReadyH.cons rfl (fun K hK => ?_) AllReadyH.nil
              go_simp
              refine hK.out _ _ hHeld (fun _ => ?_)
              clear hK K
              try simp only [Act.put]
              refine wpAnyH_done (by kernel_rfl) ?_ _
              go_wp2
              exact ⟨⟨j + 1, by omega, by go_num, by rw [HST.out, if_neg (by simp)], HBI.out.trans (Below.refl _ _).drew⟩, by simp [intOf]; omega⟩
            · have h3' : (KJ == P) = false := beq_eq_false_iff_ne.2 h3
              by_cases hn : bj < 0
              · obtain rfl : bj = -1 := by omega
                refine wp_region_held_drew (S := (fun y => y.cell? ⟨b, 1 + j * 3, none⟩ = some (.string ⟨KJ.toArray⟩))) (by kernel_rfl) cJ (fun hHeld => ?_)
                refine wpAnyH_take (i := 0) (v := ?_) rfl (by kernel_rfl) (by kernel_rfl) (by kernel_rfl) (fun _ _ _ h => h) (Or.inl ⟨by rfl, ?_⟩) hHeld ?_
                rotate_left
                · intro y hSw
                  go_simp
                  try with_reducible rfl
                try simp only [Act.put]
                refine wpAnyH_take (i := 1) (v := ?_) rfl (by kernel_rfl) (by kernel_rfl) (by kernel_rfl) (fun _ _ _ h => h) (Or.inl ⟨by rfl, ?_⟩) hHeld ?_
                rotate_left
                · intro y hSw
                  go_simp
                  try with_reducible rfl
                try simp only [Act.put]
                refine wpAnyH_take (i := 2) (v := ?_) rfl (by kernel_rfl) (by kernel_rfl) (by kernel_rfl) (fun _ _ _ h => h) (Or.inl ⟨by rfl, ?_⟩) hHeld ?_
                rotate_left
                · intro y hSw
                  go_simp
                  try with_reducible rfl
                try simp only [Act.put]
                refine wpAnyH_take (i := 3) (v := ?_) rfl (by kernel_rfl) (by kernel_rfl) (by kernel_rfl) (fun _ _ _ h => h) (Or.inl ⟨by rfl, ?_⟩) hHeld ?_
                rotate_left
                · intro y hSw
                  go_simp
                  try with_reducible rfl
                try simp only [Act.put]
                refine wpAnyH_take (i := 4) (v := ?_) rfl (by kernel_rfl) (by kernel_rfl) (by kernel_rfl) (fun _ _ _ h => h) (Or.inl ⟨by rfl, ?_⟩) hHeld ?_
                rotate_left
                · intro y hSw
                  go_simp
                  try with_reducible rfl
                try simp only [Act.put]
                refine wpAnyH_take (i := 5) (v := ?_) rfl (by kernel_rfl) (by kernel_rfl) (by kernel_rfl) (fun _ _ _ h => h) (Or.inl ⟨by rfl, ?_⟩) hHeld ?_
                rotate_left
                · intro y hSw
                  go_simp
                  try with_reducible rfl
                try simp only [Act.put]
                refine wpAnyH_take (i := 6) (v := ?_) rfl (by kernel_rfl) (by kernel_rfl) (by kernel_rfl) (fun _ _ _ h => h) (Or.inl ⟨by rfl, ?_⟩) hHeld ?_
                rotate_left
                · intro y hSw
                  go_simp
                  try with_reducible rfl
                try simp only [Act.put]
                refine wpAnyH_take (i := 7) (v := ?_) rfl (by kernel_rfl) (by kernel_rfl) (by kernel_rfl) (fun _ _ _ h => h) (Or.inl ⟨by rfl, ?_⟩) hHeld ?_
                rotate_left
                · intro y hSw
                  go_simp
                  try with_reducible rfl
                try simp only [Act.put]
                refine wpAnyH_take (i := 8) (v := ?_) rfl (by kernel_rfl) (by kernel_rfl) (by kernel_rfl) (fun _ _ _ h => h) (Or.inl ⟨by rfl, ?_⟩) hHeld ?_
                rotate_left
                · intro y hSw
                  go_simp
                  try with_reducible rfl
                try simp only [Act.put]
                refine wpAnyH_take (i := 9) (v := ?_) rfl (by kernel_rfl) (by kernel_rfl) (by kernel_rfl) (fun _ _ _ h => h) (Or.inl ⟨by rfl, ?_⟩) hHeld ?_
                rotate_left
                · intro y hSw
                  go_simp
                  try with_reducible rfl
                try simp only [Act.put]
                refine wpAnyH_take (i := 10) (v := ?_) rfl (by kernel_rfl) (by kernel_rfl) (by kernel_rfl) (fun _ _ _ h => h) (Or.inl ⟨by kernel_rfl, ?_⟩) hHeld ?_
                rotate_left
                · intro y hSw
                  go_simp
                  try with_reducible rfl
                try simp only [Act.put]
                refine wpAnyH_take (i := 11) (v := ?_) rfl (by kernel_rfl) (by kernel_rfl) (by kernel_rfl) (fun _ _ _ h => h) (Or.inl ⟨by kernel_rfl, ?_⟩) hHeld ?_
                rotate_left
                · intro y hSw
                  go_simp
                  try with_reducible rfl
                try simp only [Act.put]
                refine wpAnyH_take (i := 12) (v := ?_) rfl (by kernel_rfl) (by kernel_rfl) (by kernel_rfl) (fun _ _ _ h => h) (Or.inl ⟨by kernel_rfl, ?_⟩) hHeld ?_
                rotate_left
                · intro y hSw
                  go_simp
                  try with_reducible rfl
                try simp only [Act.put]
                refine wpAnyH_take (i := 13) (v := undef) rfl (by kernel_rfl) (by kernel_rfl) (by kernel_rfl) (fun _ _ _ h => h) (Or.inr ⟨by kernel_rfl, rfl⟩) hHeld ?_
                try simp only [Act.put]
                refine wpAnyH_take (i := 14) (v := undef) rfl (by kernel_rfl) (by kernel_rfl) (by kernel_rfl) (fun _ _ _ h => h) (Or.inr ⟨by kernel_rfl, rfl⟩) hHeld ?_
                try simp only [Act.put]
                refine wpAnyH_take (i := 15) (v := undef) rfl (by kernel_rfl) (by kernel_rfl) (by kernel_rfl) (fun _ _ _ h => h) (Or.inr ⟨by kernel_rfl, rfl⟩) hHeld ?_
                try simp only [Act.put]
                refine wpAnyH_take (i := 16) (v := undef) rfl (by kernel_rfl) (by kernel_rfl) (by kernel_rfl) (fun _ _ _ h => h) (Or.inr ⟨by kernel_rfl, rfl⟩) hHeld ?_
                try simp only [Act.put]
                refine wpAnyH_take (i := 17) (v := undef) rfl (by kernel_rfl) (by kernel_rfl) (by kernel_rfl) (fun _ _ _ h => h) (Or.inr ⟨by kernel_rfl, rfl⟩) hHeld ?_
                try simp only [Act.put]
                refine wpAnyH_take (i := 18) (v := undef) rfl (by kernel_rfl) (by kernel_rfl) (by kernel_rfl) (fun _ _ _ h => h) (Or.inr ⟨by kernel_rfl, rfl⟩) hHeld ?_
                try simp only [Act.put]
                refine wpAnyH_take (i := 19) (v := undef) rfl (by kernel_rfl) (by kernel_rfl) (by kernel_rfl) (fun _ _ _ h => h) (Or.inr ⟨by kernel_rfl, rfl⟩) hHeld ?_
                try simp only [Act.put]
                refine wpAnyH_take (i := 20) (v := undef) rfl (by kernel_rfl) (by kernel_rfl) (by kernel_rfl) (fun _ _ _ h => h) (Or.inr ⟨by kernel_rfl, rfl⟩) hHeld ?_
                try simp only [Act.put]
                refine wpAnyH_take (i := 21) (v := undef) rfl (by kernel_rfl) (by kernel_rfl) (by kernel_rfl) (fun _ _ _ h => h) (Or.inr ⟨by kernel_rfl, rfl⟩) hHeld ?_
                try simp only [Act.put]
                refine wpAnyH_take (i := 22) (v := undef) rfl (by kernel_rfl) (by kernel_rfl) (by kernel_rfl) (fun _ _ _ h => h) (Or.inr ⟨by kernel_rfl, rfl⟩) hHeld ?_
                try simp only [Act.put]
                refine wpAnyH_take (i := 23) (v := undef) rfl (by kernel_rfl) (by kernel_rfl) (by kernel_rfl) (fun _ _ _ h => h) (Or.inr ⟨by kernel_rfl, rfl⟩) hHeld ?_
                try simp only [Act.put]
                refine wpAnyH_take (i := 24) (v := undef) rfl (by kernel_rfl) (by kernel_rfl) (by kernel_rfl) (fun _ _ _ h => h) (Or.inr ⟨by kernel_rfl, rfl⟩) hHeld ?_
                try simp only [Act.put]
                refine wpAnyH_take (i := 25) (v := undef) rfl (by kernel_rfl) (by kernel_rfl) (by kernel_rfl) (fun _ _ _ h => h) (Or.inr ⟨by kernel_rfl, rfl⟩) hHeld ?_
                try simp only [Act.put]
                refine wpAnyH_take (i := 26) (v := undef) rfl (by kernel_rfl) (by kernel_rfl) (by kernel_rfl) (fun _ _ _ h => h) (Or.inr ⟨by kernel_rfl, rfl⟩) hHeld ?_
                try simp only [Act.put]
                refine wpAnyH_take (i := 27) (v := undef) rfl (by kernel_rfl) (by kernel_rfl) (by kernel_rfl) (fun _ _ _ h => h) (Or.inr ⟨by kernel_rfl, rfl⟩) hHeld ?_
                try simp only [Act.put]
                refine wpAnyH_take (i := 28) (v := ?_) rfl (by kernel_rfl) (by kernel_rfl) (by kernel_rfl) (fun _ _ _ h => h) (Or.inl ⟨by kernel_rfl, ?_⟩) hHeld ?_
                rotate_left
                · intro y hSw
                  go_simp
                  try with_reducible rfl
                try simp only [Act.put]
                refine wpAnyH_ready (rs := [29]) (by kernel_rfl) (by simp) ?_
                refine AllReadyH.cons rfl (fun K hK => ?_) AllReadyH.nil
                go_simp
                refine hK.out _ _ hHeld (fun _ => ?_)
                clear hK K
                try simp only [Act.put]
                refine wpAnyH_done (by kernel_rfl) ?_ _
                go_wp2
                exact ⟨⟨j + 1, by omega, by go_num, by rw [HST.out, if_pos ⟨h1, h3, Or.inl (by omega)⟩], HBI.out.trans (Below.refl _ _).drew⟩, by simp [intOf]; omega⟩
              · obtain ⟨B, rfl⟩ : ∃ B : Nat, bj = B := ⟨bj.toNat, by omega⟩
                have hB5 : B < 5 := by omega
                have hBI : (B : Int) < 5 := by omega
                have cB := (HBi.out.bk.ck B hB5).1
                rw [(HBi.out.facts B).2.2.2] at cB
                rw [show ((B : Nat) : Int).toNat = B by omega] at HST
                obtain ⟨KB, hKB⟩ : ∃ K, nmK B = K := ⟨_, rfl⟩
                rw [hKB] at cB HST
                clear hKB
                cases h4 : Op.bytesLess KJ KB with
                | true =>
                  go_region_held3 (fun y => y.cell? ⟨b, 1 + j * 3, none⟩ = some (.string ⟨KJ.toArray⟩) ∧ y.cell? ⟨b, 1 + B * 3, none⟩ = some (.string ⟨KB.toArray⟩)) (first | assumption | go_keep) (fail)
                  go_wp2
                  exact ⟨⟨j + 1, by omega, by go_num, by rw [HST.out, if_pos ⟨h1, h3, Or.inr h4⟩], HBI.out.trans (Below.refl _ _).drew⟩, by simp [intOf]; omega⟩
                | false =>
                  go_region_held3 (fun y => y.cell? ⟨b, 1 + j * 3, none⟩ = some (.string ⟨KJ.toArray⟩) ∧ y.cell? ⟨b, 1 + B * 3, none⟩ = some (.string ⟨KB.toArray⟩)) (first | assumption | go_keep) (fail)
                  go_wp2
                  exact ⟨⟨j + 1, by omega, by go_num, by rw [HST.out, if_neg (by simp [h4])], HBI.out.trans (Below.refl _ _).drew⟩, by simp [intOf]; omega⟩
        · obtain rfl : j = 5 := by omega
          have hbo := lastO_ord k HK5.out
          have hnl : lastO (k + 1) = nmK (bestF (lastO k) 5).toNat := rfl
          rw [hP] at hbo hnl
          have htl := ordK_lt k HK5.out
          have HL1 := lines_step (curL σ []) k HK5.out
          have HL2 := lines_step (curL σ Q) k HK5.out
          have hl1 := lines_len (curL σ []) (curL_len σ []) k
          have hl2 := lines_len (curL σ Q) (curL_len σ Q) k
          rw [hbo] at hnl ⊢
          obtain ⟨t, ht⟩ : ∃ t, ordK.getD k 0 = t := ⟨_, rfl⟩
          rw [ht] at htl HL1 HL2 hnl ⊢
          rw [show ((t : Nat) : Int).toNat = t by omega] at hnl
          have c1 := (HBi.out.bk.ck t htl).1
          rw [(HBi.out.facts t).2.2.2] at c1
          obtain ⟨KT, hKT⟩ : ∃ K, nmK t = K := ⟨_, rfl⟩
          have hkl := (key_no (nmK_ok t)).2.1
          rw [hKT] at c1 hnl hkl
          obtain ⟨A1, hA1⟩ : ∃ A, linesK ((ordK.take k).filterMap (curL σ [])) = A := ⟨_, rfl⟩
          obtain ⟨A2, hA2⟩ : ∃ A, linesK ((ordK.take k).filterMap (curL σ Q)) = A := ⟨_, rfl⟩
          rw [hA1] at HL1 hl1 ⊢
          rw [hA2] at HL2 hl2 ⊢
          have htI : (t : Int) < 5 := by omega
          have HCU : Hid (∀ z, Below wr.heap.size wr z → Calls Tryz.prog 19 #[.pointer (some ⟨b, 1 + t * 3, none⟩)] z fun e w' => e = .returned (.tuple #[bvOut (curOf (enK σ t)), .bool (curOf (enK σ t)).isSome]) ∧ Below z.heap.size z w') := by
            intro z hz
            have hz' := HBi.out.below hz
            exact bcur_any b (1 + t * 3) (vs t) (enK σ t) z (hz'.bk.ck t htl).2.1 (hz'.bk.row t htl) (by have := (HBi.out.facts t).1; omega)
          have hcl1 : curL σ [] t = (curOf (enK σ t)).map fun v => (KT, v.body) := by
            unfold curL
            rw [nm_pos t htl, hKT]
            rfl
          have hcl2 : curL σ Q t = if cmpB KT Q = 1 then (curOf (enK σ t)).map fun v => (KT, v.body) else none := by
            unfold curL
            rw [hKT]
            by_cases e : cmpB KT Q = 1
            · rw [if_pos e, if_pos (by rw [e]; rfl)]
            · rw [if_neg e, if_neg (by simpa using e)]
          have HNL : Hid _ := hnl
          have HBW : Hid _ := HBK.out.trans (HBI.out.mono HBK.out.size)
          cases hcv : curOf (enK σ t) with
          | none =>
            rw [hcv] at hcl1 hcl2 HCU
            rw [hcl1] at HL1
            have hcl3 : curL σ Q t = none := by rw [hcl2]; split <;> rfl
            rw [hcl3] at HL2
            have HN1 : Hid (linesK ((ordK.take (k + 1)).filterMap (curL σ [])) = A1) := by show _ = _; rw [HL1]; simp [lineO]
            have HN2 : Hid (linesK ((ordK.take (k + 1)).filterMap (curL σ Q)) = A2) := by show _ = _; rw [HL2]; simp [lineO]
            have HCV : Hid (∀ z, Below wr.heap.size wr z → Calls Tryz.prog 19 #[.pointer (some ⟨b, 1 + t * 3, none⟩)] z fun e w' => e = .returned (.tuple #[.agg #[.int .i64 0, .int .i64 0, .bool false, .string ⟨#[]⟩, .string ⟨#[]⟩], .bool false]) ∧ Below z.heap.size z w') := HCU.out
            clear HL1 HL2 hcl1 hcl2 hcl3 HCU hnl hcv
            go_wp2_with (go_at_call 19; refine Calls.mono (HCV.out _ (Below.refl _ _)) ?_; rintro e w5 ⟨rfl, hb5⟩)
            have hbw5 : Below w2.heap.size w2 (w5.alloc (.cells #[.int .i64 0, .int .i64 0, .bool false, .string ⟨#[]⟩, .string ⟨#[]⟩] 56)) := (HBW.out.trans (hb5.mono HBW.out.size)).alloc (HBW.out.trans (hb5.mono HBW.out.size)).size _
            exact ⟨⟨k + 1, by have := HK5.out; omega, by go_num, by rw [HNL.out], by rw [HN1.out], by rw [HN2.out], hbw5⟩, by have := HK5.out; simp [intOf]; omega⟩
          | some u =>
            rw [hcv] at hcl1 hcl2 HCU
            have hum : u.mark = false := by
              cases hg : (enK σ t).vers.getLast? with
              | none => simp [curOf, hg] at hcv
              | some y =>
                cases hm : y.mark with
                | true => simp [curOf, hg, hm] at hcv
                | false =>
                  simp [curOf, hg, hm] at hcv
                  rw [← hcv]
                  exact hm
            rw [hcl1] at HL1
            obtain ⟨tg, htg⟩ : ∃ x : ByteArray, (⟨(qTag u.body).toArray⟩ : ByteArray) = x := ⟨_, rfl⟩
            have htz : tg.size = 18 := by rw [← htg, Lib.size_eq]; simp [qTag_len]
            have HCV : Hid (∀ z, Below wr.heap.size wr z → Calls Tryz.prog 19 #[.pointer (some ⟨b, 1 + t * 3, none⟩)] z fun e w' => e = .returned (.tuple #[.agg #[.int .i64 u.num, .int .i64 u.time, .bool false, .string ⟨u.body.toArray⟩, .string tg], .bool true]) ∧ Below z.heap.size z w') := by
              intro z hz
              have := HCU.out z hz
              have e : bvOut (some u) = .agg #[.int .i64 u.num, .int .i64 u.time, .bool false, .string ⟨u.body.toArray⟩, .string tg] := by
                show bvAgg u = _
                unfold bvAgg tagK
                rw [hum, ← htg]
                rfl
              rw [e] at this
              exact this
            have HSM : Hid (∀ A : List UInt8, ((((⟨A.toArray⟩ : ByteArray) ++ ⟨KT.toArray⟩) ++ ⟨#[32]⟩) ++ tg) ++ ⟨#[10]⟩ = ⟨(A ++ lineO (some (KT, u.body))).toArray⟩) := by
              intro A
              rw [← htg, mk_app]
              refine (congrArg (fun q => (q ++ (⟨(qTag u.body).toArray⟩ : ByteArray)) ++ (⟨#[10]⟩ : ByteArray)) (mk_app (A ++ KT) [32])).trans ?_
              refine (congrArg (fun q => q ++ (⟨#[10]⟩ : ByteArray)) (mk_app (A ++ KT ++ [32]) (qTag u.body))).trans ?_
              refine (mk_app (A ++ KT ++ [32] ++ qTag u.body) [10]).trans ?_
              simp [lineO, lineK]
            obtain ⟨a1, ha1⟩ : ∃ x : ByteArray, (⟨A1.toArray⟩ : ByteArray) = x := ⟨_, rfl⟩
            obtain ⟨a2, ha2⟩ : ∃ x : ByteArray, (⟨A2.toArray⟩ : ByteArray) = x := ⟨_, rfl⟩
            have hz1 : a1.size ≤ 1000 := by rw [← ha1, Lib.size_eq]; simpa using hl1
            have hz2 : a2.size ≤ 1000 := by rw [← ha2, Lib.size_eq]; simpa using hl2
            have hzk : (⟨KT.toArray⟩ : ByteArray).size ≤ 40 := by rw [Lib.size_eq]; simpa using hkl
            have hs1 := HSM.out A1
            have hs2 := HSM.out A2
            rw [ha1] at hs1 ⊢
            rw [ha2] at hs2 ⊢
            obtain ⟨r1, hr1⟩ : ∃ x : ByteArray, (⟨(A1 ++ lineO (some (KT, u.body))).toArray⟩ : ByteArray) = x := ⟨_, rfl⟩
            obtain ⟨r2, hr2⟩ : ∃ x : ByteArray, (⟨(A2 ++ lineO (some (KT, u.body))).toArray⟩ : ByteArray) = x := ⟨_, rfl⟩
            rw [hr1] at hs1
            rw [hr2] at hs2
            have HN1 : Hid ((⟨(linesK ((ordK.take (k + 1)).filterMap (curL σ []))).toArray⟩ : ByteArray) = r1) := by show _ = _; rw [HL1, ← hr1]; rfl
            have HN2 : Hid ((cmpB KT Q = 1 ∧ (⟨(linesK ((ordK.take (k + 1)).filterMap (curL σ Q))).toArray⟩ : ByteArray) = r2) ∨ (cmpB KT Q ≠ 1 ∧ (⟨(linesK ((ordK.take (k + 1)).filterMap (curL σ Q))).toArray⟩ : ByteArray) = a2)) := by
              by_cases e : cmpB KT Q = 1
              · left
                rw [if_pos e] at hcl2
                rw [hcl2] at HL2
                exact ⟨e, by rw [HL2, ← hr2]; rfl⟩
              · right
                rw [if_neg e] at hcl2
                rw [hcl2] at HL2
                exact ⟨e, by rw [HL2, ← ha2]; simp [lineO]⟩
            have HAL : Hid (∀ (w5 : World), Below wr.heap.size wr w5 → Below w2.heap.size w2 (w5.alloc (.cells #[.int .i64 u.num, .int .i64 u.time, .bool false, .string ⟨u.body.toArray⟩, .string tg] 56))) :=
              fun w5 hb5 => (HBW.out.trans (hb5.mono HBW.out.size)).alloc (HBW.out.trans (hb5.mono HBW.out.size)).size _
            clear HL1 HL2 hcl1 hcl2 HCU hnl hcv htg ha1 ha2 hr1 hr2 HSM hA1 hA2
            by_cases hg1 : cmpB KT Q = 1
            · have h1 : Op.bytesLess KT Q = false := by rw [less_cmp, hg1]; rfl
              have h3 : (KT == Q) = false := beq_eq_false_iff_ne.2 (fun e => by rw [e, cmpB_refl] at hg1; exact absurd hg1 (by decide))
              have HR : Hid ((⟨(linesK ((ordK.take (k + 1)).filterMap (curL σ Q))).toArray⟩ : ByteArray) = r2) := HN2.out.elim (fun h => h.2) (fun h => absurd hg1 h.1)
              clear hg1
              go_wp2_with (go_at_call 19; refine Calls.mono (HCV.out _ (Below.refl _ _)) ?_; rintro e w5 ⟨rfl, hb5⟩)
              exact ⟨⟨k + 1, by have := HK5.out; omega, by go_num, by rw [HNL.out], by rw [HN1.out], by rw [HR.out], HAL.out _ hb5⟩, by have := HK5.out; simp [intOf]; omega⟩
            · have HR : Hid ((⟨(linesK ((ordK.take (k + 1)).filterMap (curL σ Q))).toArray⟩ : ByteArray) = a2) := HN2.out.elim (fun h => absurd h.1 hg1) (fun h => h.2)
              cases h1 : Op.bytesLess KT Q with
              | true =>
                clear hg1
                go_wp2_with (go_at_call 19; refine Calls.mono (HCV.out _ (Below.refl _ _)) ?_; rintro e w5 ⟨rfl, hb5⟩)
                exact ⟨⟨k + 1, by have := HK5.out; omega, by go_num, by rw [HNL.out], by rw [HN1.out], by rw [HR.out], HAL.out _ hb5⟩, by have := HK5.out; simp [intOf]; omega⟩
              | false =>
                have h3 : (KT == Q) = true := by
                  rw [beq_iff_eq]
                  rw [less_cmp] at h1
                  rcases cmpB_range KT Q with h | h | h
                  · rw [h] at h1; exact absurd h1 (by decide)
                  · exact cmpB_eq _ _ h
                  · exact absurd h hg1
                clear hg1
                go_wp2_with (go_at_call 19; refine Calls.mono (HCV.out _ (Below.refl _ _)) ?_; rintro e w5 ⟨rfl, hb5⟩)
                exact ⟨⟨k + 1, by have := HK5.out; omega, by go_num, by rw [HNL.out], by rw [HN1.out], by rw [HR.out], HAL.out _ hb5⟩, by have := HK5.out; simp [intOf]; omega⟩
    · obtain rfl : k = 5 := by omega
      have hBk := HB2.out.below hbk
      have c0 := hBk.bk.c0.1
      have hltb := hBk.bk.lt
      have hl1 := lines_len (curL σ []) (curL_len σ []) 5
      have hl2 := lines_len (curL σ Q) (curL_len σ Q) 5
      rw [show ordK.take 5 = ordK from rfl] at hl1 hl2 ⊢
      have ha1 := read_list (σ := σ)
      rw [listA_ord hBk.sto.st.rise hBk.ks] at ha1
      have ha2 := read_after (σ := σ) (nmK_ok q)
      rw [listA_ord hBk.sto.st.rise hBk.ks, hQ] at ha2
      obtain ⟨L1, hL1⟩ : ∃ L, linesK (ordK.filterMap (curL σ [])) = L := ⟨_, rfl⟩
      obtain ⟨L2, hL2⟩ : ∃ L, linesK (ordK.filterMap (curL σ Q)) = L := ⟨_, rfl⟩
      rw [hL1] at ha1 hl1 ⊢
      rw [hL2] at ha2 hl2 ⊢
      have hQl := (key_no (nmK_ok q)).2.1
      rw [hQ] at hQl
      have hlg := hBk.lg
      have HD : Hid (∀ (R L : List UInt8), ansF σ R = (⟨200, [], L⟩, σ) → R.length < 1000 → ∀ (M' : Mem) (y : World), Bk w.heap.size y b s n σ M' vs d c → Calls Tryz.prog 15 #[.pointer (some ⟨s, 0, none⟩), .string ⟨R.toArray⟩] y fun e w' => e = .returned (.string ⟨([50, 48, 48, 13, 10, 13, 10] ++ L).toArray⟩) ∧ (∃ M'', Bk w.heap.size w' b s n σ M'' vs d c) ∧ Off (fun k => w.heap.size ≤ k) y w') := by
        intro R L hR hRl M' y hy
        refine (do_sto R hy.sto (by have := hy.lg; omega) (by omega) hR).mono ?_
        rintro e w' ⟨rfl, _, M2, hS2, hO2, hP2⟩
        refine ⟨?_, ⟨M2, ⟨hS2, hy.bk.did hy.sto.st hO2, hy.bB, hy.vB, hy.ks, hy.tm, hy.lg, hy.ls, hy.dn⟩⟩, hP2⟩
        show Ending.returned (.string ⟨(textF 200 [] L).toArray⟩) = _
        rw [text200]
      have HBk : Hid _ := hBk
      have HOW : Hid (Off (fun k => w.heap.size ≤ k) w wr) := HO2.out.trans (Off.of_below hbk)
      have HA1 : Hid _ := ha1
      have HA2 : Hid _ := ha2
      clear hBk hbk ha1 ha2 hL1 hL2
      have hQ3 : ∀ w : World, (Op.stringOp .add ⟨#[47, 63, 97, 102, 116, 101, 114, 61]⟩ ⟨Q.toArray⟩).run Tryz.prog w = .ok (.string ⟨(47 :: (afterW ++ Q)).toArray⟩) w := by
        have := addS ⟨#[47, 63, 97, 102, 116, 101, 114, 61]⟩ ⟨Q.toArray⟩ (by simp [ByteArray.size]; omega)
        rw [show (⟨#[47, 63, 97, 102, 116, 101, 114, 61]⟩ : ByteArray) ++ ⟨Q.toArray⟩ = ⟨(47 :: (afterW ++ Q)).toArray⟩ from mk_app [47, 63, 97, 102, 116, 101, 114, 61] Q] at this
        exact this
      obtain ⟨U2, hU2⟩ : ∃ U, 47 :: (afterW ++ Q) = U := ⟨_, rfl⟩
      have hU2l : U2.length < 100 := by rw [← hU2]; simp [afterW]; omega
      rw [hU2] at hQ3 HA2
      clear hU2
      obtain ⟨R1, hR1⟩ : ∃ R, reqB getM [47] [] [] = R := ⟨_, rfl⟩
      obtain ⟨R2, hR2⟩ : ∃ R, reqB getM U2 [] [] = R := ⟨_, rfl⟩
      have hR1l : R1.length < 1000 := by rw [← hR1]; decide
      have hR2l : R2.length < 1000 := by rw [← hR2, reqB_len]; simp [getM]; omega
      have HQ1 : Hid (∀ y, Calls Tryz.prog 16 #[.string ⟨#[71, 69, 84]⟩, .string ⟨#[47]⟩, .string ⟨#[]⟩, .string ⟨#[]⟩] y fun e w' => e = .returned (.string ⟨R1.toArray⟩) ∧ w' = y) := by
        intro y
        have := request_any getM [47] [] [] y (by decide) (by decide) (by decide) (by decide)
        rw [hR1] at this
        exact this
      have HQ2 : Hid (∀ y, Calls Tryz.prog 16 #[.string ⟨#[71, 69, 84]⟩, .string ⟨U2.toArray⟩, .string ⟨#[]⟩, .string ⟨#[]⟩] y fun e w' => e = .returned (.string ⟨R2.toArray⟩) ∧ w' = y) := by
        intro y
        have := request_any getM U2 [] [] y (by decide) (by omega) (by decide) (by decide)
        rw [hR2] at this
        exact this
      rw [hR1] at HA1
      rw [hR2] at HA2
      have HD1 := HD.out R1 L1 HA1.out hR1l
      have HD2 := HD.out R2 L2 HA2.out hR2l
      have HD1 : Hid _ := HD1
      have HD2 : Hid _ := HD2
      have hT1 : ∀ w : World, (Op.stringOp .add ⟨#[50, 48, 48, 13, 10, 13, 10]⟩ ⟨L1.toArray⟩).run Tryz.prog w = .ok (.string ⟨([50, 48, 48, 13, 10, 13, 10] ++ L1).toArray⟩) w := by
        have := addS ⟨#[50, 48, 48, 13, 10, 13, 10]⟩ ⟨L1.toArray⟩ (by simp [ByteArray.size]; omega)
        rw [show (⟨#[50, 48, 48, 13, 10, 13, 10]⟩ : ByteArray) ++ ⟨L1.toArray⟩ = ⟨([50, 48, 48, 13, 10, 13, 10] ++ L1).toArray⟩ from mk_app [50, 48, 48, 13, 10, 13, 10] L1] at this
        exact this
      have hT2 : ∀ w : World, (Op.stringOp .add ⟨#[50, 48, 48, 13, 10, 13, 10]⟩ ⟨L2.toArray⟩).run Tryz.prog w = .ok (.string ⟨([50, 48, 48, 13, 10, 13, 10] ++ L2).toArray⟩) w := by
        have := addS ⟨#[50, 48, 48, 13, 10, 13, 10]⟩ ⟨L2.toArray⟩ (by simp [ByteArray.size]; omega)
        rw [show (⟨#[50, 48, 48, 13, 10, 13, 10]⟩ : ByteArray) ++ ⟨L2.toArray⟩ = ⟨([50, 48, 48, 13, 10, 13, 10] ++ L2).toArray⟩ from mk_app [50, 48, 48, 13, 10, 13, 10] L2] at this
        exact this
      obtain ⟨E1, hE1⟩ : ∃ E, [50, 48, 48, 13, 10, 13, 10] ++ L1 = E := ⟨_, rfl⟩
      obtain ⟨E2, hE2⟩ : ∃ E, [50, 48, 48, 13, 10, 13, 10] ++ L2 = E := ⟨_, rfl⟩
      rw [hE1] at hT1 HD1
      rw [hE2] at hT2 HD2
      clear hR1 hR2 hE1 hE2 HA1 HA2 HD
      go_wp2_with fail
      go_region_held3 (fun y => y.cell? ⟨b, 0, none⟩ = some (.pointer (some ⟨s, 0, none⟩))) (first | assumption | go_keep) (first
        | (go_at_call 16
           refine Calls.mono (HQ1.out _) ?_
           rintro e w4 ⟨rfl, rfl⟩)
        | (go_at_call 15
           refine Calls.mono (HD1.out _ _ (HBk.out.below (Below.refl _ _).drew)) ?_
           rintro e w5 ⟨rfl, ⟨M5, hB5⟩, hO5⟩
           have c5 := hB5.bk.c0.1
           have l5 := hB5.bk.lt))
      have HB5 : Hid _ := hB5
      have HO5 : Hid _ := (HOW.out.trans (Off.of_below (Below.refl _ _).drew)).trans hO5
      clear hB5 hO5
      go_wp2_with fail
      go_region_held3 (fun y => y.cell? ⟨b, 0, none⟩ = some (.pointer (some ⟨s, 0, none⟩))) (first | assumption | go_keep) (first
        | (go_at_call 16
           refine Calls.mono (HQ2.out _) ?_
           rintro e w6 ⟨rfl, rfl⟩)
        | (go_at_call 15
           refine Calls.mono (HD2.out _ _ (HB5.out.below (Below.refl _ _).drew)) ?_
           rintro e w7 ⟨rfl, ⟨M7, hB7⟩, hO7⟩
           have c7 := hB7.bk.c0.1))
      have HO7 : Hid _ := (HO5.out.trans (Off.of_below (Below.refl _ _).drew)).trans hO7
      clear hB7 hO7
      go_wp2
      go_ret
      exact ⟨rfl, HO7.out⟩
end Go.Proofs.YtmehkneofinmiaaGreatDoor

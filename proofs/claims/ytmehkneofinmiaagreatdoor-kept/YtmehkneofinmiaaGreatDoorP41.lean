/-
  Texts of this proof, part 41.
-/
import Derived.Test.YtmehkneofinmiaaGreatDoorP39
namespace Go.Proofs.YtmehkneofinmiaaGreatDoor
open Go.RowKit
set_option linter.unusedSimpArgs false in
set_option linter.unusedVariables false in
set_option maxRecDepth 100000 in
set_option maxHeartbeats 16000000 in
theorem kept_none {c0 c1 c2 c3 c4 c6 c8 c9 c10 c11 c12 c13 c14 c15 c16 c17 c18 c19 c20 c21 c22 c23 c24 c25 c26 c27 c28 c29 c30 c31 c32 c33 c34 c35 c36 c37 c38 c39 c40 c41 c42 c43 c44 c45 c46 c47 c48 c49 c50 c51 c52 c53 c54 c55 c56 c57 c58 c59 c60 c61 c62 c63 c64 c65 c66 c67 c68 c69 c70 c71 c72 c73 c74 c75 c76 c77 c78 c79 c80 c81 c82 c83 c84 c85 c86 c87 c88 c89 c90 c91 c92 c93 c94 c95 c96 c97 c98 c99 c100 c101 c102 c103 c104 c105 c106 c107 c108 c109 c110 c111 c112 c113 c114 c115 c116 c117 c118 c119 c120 c121 c122 c123 c124 c125 c126 c127 c128 c129 c130 c131 c132 c133 c134 c135 c136 c137 c138 c139 c140 c141 c142 c143 c144 c145 c146 c147 c148 c149 c150 c151 c152 c153 c154 c155 c156 c157 c158 c159 c160 c161 c162 c163 c164 c165 c166 c167 c168 c169 c170 c171 c172 c173 c174 c175 c176 c177 c178 c179 c180 c181 c182 c183 c184 c185 c186 c187 c188 c189 c190 c191 c192 c193 c194 c195 c196 c197 c198 c199 c200 c201 : Value} (w wr : World) (b s : Nat) (KK : Nat → List UInt8) (en : Nat → Ent) (vs : Nat → Value) (I : World → Prop) (D : List UInt8 → List UInt8 → Prop) (HS : Hid (Ksk w.heap.size b s KK en vs I D)) (i : Nat) (hi5 : i < 5) (G : List UInt8) (hdG : D (reqB [71, 69, 84] (47 :: KK i) [] []) G) (hcn : curOf (en i) = none) (hG4 : CodeIs G 404) (hI3 : I wr) (hO3 : Off (fun k => w.heap.size ≤ k) w wr) (Q : Exit → Act → World → Prop) (hPA : ∀ c a o v w, Q (.panic c) (Act.put a o v) w → Q (.panic c) a w)
    (HEX : Hid (∀ (t4 t15 t16 t17 t163 t164 t165 t166 t167 t168 t169 t170 t171 t172 t173 t174 t175 t176 t177 t178 t179 t180 t181 t182 t183 t184 t185 t186 t187 t188 t189 t190 t191 t192 t193 t194 t195 t196 t197 t198 t199 t200 t201 : Value) (w' : World), I w' → Off (fun k => w.heap.size ≤ k) w w' → Q .normal ⟨(c0 :: c1 :: c2 :: c3 :: t4 :: .pointer (some ⟨b, 0, none⟩) :: c6 :: .pointer (some ⟨b, 1 + i * 3, none⟩) :: c8 :: c9 :: c10 :: c11 :: c12 :: c13 :: c14 :: t15 :: t16 :: t17 :: c18 :: c19 :: c20 :: c21 :: c22 :: c23 :: c24 :: c25 :: c26 :: c27 :: c28 :: c29 :: c30 :: c31 :: c32 :: c33 :: c34 :: c35 :: c36 :: c37 :: c38 :: c39 :: c40 :: c41 :: c42 :: c43 :: c44 :: c45 :: c46 :: c47 :: c48 :: c49 :: c50 :: c51 :: c52 :: c53 :: c54 :: c55 :: c56 :: c57 :: c58 :: c59 :: c60 :: c61 :: c62 :: c63 :: c64 :: c65 :: c66 :: c67 :: c68 :: c69 :: c70 :: c71 :: c72 :: c73 :: c74 :: c75 :: c76 :: c77 :: c78 :: c79 :: c80 :: c81 :: c82 :: c83 :: c84 :: c85 :: c86 :: c87 :: c88 :: c89 :: c90 :: c91 :: c92 :: c93 :: c94 :: c95 :: c96 :: c97 :: c98 :: c99 :: c100 :: c101 :: c102 :: c103 :: c104 :: c105 :: c106 :: c107 :: c108 :: c109 :: c110 :: c111 :: c112 :: c113 :: c114 :: c115 :: c116 :: c117 :: c118 :: c119 :: c120 :: c121 :: c122 :: c123 :: c124 :: c125 :: c126 :: c127 :: c128 :: c129 :: c130 :: c131 :: c132 :: c133 :: c134 :: c135 :: c136 :: c137 :: c138 :: c139 :: c140 :: c141 :: c142 :: c143 :: c144 :: c145 :: c146 :: c147 :: c148 :: c149 :: c150 :: c151 :: c152 :: c153 :: c154 :: c155 :: c156 :: c157 :: c158 :: c159 :: c160 :: c161 :: c162 :: t163 :: t164 :: t165 :: t166 :: t167 :: t168 :: t169 :: t170 :: t171 :: t172 :: t173 :: t174 :: t175 :: t176 :: t177 :: t178 :: t179 :: t180 :: t181 :: t182 :: t183 :: t184 :: t185 :: t186 :: t187 :: t188 :: t189 :: t190 :: t191 :: t192 :: t193 :: t194 :: t195 :: t196 :: t197 :: t198 :: t199 :: t200 :: t201 :: []).toArray, []⟩ w')) :
    Code.wp Tryz.prog keptTail Q ⟨(c0 :: c1 :: c2 :: c3 :: c4 :: .pointer (some ⟨b, 0, none⟩) :: c6 :: .pointer (some ⟨b, 1 + i * 3, none⟩) :: c8 :: c9 :: c10 :: c11 :: c12 :: c13 :: c14 :: c15 :: c16 :: c17 :: c18 :: c19 :: c20 :: c21 :: c22 :: c23 :: c24 :: c25 :: c26 :: c27 :: c28 :: c29 :: c30 :: c31 :: c32 :: c33 :: c34 :: c35 :: c36 :: c37 :: c38 :: c39 :: c40 :: c41 :: c42 :: c43 :: c44 :: c45 :: c46 :: c47 :: c48 :: c49 :: c50 :: c51 :: c52 :: c53 :: c54 :: c55 :: c56 :: c57 :: c58 :: c59 :: c60 :: c61 :: c62 :: c63 :: c64 :: c65 :: c66 :: c67 :: c68 :: c69 :: c70 :: c71 :: c72 :: c73 :: c74 :: c75 :: c76 :: c77 :: c78 :: c79 :: c80 :: c81 :: c82 :: c83 :: c84 :: c85 :: c86 :: c87 :: c88 :: c89 :: c90 :: c91 :: c92 :: c93 :: c94 :: c95 :: c96 :: c97 :: c98 :: c99 :: c100 :: c101 :: c102 :: c103 :: c104 :: c105 :: c106 :: c107 :: c108 :: c109 :: c110 :: c111 :: c112 :: c113 :: c114 :: c115 :: c116 :: c117 :: c118 :: c119 :: c120 :: c121 :: c122 :: c123 :: c124 :: c125 :: c126 :: c127 :: c128 :: c129 :: c130 :: c131 :: c132 :: c133 :: c134 :: c135 :: c136 :: c137 :: c138 :: c139 :: c140 :: c141 :: c142 :: c143 :: c144 :: c145 :: c146 :: c147 :: c148 :: c149 :: c150 :: c151 :: c152 :: c153 :: c154 :: c155 :: c156 :: c157 :: c158 :: c159 :: c160 :: c161 :: c162 :: c163 :: c164 :: c165 :: c166 :: c167 :: c168 :: c169 :: c170 :: c171 :: c172 :: c173 :: c174 :: c175 :: c176 :: c177 :: c178 :: c179 :: c180 :: c181 :: c182 :: c183 :: c184 :: c185 :: c186 :: c187 :: c188 :: c189 :: c190 :: c191 :: c192 :: c193 :: c194 :: c195 :: c196 :: c197 :: c198 :: c199 :: c200 :: c201 :: []).toArray, []⟩ wr := by
  conv => arg 2; whnf
  have hS := HS.out.h i hi5
  have hkl := HS.out.kl i hi5
  have hver := HS.out.ver i hi5
  obtain ⟨K, hK⟩ : ∃ K, KK i = K := ⟨_, rfl⟩
  rw [hK] at hS hkl hdG
  have HS2 : Hid _ := hS
  have HVER : Hid _ := hver
  have hcu := hS.curr
  have z0 := hS.c0 _ hI3
  have z1 := hS.ck _ hI3
  have lt3 := hS.sz _ hI3
  have hA : ∀ w : World, (Op.stringOp .add ⟨#[47]⟩ ⟨K.toArray⟩).run Tryz.prog w = .ok (.string ⟨(47 :: K).toArray⟩) w := addL2 [47] K (by simp; omega)
  have HQ2 : Hid (∀ y, Calls Tryz.prog 16 #[.string ⟨#[71, 69, 84]⟩, .string ⟨(47 :: K).toArray⟩, .string ⟨#[]⟩, .string ⟨#[]⟩] y fun e w' => e = .returned (.string ⟨(reqB [71, 69, 84] (47 :: K) [] []).toArray⟩) ∧ w' = y) :=
    fun y => request_any [71, 69, 84] (47 :: K) [] [] y (by decide) (by simp; omega) (by decide) (by decide)
  obtain ⟨R2, hR2⟩ : ∃ R, reqB [71, 69, 84] (47 :: K) [] [] = R := ⟨_, rfl⟩
  rw [hR2] at hdG HQ2
  obtain ⟨U1, hU1⟩ : ∃ x, 47 :: K = x := ⟨_, rfl⟩
  rw [hU1] at hA HQ2
  have HDG : Hid _ := hdG
  have HCU : Hid _ := hcu
  have HI3 : Hid _ := hI3
  have HO3 : Hid _ := hO3
  obtain ⟨w3, hw3⟩ : ∃ x, x = wr := ⟨_, rfl⟩
  rw [← hw3] at HI3 HO3 z0 z1 lt3 ⊢
  clear hw3 hS hver hdG hcu hR2 hU1 hI3 hO3
  have HPA : Hid _ := hPA
  clear hPA
  have HCU2 : Hid (∀ y, I y → Calls Tryz.prog 19 #[.pointer (some ⟨b, 1 + i * 3, none⟩)] y fun e w' => e = .returned (.tuple #[.agg #[.int .i64 0, .int .i64 0, .bool false, .string ⟨#[]⟩, .string ⟨#[]⟩], .bool false]) ∧ Below y.heap.size y w') := by
    have := HCU.out
    rw [hcn] at this
    exact this
  have HG4 : Hid _ := hG4
  clear hG4 hcn HCU
  go_wp2_with (go_at_call 19; refine Calls.mono (HCU2.out _ HI3.out) ?_; rintro e w4 ⟨rfl, b4⟩)
  obtain ⟨vb, hvb⟩ : ∃ x, w4.heap.size = x := ⟨_, rfl⟩
  obtain ⟨X, hX⟩ : ∃ X, X = w4.alloc (.cells #[.int .i64 0, .int .i64 0, .bool false, .string ⟨#[]⟩, .string ⟨#[]⟩] 56) := ⟨_, rfl⟩
  rw [← hX, hvb]
  have hbX : Below w3.heap.size w3 X := by rw [hX]; exact b4.alloc b4.size _
  have HIX : Hid (I X) := HS2.out.bel _ _ HI3.out hbX
  have HVX : Hid (X.heap[vb]? = some (.cells #[.int .i64 0, .int .i64 0, .bool false, .string ⟨#[]⟩, .string ⟨#[]⟩] 56 (0, 0))) := by
    show _ = _
    rw [hX, ← hvb]
    exact heap_alloc_new _ _
  have HOX : Hid (Off (fun k => w.heap.size ≤ k) w X) := HO3.out.trans (Off.of_below hbX)
  have lvX : vb < X.heap.size := (Array.getElem?_eq_some_iff.1 HVX.out).1
  have ltX := HS2.out.sz _ HIX.out
  clear hX hbX hvb b4 HI3 HO3 z0 z1 lt3
  have sX : X.cell? ⟨b, 0, none⟩ = some (.pointer (some ⟨s, 0, none⟩)) ∧ X.cell? ⟨b, 1 + i * 3, none⟩ = some (.string ⟨K.toArray⟩) := ⟨HS2.out.c0 _ HIX.out, HS2.out.ck _ HIX.out⟩
  go_region_held3 (fun y => y.cell? ⟨b, 0, none⟩ = some (.pointer (some ⟨s, 0, none⟩)) ∧ y.cell? ⟨b, 1 + i * 3, none⟩ = some (.string ⟨K.toArray⟩)) (first | assumption | go_keep) (first
    | (go_at_call 16
       refine Calls.mono (HQ2.out _) ?_
       rintro e w2 ⟨rfl, rfl⟩)
    | (go_at_call 15
       refine Calls.mono (HS2.out.asks _ _ HDG.out _ (HS2.out.drw HIX.out)) ?_
       rintro e w6 ⟨rfl, i6, o6, k6⟩
       have v6 := k6 _ _ _ HVX.out
       have s6 : w6.cell? ⟨b, 0, none⟩ = some (.pointer (some ⟨s, 0, none⟩)) ∧ w6.cell? ⟨b, 1 + i * 3, none⟩ = some (.string ⟨K.toArray⟩) := ⟨HS2.out.c0 _ i6, HS2.out.ck _ i6⟩))
  have HI6 : Hid (I w6) := i6
  have HV6 : Hid _ := v6
  have HO6 : Hid (Off (fun k => w.heap.size ≤ k) w w6) := (HOX.out.trans (Off.of_below (Below.refl _ _).drew)).trans o6
  have q6 := five_cells v6
  clear i6 v6 o6 k6 s6 sX HIX HVX HOX lvX ltX
  go_wp2_with fail
  refine wp_region_held_drew (S := (fun _ => True)) (by kernel_rfl) trivial (fun hHeld => ?_)
  refine wpAnyH_take (i := 0) (v := ?_) rfl (by kernel_rfl) (by kernel_rfl) (by kernel_rfl) (fun _ _ _ h => HPA.out _ _ _ _ _ h) (Or.inl ⟨by rfl, ?_⟩) hHeld ?_
  rotate_left
  · intro y hSw
    go_simp
    try with_reducible rfl
  try simp only [Act.put, List.setIfInBounds_toArray, List.set_cons_zero, List.set_cons_succ]
  refine wpAnyH_take (i := 1) (v := ?_) rfl (by kernel_rfl) (by kernel_rfl) (by kernel_rfl) (fun _ _ _ h => HPA.out _ _ _ _ _ h) (Or.inl ⟨by rfl, ?_⟩) hHeld ?_
  rotate_left
  · intro y hSw
    go_simp
    try with_reducible rfl
  try simp only [Act.put, List.setIfInBounds_toArray, List.set_cons_zero, List.set_cons_succ]
  refine wpAnyH_ready (rs := [2]) (by kernel_rfl) (by simp) ?_
  refine AllReadyH.cons rfl (fun K' hK' => ?_) AllReadyH.nil
  go_simp
  refine Calls.mono (HG4.out _) ?_
  rintro e w7 ⟨rfl, rfl⟩
  try go_wp2_with fail
  refine hK'.out _ _ trivial (fun _ => ?_)
  clear hK' K'
  try simp only [Act.put, List.setIfInBounds_toArray, List.set_cons_zero, List.set_cons_succ]
  refine wpAnyH_take (i := 3) (v := ?_) rfl (by kernel_rfl) (by kernel_rfl) (by kernel_rfl) (fun _ _ _ h => HPA.out _ _ _ _ _ h) (Or.inl ⟨by rfl, ?_⟩) hHeld ?_
  rotate_left
  · intro y hSw
    go_simp
    try with_reducible rfl
  try simp only [Act.put, List.setIfInBounds_toArray, List.set_cons_zero, List.set_cons_succ]
  refine wpAnyH_take (i := 4) (v := ?_) rfl (by kernel_rfl) (by kernel_rfl) (by kernel_rfl) (fun _ _ _ h => HPA.out _ _ _ _ _ h) (Or.inl ⟨by rfl, ?_⟩) hHeld ?_
  rotate_left
  · intro y hSw
    go_simp
    try with_reducible rfl
  try simp only [Act.put, List.setIfInBounds_toArray, List.set_cons_zero, List.set_cons_succ]
  refine wpAnyH_take (i := 5) (v := ?_) rfl (by kernel_rfl) (by kernel_rfl) (by kernel_rfl) (fun _ _ _ h => HPA.out _ _ _ _ _ h) (Or.inl ⟨by rfl, ?_⟩) hHeld ?_
  rotate_left
  · intro y hSw
    go_simp
    try with_reducible rfl
  try simp only [Act.put, List.setIfInBounds_toArray, List.set_cons_zero, List.set_cons_succ]
  refine wpAnyH_take (i := 6) (v := ?_) rfl (by kernel_rfl) (by kernel_rfl) (by kernel_rfl) (fun _ _ _ h => HPA.out _ _ _ _ _ h) (Or.inl ⟨by rfl, ?_⟩) hHeld ?_
  rotate_left
  · intro y hSw
    go_simp
    try with_reducible rfl
  try simp only [Act.put, List.setIfInBounds_toArray, List.set_cons_zero, List.set_cons_succ]
  refine wpAnyH_take (i := 7) (v := ?_) rfl (by kernel_rfl) (by kernel_rfl) (by kernel_rfl) (fun _ _ _ h => HPA.out _ _ _ _ _ h) (Or.inl ⟨by rfl, ?_⟩) hHeld ?_
  rotate_left
  · intro y hSw
    go_simp
    try with_reducible rfl
  try simp only [Act.put, List.setIfInBounds_toArray, List.set_cons_zero, List.set_cons_succ]
  refine wpAnyH_take (i := 8) (v := undef) rfl (by kernel_rfl) (by kernel_rfl) (by kernel_rfl) (fun _ _ _ h => HPA.out _ _ _ _ _ h) (Or.inr ⟨by kernel_rfl, rfl⟩) hHeld ?_
  try simp only [Act.put, List.setIfInBounds_toArray, List.set_cons_zero, List.set_cons_succ]
  refine wpAnyH_take (i := 9) (v := undef) rfl (by kernel_rfl) (by kernel_rfl) (by kernel_rfl) (fun _ _ _ h => HPA.out _ _ _ _ _ h) (Or.inr ⟨by kernel_rfl, rfl⟩) hHeld ?_
  try simp only [Act.put, List.setIfInBounds_toArray, List.set_cons_zero, List.set_cons_succ]
  refine wpAnyH_take (i := 10) (v := undef) rfl (by kernel_rfl) (by kernel_rfl) (by kernel_rfl) (fun _ _ _ h => HPA.out _ _ _ _ _ h) (Or.inr ⟨by kernel_rfl, rfl⟩) hHeld ?_
  try simp only [Act.put, List.setIfInBounds_toArray, List.set_cons_zero, List.set_cons_succ]
  refine wpAnyH_take (i := 11) (v := undef) rfl (by kernel_rfl) (by kernel_rfl) (by kernel_rfl) (fun _ _ _ h => HPA.out _ _ _ _ _ h) (Or.inr ⟨by kernel_rfl, rfl⟩) hHeld ?_
  try simp only [Act.put, List.setIfInBounds_toArray, List.set_cons_zero, List.set_cons_succ]
  refine wpAnyH_take (i := 12) (v := undef) rfl (by kernel_rfl) (by kernel_rfl) (by kernel_rfl) (fun _ _ _ h => HPA.out _ _ _ _ _ h) (Or.inr ⟨by kernel_rfl, rfl⟩) hHeld ?_
  try simp only [Act.put, List.setIfInBounds_toArray, List.set_cons_zero, List.set_cons_succ]
  refine wpAnyH_take (i := 13) (v := undef) rfl (by kernel_rfl) (by kernel_rfl) (by kernel_rfl) (fun _ _ _ h => HPA.out _ _ _ _ _ h) (Or.inr ⟨by kernel_rfl, rfl⟩) hHeld ?_
  try simp only [Act.put, List.setIfInBounds_toArray, List.set_cons_zero, List.set_cons_succ]
  refine wpAnyH_take (i := 14) (v := undef) rfl (by kernel_rfl) (by kernel_rfl) (by kernel_rfl) (fun _ _ _ h => HPA.out _ _ _ _ _ h) (Or.inr ⟨by kernel_rfl, rfl⟩) hHeld ?_
  try simp only [Act.put, List.setIfInBounds_toArray, List.set_cons_zero, List.set_cons_succ]
  refine wpAnyH_take (i := 15) (v := undef) rfl (by kernel_rfl) (by kernel_rfl) (by kernel_rfl) (fun _ _ _ h => HPA.out _ _ _ _ _ h) (Or.inr ⟨by kernel_rfl, rfl⟩) hHeld ?_
  try simp only [Act.put, List.setIfInBounds_toArray, List.set_cons_zero, List.set_cons_succ]
  refine wpAnyH_take (i := 16) (v := undef) rfl (by kernel_rfl) (by kernel_rfl) (by kernel_rfl) (fun _ _ _ h => HPA.out _ _ _ _ _ h) (Or.inr ⟨by kernel_rfl, rfl⟩) hHeld ?_
  try simp only [Act.put, List.setIfInBounds_toArray, List.set_cons_zero, List.set_cons_succ]
  refine wpAnyH_take (i := 17) (v := undef) rfl (by kernel_rfl) (by kernel_rfl) (by kernel_rfl) (fun _ _ _ h => HPA.out _ _ _ _ _ h) (Or.inr ⟨by kernel_rfl, rfl⟩) hHeld ?_
  try simp only [Act.put, List.setIfInBounds_toArray, List.set_cons_zero, List.set_cons_succ]
  refine wpAnyH_take (i := 18) (v := undef) rfl (by kernel_rfl) (by kernel_rfl) (by kernel_rfl) (fun _ _ _ h => HPA.out _ _ _ _ _ h) (Or.inr ⟨by kernel_rfl, rfl⟩) hHeld ?_
  try simp only [Act.put, List.setIfInBounds_toArray, List.set_cons_zero, List.set_cons_succ]
  refine wpAnyH_take (i := 19) (v := undef) rfl (by kernel_rfl) (by kernel_rfl) (by kernel_rfl) (fun _ _ _ h => HPA.out _ _ _ _ _ h) (Or.inr ⟨by kernel_rfl, rfl⟩) hHeld ?_
  try simp only [Act.put, List.setIfInBounds_toArray, List.set_cons_zero, List.set_cons_succ]
  refine wpAnyH_take (i := 20) (v := undef) rfl (by kernel_rfl) (by kernel_rfl) (by kernel_rfl) (fun _ _ _ h => HPA.out _ _ _ _ _ h) (Or.inr ⟨by kernel_rfl, rfl⟩) hHeld ?_
  try simp only [Act.put, List.setIfInBounds_toArray, List.set_cons_zero, List.set_cons_succ]
  refine wpAnyH_ready (rs := [21]) (by kernel_rfl) (by simp) ?_
  refine AllReadyH.cons rfl (fun K' hK' => ?_) AllReadyH.nil
  go_simp
  refine hK'.out _ _ trivial (fun _ => ?_)
  clear hK' K'
  try simp only [Act.put, List.setIfInBounds_toArray, List.set_cons_zero, List.set_cons_succ]
  refine wpAnyH_ready (rs := [22]) (by kernel_rfl) (by simp) ?_
  refine AllReadyH.cons rfl (fun K' hK' => ?_) AllReadyH.nil
  go_simp
  refine hK'.out _ _ trivial (fun _ => ?_)
  clear hK' K'
  try simp only [Act.put, List.setIfInBounds_toArray, List.set_cons_zero, List.set_cons_succ]
  refine wpAnyH_done (by kernel_rfl) ?_ _
  have HO7 : Hid _ := HO6.out.trans (Off.of_below (Below.refl _ _).drew)
  have HI7 : Hid _ := HS2.out.drw HI6.out
  clear HI6 HV6 HO6 q6
  go_wp2_with fail
  apply HEX.out
  · exact HI7.out
  · exact HO7.out
end Go.Proofs.YtmehkneofinmiaaGreatDoor

namespace Go.Proofs.YtmehkneofinmiaaGreatDoor
open Go.RowKit
set_option linter.unusedSimpArgs false in
set_option linter.unusedVariables false in
set_option maxRecDepth 100000 in
set_option maxHeartbeats 16000000 in
theorem kept_some {c0 c1 c2 c3 c4 c6 c8 c9 c10 c11 c12 c13 c14 c15 c16 c17 c18 c19 c20 c21 c22 c23 c24 c25 c26 c27 c28 c29 c30 c31 c32 c33 c34 c35 c36 c37 c38 c39 c40 c41 c42 c43 c44 c45 c46 c47 c48 c49 c50 c51 c52 c53 c54 c55 c56 c57 c58 c59 c60 c61 c62 c63 c64 c65 c66 c67 c68 c69 c70 c71 c72 c73 c74 c75 c76 c77 c78 c79 c80 c81 c82 c83 c84 c85 c86 c87 c88 c89 c90 c91 c92 c93 c94 c95 c96 c97 c98 c99 c100 c101 c102 c103 c104 c105 c106 c107 c108 c109 c110 c111 c112 c113 c114 c115 c116 c117 c118 c119 c120 c121 c122 c123 c124 c125 c126 c127 c128 c129 c130 c131 c132 c133 c134 c135 c136 c137 c138 c139 c140 c141 c142 c143 c144 c145 c146 c147 c148 c149 c150 c151 c152 c153 c154 c155 c156 c157 c158 c159 c160 c161 c162 c163 c164 c165 c166 c167 c168 c169 c170 c171 c172 c173 c174 c175 c176 c177 c178 c179 c180 c181 c182 c183 c184 c185 c186 c187 c188 c189 c190 c191 c192 c193 c194 c195 c196 c197 c198 c199 c200 c201 : Value} (w wr : World) (b s : Nat) (KK : Nat → List UInt8) (en : Nat → Ent) (vs : Nat → Value) (I : World → Prop) (D : List UInt8 → List UInt8 → Prop) (HS : Hid (Ksk w.heap.size b s KK en vs I D)) (i : Nat) (hi5 : i < 5) (G : List UInt8) (hdG : D (reqB [71, 69, 84] (47 :: KK i) [] []) G) (u : Ver) (hcs : curOf (en i) = some u) (hG2 : CodeIs G 200) (hGb : BodyIs G u.body) (hGv : VersIs G (Lib.decDigits u.num)) (hI3 : I wr) (hO3 : Off (fun k => w.heap.size ≤ k) w wr) (Q : Exit → Act → World → Prop) (hPA : ∀ c a o v w, Q (.panic c) (Act.put a o v) w → Q (.panic c) a w)
    (HEX : Hid (∀ (t4 t15 t16 t17 t163 t164 t165 t166 t167 t168 t169 t170 t171 t172 t173 t174 t175 t176 t177 t178 t179 t180 t181 t182 t183 t184 t185 t186 t187 t188 t189 t190 t191 t192 t193 t194 t195 t196 t197 t198 t199 t200 t201 : Value) (w' : World), I w' → Off (fun k => w.heap.size ≤ k) w w' → Q .normal ⟨(c0 :: c1 :: c2 :: c3 :: t4 :: .pointer (some ⟨b, 0, none⟩) :: c6 :: .pointer (some ⟨b, 1 + i * 3, none⟩) :: c8 :: c9 :: c10 :: c11 :: c12 :: c13 :: c14 :: t15 :: t16 :: t17 :: c18 :: c19 :: c20 :: c21 :: c22 :: c23 :: c24 :: c25 :: c26 :: c27 :: c28 :: c29 :: c30 :: c31 :: c32 :: c33 :: c34 :: c35 :: c36 :: c37 :: c38 :: c39 :: c40 :: c41 :: c42 :: c43 :: c44 :: c45 :: c46 :: c47 :: c48 :: c49 :: c50 :: c51 :: c52 :: c53 :: c54 :: c55 :: c56 :: c57 :: c58 :: c59 :: c60 :: c61 :: c62 :: c63 :: c64 :: c65 :: c66 :: c67 :: c68 :: c69 :: c70 :: c71 :: c72 :: c73 :: c74 :: c75 :: c76 :: c77 :: c78 :: c79 :: c80 :: c81 :: c82 :: c83 :: c84 :: c85 :: c86 :: c87 :: c88 :: c89 :: c90 :: c91 :: c92 :: c93 :: c94 :: c95 :: c96 :: c97 :: c98 :: c99 :: c100 :: c101 :: c102 :: c103 :: c104 :: c105 :: c106 :: c107 :: c108 :: c109 :: c110 :: c111 :: c112 :: c113 :: c114 :: c115 :: c116 :: c117 :: c118 :: c119 :: c120 :: c121 :: c122 :: c123 :: c124 :: c125 :: c126 :: c127 :: c128 :: c129 :: c130 :: c131 :: c132 :: c133 :: c134 :: c135 :: c136 :: c137 :: c138 :: c139 :: c140 :: c141 :: c142 :: c143 :: c144 :: c145 :: c146 :: c147 :: c148 :: c149 :: c150 :: c151 :: c152 :: c153 :: c154 :: c155 :: c156 :: c157 :: c158 :: c159 :: c160 :: c161 :: c162 :: t163 :: t164 :: t165 :: t166 :: t167 :: t168 :: t169 :: t170 :: t171 :: t172 :: t173 :: t174 :: t175 :: t176 :: t177 :: t178 :: t179 :: t180 :: t181 :: t182 :: t183 :: t184 :: t185 :: t186 :: t187 :: t188 :: t189 :: t190 :: t191 :: t192 :: t193 :: t194 :: t195 :: t196 :: t197 :: t198 :: t199 :: t200 :: t201 :: []).toArray, []⟩ w')) :
    Code.wp Tryz.prog keptTail Q ⟨(c0 :: c1 :: c2 :: c3 :: c4 :: .pointer (some ⟨b, 0, none⟩) :: c6 :: .pointer (some ⟨b, 1 + i * 3, none⟩) :: c8 :: c9 :: c10 :: c11 :: c12 :: c13 :: c14 :: c15 :: c16 :: c17 :: c18 :: c19 :: c20 :: c21 :: c22 :: c23 :: c24 :: c25 :: c26 :: c27 :: c28 :: c29 :: c30 :: c31 :: c32 :: c33 :: c34 :: c35 :: c36 :: c37 :: c38 :: c39 :: c40 :: c41 :: c42 :: c43 :: c44 :: c45 :: c46 :: c47 :: c48 :: c49 :: c50 :: c51 :: c52 :: c53 :: c54 :: c55 :: c56 :: c57 :: c58 :: c59 :: c60 :: c61 :: c62 :: c63 :: c64 :: c65 :: c66 :: c67 :: c68 :: c69 :: c70 :: c71 :: c72 :: c73 :: c74 :: c75 :: c76 :: c77 :: c78 :: c79 :: c80 :: c81 :: c82 :: c83 :: c84 :: c85 :: c86 :: c87 :: c88 :: c89 :: c90 :: c91 :: c92 :: c93 :: c94 :: c95 :: c96 :: c97 :: c98 :: c99 :: c100 :: c101 :: c102 :: c103 :: c104 :: c105 :: c106 :: c107 :: c108 :: c109 :: c110 :: c111 :: c112 :: c113 :: c114 :: c115 :: c116 :: c117 :: c118 :: c119 :: c120 :: c121 :: c122 :: c123 :: c124 :: c125 :: c126 :: c127 :: c128 :: c129 :: c130 :: c131 :: c132 :: c133 :: c134 :: c135 :: c136 :: c137 :: c138 :: c139 :: c140 :: c141 :: c142 :: c143 :: c144 :: c145 :: c146 :: c147 :: c148 :: c149 :: c150 :: c151 :: c152 :: c153 :: c154 :: c155 :: c156 :: c157 :: c158 :: c159 :: c160 :: c161 :: c162 :: c163 :: c164 :: c165 :: c166 :: c167 :: c168 :: c169 :: c170 :: c171 :: c172 :: c173 :: c174 :: c175 :: c176 :: c177 :: c178 :: c179 :: c180 :: c181 :: c182 :: c183 :: c184 :: c185 :: c186 :: c187 :: c188 :: c189 :: c190 :: c191 :: c192 :: c193 :: c194 :: c195 :: c196 :: c197 :: c198 :: c199 :: c200 :: c201 :: []).toArray, []⟩ wr := by
  conv => arg 2; whnf
  have hS := HS.out.h i hi5
  have hkl := HS.out.kl i hi5
  have hver := HS.out.ver i hi5
  obtain ⟨K, hK⟩ : ∃ K, KK i = K := ⟨_, rfl⟩
  rw [hK] at hS hkl hdG
  have HS2 : Hid _ := hS
  have HVER : Hid _ := hver
  have hcu := hS.curr
  have z0 := hS.c0 _ hI3
  have z1 := hS.ck _ hI3
  have lt3 := hS.sz _ hI3
  have hA : ∀ w : World, (Op.stringOp .add ⟨#[47]⟩ ⟨K.toArray⟩).run Tryz.prog w = .ok (.string ⟨(47 :: K).toArray⟩) w := addL2 [47] K (by simp; omega)
  have HQ2 : Hid (∀ y, Calls Tryz.prog 16 #[.string ⟨#[71, 69, 84]⟩, .string ⟨(47 :: K).toArray⟩, .string ⟨#[]⟩, .string ⟨#[]⟩] y fun e w' => e = .returned (.string ⟨(reqB [71, 69, 84] (47 :: K) [] []).toArray⟩) ∧ w' = y) :=
    fun y => request_any [71, 69, 84] (47 :: K) [] [] y (by decide) (by simp; omega) (by decide) (by decide)
  obtain ⟨R2, hR2⟩ : ∃ R, reqB [71, 69, 84] (47 :: K) [] [] = R := ⟨_, rfl⟩
  rw [hR2] at hdG HQ2
  obtain ⟨U1, hU1⟩ : ∃ x, 47 :: K = x := ⟨_, rfl⟩
  rw [hU1] at hA HQ2
  have HDG : Hid _ := hdG
  have HCU : Hid _ := hcu
  have HI3 : Hid _ := hI3
  have HO3 : Hid _ := hO3
  obtain ⟨w3, hw3⟩ : ∃ x, x = wr := ⟨_, rfl⟩
  rw [← hw3] at HI3 HO3 z0 z1 lt3 ⊢
  clear hw3 hS hver hdG hcu hR2 hU1 hI3 hO3
  have HPA : Hid _ := hPA
  clear hPA
  have hLb := HS.out.last i hi5
  have hum := (curU_mem hcs).2
  have hun := HVER.out u (curU_mem hcs).1
  have HCU2 : Hid (∀ y, I y → Calls Tryz.prog 19 #[.pointer (some ⟨b, 1 + i * 3, none⟩)] y fun e w' => e = .returned (.tuple #[.agg #[.int .i64 u.num, .int .i64 u.time, .bool false, .string ⟨u.body.toArray⟩, .string ⟨(qTag u.body).toArray⟩], .bool true]) ∧ Below y.heap.size y w') := by
    have := HCU.out
    have e1 : bvOut (some u) = .agg #[.int .i64 u.num, .int .i64 u.time, .bool false, .string ⟨u.body.toArray⟩, .string ⟨(qTag u.body).toArray⟩] := by
      show bvAgg u = _
      unfold bvAgg tagK
      rw [hum]
      rfl
    rw [hcs, e1] at this
    exact this
  have HIU : Hid (∀ y, I y → Calls Tryz.prog 17 #[.int .i64 u.num] y fun e w' => e = .returned (.string ⟨(Lib.decDigits u.num).toArray⟩) ∧ Below y.heap.size y w') := HS.out.itoa u.num (by omega)
  obtain ⟨un, hun1⟩ : ∃ x, u.num = x := ⟨_, rfl⟩
  obtain ⟨ut, hut⟩ : ∃ x, u.time = x := ⟨_, rfl⟩
  obtain ⟨ub, hub⟩ : ∃ x, u.body = x := ⟨_, rfl⟩
  rw [hun1] at HIU HCU2 hGv
  rw [hut, hub] at HCU2
  rw [hub] at hGb
  obtain ⟨ug, hug⟩ : ∃ x, qTag ub = x := ⟨_, rfl⟩
  obtain ⟨Du, hDu⟩ : ∃ x, Lib.decDigits un = x := ⟨_, rfl⟩
  rw [hug] at HCU2
  rw [hDu] at HIU hGv
  have HG2 : Hid _ := hG2
  have HGB : Hid _ := hGb
  have HGV : Hid _ := hGv
  clear hG2 hGb hGv hcs HCU hum hun hun1 hut hub hug hDu
  go_wp2_with (go_at_call 19; refine Calls.mono (HCU2.out _ HI3.out) ?_; rintro e w4 ⟨rfl, b4⟩)
  obtain ⟨vb, hvb⟩ : ∃ x, w4.heap.size = x := ⟨_, rfl⟩
  obtain ⟨X, hX⟩ : ∃ X, X = w4.alloc (.cells #[.int .i64 un, .int .i64 ut, .bool false, .string ⟨ub.toArray⟩, .string ⟨ug.toArray⟩] 56) := ⟨_, rfl⟩
  rw [← hX, hvb]
  have hbX : Below w3.heap.size w3 X := by rw [hX]; exact b4.alloc b4.size _
  have HIX : Hid (I X) := HS2.out.bel _ _ HI3.out hbX
  have HVX : Hid (X.heap[vb]? = some (.cells #[.int .i64 un, .int .i64 ut, .bool false, .string ⟨ub.toArray⟩, .string ⟨ug.toArray⟩] 56 (0, 0))) := by
    show _ = _
    rw [hX, ← hvb]
    exact heap_alloc_new _ _
  have HOX : Hid (Off (fun k => w.heap.size ≤ k) w X) := HO3.out.trans (Off.of_below hbX)
  have lvX : vb < X.heap.size := (Array.getElem?_eq_some_iff.1 HVX.out).1
  have ltX := HS2.out.sz _ HIX.out
  clear hX hbX hvb b4 HI3 HO3 z0 z1 lt3
  have sX : X.cell? ⟨b, 0, none⟩ = some (.pointer (some ⟨s, 0, none⟩)) ∧ X.cell? ⟨b, 1 + i * 3, none⟩ = some (.string ⟨K.toArray⟩) := ⟨HS2.out.c0 _ HIX.out, HS2.out.ck _ HIX.out⟩
  go_region_held3 (fun y => y.cell? ⟨b, 0, none⟩ = some (.pointer (some ⟨s, 0, none⟩)) ∧ y.cell? ⟨b, 1 + i * 3, none⟩ = some (.string ⟨K.toArray⟩)) (first | assumption | go_keep) (first
    | (go_at_call 16
       refine Calls.mono (HQ2.out _) ?_
       rintro e w2 ⟨rfl, rfl⟩)
    | (go_at_call 15
       refine Calls.mono (HS2.out.asks _ _ HDG.out _ (HS2.out.drw HIX.out)) ?_
       rintro e w6 ⟨rfl, i6, o6, k6⟩
       have v6 := k6 _ _ _ HVX.out
       have s6 : w6.cell? ⟨b, 0, none⟩ = some (.pointer (some ⟨s, 0, none⟩)) ∧ w6.cell? ⟨b, 1 + i * 3, none⟩ = some (.string ⟨K.toArray⟩) := ⟨HS2.out.c0 _ i6, HS2.out.ck _ i6⟩))
  have HI6 : Hid (I w6) := i6
  have HV6 : Hid _ := v6
  have HO6 : Hid (Off (fun k => w.heap.size ≤ k) w w6) := (HOX.out.trans (Off.of_below (Below.refl _ _).drew)).trans o6
  have q6 := five_cells v6
  clear i6 v6 o6 k6 s6 sX HIX HVX HOX lvX ltX
  go_wp2_with fail
  go_region_held3 (fun y => y.cell? ⟨vb, 0, none⟩ = some (.int .i64 un) ∧ y.cell? ⟨vb, 3, none⟩ = some (.string ⟨ub.toArray⟩)) (first | assumption | go_keep) (first
    | (go_at_call 20
       refine Calls.mono (HG2.out _) ?_
       rintro e w7 ⟨rfl, rfl⟩)
    | (go_at_call 21
       refine Calls.mono (HGB.out _) ?_
       rintro e w8 ⟨rfl, rfl⟩)
    | (go_at_call 22
       refine Calls.mono (HGV.out _) ?_
       rintro e w9 ⟨rfl, rfl⟩)
    | (go_at_call 17
       refine Calls.mono (HIU.out _ (HS2.out.drw HI6.out)) ?_
       rintro e wz ⟨rfl, bz⟩
       have iz := HS2.out.bel _ _ (HS2.out.drw HI6.out) bz
       have vz := (bz.block vb (Array.getElem?_eq_some_iff.1 HV6.out).1).trans HV6.out
       have sz : wz.cell? ⟨vb, 0, none⟩ = some (.int .i64 un) ∧ wz.cell? ⟨vb, 3, none⟩ = some (.string ⟨ub.toArray⟩) := ⟨(five_cells vz).1, (five_cells vz).2.2.2.1⟩))
  have HIZ : Hid (I wz) := iz
  have HOZ : Hid (Off (fun k => w.heap.size ≤ k) w wz) := (HO6.out.trans (Off.of_below (Below.refl _ _).drew)).trans (Off.of_below bz)
  clear iz vz sz bz HI6 HV6 HO6 q6
  go_wp2_with fail
  apply HEX.out
  · exact HIZ.out
  · exact HOZ.out
end Go.Proofs.YtmehkneofinmiaaGreatDoor

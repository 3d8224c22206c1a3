/-
  Texts of this proof, part 42.
-/
import Derived.Test.YtmehkneofinmiaaGreatDoorP40
import Derived.Test.YtmehkneofinmiaaGreatDoorP41
import Derived.Test.YtmehkneofinmiaaGreatDoorP33
import Derived.Test.YtmehkneofinmiaaGreatDoorP35
import Derived.Test.YtmehkneofinmiaaGreatDoorP39
import Derived.Test.YtmehkneofinmiaaGreatDoorP38
namespace Go.Proofs.YtmehkneofinmiaaGreatDoor
open Go.RowKit
theorem kept_cur {c0 c1 c2 c3 c4 c6 c8 c9 c10 c11 c12 c13 c14 c15 c16 c17 c18 c19 c20 c21 c22 c23 c24 c25 c26 c27 c28 c29 c30 c31 c32 c33 c34 c35 c36 c37 c38 c39 c40 c41 c42 c43 c44 c45 c46 c47 c48 c49 c50 c51 c52 c53 c54 c55 c56 c57 c58 c59 c60 c61 c62 c63 c64 c65 c66 c67 c68 c69 c70 c71 c72 c73 c74 c75 c76 c77 c78 c79 c80 c81 c82 c83 c84 c85 c86 c87 c88 c89 c90 c91 c92 c93 c94 c95 c96 c97 c98 c99 c100 c101 c102 c103 c104 c105 c106 c107 c108 c109 c110 c111 c112 c113 c114 c115 c116 c117 c118 c119 c120 c121 c122 c123 c124 c125 c126 c127 c128 c129 c130 c131 c132 c133 c134 c135 c136 c137 c138 c139 c140 c141 c142 c143 c144 c145 c146 c147 c148 c149 c150 c151 c152 c153 c154 c155 c156 c157 c158 c159 c160 c161 c162 c163 c164 c165 c166 c167 c168 c169 c170 c171 c172 c173 c174 c175 c176 c177 c178 c179 c180 c181 c182 c183 c184 c185 c186 c187 c188 c189 c190 c191 c192 c193 c194 c195 c196 c197 c198 c199 c200 c201 : Value} (w wr : World) (b s : Nat) (KK : Nat → List UInt8) (en : Nat → Ent) (vs : Nat → Value) (I : World → Prop) (D : List UInt8 → List UInt8 → Prop) (HS : Hid (Ksk w.heap.size b s KK en vs I D)) (i : Nat) (hi5 : i < 5) (hI3 : I wr) (hO3 : Off (fun k => w.heap.size ≤ k) w wr) (Q : Exit → Act → World → Prop) (hPA : ∀ c a o v w, Q (.panic c) (Act.put a o v) w → Q (.panic c) a w)
    (HEX : Hid (∀ (t4 t15 t16 t17 t163 t164 t165 t166 t167 t168 t169 t170 t171 t172 t173 t174 t175 t176 t177 t178 t179 t180 t181 t182 t183 t184 t185 t186 t187 t188 t189 t190 t191 t192 t193 t194 t195 t196 t197 t198 t199 t200 t201 : Value) (w' : World), I w' → Off (fun k => w.heap.size ≤ k) w w' → Q .normal ⟨(c0 :: c1 :: c2 :: c3 :: t4 :: .pointer (some ⟨b, 0, none⟩) :: c6 :: .pointer (some ⟨b, 1 + i * 3, none⟩) :: c8 :: c9 :: c10 :: c11 :: c12 :: c13 :: c14 :: t15 :: t16 :: t17 :: c18 :: c19 :: c20 :: c21 :: c22 :: c23 :: c24 :: c25 :: c26 :: c27 :: c28 :: c29 :: c30 :: c31 :: c32 :: c33 :: c34 :: c35 :: c36 :: c37 :: c38 :: c39 :: c40 :: c41 :: c42 :: c43 :: c44 :: c45 :: c46 :: c47 :: c48 :: c49 :: c50 :: c51 :: c52 :: c53 :: c54 :: c55 :: c56 :: c57 :: c58 :: c59 :: c60 :: c61 :: c62 :: c63 :: c64 :: c65 :: c66 :: c67 :: c68 :: c69 :: c70 :: c71 :: c72 :: c73 :: c74 :: c75 :: c76 :: c77 :: c78 :: c79 :: c80 :: c81 :: c82 :: c83 :: c84 :: c85 :: c86 :: c87 :: c88 :: c89 :: c90 :: c91 :: c92 :: c93 :: c94 :: c95 :: c96 :: c97 :: c98 :: c99 :: c100 :: c101 :: c102 :: c103 :: c104 :: c105 :: c106 :: c107 :: c108 :: c109 :: c110 :: c111 :: c112 :: c113 :: c114 :: c115 :: c116 :: c117 :: c118 :: c119 :: c120 :: c121 :: c122 :: c123 :: c124 :: c125 :: c126 :: c127 :: c128 :: c129 :: c130 :: c131 :: c132 :: c133 :: c134 :: c135 :: c136 :: c137 :: c138 :: c139 :: c140 :: c141 :: c142 :: c143 :: c144 :: c145 :: c146 :: c147 :: c148 :: c149 :: c150 :: c151 :: c152 :: c153 :: c154 :: c155 :: c156 :: c157 :: c158 :: c159 :: c160 :: c161 :: c162 :: t163 :: t164 :: t165 :: t166 :: t167 :: t168 :: t169 :: t170 :: t171 :: t172 :: t173 :: t174 :: t175 :: t176 :: t177 :: t178 :: t179 :: t180 :: t181 :: t182 :: t183 :: t184 :: t185 :: t186 :: t187 :: t188 :: t189 :: t190 :: t191 :: t192 :: t193 :: t194 :: t195 :: t196 :: t197 :: t198 :: t199 :: t200 :: t201 :: []).toArray, []⟩ w')) :
    Code.wp Tryz.prog keptTail Q ⟨(c0 :: c1 :: c2 :: c3 :: c4 :: .pointer (some ⟨b, 0, none⟩) :: c6 :: .pointer (some ⟨b, 1 + i * 3, none⟩) :: c8 :: c9 :: c10 :: c11 :: c12 :: c13 :: c14 :: c15 :: c16 :: c17 :: c18 :: c19 :: c20 :: c21 :: c22 :: c23 :: c24 :: c25 :: c26 :: c27 :: c28 :: c29 :: c30 :: c31 :: c32 :: c33 :: c34 :: c35 :: c36 :: c37 :: c38 :: c39 :: c40 :: c41 :: c42 :: c43 :: c44 :: c45 :: c46 :: c47 :: c48 :: c49 :: c50 :: c51 :: c52 :: c53 :: c54 :: c55 :: c56 :: c57 :: c58 :: c59 :: c60 :: c61 :: c62 :: c63 :: c64 :: c65 :: c66 :: c67 :: c68 :: c69 :: c70 :: c71 :: c72 :: c73 :: c74 :: c75 :: c76 :: c77 :: c78 :: c79 :: c80 :: c81 :: c82 :: c83 :: c84 :: c85 :: c86 :: c87 :: c88 :: c89 :: c90 :: c91 :: c92 :: c93 :: c94 :: c95 :: c96 :: c97 :: c98 :: c99 :: c100 :: c101 :: c102 :: c103 :: c104 :: c105 :: c106 :: c107 :: c108 :: c109 :: c110 :: c111 :: c112 :: c113 :: c114 :: c115 :: c116 :: c117 :: c118 :: c119 :: c120 :: c121 :: c122 :: c123 :: c124 :: c125 :: c126 :: c127 :: c128 :: c129 :: c130 :: c131 :: c132 :: c133 :: c134 :: c135 :: c136 :: c137 :: c138 :: c139 :: c140 :: c141 :: c142 :: c143 :: c144 :: c145 :: c146 :: c147 :: c148 :: c149 :: c150 :: c151 :: c152 :: c153 :: c154 :: c155 :: c156 :: c157 :: c158 :: c159 :: c160 :: c161 :: c162 :: c163 :: c164 :: c165 :: c166 :: c167 :: c168 :: c169 :: c170 :: c171 :: c172 :: c173 :: c174 :: c175 :: c176 :: c177 :: c178 :: c179 :: c180 :: c181 :: c182 :: c183 :: c184 :: c185 :: c186 :: c187 :: c188 :: c189 :: c190 :: c191 :: c192 :: c193 :: c194 :: c195 :: c196 :: c197 :: c198 :: c199 :: c200 :: c201 :: []).toArray, []⟩ wr := by
  obtain ⟨G, hdG, ⟨hcn, hG4⟩ | ⟨u, hcs, hG2, hGb, hGv⟩⟩ := HS.out.dc i hi5
  · exact kept_none w wr b s KK en vs I D HS i hi5 G hdG hcn hG4 hI3 hO3 Q hPA HEX
  · exact kept_some w wr b s KK en vs I D HS i hi5 G hdG u hcs hG2 hGb hGv hI3 hO3 Q hPA HEX
set_option linter.unusedSimpArgs false in
set_option linter.unusedVariables false in
set_option maxRecDepth 100000 in
set_option maxHeartbeats 16000000 in
theorem kept_walk (x : Int) (v : Value) (w : World)
    (hP : Calls Tryz.prog 14 #[.int .i64 x, v] w fun e w' => ∃ (b s : Nat) (KK : Nat → List UInt8) (en : Nat → Ent) (vs : Nat → Value) (I : World → Prop) (D : List UInt8 → List UInt8 → Prop), e = .returned (.pointer (some ⟨b, 0, none⟩)) ∧ Ksk w.heap.size b s KK en vs I D ∧ I w' ∧ Off (fun k => w.heap.size ≤ k) w w')
    (hv : ∃ a n m, v = .slice a n m) :
    Calls Tryz.prog 7 #[.int .i64 x, v] w fun e w' => e = .returned (.bool true) ∧ Off (fun k => w.heap.size ≤ k) w w' := by
  obtain ⟨a0, n0, m0, rfl⟩ := hv
  have HPL : Hid _ := hP
  clear hP
  go_enter Tryz.func7, Tryz.ntmps7
  go_wp2_with fail
  refine Calls.mono HPL.out ?_
  rintro e w1 ⟨b, s, KK, en, vs, I, D, rfl, hs, i1, o1⟩
  have HS : Hid _ := hs
  have HI1 : Hid _ := i1
  have HO1 : Hid _ := o1
  clear hs i1 o1 HPL
  go_wp2_with fail
  go_loopw [6, 7, 8, 9, 10, 11, 12, 13, 14, 15, 16, 17] (fun iv _ _ _ _ _ _ _ _ _ _ _ wr => ∃ i : Nat, i ≤ 5 ∧ iv = .int .i64 i ∧ I wr ∧ Off (fun k => w.heap.size ≤ k) w wr)
    (fun iv _ _ _ _ _ _ _ _ _ _ _ _ => 5 - (intOf iv).toNat)
  case atStart => exact ⟨0, by omega, rfl, HI1.out, HO1.out⟩
  case round =>
    obtain ⟨i, hi, rfl, hIr, hOr⟩ := hrel
    by_cases hi5 : i < 5
    · have hiI : (i : Int) < 5 := by omega
      have hkl := HS.out.kl i hi5
      have hlen := HS.out.len i hi5
      have hLb := HS.out.last i hi5
      have hver := HS.out.ver i hi5
      have hS := HS.out.h i hi5
      have hda := HS.out.da i hi5
      have HVER : Hid _ := hver
      have HS2 : Hid _ := hS
      have HIR : Hid _ := hIr
      have HOR : Hid _ := hOr
      have z0 := hS.c0 _ hIr
      have z1 := hS.ck _ hIr
      have z2 := HS.out.cl i hi5 _ hIr
      have ltr := hS.sz _ hIr
      have hwL : IntKind.i64.wrap (((en i).last : Int) + 1) = (((en i).last + 1 : Nat) : Int) := by rw [IntKind.wrap_i64]; omega
      have HDA : Hid _ := hda
      clear hS hda hver hIr hOr
      go_wp2_with fail
      rename_i K2 hK2
      have HK2 : Hid _ := hK2
      clear hK2
      refine kept_mid w wr b s KK en vs I D HS i hi5 HIR.out HOR.out _ ?_
      show ∀ _, _
      intros
      rename_i w2 hI2 hO2
      clear z0 z1 z2 ltr HIR HOR
      have HI2 : Hid _ := hI2
      have HO2 : Hid _ := hO2
      have z0 := HS2.out.c0 _ hI2
      have z1 := HS2.out.ck _ hI2
      have lt2 := HS2.out.sz _ hI2
      refine HK2.out _ _ (seq_hid fun K3 HK3 => ?_)
      rw [lns_0 (fun v hv => (HVER.out v hv).1)]
      have hfl := lns_len (l := (en i).vers) (fun v hv => by have := HVER.out v hv; omega) hlen 0
      rw [lns_0 (fun v hv => (HVER.out v hv).1)] at hfl
      obtain ⟨K, hK⟩ : ∃ K, KK i = K := ⟨_, rfl⟩
      obtain ⟨l, hl⟩ : ∃ x, (en i).vers = x := ⟨_, rfl⟩
      have hda2 := HDA.out
      rw [hK] at hkl z1 hda2
      rw [hl] at hfl hda2 ⊢
      have hA : ∀ w : World, (Op.stringOp .add ⟨#[47]⟩ ⟨K.toArray⟩).run Tryz.prog w = .ok (.string ⟨(47 :: K).toArray⟩) w := addL2 [47] K (by simp; omega)
      have hB1 : ∀ w : World, (Op.stringOp .add ⟨(47 :: K).toArray⟩ ⟨#[63, 118, 101, 114, 115, 105, 111, 110, 115]⟩).run Tryz.prog w = .ok (.string ⟨(47 :: (K ++ [63] ++ versW)).toArray⟩) w := by
        have := addL2 (47 :: K) [63, 118, 101, 114, 115, 105, 111, 110, 115] (by simp; omega)
        rw [show 47 :: K ++ [63, 118, 101, 114, 115, 105, 111, 110, 115] = 47 :: (K ++ [63] ++ versW) by simp [versW]] at this
        exact this
      have HQ1 : Hid (∀ y, Calls Tryz.prog 16 #[.string ⟨#[71, 69, 84]⟩, .string ⟨(47 :: (K ++ [63] ++ versW)).toArray⟩, .string ⟨#[]⟩, .string ⟨#[]⟩] y fun e w' => e = .returned (.string ⟨(reqB [71, 69, 84] (47 :: (K ++ [63] ++ versW)) [] []).toArray⟩) ∧ w' = y) :=
        fun y => request_any [71, 69, 84] (47 :: (K ++ [63] ++ versW)) [] [] y (by decide) (by simp [versW]; omega) (by decide) (by decide)
      have HZ : Hid ((l = [] ∧ l.reverse.flatMap lineF2 = []) ∨ (l ≠ [] ∧ l.reverse.flatMap lineF2 ≠ [])) := by
        cases hc : l.reverse with
        | nil => left; exact ⟨by simpa using hc, by simp⟩
        | cons a r =>
          right
          refine ⟨fun e => by rw [e] at hc; simp at hc, ?_⟩
          simp [lineF2]
      obtain ⟨Z, hZ⟩ : ∃ x, l.reverse.flatMap lineF2 = x := ⟨_, rfl⟩
      rw [hZ] at hfl hda2 HZ ⊢
      obtain ⟨R1, hR1⟩ : ∃ R, reqB [71, 69, 84] (47 :: (K ++ [63] ++ versW)) [] [] = R := ⟨_, rfl⟩
      rw [hR1] at hda2 HQ1
      obtain ⟨U2, hU2⟩ : ∃ x, 47 :: (K ++ [63] ++ versW) = x := ⟨_, rfl⟩
      obtain ⟨U1, hU1⟩ : ∃ x, 47 :: K = x := ⟨_, rfl⟩
      rw [hU2] at hB1 HQ1
      rw [hU1] at hB1 hA
      have HDA2 : Hid _ := hda2
      have hZ2 : ∀ w : World, (Op.stringOp .add ⟨#[50, 48, 48, 13, 10, 13, 10]⟩ ⟨Z.toArray⟩).run Tryz.prog w = .ok (.string ⟨([50, 48, 48, 13, 10, 13, 10] ++ Z).toArray⟩) w := addL2 [50, 48, 48, 13, 10, 13, 10] Z (by simp; omega)
      obtain ⟨TT, hTT⟩ : ∃ x, (if l = [] then [52, 48, 52, 13, 10, 13, 10] else [50, 48, 48, 13, 10, 13, 10] ++ Z : List UInt8) = x := ⟨_, rfl⟩
      rw [hTT] at HDA2
      have HTT : Hid ((Z = [] ∧ TT = [52, 48, 52, 13, 10, 13, 10]) ∨ (Z ≠ [] ∧ TT = [50, 48, 48, 13, 10, 13, 10] ++ Z)) := by
        rcases HZ.out with ⟨h1, h2⟩ | ⟨h1, h2⟩
        · rw [if_pos h1] at hTT; exact Or.inl ⟨h2, hTT.symm⟩
        · rw [if_neg h1] at hTT; exact Or.inr ⟨h2, hTT.symm⟩
      clear hda2 hZ hR1 hU1 hU2 hTT HZ hI2 hO2 HDA
      have s5 : w2.cell? ⟨b, 0, none⟩ = some (.pointer (some ⟨s, 0, none⟩)) ∧ w2.cell? ⟨b, 1 + i * 3, none⟩ = some (.string ⟨K.toArray⟩) := ⟨z0, z1⟩
      go_region_held3 (fun y => y.cell? ⟨b, 0, none⟩ = some (.pointer (some ⟨s, 0, none⟩)) ∧ y.cell? ⟨b, 1 + i * 3, none⟩ = some (.string ⟨K.toArray⟩)) (first | assumption | go_keep) (first
        | (go_at_call 16
           refine Calls.mono (HQ1.out _) ?_
           rintro e w2' ⟨rfl, rfl⟩)
        | (go_at_call 15
           refine Calls.mono (HS2.out.asks _ _ HDA2.out _ (HS2.out.drw HI2.out)) ?_
           rintro e w3 ⟨rfl, i3, o3, k3⟩
           have s3 : w3.cell? ⟨b, 0, none⟩ = some (.pointer (some ⟨s, 0, none⟩)) ∧ w3.cell? ⟨b, 1 + i * 3, none⟩ = some (.string ⟨K.toArray⟩) := ⟨HS2.out.c0 _ i3, by have := HS2.out.ck _ i3; rw [hK] at this; exact this⟩))
      have HI3 : Hid (I w3) := i3
      have HO3 : Hid (Off (fun k => w.heap.size ≤ k) w w3) := (HO2.out.trans (Off.of_below (Below.refl _ _).drew)).trans o3
      clear i3 o3 k3 s5 HQ1 HDA2 hB1 HI2 HO2 z0 z1 lt2 s3
      refine HK3.out _ _ (seq_hid fun K4 HK4 => ?_)
      rcases HTT.out with ⟨rfl, rfl⟩ | ⟨hZ0, rfl⟩
      · clear HTT
        go_wp2_with fail
        refine HK4.out _ _ (seq_hid fun K5 HK5 => ?_)
        go_wp2_with fail
        refine HK5.out _ _ ?_
        refine kept_cur w w3 b s KK en vs I D HS i hi5 HI3.out HO3.out _ (fun _ _ o _ _ h => by cases o <;> exact h) ?_
        show ∀ _, _
        intros
        rename_i w5 hI5 hO5
        have HI5 : Hid _ := hI5
        have HO5 : Hid _ := hO5
        clear hI5 hO5 HI3 HO3
        go_wp2_with fail
        exact ⟨⟨i + 1, by omega, by go_num, HI5.out, HO5.out⟩, by simp [intOf]; omega⟩
      · have hZ1 : (Z == []) = false := by simpa using hZ0
        obtain ⟨TZ, hTZ⟩ : ∃ x, [50, 48, 48, 13, 10, 13, 10] ++ Z = x := ⟨_, rfl⟩
        rw [hTZ] at hZ2 ⊢
        clear hTZ HTT
        go_wp2_with fail
        refine HK4.out _ _ (seq_hid fun K5 HK5 => ?_)
        go_wp2_with fail
        refine HK5.out _ _ ?_
        refine kept_cur w w3 b s KK en vs I D HS i hi5 HI3.out HO3.out _ (fun _ _ o _ _ h => by cases o <;> exact h) ?_
        show ∀ _, _
        intros
        rename_i w5 hI5 hO5
        have HI5 : Hid _ := hI5
        have HO5 : Hid _ := hO5
        clear hI5 hO5 HI3 HO3
        go_wp2_with fail
        exact ⟨⟨i + 1, by omega, by go_num, HI5.out, HO5.out⟩, by simp [intOf]; omega⟩
    · obtain rfl : i = 5 := by omega
      have HOR : Hid _ := hOr
      clear hOr hIr
      go_wp2
      go_ret
      exact ⟨rfl, HOR.out⟩
end Go.Proofs.YtmehkneofinmiaaGreatDoor

namespace Go.Proofs.YtmehkneofinmiaaGreatDoor
theorem jan_sp (n : Nat) (hn : n < 2678400) : Cal.Sp ((n : Int) / 86400) 1970 0 ((n : Int) / 86400) :=
  ⟨by decide, by decide, by omega, by simp [Cal.ml]; omega, by rw [Cal.ahead_1970]; simp [Cal.cum]⟩
theorem jan_stamp (n : Nat) (hn : n < 2678400) : Cal.IsStamp (n : Int) (stampL n) := by
  have hx : Cal.IsStamp (n : Int) (Classical.epsilon (Cal.IsStamp (n : Int))) := Classical.epsilon_spec ⟨_, _, _, _, jan_sp n hn, rfl⟩
  have : stampL n = Classical.epsilon (Cal.IsStamp (n : Int)) := by
    unfold stampL
    exact List.take_of_length_le (stamp_len hx)
  rw [this]
  exact hx
def NoBr (l : List UInt8) : Prop := ∀ c ∈ l, c ≠ 13 ∧ c ≠ 10
theorem NoBr.app {a b : List UInt8} (h : NoBr a) (h' : NoBr b) : NoBr (a ++ b) := fun c hc => (List.mem_append.1 hc).elim (h c) (h' c)
theorem dig_no (x : Int) (h0 : 0 ≤ x) (h1 : x < 10) : Cal.dig x ≠ 13 ∧ Cal.dig x ≠ 10 := by
  obtain ⟨d, rfl⟩ : ∃ d : Nat, x = d := ⟨x.toNat, by omega⟩
  have : d = 0 ∨ d = 1 ∨ d = 2 ∨ d = 3 ∨ d = 4 ∨ d = 5 ∨ d = 6 ∨ d = 7 ∨ d = 8 ∨ d = 9 := by omega
  rcases this with rfl | rfl | rfl | rfl | rfl | rfl | rfl | rfl | rfl | rfl <;> decide
theorem two_no (x : Int) (h0 : 0 ≤ x) (h1 : x < 100) : NoBr (Cal.two x) := by
  intro c hc
  simp only [Cal.two, List.mem_cons, List.not_mem_nil, or_false] at hc
  rcases hc with rfl | rfl
  · exact dig_no _ (by omega) (by omega)
  · exact dig_no _ (by omega) (by omega)
theorem week_no (i : Nat) (hi : i < 7) : ∃ a m, Cal.nm Cal.week i = a :: m ∧ a ≠ 32 ∧ a ≠ 9 ∧ NoBr (Cal.nm Cal.week i) := by
  have : i = 0 ∨ i = 1 ∨ i = 2 ∨ i = 3 ∨ i = 4 ∨ i = 5 ∨ i = 6 := by omega
  rcases this with rfl | rfl | rfl | rfl | rfl | rfl | rfl
  all_goals exact ⟨_, _, rfl, by decide, by decide, by unfold NoBr; decide⟩
theorem jan_bytes (n : Nat) (hn : n < 2678400) : (∃ a m, stampL n = a :: m ++ [84] ∧ a ≠ 32 ∧ a ≠ 9) ∧ NoBr (stampL n) := by
  have e : stampL n = Cal.fmt ((n : Int) / 86400) 1970 0 ((n : Int) / 86400) ((n : Int) % 86400) := (jan_stamp n hn).uniq ⟨_, _, _, jan_sp n hn, rfl⟩
  obtain ⟨a, m, hw, h1, h2, h3⟩ := week_no ((n : Int) / 86400 % 7).toNat (by omega)
  rw [e]
  unfold Cal.fmt
  constructor
  · rw [hw]
    exact ⟨a, m ++ [44, 32] ++ Cal.two ((n : Int) / 86400 + 1) ++ [32] ++ Cal.nm Cal.months 0 ++ [32] ++ Cal.four 1970 ++ [32] ++ Cal.two ((n : Int) % 86400 / 3600) ++ [58] ++ Cal.two ((n : Int) % 86400 % 3600 / 60) ++ [58] ++ Cal.two ((n : Int) % 86400 % 60) ++ [32, 71, 77], by simp, h1, h2⟩
  · refine NoBr.app (NoBr.app (NoBr.app (NoBr.app (NoBr.app (NoBr.app (NoBr.app (NoBr.app (NoBr.app (NoBr.app (NoBr.app (NoBr.app (NoBr.app h3 ?_) ?_) ?_) ?_) ?_) ?_) ?_) ?_) ?_) ?_) ?_) ?_) ?_
    all_goals first | exact two_no _ (by omega) (by omega) | (unfold NoBr; decide)
theorem ask_r {σ : St} {m : Nat} {t : Tgt} {k : Cnd} {body : List UInt8} (h3 : t.kind ≠ 3) (hw : isW m = false) : askF σ m t k body = (if condF false k (aimF (findE σ.ents t.key) t) ≠ 0 then ⟨condF false k (aimF (findE σ.ents t.key) t), [], []⟩ else
    match aimF (findE σ.ents t.key) t with
    | none => ⟨404, [], []⟩
    | some v => ⟨200, verFlds v (stampL v.time), if m = 0 then v.body else []⟩, σ) := by
  unfold askF
  rw [if_neg h3, hw]
  by_cases h : condF false k (aimF (findE σ.ents t.key) t) ≠ 0
  · rw [if_pos h, if_pos h]
  · rw [if_neg h, if_neg h]
    simp only [Bool.false_eq_true, if_false]
    cases aimF (findE σ.ents t.key) t <;> rfl
theorem get_none {σ : St} {l key : List UInt8} {m : Nat} (hr : readF l = .ok (m, ⟨1, key, 0⟩, k0, [])) (hw : isW m = false) (h : curOf (findE σ.ents key) = none) : ansF σ l = (⟨404, [], []⟩, σ) := by
  rw [ans_of hr (by simp), ask_r (by simp) hw]
  have e : aimF (findE σ.ents key) ⟨1, key, 0⟩ = none := h
  simp only [e, condF0]
  rfl
theorem get_some {σ : St} {l key : List UInt8} {m : Nat} {k : Cnd} {v : Ver} (hr : readF l = .ok (m, ⟨1, key, 0⟩, k, [])) (hw : isW m = false) (h : curOf (findE σ.ents key) = some v) (hc : condF false k (some v) = 0) : ansF σ l = (⟨200, verFlds v (stampL v.time), if m = 0 then v.body else []⟩, σ) := by
  rw [ans_of hr (by simp), ask_r (by simp) hw]
  have e : aimF (findE σ.ents key) ⟨1, key, 0⟩ = some v := h
  simp only [e, hc]
  rfl
theorem read_key0 {mt key : List UInt8} {m : Nat} (hm : methF mt = some m ∧ ∀ c ∈ mt, c ≠ 32 ∧ c ≠ 13) (hl : mt.length < 10) (hf : fitsF m 1 = true) (h : keyOK key = true) : readF (reqB mt (47 :: key) [] []) = .ok (m, ⟨1, key, 0⟩, k0, []) :=
  rf6 (by have := (key_no h).2.1; rw [reqB_len]; simp; omega) (parse_req0 hm.1 hm.2 (key13 h) (target_key h)) (by simp) (by simp) hf
end Go.Proofs.YtmehkneofinmiaaGreatDoor

namespace Go.Proofs.YtmehkneofinmiaaGreatDoor
open Go.RowKit
theorem asks {B : Nat} {b s n : Nat} {σ : St} {M : Mem} {vs : Nat → Value} {d c : Nat} (R : List UInt8) (a : Ans) (y : World) (h : Bk B y b s n σ M vs d c) (hR : ansF σ R = (a, σ)) (hl : R.length < 3000) (hc : c ≤ 400) :
    Calls Tryz.prog 15 #[.pointer (some ⟨s, 0, none⟩), .string ⟨R.toArray⟩] y fun e w' => e = .returned (.string ⟨(textF a.told a.flds a.body).toArray⟩) ∧ (∃ M', Bk B w' b s n σ M' vs d c) ∧ Off (fun k => B ≤ k) y w' ∧ (∀ (k : Nat) (cs : Array Value) (f : Nat × Nat), y.heap[k]? = some (.cells cs 56 f) → w'.heap[k]? = some (.cells cs 56 f)) := by
  refine (do_sto R h.sto (by have := h.lg; omega) (by omega) hR).mono ?_
  rintro e w' ⟨rfl, _, M2, hS2, hO2, hP2⟩
  refine ⟨rfl, ⟨M2, ⟨hS2, h.bk.did h.sto.st hO2, h.bB, h.vB, h.ks, h.tm, h.lg, h.ls, h.dn⟩⟩, hP2, fun k cs f hk => ?_⟩
  rw [hO2.block k (Array.getElem?_eq_some_iff.1 hk).1 (fun ho => (own_book h.sto.st ho).2 hk)]
  exact hk
theorem no13 {l : List UInt8} (h : NoBr l) : ∀ c ∈ l, c ≠ 13 := fun c hc => (h c hc).1
theorem quo_no {t : List UInt8} (h : NoBr t) : NoBr (34 :: t ++ [34]) := NoBr.app (a := [34] ++ t) (NoBr.app (by unfold NoBr; decide) h) (by unfold NoBr; decide)
variable {σ : St} {key : List UInt8} {v : Ver}
theorem hd_get (hk : keyOK key = true) (hc : curOf (findE σ.ents key) = some v) : ansF σ (reqB getM (47 :: key) [] []) = (⟨200, verFlds v (stampL v.time), v.body⟩, σ) :=
  get_some (read_key0 m_get (by decide) rfl hk) rfl hc (condF0 _ _)
theorem hd_get0 (hk : keyOK key = true) (hc : curOf (findE σ.ents key) = none) : ansF σ (reqB getM (47 :: key) [] []) = (⟨404, [], []⟩, σ) :=
  get_none (read_key0 m_get (by decide) rfl hk) rfl hc
theorem jan_len (n : Nat) (hn : n < 2678400) : (stampL n).length ≤ 40 := stamp_len (jan_stamp n hn)
theorem cln_flds (v : Ver) (hn : v.time < 2678400) : ∀ f ∈ verFlds v (stampL v.time), Cln f := by
  intro f hf
  simp only [verFlds, List.mem_cons, List.not_mem_nil, or_false] at hf
  rcases hf with rfl | rfl | rfl
  · exact ⟨by simp, (by decide : ∀ c ∈ ([69, 84, 97, 103] : List UInt8), c ≠ 13), no13 (quo_no (tag_ok v.body).2)⟩
  · exact ⟨by simp, (by decide : ∀ c ∈ ([76, 97, 115, 116, 45, 77, 111, 100, 105, 102, 105, 101, 100] : List UInt8), c ≠ 13), no13 (jan_bytes _ hn).2⟩
  · exact ⟨by simp, (by decide : ∀ c ∈ ([86, 101, 114, 115, 105, 111, 110] : List UInt8), c ≠ 13), dec13 _⟩
end Go.Proofs.YtmehkneofinmiaaGreatDoor

namespace Go.Proofs.YtmehkneofinmiaaGreatDoor
theorem read_getv {key : List UInt8} (h : keyOK key = true) (n : Nat) (h0 : 0 < n) (hn : n < 1000000000) : readF (reqB getM (47 :: (key ++ [63] ++ ([118, 61] ++ Lib.decDigits n))) [] []) = .ok (0, ⟨2, key, n⟩, k0, []) :=
  rf6 (by have := (key_no h).2.1; have := dec_len10 (n := n) (k := 9) (by omega) (by omega); rw [reqB_len]; simp [getM]; omega) (parse_req0 m_get.1 m_get.2 (tv13 h n) (target_v h n h0 hn)) (by simp) (by simp) rfl
theorem read_vers {key : List UInt8} (h : keyOK key = true) : readF (reqB getM (47 :: (key ++ [63] ++ versW)) [] []) = .ok (0, ⟨3, key, 0⟩, k0, []) := by
  refine rf6 (by have := (key_no h).2.1; rw [reqB_len]; simp [getM, versW]; omega) (parse_req0 m_get.1 m_get.2 ?_ (target_versions h)) (by simp) (by simp) rfl
  intro c hc
  rcases List.mem_cons.1 hc with rfl | hc
  · decide
  · rcases List.mem_append.1 hc with hc | hc
    · rcases List.mem_append.1 hc with hc | hc
      · exact ((key_no h).2.2 c hc).1
      · rw [List.mem_singleton.1 hc]; decide
    · exact (by decide : ∀ c ∈ versW, c ≠ 13) c hc
theorem kp_v {σ : St} {key : List UInt8} (h : keyOK key = true) (n : Nat) (h0 : 0 < n) (hn : n < 1000000000) : ∃ a, ansF σ (reqB getM (47 :: (key ++ [63] ++ ([118, 61] ++ Lib.decDigits n))) [] []) = (a, σ) ∧ textF a.told a.flds a.body = answV (fndV (findE σ.ents key).vers n) := by
  rw [ans_of (read_getv h n h0 hn) (by simp), ask_r (by simp) rfl]
  have e : aimF (findE σ.ents key) ⟨2, key, n⟩ = numOf (findE σ.ents key) n := rfl
  simp only [e, condF0]
  refine ⟨_, rfl, ?_⟩
  unfold numOf answV fndV
  cases (findE σ.ents key).vers.find? (fun v => v.num == n) with
  | none => rfl
  | some v => cases hm : v.mark <;> simp [hm]
theorem kp_all {σ : St} {key : List UInt8} (h : keyOK key = true) : ansF σ (reqB getM (47 :: (key ++ [63] ++ versW)) [] []) = (if (findE σ.ents key).vers = [] then ⟨404, [], []⟩ else ⟨200, [], (findE σ.ents key).vers.reverse.flatMap lineF2⟩, σ) := by
  rw [ans_of (read_vers h) (by simp)]
  unfold askF
  rw [if_pos rfl]
end Go.Proofs.YtmehkneofinmiaaGreatDoor

namespace Go.Proofs.YtmehkneofinmiaaGreatDoor
structure Good (σ : St) (c : Nat) : Prop where
  t : σ.time ≤ c * 5000
  e : ∀ E ∈ σ.ents, E.last ≤ c ∧ ∀ v ∈ E.vers, 0 < v.num ∧ v.num ≤ c ∧ v.time ≤ σ.time ∧ v.body.length ≤ 400
theorem Good.more {σ : St} {c : Nat} (h : Good σ c) : Good σ (c + 1) :=
  ⟨Nat.le_trans h.t (Nat.mul_le_mul_right _ (Nat.le_succ _)), fun E hE => ⟨by have := (h.e E hE).1; omega, fun v hv => by have := (h.e E hE).2 v hv; exact ⟨this.1, by omega, this.2.2⟩⟩⟩
theorem findE_or (l : List Ent) (key : List UInt8) : findE l key ∈ l ∨ findE l key = ⟨key, 0, []⟩ := by
  unfold findE
  cases hf : l.find? (fun E => E.key == key) with
  | none => exact Or.inr rfl
  | some E => exact Or.inl (List.mem_of_find?_eq_some hf)
theorem Good.find {σ : St} {c : Nat} (h : Good σ c) (key : List UInt8) : (findE σ.ents key).last ≤ c ∧ ∀ v ∈ (findE σ.ents key).vers, 0 < v.num ∧ v.num ≤ c ∧ v.time ≤ σ.time ∧ v.body.length ≤ 400 := by
  rcases findE_or σ.ents key with hm | hm
  · exact h.e _ hm
  · rw [hm]
    exact ⟨Nat.zero_le _, fun v hv => by cases hv⟩
theorem Good.chg {σ σ' : St} {key body : List UInt8} {k n told c : Nat} (h : Good σ c) (hn : k ≠ 3 → n = (findE σ.ents key).last + 1 ∧ body.length ≤ 400) (hc : chgF σ key k n body = (told, some σ')) : Good σ' (c + 1) := by
  unfold chgF at hc
  split at hc
  · simp at hc
  · split at hc
    · simp at hc
    · simp only [Prod.mk.injEq, Option.some.injEq] at hc
      rw [← hc.2]
      have hf := h.find key
      refine ⟨h.more.t, fun E hE => ?_⟩
      rcases putE_mem hE with rfl | hE
      · unfold applyF
        split
        · exact ⟨Nat.le_succ_of_le hf.1, fun v hv => by
            have := hf.2 v (List.mem_of_mem_eraseIdx hv)
            exact ⟨this.1, by omega, this.2.2⟩⟩
        · rename_i h3
          have hn' := hn h3
          refine ⟨by show n ≤ c + 1; omega, fun v hv => ?_⟩
          rcases List.mem_append.1 hv with hv | hv
          · have := hf.2 v hv
            exact ⟨this.1, by omega, this.2.2⟩
          · rw [List.mem_singleton] at hv
            rw [hv]
            exact ⟨by show 0 < n; omega, by show n ≤ c + 1; omega, Nat.le_refl _, hn'.2⟩
      · exact h.more.e E hE
theorem want_is (E : Ent) (m : Nat) (t : Tgt) (body : List UInt8) (hb : body.length ≤ 400) : (wantF E m t body).1 ≠ 3 → (wantF E m t body).2.1 = E.last + 1 ∧ (wantF E m t body).2.2.length ≤ 400 := by
  unfold wantF
  repeat' split
  all_goals simp [hb]
theorem read_body {l body : List UInt8} {m : Nat} {t : Tgt} {k : Cnd} (h : readF l = .ok (m, t, k, body)) : body.length ≤ 400 := by
  unfold readF at h
  split at h
  · cases h
  · split at h
    · cases h
    · split at h
      · cases h
      · split at h
        · cases h
        · split at h
          · rename_i h4 _
            cases h
            omega
          · cases h
theorem Good.ans {σ : St} {c : Nat} (h : Good σ c) (l : List UInt8) : Good (ansF σ l).2 (c + 1) := by
  unfold ansF
  split
  · exact h.more
  · rename_i m t k body hrd
    have hbd := read_body hrd
    split
    · exact h.more
    · unfold askF
      split
      · exact h.more
      · split
        · exact h.more
        · split
          · split
            · exact h.more
            · rename_i hc
              exact h.chg (want_is _ _ _ _ hbd) hc
          · split
            · exact h.more
            · exact h.more
theorem Good.step {σ : St} {c : Nat} (h : Good σ c) (k a b d : Int) : Good (stepF σ k a b d) (c + 1) := by
  unfold stepF
  split
  · exact h.ans _
  · split
    · exact h.ans _
    · split
      · exact h.ans _
      · split
        · exact h.ans _
        · split
          · exact h.ans _
          · have hp := pk_bd b 5000 (by omega)
            refine ⟨by have := h.t; rw [Nat.add_mul]; show σ.time + (pk b 5000).toNat ≤ _; omega, fun E hE => ⟨(h.more.e E hE).1, fun v hv => ?_⟩⟩
            have := (h.more.e E hE).2 v hv
            exact ⟨this.1, this.2.1, by show v.time ≤ σ.time + (pk b 5000).toNat; omega, this.2.2.2⟩
theorem good_play (l : List Stp) : ∀ σ c, Good σ c → Good (playF σ l) (c + l.length) := by
  induction l with
  | nil => exact fun σ c h => h
  | cons o l ih =>
    intro σ c h
    have := ih _ _ (h.step o.k o.a o.b o.c)
    rw [show c + (o :: l).length = c + 1 + l.length by simp; omega]
    exact this
theorem good_played (l : List Stp) : Good (playF st0 (l.take 400)) 400 := by
  have h0 : Good st0 0 := ⟨by decide, fun E hE => by cases hE⟩
  have h1 := good_play (l.take 400) _ _ h0
  have h2 : (l.take 400).length ≤ 400 := by rw [List.length_take]; omega
  refine ⟨Nat.le_trans h1.t (Nat.mul_le_mul_right _ (by omega)), fun E hE => ⟨by have := (h1.e E hE).1; omega, fun v hv => ?_⟩⟩
  have := (h1.e E hE).2 v hv
  exact ⟨this.1, by omega, this.2.2⟩
theorem cur_mem {E : Ent} {v : Ver} (h : curOf E = some v) : v ∈ E.vers ∧ v.mark = false := by
  cases hg : E.vers.getLast? with
  | none => simp [curOf, hg] at h
  | some y =>
    cases hm : y.mark with
    | true => simp [curOf, hg, hm] at h
    | false =>
      simp [curOf, hg, hm] at h
      rw [← h]
      exact ⟨List.mem_of_getLast? hg, hm⟩
end Go.Proofs.YtmehkneofinmiaaGreatDoor

namespace Go.Proofs.YtmehkneofinmiaaGreatDoor
open Go.RowKit
def DB (σ : St) (R T : List UInt8) : Prop := ∃ a : Ans, ansF σ R = (a, σ) ∧ T = textF a.told a.flds a.body ∧ R.length < 3000
theorem hsk_bk {B : Nat} {b s n : Nat} {σ : St} {vs : Nat → Value} {d c : Nat} (hc : c ≤ 400) (q : Nat) (hq : q < 5) :
    Hsk B b s q (nmK q) (fun y => ∃ M, Bk B y b s n σ M vs d c) (DB σ) stampL (bvOut (curOf (enK σ q))) (curOf (enK σ q)).isSome where
  sz := fun y ⟨M, h⟩ => h.bk.lt
  c0 := fun y ⟨M, h⟩ => h.bk.c0.1
  ck := fun y ⟨M, h⟩ => by
    rw [(h.bk.ck q hq).1, (h.facts q).2.2.2]
  bel := fun y z ⟨M, h⟩ hb => ⟨M, h.below hb⟩
  asks := fun R T ⟨a, ha, hT, hl⟩ y ⟨M, h⟩ => by
    rw [hT]
    exact asks R a y h ha hl hc
  curr := fun y ⟨M, h⟩ => bcur_any b (1 + q * 3) (vs q) (enK σ q) y (h.bk.ck q hq).2.1 (h.bk.row q hq) (by have := (h.facts q).1; omega)
  stamp := fun t ht y ⟨M, h⟩ => stamp_L t y (by omega) h.sto.env.tb.b
theorem db_len {a b c d : List UInt8} (h : a.length + b.length + c.length + d.length < 2900) : (reqB a b c d).length < 3000 := by rw [reqB_len]; omega
theorem code_is (told : Nat) (h1 : 100 ≤ told) (h2 : told < 1000) : CodeIs (textF told [] []) told := fun y =>
  code_text told [] [] y h1 h2 (by have := dec_len10 (n := told) (k := 5) (by omega) (by omega); simp [textF]; omega)
theorem ver_text_len {u : Ver} (hn : u.num ≤ 400) (ht : u.time < 2678400) (_hb : u.body.length ≤ 400) (L : List UInt8) (hL : L.length ≤ 400) : (textF 200 (verFlds u (stampL u.time)) L).length ≤ 1000 := by
  have h1 := jan_len u.time ht
  have h2 := dec_len10 (n := u.num) (k := 5) (by omega) (by omega)
  have h3 := dec_len10 (n := 200) (k := 5) (by omega) (by omega)
  have h4 := qTag_len u.body
  simp only [textF, verFlds, List.flatMap_cons, List.flatMap_nil, fldText, List.length_append, List.length_cons, List.length_nil]
  omega
end Go.Proofs.YtmehkneofinmiaaGreatDoor

namespace Go.Proofs.YtmehkneofinmiaaGreatDoor
open Go.RowKit
theorem text404 : textF 404 [] [] = [52, 48, 52, 13, 10, 13, 10] := by
  have h3 : Lib.decDigits 404 = [52, 48, 52] := by kernel_rfl
  unfold textF
  rw [h3]
  rfl
theorem text200b (L : List UInt8) : textF 200 [] L = [50, 48, 48, 13, 10, 13, 10] ++ L := by
  have h3 : Lib.decDigits 200 = [50, 48, 48] := by kernel_rfl
  unfold textF
  rw [h3]
  rfl
theorem ksk_bk {B : Nat} {b s n : Nat} {σ : St} {M : Mem} {vs : Nat → Value} {d c : Nat} {w : World} (hB : Bk B w b s n σ M vs d c) (hc : c ≤ 400) (hg : Good σ 400) :
    Ksk B b s nmK (enK σ) vs (fun y => ∃ M, Bk B y b s n σ M vs d c) (DB σ) where
  h := fun i hi => hsk_bk hc i hi
  kl := fun i _ => (key_no (nmK_ok i)).2.1
  cl := fun i hi y ⟨M, h⟩ => (h.bk.ck i hi).2.2
  cv := fun i hi y ⟨M, h⟩ => (h.bk.ck i hi).2.1
  row := fun i hi y ⟨M, h⟩ => h.bk.row i hi
  len := fun i _ => (hB.facts i).1
  last := fun i _ => by have := hB.ls i; omega
  ver := fun i _ v hv => by
    have h1 := (hg.find (nmK i)).2 v hv
    have h2 := hg.t
    refine ⟨h1.1, ?_, by omega, h1.2.2.2⟩
    rcases findE_or σ.ents (nmK i) with hm | hm
    · exact (hB.sto.st.ok _ hm).num v hv
    · have hv' : v ∈ (findE σ.ents (nmK i)).vers := hv
      rw [hm] at hv'
      cases hv'
  rise := fun i _ => (hB.facts i).2.1
  itoa := fun n hn y ⟨M, h⟩ => itoaN n y (by omega) h.sto.env.tb.b
  dv := fun i _ n h0 hn => by
    obtain ⟨a, ha, ht⟩ := kp_v (σ := σ) (nmK_ok i) n h0 (by omega)
    refine ⟨a, ha, ht.symm, db_len ?_⟩
    have := (key_no (nmK_ok i)).2.1
    have := dec_len10 (n := n) (k := 9) (by omega) (by omega)
    simp
    omega
  da := fun i _ => by
    refine ⟨_, kp_all (nmK_ok i), ?_, db_len ?_⟩
    · show (if (findE σ.ents (nmK i)).vers = [] then _ else _) = _
      by_cases h0 : (findE σ.ents (nmK i)).vers = []
      · rw [if_pos h0, if_pos h0]
        exact text404.symm
      · rw [if_neg h0, if_neg h0]
        exact (text200b _).symm
    · have := (key_no (nmK_ok i)).2.1
      simp [versW]
      omega
  dc := fun i _ => by
    have hk := nmK_ok i
    have hkl := (key_no hk).2.1
    cases hcv : curOf (enK σ i) with
    | none => exact ⟨_, ⟨_, hd_get0 hk hcv, rfl, db_len (by simp; omega)⟩, Or.inl ⟨rfl, code_is 404 (by omega) (by omega)⟩⟩
    | some u =>
      have hu := (hg.find (nmK i)).2 u (cur_mem hcv).1
      have hgt := hg.t
      have htm : u.time < 2678400 := by omega
      have hl1 := ver_text_len (u := u) hu.2.1 htm hu.2.2.2 u.body hu.2.2.2
      have hcl := cln_flds u htm
      refine ⟨_, ⟨_, hd_get hk hcv, rfl, db_len (by simp; omega)⟩, Or.inr ⟨u, rfl, fun y => code_text 200 _ _ y (by omega) (by omega) (Nat.le_trans hl1 (by decide)), fun y => body_t 200 _ _ y hcl (Nat.le_trans hl1 (by decide)), fun y => ?_⟩⟩
      have := field_t 200 [⟨[69, 84, 97, 103], qTag u.body⟩, ⟨[76, 97, 115, 116, 45, 77, 111, 100, 105, 102, 105, 101, 100], stampL u.time⟩] [] [86, 101, 114, 115, 105, 111, 110] (Lib.decDigits u.num) u.body y hcl (by simp) (by decide) (Nat.le_trans hl1 (by decide))
      exact this
theorem kept_all (x : Int) (v : Value) (l : List Stp) (w : World) (hM : MaxIs w) (hT : Tbl w) (ix0 : -9223372036854775808 ≤ x) (ix1 : x ≤ 9223372036854775807) (hv : StpAt w v l) :
    Calls Tryz.prog 7 #[.int .i64 x, v] w fun e w' => e = .returned (.bool true) ∧ Off (fun k => w.heap.size ≤ k) w w' := by
  have hsl : ∃ a n m, v = .slice a n m := by
    obtain ⟨o, cap, e, _⟩ := hv.lie
    exact ⟨_, _, _, e⟩
  refine kept_walk x v w ((played_any x v l w hM hT ix0 ix1 hv).mono ?_) hsl
  rintro e w' ⟨b, s, n, M, vs, d, c, rfl, hn, hc4, hB, hO⟩
  exact ⟨b, s, nmK, enK _, vs, _, _, rfl, ksk_bk hB hc4 (good_played l), ⟨M, hB⟩, hO⟩
end Go.Proofs.YtmehkneofinmiaaGreatDoor

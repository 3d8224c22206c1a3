/-
  Texts of this proof, part 40.
-/
import Derived.Test.YtmehkneofinmiaaGreatDoorP39
namespace Go.Proofs.YtmehkneofinmiaaGreatDoor
open Go.RowKit
set_option linter.unusedSimpArgs false in
set_option linter.unusedVariables false in
set_option maxRecDepth 100000 in
set_option maxHeartbeats 16000000 in
theorem kept_mid {c0 c1 c2 c3 c4 c6 c10 c11 c12 c13 c14 c15 c16 c17 c18 c19 c20 c21 c22 c23 c24 c25 c26 c27 c28 c29 c30 c31 c32 c33 c34 c35 c36 c37 c38 c39 c40 c41 c42 c43 c44 c45 c46 c47 c48 c49 c50 c51 c52 c53 c54 c55 c56 c57 c58 c59 c60 c61 c62 c63 c64 c65 c66 c67 c68 c69 c70 c71 c72 c73 c74 c75 c76 c77 c78 c79 c80 c81 c82 c83 c84 c85 c86 c87 c88 c89 c90 c91 c92 c93 c94 c95 c96 c97 c98 c99 c100 c101 c102 c103 c104 c105 c106 c107 c108 c109 c110 c111 c112 c113 c114 c115 c116 c117 c118 c119 c120 c121 c122 c123 c124 c125 c126 c127 c128 c129 c130 c131 c132 c133 c134 c135 c136 c137 c138 c139 c140 c141 c142 c143 c144 c145 c146 c147 c148 c149 c150 c151 c152 c153 c154 c155 c156 c157 c158 c159 c160 c161 c162 c163 c164 c165 c166 c167 c168 c169 c170 c171 c172 c173 c174 c175 c176 c177 c178 c179 c180 c181 c182 c183 c184 c185 c186 c187 c188 c189 c190 c191 c192 c193 c194 c195 c196 c197 c198 c199 c200 c201 : Value} (w wr : World) (b s : Nat) (KK : Nat → List UInt8) (en : Nat → Ent) (vs : Nat → Value) (I : World → Prop) (D : List UInt8 → List UInt8 → Prop) (HS : Hid (Ksk w.heap.size b s KK en vs I D)) (i : Nat) (hi5 : i < 5) (hIr : I wr) (hOr : Off (fun k => w.heap.size ≤ k) w wr) (Q : Exit → Act → World → Prop)
    (HEX : Hid (∀ (t4 t10 t11 t12 t13 t37 t38 t39 t40 t41 t42 t43 t44 t45 t46 t47 t48 t49 t50 t51 t52 t53 t54 t55 t56 t57 t58 t59 t60 t61 t62 t63 t64 t65 t66 t67 t68 t69 t70 t71 t72 t73 t74 t75 t76 t77 t78 t79 t80 t81 t82 t83 t84 t85 t86 t87 t88 t89 t90 t91 t92 t93 t94 t95 t96 t97 t98 t99 t100 t101 t102 t103 t104 t105 t106 t107 t108 t109 t110 t111 t112 t113 t114 t115 t116 t117 t118 t119 t120 t121 t122 t123 t124 t125 t126 t127 t128 t129 t130 t131 t132 t133 t134 t135 t136 : Value) (w' : World), I w' → Off (fun k => w.heap.size ≤ k) w w' → Q (.exit 2) ⟨(c0 :: c1 :: c2 :: c3 :: t4 :: .pointer (some ⟨b, 0, none⟩) :: c6 :: .pointer (some ⟨b, 1 + i * 3, none⟩) :: .string ⟨(lnsF (en i).vers 0).toArray⟩ :: .int .i64 0 :: t10 :: t11 :: t12 :: t13 :: c14 :: c15 :: c16 :: c17 :: c18 :: c19 :: c20 :: c21 :: c22 :: c23 :: c24 :: c25 :: c26 :: c27 :: c28 :: c29 :: c30 :: c31 :: c32 :: c33 :: c34 :: c35 :: c36 :: t37 :: t38 :: t39 :: t40 :: t41 :: t42 :: t43 :: t44 :: t45 :: t46 :: t47 :: t48 :: t49 :: t50 :: t51 :: t52 :: t53 :: t54 :: t55 :: t56 :: t57 :: t58 :: t59 :: t60 :: t61 :: t62 :: t63 :: t64 :: t65 :: t66 :: t67 :: t68 :: t69 :: t70 :: t71 :: t72 :: t73 :: t74 :: t75 :: t76 :: t77 :: t78 :: t79 :: t80 :: t81 :: t82 :: t83 :: t84 :: t85 :: t86 :: t87 :: t88 :: t89 :: t90 :: t91 :: t92 :: t93 :: t94 :: t95 :: t96 :: t97 :: t98 :: t99 :: t100 :: t101 :: t102 :: t103 :: t104 :: t105 :: t106 :: t107 :: t108 :: t109 :: t110 :: t111 :: t112 :: t113 :: t114 :: t115 :: t116 :: t117 :: t118 :: t119 :: t120 :: t121 :: t122 :: t123 :: t124 :: t125 :: t126 :: t127 :: t128 :: t129 :: t130 :: t131 :: t132 :: t133 :: t134 :: t135 :: t136 :: c137 :: c138 :: c139 :: c140 :: c141 :: c142 :: c143 :: c144 :: c145 :: c146 :: c147 :: c148 :: c149 :: c150 :: c151 :: c152 :: c153 :: c154 :: c155 :: c156 :: c157 :: c158 :: c159 :: c160 :: c161 :: c162 :: c163 :: c164 :: c165 :: c166 :: c167 :: c168 :: c169 :: c170 :: c171 :: c172 :: c173 :: c174 :: c175 :: c176 :: c177 :: c178 :: c179 :: c180 :: c181 :: c182 :: c183 :: c184 :: c185 :: c186 :: c187 :: c188 :: c189 :: c190 :: c191 :: c192 :: c193 :: c194 :: c195 :: c196 :: c197 :: c198 :: c199 :: c200 :: c201 :: []).toArray, []⟩ w')) :
    Code.wp Tryz.prog (Code.loop keptMid) Q ⟨(c0 :: c1 :: c2 :: c3 :: c4 :: .pointer (some ⟨b, 0, none⟩) :: c6 :: .pointer (some ⟨b, 1 + i * 3, none⟩) :: .string ⟨#[]⟩ :: .int .i64 (((en i).last : Int) + 1) :: c10 :: c11 :: c12 :: c13 :: c14 :: c15 :: c16 :: c17 :: c18 :: c19 :: c20 :: c21 :: c22 :: c23 :: c24 :: c25 :: c26 :: c27 :: c28 :: c29 :: c30 :: c31 :: c32 :: c33 :: c34 :: c35 :: c36 :: c37 :: c38 :: c39 :: c40 :: c41 :: c42 :: c43 :: c44 :: c45 :: c46 :: c47 :: c48 :: c49 :: c50 :: c51 :: c52 :: c53 :: c54 :: c55 :: c56 :: c57 :: c58 :: c59 :: c60 :: c61 :: c62 :: c63 :: c64 :: c65 :: c66 :: c67 :: c68 :: c69 :: c70 :: c71 :: c72 :: c73 :: c74 :: c75 :: c76 :: c77 :: c78 :: c79 :: c80 :: c81 :: c82 :: c83 :: c84 :: c85 :: c86 :: c87 :: c88 :: c89 :: c90 :: c91 :: c92 :: c93 :: c94 :: c95 :: c96 :: c97 :: c98 :: c99 :: c100 :: c101 :: c102 :: c103 :: c104 :: c105 :: c106 :: c107 :: c108 :: c109 :: c110 :: c111 :: c112 :: c113 :: c114 :: c115 :: c116 :: c117 :: c118 :: c119 :: c120 :: c121 :: c122 :: c123 :: c124 :: c125 :: c126 :: c127 :: c128 :: c129 :: c130 :: c131 :: c132 :: c133 :: c134 :: c135 :: c136 :: c137 :: c138 :: c139 :: c140 :: c141 :: c142 :: c143 :: c144 :: c145 :: c146 :: c147 :: c148 :: c149 :: c150 :: c151 :: c152 :: c153 :: c154 :: c155 :: c156 :: c157 :: c158 :: c159 :: c160 :: c161 :: c162 :: c163 :: c164 :: c165 :: c166 :: c167 :: c168 :: c169 :: c170 :: c171 :: c172 :: c173 :: c174 :: c175 :: c176 :: c177 :: c178 :: c179 :: c180 :: c181 :: c182 :: c183 :: c184 :: c185 :: c186 :: c187 :: c188 :: c189 :: c190 :: c191 :: c192 :: c193 :: c194 :: c195 :: c196 :: c197 :: c198 :: c199 :: c200 :: c201 :: []).toArray, []⟩ wr := by
  conv => arg 2; arg 1; whnf
  have hS := HS.out.h i hi5
  have hiI : (i : Int) < 5 := by omega
  obtain ⟨K, hK⟩ : ∃ K, KK i = K := ⟨_, rfl⟩
  obtain ⟨l, hl⟩ : ∃ x, (en i).vers = x := ⟨_, rfl⟩
  obtain ⟨L, hL⟩ : ∃ x, (en i).last = x := ⟨_, rfl⟩
  have hkl := HS.out.kl i hi5
  have hlen := HS.out.len i hi5
  have hLb := HS.out.last i hi5
  have hver := HS.out.ver i hi5
  have hrise := HS.out.rise i hi5
  have hdv := HS.out.dv i hi5
  have hda := HS.out.da i hi5
  have hcl := HS.out.cl i hi5
  have hcv := HS.out.cv i hi5
  have hrow := HS.out.row i hi5
  rw [hK] at hS hkl hdv hda
  rw [hl] at hlen hver hrise hdv hda hrow
  rw [hL] at hver hLb hcl
  obtain ⟨xo, xc, hx⟩ : ∃ xo xc, vs i = .slice xo l.length xc := by
    rcases (hrow _ hIr).2 with ⟨e, h0⟩ | ⟨g, cap, cur, e, _⟩
    · exact ⟨_, _, by rw [e, h0]⟩
    · exact ⟨_, _, e⟩
  rw [hx] at hcv hrow
  have HS2 : Hid _ := hS
  have HDV : Hid _ := hdv
  have HDA : Hid _ := hda
  have HCL : Hid _ := hcl
  have HCV : Hid _ := hcv
  have HROW : Hid _ := hrow
  have HVER : Hid _ := hver
  have HRI : Hid _ := hrise
  have HIR : Hid _ := hIr
  have HOR : Hid _ := hOr
  have z0 := hS.c0 _ hIr
  have z1 := hS.ck _ hIr
  have z2 := hcl _ hIr
  have ltr := hS.sz _ hIr
  have hwL : IntKind.i64.wrap ((L : Int) + 1) = ((L + 1 : Nat) : Int) := by rw [IntKind.wrap_i64]; omega
  have hA : ∀ w : World, (Op.stringOp .add ⟨#[47]⟩ ⟨K.toArray⟩).run Tryz.prog w = .ok (.string ⟨(47 :: K).toArray⟩) w := addL2 [47] K (by simp; omega)
  have HLT : Hid _ := lns_top (l := l) (m := L + 1) (fun v hv => by have := (hver v hv).2.1; omega)
  clear hS hdv hda hcl hcv hrow hver hrise hIr hOr
  rw [hl] at HEX
  rw [hL]
  go_loopw [8, 9, 10, 11, 12, 13] (fun ln nv _ _ _ _ wm => ∃ m : Nat, m ≤ L + 1 ∧ nv = .int .i64 m ∧ ln = .string ⟨(lnsF l m).toArray⟩ ∧ I wm ∧ Off (fun k => w.heap.size ≤ k) w wm) (fun _ nv _ _ _ _ _ => (intOf nv).toNat)
  case atStart => exact ⟨L + 1, Nat.le_refl _, rfl, by rw [HLT.out], HIR.out, HOR.out⟩
  case round =>
    obtain ⟨m, hm, rfl, rfl, hIm, hOm⟩ := hrel
    have HIM : Hid _ := hIm
    have HOM : Hid _ := hOm
    have y0 := HS2.out.c0 _ hIm
    have y1 := HS2.out.ck _ hIm
    have ltm := HS2.out.sz _ hIm
    clear hIm hOm z0 z1 z2 ltr HIR HOR
    cases m with
    | zero =>
      have hne : ¬ (0 : Int) < ((0 : Nat) : Int) := by omega
      go_wp2_with fail
      apply HEX.out
      · exact HIM.out
      · exact HOM.out
    | succ m' =>
      have HST : Hid _ := lns_step HRI.out m'
      have hAl := lns_len (l := l) (fun v hv => by have := HVER.out v hv; omega) hlen (m' + 1)
      obtain ⟨n, hn⟩ : ∃ n, m' + 1 = n := ⟨_, rfl⟩
      have hn1 : n ≤ L + 1 := by omega
      have hwn : IntKind.i64.wrap ((n : Int) - 1) = (m' : Int) := by rw [IntKind.wrap_i64]; omega
      have hnI : (0 : Int) < (n : Int) := by omega
      rw [hn] at HST hAl ⊢
      obtain ⟨A, hA1⟩ : ∃ A, lnsF l n = A := ⟨_, rfl⟩
      rw [hA1] at HST hAl ⊢
      have hdl := dec_len10 (n := n) (k := 9) (by omega) (by omega)
      have hdv1 := HDV.out n (by omega) (by omega)
      have HIT : Hid (∀ y, I y → Calls Tryz.prog 17 #[.int .i64 n] y fun e w' => e = .returned (.string ⟨(Lib.decDigits n).toArray⟩) ∧ Below y.heap.size y w') := HS.out.itoa n (by omega)
      obtain ⟨Dn, hDn⟩ : ∃ x, Lib.decDigits n = x := ⟨_, rfl⟩
      rw [hDn] at hdl hdv1 HIT
      obtain ⟨T, hT⟩ : ∃ T, answV (fndV l n) = T := ⟨_, rfl⟩
      rw [hT] at hdv1
      have hB1 : ∀ w : World, (Op.stringOp .add ⟨(47 :: K).toArray⟩ ⟨#[63, 118, 61]⟩).run Tryz.prog w = .ok (.string ⟨(47 :: K ++ [63, 118, 61]).toArray⟩) w := addL2 (47 :: K) [63, 118, 61] (by simp; omega)
      have hB2 : ∀ w : World, (Op.stringOp .add ⟨(47 :: K ++ [63, 118, 61]).toArray⟩ ⟨Dn.toArray⟩).run Tryz.prog w = .ok (.string ⟨(47 :: (K ++ [63] ++ ([118, 61] ++ Dn))).toArray⟩) w := by
        have := addL2 (47 :: K ++ [63, 118, 61]) Dn (by simp; omega)
        rw [show 47 :: K ++ [63, 118, 61] ++ Dn = 47 :: (K ++ [63] ++ ([118, 61] ++ Dn)) by simp] at this
        exact this
      have HQ : Hid (∀ y, Calls Tryz.prog 16 #[.string ⟨#[71, 69, 84]⟩, .string ⟨(47 :: (K ++ [63] ++ ([118, 61] ++ Dn))).toArray⟩, .string ⟨#[]⟩, .string ⟨#[]⟩] y fun e w' => e = .returned (.string ⟨(reqB [71, 69, 84] (47 :: (K ++ [63] ++ ([118, 61] ++ Dn))) [] []).toArray⟩) ∧ w' = y) :=
        fun y => request_any [71, 69, 84] (47 :: (K ++ [63] ++ ([118, 61] ++ Dn))) [] [] y (by decide) (by simp; omega) (by decide) (by decide)
      have HD : Hid _ := hdv1
      clear hdv1
      obtain ⟨R, hR⟩ : ∃ R, reqB [71, 69, 84] (47 :: (K ++ [63] ++ ([118, 61] ++ Dn))) [] [] = R := ⟨_, rfl⟩
      rw [hR] at HQ HD
      clear hR
      obtain ⟨U3, hU3⟩ : ∃ x, 47 :: (K ++ [63] ++ ([118, 61] ++ Dn)) = x := ⟨_, rfl⟩
      obtain ⟨U2, hU2⟩ : ∃ x, 47 :: K ++ [63, 118, 61] = x := ⟨_, rfl⟩
      obtain ⟨U1, hU1⟩ : ∃ x, 47 :: K = x := ⟨_, rfl⟩
      rw [hU3] at HQ hB2
      rw [hU2] at hB1 hB2
      rw [hU1] at hB1
      have hA' := hA
      rw [hU1] at hA'
      clear hU1 hU2 hU3 hA
      have s5 : wr.cell? ⟨b, 0, none⟩ = some (.pointer (some ⟨s, 0, none⟩)) ∧ wr.cell? ⟨b, 1 + i * 3, none⟩ = some (.string ⟨K.toArray⟩) := ⟨y0, y1⟩
      go_wp2_with fail
      go_region_held3 (fun y => y.cell? ⟨b, 0, none⟩ = some (.pointer (some ⟨s, 0, none⟩)) ∧ y.cell? ⟨b, 1 + i * 3, none⟩ = some (.string ⟨K.toArray⟩)) (first | assumption | go_keep) (first
        | (go_at_call 17
           refine Calls.mono (HIT.out _ (HS2.out.drw HIM.out)) ?_
           rintro e w2 ⟨rfl, b2⟩
           have i2 := HS2.out.bel _ _ (HS2.out.drw HIM.out) b2
           have s2 : w2.cell? ⟨b, 0, none⟩ = some (.pointer (some ⟨s, 0, none⟩)) ∧ w2.cell? ⟨b, 1 + i * 3, none⟩ = some (.string ⟨K.toArray⟩) := ⟨HS2.out.c0 _ i2, HS2.out.ck _ i2⟩)
        | (go_at_call 16
           refine Calls.mono (HQ.out _) ?_
           rintro e w3 ⟨rfl, rfl⟩)
        | (go_at_call 15
           refine Calls.mono (HS2.out.asks _ _ HD.out _ i2) ?_
           rintro e w4 ⟨rfl, i4, o4, k4⟩
           have s4 : w4.cell? ⟨b, 0, none⟩ = some (.pointer (some ⟨s, 0, none⟩)) ∧ w4.cell? ⟨b, 1 + i * 3, none⟩ = some (.string ⟨K.toArray⟩) := ⟨HS2.out.c0 _ i4, HS2.out.ck _ i4⟩))
      have HI4 : Hid (I w4) := i4
      have HO4 : Hid (Off (fun k => w.heap.size ≤ k) w w4) := ((HOM.out.trans (Off.of_below (Below.refl _ _).drew)).trans (Off.of_below b2)).trans o4
      have lt4 := HS2.out.sz _ i4
      have x4 := HCV.out _ i4
      clear i4 o4 k4 s4 s2 i2 b2 s5 y0 y1 ltm HQ HD hB1 hB2 hA' HIM HOM
      go_wp2_with fail
      go_loopw [8, 11, 12, 13] (fun ln wa kv _ wi => ∃ k : Nat, k ≤ l.length ∧ kv = .int .i64 k ∧ ln = .string ⟨(A ++ lineV (fndV (l.take k) n)).toArray⟩ ∧ wa = .string ⟨(wantV (fndV (l.take k) n)).toArray⟩ ∧ I wi ∧ Off (fun k => w.heap.size ≤ k) w wi) (fun _ _ kv _ _ => l.length - (intOf kv).toNat)
      case atStart => exact ⟨0, Nat.zero_le _, rfl, by simp [fndV, lineV], by simp [fndV, wantV], HI4.out, HO4.out⟩
      case round =>
        obtain ⟨k, hk, rfl, rfl, rfl, hIk, hOk⟩ := hrel
        have HIK : Hid _ := hIk
        have HOK : Hid _ := hOk
        have x2 := HCV.out _ hIk
        have ltk := HS2.out.sz _ hIk
        clear x4 lt4
        by_cases hkl : k < l.length
        · obtain ⟨v, hv⟩ : ∃ v, l[k]? = some v := ⟨_, List.getElem?_eq_getElem hkl⟩
          obtain ⟨g, cap, hvs, hnc, hmx, hg, hf, d0, d1, d2, d3, d4⟩ := brow_cells (HROW.out _ hIk) k v hv
          simp only [Value.slice.injEq] at hvs
          obtain ⟨rfl, -, rfl⟩ := hvs
          have hft := fnd_take HRI.out hv n
          have hvv := HVER.out v (List.mem_of_getElem? hv)
          have hkI : (k : Int) < (l.length : Int) := by omega
          clear hIk hOk
          by_cases hnum : v.num = n
          · obtain ⟨f0, f1⟩ := hft.1 hnum
            have hdl2 := dec_len10 (n := v.time) (k := 9) (by omega) (by omega)
            have HIT2 : Hid (∀ y, I y → Calls Tryz.prog 17 #[.int .i64 v.time] y fun e w' => e = .returned (.string ⟨(Lib.decDigits v.time).toArray⟩) ∧ Below y.heap.size y w') := HS.out.itoa v.time (by omega)
            have HSP : Hid (∀ y, I y → Calls Tryz.prog 18 #[.int .i64 v.time] y fun e w' => e = .returned (.string ⟨(stampL v.time).toArray⟩) ∧ Below y.heap.size y w') := HS2.out.stamp v.time hvv.2.2.1
            have HL2 : Hid (lineF2 v = Dn ++ [32] ++ Lib.decDigits v.time ++ [32] ++ (if v.mark then [103, 111, 110, 101] else tagK v) ++ [10]) := by
              show _ = _
              unfold lineF2 tagK
              rw [hnum, hDn]
              cases v.mark <;> rfl
            have HW2 : Hid (v.mark = false → wantV (some v) = [50, 48, 48, 13, 10, 69, 84, 97, 103, 58, 32] ++ tagK v ++ [13, 10] ++ [76, 97, 115, 116, 45, 77, 111, 100, 105, 102, 105, 101, 100, 58, 32] ++ stampL v.time ++ [13, 10] ++ [86, 101, 114, 115, 105, 111, 110, 58, 32] ++ Dn ++ [13, 10] ++ [13, 10] ++ v.body) := by
              intro hmk
              have h3 : Lib.decDigits 200 = [50, 48, 48] := by kernel_rfl
              simp only [wantV, hmk, textF, verFlds, tagK, h3, hnum, hDn]
              simp [fldText]
            have hjl := stampL_le v.time
            have htl : (tagK v).length ≤ 18 := by unfold tagK; split <;> simp [qTag_len]
            obtain ⟨vt, hvt⟩ : ∃ x, v.time = x := ⟨_, rfl⟩
            obtain ⟨vbd, hvbd⟩ : ∃ x, v.body = x := ⟨_, rfl⟩
            obtain ⟨vtg, hvtg⟩ : ∃ x, tagK v = x := ⟨_, rfl⟩
            obtain ⟨Dt, hDt⟩ : ∃ x, Lib.decDigits v.time = x := ⟨_, rfl⟩
            obtain ⟨St, hSt⟩ : ∃ x, stampL v.time = x := ⟨_, rfl⟩
            have hbl := hvv.2.2.2
            rw [hvbd] at hbl d3 HW2
            rw [hvtg] at htl d4 HL2 HW2
            rw [hDt] at hdl2 HIT2 HL2
            rw [hSt] at hjl HSP HW2
            rw [hvt] at HIT2 HSP d1
            rw [hnum] at d0
            have e0 : A ++ lineV (none : Option Ver) = A := by simp [lineV]
            rw [f0, e0, show wantV (none : Option Ver) = [] from rfl]
            have HF1 : Hid _ := f1
            have HZ1 : Hid (A ++ lineV (fndV (l.take (k + 1)) n) = A ++ lineF2 v) := by show _ = _; rw [f1]; rfl
            have HZ2 : Hid (wantV (fndV (l.take (k + 1)) n) = wantV (some v)) := by show _ = _; rw [f1]
            clear hft f0 f1 hv e0 hvt hvbd hvtg hDt hSt
            cases hmk : v.mark with
            | true =>
              rw [hmk] at d2 HL2
              have HZ3 : Hid (wantV (some v) = []) := by show _ = _; simp [wantV, hmk]
              obtain ⟨PM1, hPM1, lPM1, aPM1⟩ := sumX A Dn (by first | omega | (simp; omega))
              try simp only [List.length_cons, List.length_nil] at lPM1
              obtain ⟨PM2, hPM2, lPM2, aPM2⟩ := sumX PM1 [32] (by first | omega | (simp; omega))
              try simp only [List.length_cons, List.length_nil] at lPM2
              obtain ⟨PM3, hPM3, lPM3, aPM3⟩ := sumX PM2 Dt (by first | omega | (simp; omega))
              try simp only [List.length_cons, List.length_nil] at lPM3
              obtain ⟨PM4, hPM4, lPM4, aPM4⟩ := sumX PM3 [32, 103, 111, 110, 101, 10] (by first | omega | (simp; omega))
              try simp only [List.length_cons, List.length_nil] at lPM4
              have HZM : Hid (A ++ lineF2 v = PM4) := by
                show _ = _
                rw [HL2.out, ← hPM4, ← hPM3, ← hPM2, ← hPM1]
                simp
              clear HL2 hPM1 hPM2 hPM3 hPM4 HW2
              go_wp2_with fail
              obtain ⟨vb, hvb⟩ : ∃ x, wr.heap.size = x := ⟨_, rfl⟩
              obtain ⟨X, hX⟩ : ∃ X, X = wr.alloc (.cells #[.int .i64 n, .int .i64 vt, .bool true, .string ⟨vbd.toArray⟩, .string ⟨vtg.toArray⟩] 56) := ⟨_, rfl⟩
              rw [← hX]
              have hbX : Below wr.heap.size wr X := by rw [hX]; exact (Below.refl _ _).alloc (Nat.le_refl _) _
              have HIX : Hid (I X) := HS2.out.bel _ _ HIK.out hbX
              have HVX : Hid (X.heap[vb]? = some (.cells #[.int .i64 n, .int .i64 vt, .bool true, .string ⟨vbd.toArray⟩, .string ⟨vtg.toArray⟩] 56 (0, 0))) := by
                show _ = _
                rw [hX, ← hvb]
                exact heap_alloc_new _ _
              have lvX : vb < X.heap.size := (Array.getElem?_eq_some_iff.1 HVX.out).1
              have HOX : Hid (Off (fun k => w.heap.size ≤ k) w X) := HOK.out.trans (Off.of_below hbX)
              clear hX hbX
              rw [hvb]
              clear hvb
              have sX := (five_cells HVX.out).2
              go_region_held3 (fun y => y.cell? ⟨vb, 1, none⟩ = some (.int .i64 vt) ∧ y.cell? ⟨vb, 2, none⟩ = some (.bool true) ∧ y.cell? ⟨vb, 3, none⟩ = some (.string ⟨vbd.toArray⟩) ∧ y.cell? ⟨vb, 4, none⟩ = some (.string ⟨vtg.toArray⟩)) (first | assumption | go_keep) (first
                | (go_at_call_of 17 (Value.int IntKind.i64 n)
                   refine Calls.mono (HIT.out _ (HS2.out.drw HIX.out)) ?_
                   rintro e w5 ⟨rfl, b5⟩
                   have i5 := HS2.out.bel _ _ (HS2.out.drw HIX.out) b5
                   have v5 := (b5.block vb lvX).trans HVX.out
                   have s5 := (five_cells v5).2)
                | (go_at_call_of 17 (Value.int IntKind.i64 vt)
                   refine Calls.mono (HIT2.out _ i5) ?_
                   rintro e w6 ⟨rfl, b6⟩
                   have i6 := HS2.out.bel _ _ i5 b6
                   have v6 := (b6.block vb (Array.getElem?_eq_some_iff.1 v5).1).trans v5
                   have s6 := (five_cells v6).2))
              have q6 := five_cells v6
              have HO6 : Hid (Off (fun k => w.heap.size ≤ k) w w6) := ((HOX.out.trans (Off.of_below (Below.refl _ _).drew)).trans (Off.of_below b5)).trans (Off.of_below b6)
              have HI6 : Hid (I w6) := i6
              clear i6 v6 s6 b6 i5 v5 s5 b5 sX HIX HVX HOX lvX
              go_wp2_with fail
              exact ⟨⟨k + 1, by omega, by go_num, by rw [HZ1.out, HZM.out], by rw [HZ2.out, HZ3.out], HI6.out, HO6.out⟩, by simp [intOf]; omega⟩
            | false =>
              rw [hmk] at d2 HL2
              have hW3 := HW2.out hmk
              obtain ⟨PW1, hPW1, lPW1, aPW1⟩ := sumX [50, 48, 48, 13, 10, 69, 84, 97, 103, 58, 32] vtg (by first | omega | (simp; omega))
              try simp only [List.length_cons, List.length_nil] at lPW1
              obtain ⟨PW2, hPW2, lPW2, aPW2⟩ := sumX PW1 [13, 10] (by first | omega | (simp; omega))
              try simp only [List.length_cons, List.length_nil] at lPW2
              obtain ⟨PW3, hPW3, lPW3, aPW3⟩ := sumX PW2 [76, 97, 115, 116, 45, 77, 111, 100, 105, 102, 105, 101, 100, 58, 32] (by first | omega | (simp; omega))
              try simp only [List.length_cons, List.length_nil] at lPW3
              obtain ⟨PW4, hPW4, lPW4, aPW4⟩ := sumX PW3 St (by first | omega | (simp; omega))
              try simp only [List.length_cons, List.length_nil] at lPW4
              obtain ⟨PW5, hPW5, lPW5, aPW5⟩ := sumX PW4 [13, 10] (by first | omega | (simp; omega))
              try simp only [List.length_cons, List.length_nil] at lPW5
              obtain ⟨PW6, hPW6, lPW6, aPW6⟩ := sumX PW5 [86, 101, 114, 115, 105, 111, 110, 58, 32] (by first | omega | (simp; omega))
              try simp only [List.length_cons, List.length_nil] at lPW6
              obtain ⟨PW7, hPW7, lPW7, aPW7⟩ := sumX PW6 Dn (by first | omega | (simp; omega))
              try simp only [List.length_cons, List.length_nil] at lPW7
              obtain ⟨PW8, hPW8, lPW8, aPW8⟩ := sumX PW7 [13, 10] (by first | omega | (simp; omega))
              try simp only [List.length_cons, List.length_nil] at lPW8
              obtain ⟨PW9, hPW9, lPW9, aPW9⟩ := sumX PW8 [13, 10] (by first | omega | (simp; omega))
              try simp only [List.length_cons, List.length_nil] at lPW9
              obtain ⟨PW10, hPW10, lPW10, aPW10⟩ := sumX PW9 vbd (by first | omega | (simp; omega))
              try simp only [List.length_cons, List.length_nil] at lPW10
              have HZW : Hid (wantV (some v) = PW10) := by
                show _ = _
                rw [hW3, hPW1, hPW2, hPW3, hPW4, hPW5, hPW6, hPW7, hPW8, hPW9, hPW10]
              clear hPW1 hPW2 hPW3 hPW4 hPW5 hPW6 hPW7 hPW8 hPW9 hPW10
              obtain ⟨PL1, hPL1, lPL1, aPL1⟩ := sumX A Dn (by first | omega | (simp; omega))
              try simp only [List.length_cons, List.length_nil] at lPL1
              obtain ⟨PL2, hPL2, lPL2, aPL2⟩ := sumX PL1 [32] (by first | omega | (simp; omega))
              try simp only [List.length_cons, List.length_nil] at lPL2
              obtain ⟨PL3, hPL3, lPL3, aPL3⟩ := sumX PL2 Dt (by first | omega | (simp; omega))
              try simp only [List.length_cons, List.length_nil] at lPL3
              obtain ⟨PL4, hPL4, lPL4, aPL4⟩ := sumX PL3 [32] (by first | omega | (simp; omega))
              try simp only [List.length_cons, List.length_nil] at lPL4
              obtain ⟨PL5, hPL5, lPL5, aPL5⟩ := sumX PL4 vtg (by first | omega | (simp; omega))
              try simp only [List.length_cons, List.length_nil] at lPL5
              obtain ⟨PL6, hPL6, lPL6, aPL6⟩ := sumX PL5 [10] (by first | omega | (simp; omega))
              try simp only [List.length_cons, List.length_nil] at lPL6
              have HZL : Hid (A ++ lineF2 v = PL6) := by
                show _ = _
                rw [HL2.out, ← hPL6, ← hPL5, ← hPL4, ← hPL3, ← hPL2, ← hPL1]
                simp
              clear HL2 HW2 hPL1 hPL2 hPL3 hPL4 hPL5 hPL6
              clear hW3
              go_wp2_with fail
              obtain ⟨vb, hvb⟩ : ∃ x, wr.heap.size = x := ⟨_, rfl⟩
              obtain ⟨X, hX⟩ : ∃ X, X = wr.alloc (.cells #[.int .i64 n, .int .i64 vt, .bool false, .string ⟨vbd.toArray⟩, .string ⟨vtg.toArray⟩] 56) := ⟨_, rfl⟩
              rw [← hX]
              have hbX : Below wr.heap.size wr X := by rw [hX]; exact (Below.refl _ _).alloc (Nat.le_refl _) _
              have HIX : Hid (I X) := HS2.out.bel _ _ HIK.out hbX
              have HVX : Hid (X.heap[vb]? = some (.cells #[.int .i64 n, .int .i64 vt, .bool false, .string ⟨vbd.toArray⟩, .string ⟨vtg.toArray⟩] 56 (0, 0))) := by
                show _ = _
                rw [hX, ← hvb]
                exact heap_alloc_new _ _
              have lvX : vb < X.heap.size := (Array.getElem?_eq_some_iff.1 HVX.out).1
              have HOX : Hid (Off (fun k => w.heap.size ≤ k) w X) := HOK.out.trans (Off.of_below hbX)
              clear hX hbX
              rw [hvb]
              clear hvb
              have sX := (five_cells HVX.out).2
              go_region_held3 (fun y => y.cell? ⟨vb, 1, none⟩ = some (.int .i64 vt) ∧ y.cell? ⟨vb, 2, none⟩ = some (.bool false) ∧ y.cell? ⟨vb, 3, none⟩ = some (.string ⟨vbd.toArray⟩) ∧ y.cell? ⟨vb, 4, none⟩ = some (.string ⟨vtg.toArray⟩)) (first | assumption | go_keep) (first
                | (go_at_call 18
                   refine Calls.mono (HSP.out _ (HS2.out.drw HIX.out)) ?_
                   rintro e w5 ⟨rfl, b5⟩
                   have i5 := HS2.out.bel _ _ (HS2.out.drw HIX.out) b5
                   have v5 := (b5.block vb lvX).trans HVX.out
                   have s5 := (five_cells v5).2)
                | (go_at_call 17
                   refine Calls.mono (HIT.out _ i5) ?_
                   rintro e w6 ⟨rfl, b6⟩
                   have i6 := HS2.out.bel _ _ i5 b6
                   have v6 := (b6.block vb (Array.getElem?_eq_some_iff.1 v5).1).trans v5
                   have s6 := (five_cells v6).2))
              have HO6 : Hid (Off (fun k => w.heap.size ≤ k) w w6) := ((HOX.out.trans (Off.of_below (Below.refl _ _).drew)).trans (Off.of_below b5)).trans (Off.of_below b6)
              have HI6 : Hid (I w6) := i6
              have HV6 : Hid _ := v6
              have lv6 : vb < w6.heap.size := (Array.getElem?_eq_some_iff.1 v6).1
              clear i6 v6 b6 i5 v5 s5 b5 sX HIX HVX HOX lvX aPW1 aPW2 aPW3 aPW4 aPW5 aPW6 aPW7 aPW8 aPW9 aPW10
              go_wp2_with fail
              go_region_held3 (fun y => y.cell? ⟨vb, 1, none⟩ = some (.int .i64 vt) ∧ y.cell? ⟨vb, 2, none⟩ = some (.bool false) ∧ y.cell? ⟨vb, 3, none⟩ = some (.string ⟨vbd.toArray⟩) ∧ y.cell? ⟨vb, 4, none⟩ = some (.string ⟨vtg.toArray⟩)) (first | assumption | go_keep) (first
                | (go_at_call_of 17 (Value.int IntKind.i64 n)
                   refine Calls.mono (HIT.out _ (HS2.out.drw HI6.out)) ?_
                   rintro e w7 ⟨rfl, b7⟩
                   have i7 := HS2.out.bel _ _ (HS2.out.drw HI6.out) b7
                   have v7 := (b7.block vb lv6).trans HV6.out
                   have s7 := (five_cells v7).2)
                | (go_at_call_of 17 (Value.int IntKind.i64 vt)
                   refine Calls.mono (HIT2.out _ i7) ?_
                   rintro e w8 ⟨rfl, b8⟩
                   have i8 := HS2.out.bel _ _ i7 b8
                   have v8 := (b8.block vb (Array.getElem?_eq_some_iff.1 v7).1).trans v7
                   have s8 := (five_cells v8).2))
              have HO8 : Hid (Off (fun k => w.heap.size ≤ k) w w8) := ((HO6.out.trans (Off.of_below (Below.refl _ _).drew)).trans (Off.of_below b7)).trans (Off.of_below b8)
              have HI8 : Hid (I w8) := i8
              clear i8 v8 s8 b8 i7 v7 s7 b7
              go_wp2_with fail
              exact ⟨⟨k + 1, by omega, by go_num, by rw [HZ1.out, HZL.out], by rw [HZ2.out, HZW.out], HI8.out, HO8.out⟩, by simp [intOf]; omega⟩
          · have f2 := hft.2 hnum
            have hnum' : ¬ (v.num : Int) = (n : Int) := by omega
            have HF2 : Hid _ := f2
            obtain ⟨P1, hP1⟩ : ∃ x, A ++ lineV (fndV (l.take k) n) = x := ⟨_, rfl⟩
            obtain ⟨P2, hP2⟩ : ∃ x, wantV (fndV (l.take k) n) = x := ⟨_, rfl⟩
            have HP1 : Hid (A ++ lineV (fndV (l.take (k + 1)) n) = P1) := by show _ = _; rw [f2]; exact hP1
            have HP2 : Hid (wantV (fndV (l.take (k + 1)) n) = P2) := by show _ = _; rw [f2]; exact hP2
            rw [hP1, hP2]
            clear hft f2 hP1 hP2 hv
            go_wp2
            exact ⟨⟨k + 1, by omega, by go_num, by rw [HP1.out], by rw [HP2.out], HS2.out.bel _ _ HIK.out ((Below.refl _ _).alloc (Nat.le_refl _) _), HOK.out.trans (Off.of_below ((Below.refl _ _).alloc (Nat.le_refl _) _))⟩, by simp [intOf]; omega⟩
        · obtain rfl : k = l.length := by omega
          rw [List.take_length]
          obtain ⟨F, hF⟩ : ∃ F, fndV l n = F := ⟨_, rfl⟩
          rw [hF] at hT HST ⊢
          have HT : Hid ((wantV F = [] ∧ T = [52, 48, 52, 13, 10, 13, 10]) ∨ (wantV F ≠ [] ∧ T = wantV F)) := by
            have h4 : textF 404 [] [] = [52, 48, 52, 13, 10, 13, 10] := by
              have h3 : Lib.decDigits 404 = [52, 48, 52] := by kernel_rfl
              unfold textF
              rw [h3]
              rfl
            cases F with
            | none => exact Or.inl ⟨rfl, by rw [← hT, ← h4]; rfl⟩
            | some v =>
              cases hmk : v.mark with
              | true => exact Or.inl ⟨by simp [wantV, hmk], by rw [← hT, ← h4]; simp [answV, hmk]⟩
              | false => exact Or.inr ⟨by simp [wantV, hmk, textF], by rw [← hT]; simp [wantV, answV, hmk]⟩
          obtain ⟨Z, hZ⟩ : ∃ x, A ++ lineV F = x := ⟨_, rfl⟩
          obtain ⟨V, hV⟩ : ∃ x, wantV F = x := ⟨_, rfl⟩
          rw [hZ] at HST ⊢
          rw [hV] at HT ⊢
          clear hF hT hZ hV hIk hOk
          rcases HT.out with ⟨rfl, rfl⟩ | ⟨hV0, rfl⟩
          · clear HT
            go_wp2_with fail
            exact ⟨⟨m', by omega, rfl, by rw [HST.out], HIK.out, HOK.out⟩, by simp [intOf]; omega⟩
          · clear HT
            have hV1 : (T == []) = false := by simpa using hV0
            go_wp2_with fail
            exact ⟨⟨m', by omega, rfl, by rw [HST.out], HIK.out, HOK.out⟩, by simp [intOf]; omega⟩
end Go.Proofs.YtmehkneofinmiaaGreatDoor

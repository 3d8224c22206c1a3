/-
 Texts of this proof, part 48.
-/
import Derived.Test.YtmehkneofinmiabGreatDoorP47
import Derived.Test.YtmehkneofinmiabGreatDoorP46
set_option maxRecDepth 100000
set_option maxHeartbeats 8000000
namespace Go.Proofs.YtmehkneofinmiabGreatDoor
open Go.RowKit
attribute [local go_sem ↓] appS_is
attribute [local go_sem] app_run
noncomputable def recCpy : Code := (Tryz.f7.body.bind (cutAt 36)).getD .skip
set_option linter.unusedSimpArgs false in
set_option linter.unusedVariables false in
theorem rec_cpy {c0 c1 c2 c3 c4 c5 c6 c7 c8 c9 c10 c11 c13 c14 c15 c16 c17 c18 c19 c20 c21 c22 c23 c24 c25 c26 c28 c29 c30 c31 c32 c33 c34 c35 c36 c37 c38 c39 c40 c41 c42 c43 c44 c45 c46 c47 c48 c49 c50 c51 c52 c53 c54 c55 c56 c57 c58 c59 c60 c61 c62 c63 c64 c65 c66 c67 c68 c69 c70 c71 c72 c73 c74 c75 c76 c77 c78 c79 c80 c81 c82 c83 c84 c85 c86 c87 c88 c89 c90 c91 c92 c93 c94 c95 c96 c97 c98 c99 c100 c101 c102 c103 c104 c105 c106 c107 c108 c109 c110 c111 c112 c113 c114 c115 c116 c117 c118 c119 c120 c121 c122 c123 c124 c125 c126 c127 c128 c129 c130 c131 c132 c133 c134 c135 c136 c137 c138 c139 c140 c141 c142 c143 c144 c145 c146 c147 c148 c149 c150 c151 c152 c153 c154 c155 c156 c157 c158 c159 c160 c161 c162 c163 c164 c165 c166 c167 c168 c169 c170 c171 c172 c173 c174 c175 c176 c177 c178 c179 c180 c181 c182 c183 c184 c185 c186 c187 c188 c189 c190 c191 c192 c193 c194 c195 c196 c197 c198 c199 c200 c201 c202 c203 c204 c205 c206 c207 c208 c209 c210 c211 c212 c213 c214 c215 c216 c217 c218 c219 c220 c221 c222 c223 c224 c225 c226 c227 c228 c229 c230 c231 c232 c233 c234 c235 c236 c237 c238 c239 c240 c241 c242 c243 c244 c245 c246 c247 c248 c249 c250 c251 c252 c253 c254 c255 c256 c257 c258 c259 c260 c261 c262 c263 c264 c265 c266 : Value} (w w0 : World) (b s n s2 n2 c D dn : Nat) (σ : St) (M : Mem) (vs : Nat -> Value) (M2 : Mem)
 (hC : CpyAt (fun k => w.heap.size <= k) b s n σ c s2 n2 D dn 0 M vs M2 (fun _ => .slice none 0 0) w0) (hO : Off (fun k => w.heap.size <= k) w w0) (Q : Exit -> Act -> World -> Prop) (hPA : ∀ c a o v w, Q (.panic c) (Act.put a o v) w -> Q (.panic c) a w)
 (HEX : Hid (∀ (t28 t184 t185 t186 t187 t188 t189 t190 t191 t192 t193 t194 t195 t196 t197 t198 t199 t200 t201 t202 t203 t204 t205 t206 t207 t208 t209 t210 t211 t212 t213 t214 t215 t216 t217 t218 t219 t220 t221 t222 t223 t224 t225 t226 t227 t228 : Value) (w' : World), TwoB (fun k => w.heap.size <= k) b s n σ c D s2 n2 σ c w' -> Off (fun k => w.heap.size <= k) w w' -> Q .normal ⟨(c0::c1::c2::c3::c4::c5::c6::c7::c8::c9::c10::c11::.pointer (some ⟨b, 0, none⟩)::c13::c14::c15::c16::c17::c18::c19::c20::c21::c22::c23::c24::c25::c26::.pointer (some ⟨D, 0, none⟩)::t28::c29::c30::c31::c32::c33::c34::c35::c36::c37::c38::c39::c40::c41::c42::c43::c44::c45::c46::c47::c48::c49::c50::c51::c52::c53::c54::c55::c56::c57::c58::c59::c60::c61::c62::c63::c64::c65::c66::c67::c68::c69::c70::c71::c72::c73::c74::c75::c76::c77::c78::c79::c80::c81::c82::c83::c84::c85::c86::c87::c88::c89::c90::c91::c92::c93::c94::c95::c96::c97::c98::c99::c100::c101::c102::c103::c104::c105::c106::c107::c108::c109::c110::c111::c112::c113::c114::c115::c116::c117::c118::c119::c120::c121::c122::c123::c124::c125::c126::c127::c128::c129::c130::c131::c132::c133::c134::c135::c136::c137::c138::c139::c140::c141::c142::c143::c144::c145::c146::c147::c148::c149::c150::c151::c152::c153::c154::c155::c156::c157::c158::c159::c160::c161::c162::c163::c164::c165::c166::c167::c168::c169::c170::c171::c172::c173::c174::c175::c176::c177::c178::c179::c180::c181::c182::c183::t184::t185::t186::t187::t188::t189::t190::t191::t192::t193::t194::t195::t196::t197::t198::t199::t200::t201::t202::t203::t204::t205::t206::t207::t208::t209::t210::t211::t212::t213::t214::t215::t216::t217::t218::t219::t220::t221::t222::t223::t224::t225::t226::t227::t228::c229::c230::c231::c232::c233::c234::c235::c236::c237::c238::c239::c240::c241::c242::c243::c244::c245::c246::c247::c248::c249::c250::c251::c252::c253::c254::c255::c256::c257::c258::c259::c260::c261::c262::c263::c264::c265::c266::[]).toArray, []⟩ w')) :
 Code.wp Tryz.prog recCpy Q ⟨(c0::c1::c2::c3::c4::c5::c6::c7::c8::c9::c10::c11::.pointer (some ⟨b, 0, none⟩)::c13::c14::c15::c16::c17::c18::c19::c20::c21::c22::c23::c24::c25::c26::.pointer (some ⟨D, 0, none⟩)::c28::c29::c30::c31::c32::c33::c34::c35::c36::c37::c38::c39::c40::c41::c42::c43::c44::c45::c46::c47::c48::c49::c50::c51::c52::c53::c54::c55::c56::c57::c58::c59::c60::c61::c62::c63::c64::c65::c66::c67::c68::c69::c70::c71::c72::c73::c74::c75::c76::c77::c78::c79::c80::c81::c82::c83::c84::c85::c86::c87::c88::c89::c90::c91::c92::c93::c94::c95::c96::c97::c98::c99::c100::c101::c102::c103::c104::c105::c106::c107::c108::c109::c110::c111::c112::c113::c114::c115::c116::c117::c118::c119::c120::c121::c122::c123::c124::c125::c126::c127::c128::c129::c130::c131::c132::c133::c134::c135::c136::c137::c138::c139::c140::c141::c142::c143::c144::c145::c146::c147::c148::c149::c150::c151::c152::c153::c154::c155::c156::c157::c158::c159::c160::c161::c162::c163::c164::c165::c166::c167::c168::c169::c170::c171::c172::c173::c174::c175::c176::c177::c178::c179::c180::c181::c182::c183::c184::c185::c186::c187::c188::c189::c190::c191::c192::c193::c194::c195::c196::c197::c198::c199::c200::c201::c202::c203::c204::c205::c206::c207::c208::c209::c210::c211::c212::c213::c214::c215::c216::c217::c218::c219::c220::c221::c222::c223::c224::c225::c226::c227::c228::c229::c230::c231::c232::c233::c234::c235::c236::c237::c238::c239::c240::c241::c242::c243::c244::c245::c246::c247::c248::c249::c250::c251::c252::c253::c254::c255::c256::c257::c258::c259::c260::c261::c262::c263::c264::c265::c266::[]).toArray, []⟩ w0 := by
 conv => arg 2; whnf
 have HC0 : Hid _ := hC
 have HO0 : Hid _ := hO
 have HPA : Hid _ := hPA
 clear hC hO hPA
 go_wp2
 go_loopw [28] (fun iv wr => ∃ (i : Nat) (v2 : Nat -> Value), i <= 5 /\ iv = .int .i64 i /\ CpyAt (fun k => w.heap.size <= k) b s n σ c s2 n2 D dn i M vs M2 v2 wr /\ Off (fun k => w.heap.size <= k) w wr) (fun iv _ => 5 - (intOf iv).toNat)
 case atStart => exact ⟨0, _, by omega, rfl, HC0.out, HO0.out⟩
 case round =>
  obtain ⟨i, v2, hi, rfl, hCi, hOi⟩ := hrel
  have HCI : Hid (CpyAt (fun k => w.heap.size <= k) b s n σ c s2 n2 D dn i M vs M2 v2 wr) := hCi
  have HOI : Hid (Off (fun k => w.heap.size <= k) w wr) := hOi
  clear hCi hOi HC0 HO0
  by_cases hi5 : i < 5
  ·have hiI : (i : Int) < 5 := by omega
   have k0 := (HCI.out.bk.bk.ck i hi5).1
   have k1 := (HCI.out.bk.bk.ck i hi5).2.1
   have k2 := (HCI.out.bk.bk.ck i hi5).2.2
   have d0 := (HCI.out.bd.ck i hi5).1
   have d1 := (HCI.out.bd.ck i hi5).2.1
   have d2 := (HCI.out.bd.ck i hi5).2.2
   have hDb : D ≠ b := fun e => (HCI.out.far D (Or.inl rfl)).1 (by rw [e]; exact Or.inr (Or.inl rfl))
   have hbl := HCI.out.bk.bk.lt
   have hDl := HCI.out.bd.lt
   have fD : ∀ q, wr.frozen? ⟨D, q, none⟩ = false := fun q => by simp [World.frozen?, HCI.out.bd.blk]
   have f0 := fD (1 + i * 3)
   have f1 := fD (1 + i * 3 + 1)
   have f2 := fD (1 + i * 3 + 2)
   have HX : Hid _ := HCI.out.stored hi5
   go_wp2_with fail
   rename_i K1 hK1
   have HK1 : Hid _ := hK1
   clear hK1
   refine wp_region_held_drew (S := (fun y => y.cell? ⟨b, 1 + i * 3, none⟩ = some (.string ⟨(enK σ i).key.toArray⟩) /\ y.cell? ⟨b, 1 + i * 3 + 2, none⟩ = some (.int .i64 ((enK σ i).last : Nat)))) (by kernel_rfl) ⟨k0, k2⟩ (fun hHeld => ?_)
   refine tkH 0 rfl (by kernel_rfl) (fun _ _ _ h => HPA.out _ _ _ _ _ h) (Or.inl ⟨by rfl, fun y hSw => by go_simp; try with_reducible rfl⟩) hHeld ?_
   try simp only [Act.put, List.setIfInBounds_toArray, List.set_cons_zero, List.set_cons_succ]
   refine tkH 1 rfl (by kernel_rfl) (fun _ _ _ h => HPA.out _ _ _ _ _ h) (Or.inl ⟨by rfl, fun y hSw => by go_simp; try with_reducible rfl⟩) hHeld ?_
   try simp only [Act.put, List.setIfInBounds_toArray, List.set_cons_zero, List.set_cons_succ]
   refine tkH 2 rfl (by kernel_rfl) (fun _ _ _ h => HPA.out _ _ _ _ _ h) (Or.inl ⟨by rfl, fun y hSw => by go_simp; try with_reducible rfl⟩) hHeld ?_
   try simp only [Act.put, List.setIfInBounds_toArray, List.set_cons_zero, List.set_cons_succ]
   refine tkH 3 rfl (by kernel_rfl) (fun _ _ _ h => HPA.out _ _ _ _ _ h) (Or.inl ⟨by rfl, fun y hSw => by go_simp; try with_reducible rfl⟩) hHeld ?_
   try simp only [Act.put, List.setIfInBounds_toArray, List.set_cons_zero, List.set_cons_succ]
   refine tkH 4 rfl (by kernel_rfl) (fun _ _ _ h => HPA.out _ _ _ _ _ h) (Or.inl ⟨by rfl, fun y hSw => by go_simp; try with_reducible rfl⟩) hHeld ?_
   try simp only [Act.put, List.setIfInBounds_toArray, List.set_cons_zero, List.set_cons_succ]
   refine tkH 5 rfl (by kernel_rfl) (fun _ _ _ h => HPA.out _ _ _ _ _ h) (Or.inl ⟨by rfl, fun y hSw => by go_simp; try with_reducible rfl⟩) hHeld ?_
   try simp only [Act.put, List.setIfInBounds_toArray, List.set_cons_zero, List.set_cons_succ]
   refine tkH 6 rfl (by kernel_rfl) (fun _ _ _ h => HPA.out _ _ _ _ _ h) (Or.inl ⟨by rfl, fun y hSw => by go_simp; try with_reducible rfl⟩) hHeld ?_
   try simp only [Act.put, List.setIfInBounds_toArray, List.set_cons_zero, List.set_cons_succ]
   refine tkH 7 rfl (by kernel_rfl) (fun _ _ _ h => HPA.out _ _ _ _ _ h) (Or.inl ⟨by rfl, fun y hSw => by go_simp; try with_reducible rfl⟩) hHeld ?_
   try simp only [Act.put, List.setIfInBounds_toArray, List.set_cons_zero, List.set_cons_succ]
   refine tkH 8 rfl (by kernel_rfl) (fun _ _ _ h => HPA.out _ _ _ _ _ h) (Or.inl ⟨by rfl, fun y hSw => by go_simp; try with_reducible rfl⟩) hHeld ?_
   try simp only [Act.put, List.setIfInBounds_toArray, List.set_cons_zero, List.set_cons_succ]
   refine tkH 9 rfl (by kernel_rfl) (fun _ _ _ h => HPA.out _ _ _ _ _ h) (Or.inl ⟨by rfl, fun y hSw => by go_simp; try with_reducible rfl⟩) hHeld ?_
   try simp only [Act.put, List.setIfInBounds_toArray, List.set_cons_zero, List.set_cons_succ]
   refine tkH 10 rfl (by kernel_rfl) (fun _ _ _ h => HPA.out _ _ _ _ _ h) (Or.inl ⟨by rfl, fun y hSw => by go_simp; try with_reducible rfl⟩) hHeld ?_
   try simp only [Act.put, List.setIfInBounds_toArray, List.set_cons_zero, List.set_cons_succ]
   refine tkH 11 rfl (by kernel_rfl) (fun _ _ _ h => HPA.out _ _ _ _ _ h) (Or.inl ⟨by rfl, fun y hSw => by go_simp; try with_reducible rfl⟩) hHeld ?_
   try simp only [Act.put, List.setIfInBounds_toArray, List.set_cons_zero, List.set_cons_succ]
   refine tkH 12 rfl (by kernel_rfl) (fun _ _ _ h => HPA.out _ _ _ _ _ h) (Or.inl ⟨by rfl, fun y hSw => by go_simp; try with_reducible rfl⟩) hHeld ?_
   try simp only [Act.put, List.setIfInBounds_toArray, List.set_cons_zero, List.set_cons_succ]
   refine tkH 13 rfl (by kernel_rfl) (fun _ _ _ h => HPA.out _ _ _ _ _ h) (Or.inl ⟨by rfl, fun y hSw => by go_simp; try with_reducible rfl⟩) hHeld ?_
   try simp only [Act.put, List.setIfInBounds_toArray, List.set_cons_zero, List.set_cons_succ]
   refine tkH 14 rfl (by kernel_rfl) (fun _ _ _ h => HPA.out _ _ _ _ _ h) (Or.inl ⟨by rfl, fun y hSw => by go_simp; try with_reducible rfl⟩) hHeld ?_
   try simp only [Act.put, List.setIfInBounds_toArray, List.set_cons_zero, List.set_cons_succ]
   refine tkH 15 rfl (by kernel_rfl) (fun _ _ _ h => HPA.out _ _ _ _ _ h) (Or.inl ⟨by rfl, fun y hSw => by go_simp; try with_reducible rfl⟩) hHeld ?_
   try simp only [Act.put, List.setIfInBounds_toArray, List.set_cons_zero, List.set_cons_succ]
   refine tkH 16 rfl (by kernel_rfl) (fun _ _ _ h => HPA.out _ _ _ _ _ h) (Or.inl ⟨by rfl, fun y hSw => by go_simp; try with_reducible rfl⟩) hHeld ?_
   try simp only [Act.put, List.setIfInBounds_toArray, List.set_cons_zero, List.set_cons_succ]
   refine tkH 17 rfl (by kernel_rfl) (fun _ _ _ h => HPA.out _ _ _ _ _ h) (Or.inl ⟨by rfl, fun y hSw => by go_simp; try with_reducible rfl⟩) hHeld ?_
   try simp only [Act.put, List.setIfInBounds_toArray, List.set_cons_zero, List.set_cons_succ]
   refine tkH 18 rfl (by kernel_rfl) (fun _ _ _ h => HPA.out _ _ _ _ _ h) (Or.inl ⟨by rfl, fun y hSw => by go_simp; try with_reducible rfl⟩) hHeld ?_
   try simp only [Act.put, List.setIfInBounds_toArray, List.set_cons_zero, List.set_cons_succ]
   refine tkH 19 rfl (by kernel_rfl) (fun _ _ _ h => HPA.out _ _ _ _ _ h) (Or.inl ⟨by rfl, fun y hSw => by go_simp; try with_reducible rfl⟩) hHeld ?_
   try simp only [Act.put, List.setIfInBounds_toArray, List.set_cons_zero, List.set_cons_succ]
   refine wpAnyH_ready (rs := [20]) (by kernel_rfl) (by simp) ?_
   refine AllReadyH.cons rfl (fun K hK => ?_) AllReadyH.nil
   go_simp
   obtain ⟨X, hX⟩ : ∃ X, (((wr.setCell ⟨D, 1 + i * 3, none⟩ (.string ⟨(enK σ i).key.toArray⟩)).setCell ⟨D, 1 + i * 3 + 1, none⟩ (.slice none 0 0)).setCell ⟨D, 1 + i * 3 + 2, none⟩ (.int .i64 ((enK σ i).last : Nat))).drew = X := ⟨_, rfl⟩
   rw [hX] at HX ⊢
   obtain ⟨x0, x2, x1, xd, xf, ro, rn, rc, W2, hok, hr1, hr2, y1, yd, yf, z1, hN⟩ := HX.out
   have HN : Hid _ := hN
   clear hN HX
   refine hK.out _ _ ⟨x0, x2⟩ (fun hHeld2 => ?_)
   clear hK K hX k0 k1 k2 d0 d1 d2 f0 f1 f2 fD
   refine wpAnyH_done (by kernel_rfl) ?_ _
   refine HK1.out _ _ ?_
   refine wp_region_held_drew (S := fun y => y.cell? ⟨b, 1 + i * 3 + 1, none⟩ = some (vs i)) (by kernel_rfl) x1 (fun hHeld => ?_)
   refine tkH 0 rfl (by kernel_rfl) (fun _ _ _ h => HPA.out _ _ _ _ _ h) (Or.inl ⟨by rfl, fun y hSw => by go_simp; try with_reducible rfl⟩) hHeld ?_
   try simp only [Act.put, List.setIfInBounds_toArray, List.set_cons_zero, List.set_cons_succ]
   refine tkH 1 rfl (by kernel_rfl) (fun _ _ _ h => HPA.out _ _ _ _ _ h) (Or.inl ⟨by rfl, fun y hSw => by go_simp; try with_reducible rfl⟩) hHeld ?_
   try simp only [Act.put, List.setIfInBounds_toArray, List.set_cons_zero, List.set_cons_succ]
   refine tkH 2 rfl (by kernel_rfl) (fun _ _ _ h => HPA.out _ _ _ _ _ h) (Or.inl ⟨by rfl, fun y hSw => by go_simp; try with_reducible rfl⟩) hHeld ?_
   try simp only [Act.put, List.setIfInBounds_toArray, List.set_cons_zero, List.set_cons_succ]
   refine tkH 3 rfl (by kernel_rfl) (fun _ _ _ h => HPA.out _ _ _ _ _ h) (Or.inl ⟨by rfl, fun y hSw => by go_simp; try with_reducible rfl⟩) hHeld ?_
   try simp only [Act.put, List.setIfInBounds_toArray, List.set_cons_zero, List.set_cons_succ]
   refine tkH 4 rfl (by kernel_rfl) (fun _ _ _ h => HPA.out _ _ _ _ _ h) (Or.inl ⟨by rfl, fun y hSw => by go_simp; try with_reducible rfl⟩) hHeld ?_
   try simp only [Act.put, List.setIfInBounds_toArray, List.set_cons_zero, List.set_cons_succ]
   refine tkH 5 rfl (by kernel_rfl) (fun _ _ _ h => HPA.out _ _ _ _ _ h) (Or.inl ⟨by rfl, fun y hSw => by go_simp; try with_reducible rfl⟩) hHeld ?_
   try simp only [Act.put, List.setIfInBounds_toArray, List.set_cons_zero, List.set_cons_succ]
   refine tkH 6 rfl (by kernel_rfl) (fun _ _ _ h => HPA.out _ _ _ _ _ h) (Or.inl ⟨by rfl, fun y hSw => by go_simp; try with_reducible rfl⟩) hHeld ?_
   try simp only [Act.put, List.setIfInBounds_toArray, List.set_cons_zero, List.set_cons_succ]
   refine tkH 7 rfl (by kernel_rfl) (fun _ _ _ h => HPA.out _ _ _ _ _ h) (Or.inl ⟨by rfl, fun y hSw => by go_simp; try with_reducible rfl⟩) hHeld ?_
   try simp only [Act.put, List.setIfInBounds_toArray, List.set_cons_zero, List.set_cons_succ]
   refine tkH 9 rfl (by kernel_rfl) (fun _ _ _ h => HPA.out _ _ _ _ _ h) (Or.inl ⟨by rfl, fun y hSw => by go_simp; try with_reducible rfl⟩) hHeld ?_
   try simp only [Act.put, List.setIfInBounds_toArray, List.set_cons_zero, List.set_cons_succ]
   refine tkH 10 rfl (by kernel_rfl) (fun _ _ _ h => HPA.out _ _ _ _ _ h) (Or.inl ⟨by rfl, fun y hSw => by go_simp; try with_reducible rfl⟩) hHeld ?_
   try simp only [Act.put, List.setIfInBounds_toArray, List.set_cons_zero, List.set_cons_succ]
   refine tkH 11 rfl (by kernel_rfl) (fun _ _ _ h => HPA.out _ _ _ _ _ h) (Or.inl ⟨by rfl, fun y hSw => by go_simp; try with_reducible rfl⟩) hHeld ?_
   try simp only [Act.put, List.setIfInBounds_toArray, List.set_cons_zero, List.set_cons_succ]
   refine tkH 12 rfl (by kernel_rfl) (fun _ _ _ h => HPA.out _ _ _ _ _ h) (Or.inl ⟨by rfl, fun y hSw => by go_simp; try with_reducible rfl⟩) hHeld ?_
   try simp only [Act.put, List.setIfInBounds_toArray, List.set_cons_zero, List.set_cons_succ]
   refine tkH 13 rfl (by kernel_rfl) (fun _ _ _ h => HPA.out _ _ _ _ _ h) (Or.inl ⟨by rfl, fun y hSw => by go_simp; try with_reducible rfl⟩) hHeld ?_
   try simp only [Act.put, List.setIfInBounds_toArray, List.set_cons_zero, List.set_cons_succ]
   refine tkH 14 rfl (by kernel_rfl) (fun _ _ _ h => HPA.out _ _ _ _ _ h) (Or.inl ⟨by rfl, fun y hSw => by go_simp; try with_reducible rfl⟩) hHeld ?_
   try simp only [Act.put, List.setIfInBounds_toArray, List.set_cons_zero, List.set_cons_succ]
   refine tkH 15 rfl (by kernel_rfl) (fun _ _ _ h => HPA.out _ _ _ _ _ h) (Or.inl ⟨by rfl, fun y hSw => by go_simp; try with_reducible rfl⟩) hHeld ?_
   try simp only [Act.put, List.setIfInBounds_toArray, List.set_cons_zero, List.set_cons_succ]
   refine tkH 17 rfl (by kernel_rfl) (fun _ _ _ h => HPA.out _ _ _ _ _ h) (Or.inl ⟨by rfl, fun y hSw => by go_simp; try with_reducible rfl⟩) hHeld ?_
   try simp only [Act.put, List.setIfInBounds_toArray, List.set_cons_zero, List.set_cons_succ]
   refine tkH 18 rfl (by kernel_rfl) (fun _ _ _ h => HPA.out _ _ _ _ _ h) (Or.inl ⟨by rfl, fun y hSw => by go_simp; try with_reducible rfl⟩) hHeld ?_
   try simp only [Act.put, List.setIfInBounds_toArray, List.set_cons_zero, List.set_cons_succ]
   refine wpAnyH_ready (rs := [8]) (by kernel_rfl) (by simp) ?_
   refine AllReadyH.cons rfl (fun K hK => ?_) AllReadyH.nil
   go_simp
   refine hK.out _ _ x1 (fun hHeld3 => ?_)
   clear hK K
   try simp only [Act.put, List.setIfInBounds_toArray, List.set_cons_zero, List.set_cons_succ]
   refine wpAnyH_ready (rs := [16]) (by kernel_rfl) (by simp) ?_
   refine AllReadyH.cons rfl (fun K hK => ?_) AllReadyH.nil
   go_simp
   refine hK.out _ _ y1 (fun hHeld4 => ?_)
   clear hK K
   try simp only [Act.put, List.setIfInBounds_toArray, List.set_cons_zero, List.set_cons_succ]
   refine tkH 19 rfl (by kernel_rfl) (fun _ _ _ h => HPA.out _ _ _ _ _ h) (Or.inl ⟨by rfl, fun y hSw => by go_simp; try with_reducible rfl⟩) hHeld4 ?_
   try simp only [Act.put, List.setIfInBounds_toArray, List.set_cons_zero, List.set_cons_succ]
   refine tkH 20 rfl (by kernel_rfl) (fun _ _ _ h => HPA.out _ _ _ _ _ h) (Or.inl ⟨by rfl, fun y hSw => by go_simp; try with_reducible rfl⟩) hHeld4 ?_
   try simp only [Act.put, List.setIfInBounds_toArray, List.set_cons_zero, List.set_cons_succ]
   refine wpAnyH_ready (rs := [21]) (by kernel_rfl) (by simp) ?_
   refine AllReadyH.cons rfl (fun K hK => ?_) AllReadyH.nil
   go_simp
   refine hK.out _ _ z1 (fun hHeld5 => ?_)
   clear hK K
   try simp only [Act.put, List.setIfInBounds_toArray, List.set_cons_zero, List.set_cons_succ]
   refine wpAnyH_done (by kernel_rfl) ?_ _
   go_wp2
   exact ⟨⟨i + 1, _, by omega, by go_num, HN.out.1, HOI.out.trans HN.out.2⟩, by simp [intOf]; omega⟩
  ·obtain rfl : i = 5 := by omega
   go_wp2
   apply HEX.out
   ·exact HCI.out.done
   ·exact HOI.out
end Go.Proofs.YtmehkneofinmiabGreatDoor
namespace Go.Proofs.YtmehkneofinmiabGreatDoor
open Go.RowKit
theorem TwoB.two {B b s n : Nat} {σ : St} {c b2 s2 n2 : Nat} {σ2 : St} {c2 : Nat} {w : World} (h : TwoB (fun k => B <= k) b s n σ c b2 s2 n2 σ2 c2 w) : Two B s n σ s2 n2 σ2 w /\ σ.log.length <= c * 1000 := by
 obtain ⟨M, vs, d, M2, vs2, d2, h1, h2, h3⟩ := h
 exact ⟨⟨M, M2, h1.sto, h2.sto.st, fun k hk h => h3 k (Or.inl hk) (Or.inl h), h2.sto.own⟩, h1.lg⟩
noncomputable def recEnd : Code := (Tryz.f7.body.bind (cutAt 32)).getD .skip
set_option linter.unusedVariables false in
theorem rec_end {c0 c1 c2 c3 c5 c6 c7 c8 c9 c10 c11 c13 c14 c16 c17 c19 c20 c21 c22 c23 c24 c25 c26 c27 c28 c29 c30 c31 c32 c33 c34 c35 c36 c37 c38 c39 c40 c41 c42 c43 c44 c45 c46 c47 c48 c49 c50 c51 c52 c53 c54 c55 c56 c57 c58 c59 c60 c61 c62 c63 c64 c65 c66 c67 c68 c69 c70 c71 c72 c73 c74 c75 c76 c77 c78 c79 c80 c81 c82 c83 c84 c85 c86 c87 c88 c89 c90 c91 c92 c93 c94 c95 c96 c97 c98 c99 c100 c101 c102 c103 c104 c105 c106 c107 c108 c109 c110 c111 c112 c113 c114 c115 c116 c117 c118 c119 c120 c121 c122 c123 c124 c125 c126 c127 c128 c129 c130 c131 c132 c133 c134 c135 c136 c137 c138 c139 c140 c141 c142 c143 c144 c145 c146 c147 c148 c149 c150 c151 c152 c153 c154 c155 c156 c157 c158 c159 c160 c161 c162 c163 c164 c165 c166 c167 c168 c169 c170 c171 c172 c173 c174 c175 c176 c177 c178 c179 c180 c181 c182 c183 c184 c185 c186 c187 c188 c189 c190 c191 c192 c193 c194 c195 c196 c197 c198 c199 c200 c201 c202 c203 c204 c205 c206 c207 c208 c209 c210 c211 c212 c213 c214 c215 c216 c217 c218 c219 c220 c221 c222 c223 c224 c225 c226 c227 c228 c229 c230 c231 c232 c233 c234 c235 c236 c237 c238 c239 c240 c241 c242 c243 c244 c245 c246 c247 c248 c249 c250 c251 c252 c253 c254 c255 c256 c257 c258 c259 c260 c261 c262 c263 c264 c265 c266 : Value} (w w0 : World) (b s n s2 n2 j : Nat) (σ : St) (o4 : Option Addr) (cap4 : Nat) (l4 : List Stp) (hj4 : j <= 400) (hv4 : StpAt w (.slice o4 l4.length cap4) l4)
 (hB : BS (fun k => w.heap.size <= k) b s n σ j s2 n2 σ w0) (hO : Off (fun k => w.heap.size <= k) w w0) :
 Code.wp Tryz.prog recEnd (bodyPost Tryz.prog Tryz.f7 fun e w' => e = .returned (.bool true) /\ Off (fun k => w.heap.size <= k) w w') ⟨(c0::c1::c2::c3::.slice o4 l4.length cap4::c5::c6::c7::c8::c9::c10::c11::.pointer (some ⟨b, 0, none⟩)::c13::c14::.pointer (some ⟨s2, 0, none⟩)::c16::c17::.int .i64 (σ.time : Nat)::c19::c20::c21::c22::c23::c24::c25::c26::c27::c28::c29::c30::c31::c32::c33::c34::c35::c36::c37::c38::c39::c40::c41::c42::c43::c44::c45::c46::c47::c48::c49::c50::c51::c52::c53::c54::c55::c56::c57::c58::c59::c60::c61::c62::c63::c64::c65::c66::c67::c68::c69::c70::c71::c72::c73::c74::c75::c76::c77::c78::c79::c80::c81::c82::c83::c84::c85::c86::c87::c88::c89::c90::c91::c92::c93::c94::c95::c96::c97::c98::c99::c100::c101::c102::c103::c104::c105::c106::c107::c108::c109::c110::c111::c112::c113::c114::c115::c116::c117::c118::c119::c120::c121::c122::c123::c124::c125::c126::c127::c128::c129::c130::c131::c132::c133::c134::c135::c136::c137::c138::c139::c140::c141::c142::c143::c144::c145::c146::c147::c148::c149::c150::c151::c152::c153::c154::c155::c156::c157::c158::c159::c160::c161::c162::c163::c164::c165::c166::c167::c168::c169::c170::c171::c172::c173::c174::c175::c176::c177::c178::c179::c180::c181::c182::c183::c184::c185::c186::c187::c188::c189::c190::c191::c192::c193::c194::c195::c196::c197::c198::c199::c200::c201::c202::c203::c204::c205::c206::c207::c208::c209::c210::c211::c212::c213::c214::c215::c216::c217::c218::c219::c220::c221::c222::c223::c224::c225::c226::c227::c228::c229::c230::c231::c232::c233::c234::c235::c236::c237::c238::c239::c240::c241::c242::c243::c244::c245::c246::c247::c248::c249::c250::c251::c252::c253::c254::c255::c256::c257::c258::c259::c260::c261::c262::c263::c264::c265::c266::[]).toArray, []⟩ w0 := by
 conv => arg 2; whnf
 have HB0 : Hid _ := hB
 have HO0 : Hid _ := hO
 have HV4 : Hid _ := hv4
 have z16 := hB.cells.2.1
 have zl := hB.cells.2.2
 clear hB hO hv4
 go_wp2_with fail
 refine Calls.mono (BS.tick HB0.out _ (by omega)) ?_
 rintro e w1 ⟨rfl, hB1, hO1⟩
 have HO1 : Hid _ := HO0.out.trans hO1
 obtain ⟨M, vs, dn, M2, h1, h2, h3, h4⟩ := hB1
 have y16 : w1.cell? ⟨b, 16, none⟩ = some (.int .i64 (σ.time : Nat)) := by simp [World.cell?, h1.bk.blk, bookCells]
 have y17 : w1.cell? ⟨b, 17, none⟩ = some (.int .i64 (dn : Nat)) := by simp [World.cell?, h1.bk.blk, bookCells]
 have yl := h1.bk.lt
 have HMD : Hid _ := fun Z hb hd => CpyAt.made (Z := Z) h1 h2 h3 h4 hb hd
 clear h1 h2 h3 h4 hO1 z16 zl HB0 HO0
 go_wp2_with fail
 rename_i K35 hK35
 have HK35 : Hid _ := hK35
 clear hK35
 go_region_held3 (fun y => y.cell? ⟨b, 16, none⟩ = some (.int .i64 (σ.time : Nat)) /\ y.cell? ⟨b, 17, none⟩ = some (.int .i64 (dn : Nat))) (first | assumption | go_keep) (fail)
 obtain ⟨Z, hZ⟩ : ∃ Z, (w1.alloc (.cells #[.pointer (some ⟨s2, 0, none⟩), .string ⟨#[]⟩, .slice none 0 0, .int .i64 0, .string ⟨#[]⟩, .slice none 0 0, .int .i64 0, .string ⟨#[]⟩, .slice none 0 0, .int .i64 0, .string ⟨#[]⟩, .slice none 0 0, .int .i64 0, .string ⟨#[]⟩, .slice none 0 0, .int .i64 0, .int .i64 (σ.time : Nat), .int .i64 (dn : Nat)] 31)).drew = Z := ⟨_, rfl⟩
 rw [hZ]
 have HBZ : Hid (Below w1.heap.size w1 Z) := by rw [<- hZ]; exact ((Below.refl _ _).alloc (Nat.le_refl _) _).drew
 have HCZ : Hid _ := HMD.out Z HBZ.out (by rw [<- hZ]; exact heap_alloc_new w1 _)
 have HOZ : Hid _ := HO1.out.trans (Off.of_below HBZ.out)
 clear hZ HMD HO1 HBZ y16 y17 yl
 refine HK35.out _ _ (seq_hid fun K36 HK36 => ?_)
 refine rec_cpy w Z b s n s2 n2 j w1.heap.size dn σ M vs M2 HCZ.out HOZ.out _ (fun c a o v w h => by cases o <;> exact h) ?_
 show ∀ _, _
 intros
 rename_i w2 hT2 hO2
 refine HK36.out _ _ (seq_hid fun K41 HK41 => ?_)
 refine rec_loop w w2 b s n w1.heap.size s2 n2 σ j hj4 o4 cap4 l4 HV4.out hT2 hO2 _ ?_
 show ∀ _, _
 intros
 rename_i w3 hT3 hO3
 obtain ⟨i, hi, hT3⟩ := hT3
 obtain ⟨σ', hσ'⟩ : ∃ σ', playF σ (l4.take 400) = σ' := ⟨_, rfl⟩
 have hT3' : TwoB (fun k => w.heap.size <= k) b s n σ' (j + i) w1.heap.size s2 n2 σ' (j + i) w3 := by rw [<- hσ']; exact hT3
 have hlg : σ'.log.length < 140000000000000 := by
  have := (TwoB.two hT3').2
  have h2 : (j + i) * 1000 <= 800 * 1000 := Nat.mul_le_mul_right _ (by omega)
  omega
 have z0 := TwoB.cells hT3'
 have HTW : Hid (Two w.heap.size s n σ' s2 n2 σ' w3) := (TwoB.two hT3').1
 have HO3 : Hid (Off (fun k => w.heap.size <= k) w w3) := hO3
 have HD : Hid (∀ s n s2 n2, DumpR s w.heap.size (dumpF σ') (Two w.heap.size s n σ' s2 n2 σ')) := fun s n s2 n2 => Two.dump hlg
 obtain ⟨Y, hY⟩ : ∃ Y, dumpF σ' = Y := ⟨_, rfl⟩
 rw [hY] at HD
 have zl := cell_lt z0
 clear hT3 hT3' hO3 hT2 hO2 HCZ HOZ hY hσ' HK36 HK35
 refine HK41.out _ _ ?_
 go_wp2_with fail
 refine Calls.mono (HD.out s n s2 n2 w3 HTW.out) ?_
 rintro e w5 ⟨rfl, t5, o5⟩
 have HT5 : Hid (Two w.heap.size s2 n2 σ' s n σ' w5) := Two.swap t5
 have HO5 : Hid _ := HO3.out.trans o5
 clear t5 o5 HTW HO3 z0 zl
 go_wp2_with fail
 refine Calls.mono (HD.out s2 n2 s n w5 HT5.out) ?_
 rintro e w6 ⟨rfl, t6, o6⟩
 have HO6 : Hid _ := HO5.out.trans o6
 clear t6 o6 HT5 HO5
 go_wp2
 go_ret
 exact ⟨rfl, HO6.out⟩
end Go.Proofs.YtmehkneofinmiabGreatDoor

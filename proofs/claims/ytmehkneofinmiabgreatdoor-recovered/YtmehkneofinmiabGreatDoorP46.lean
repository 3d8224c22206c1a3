/-
 Texts of this proof, part 46.
-/
import Derived.Test.YtmehkneofinmiabGreatDoorP45
set_option maxRecDepth 100000
set_option maxHeartbeats 16000000
namespace Go.Proofs.YtmehkneofinmiabGreatDoor
open Go.RowKit
noncomputable def recFst : Code := (Tryz.f7.body.bind (cutAt 11)).getD .skip
set_option linter.unusedVariables false in
theorem rec_fst {c0 c1 c3 c4 c5 c6 c7 c8 c9 c10 c11 c13 c14 c15 c17 c19 c20 c21 c22 c23 c24 c25 c26 c27 c28 c29 c30 c31 c32 c33 c34 c35 c36 c37 c38 c39 c40 c41 c42 c43 c44 c45 c46 c47 c48 c49 c50 c51 c52 c53 c54 c55 c56 c57 c58 c59 c60 c61 c62 c63 c64 c65 c66 c67 c68 c69 c70 c71 c72 c73 c74 c75 c76 c77 c78 c79 c80 c81 c82 c83 c84 c85 c86 c87 c88 c89 c90 c91 c92 c93 c94 c95 c96 c97 c98 c99 c100 c101 c102 c103 c104 c105 c106 c107 c108 c109 c110 c111 c112 c113 c114 c115 c116 c117 c118 c119 c120 c121 c122 c123 c124 c125 c126 c127 c128 c129 c130 c131 c132 c133 c134 c135 c136 c137 c138 c139 c140 c141 c142 c143 c144 c145 c146 c147 c148 c149 c150 c151 c152 c153 c154 c155 c156 c157 c158 c159 c160 c161 c162 c163 c164 c165 c166 c167 c168 c169 c170 c171 c172 c173 c174 c175 c176 c177 c178 c179 c180 c181 c182 c183 c184 c185 c186 c187 c188 c189 c190 c191 c192 c193 c194 c195 c196 c197 c198 c199 c200 c201 c202 c203 c204 c205 c206 c207 c208 c209 c210 c211 c212 c213 c214 c215 c216 c217 c218 c219 c220 c221 c222 c223 c224 c225 c226 c227 c228 c229 c230 c231 c232 c233 c234 c235 c236 c237 c238 c239 c240 c241 c242 c243 c244 c245 c246 c247 c248 c249 c250 c251 c252 c253 c254 c255 c256 c257 c258 c259 c260 c261 c262 c263 c264 c265 c266 : Value} (w w0 : World) (b s n s2 n2 : Nat) (σ2 : St) (o : Option Addr) (cap : Nat) (l : List Stp) (S : Nat -> St) (j u : Nat) (hv : StpAt w (.slice o l.length cap) l) (h0 : S 0 = st0) (hst : ∀ (i : Nat) (y : Stp), l[i]? = some y -> S (i + 1) = stepF (S i) y.k y.a y.b y.c) (hjl : j <= l.length) (hj4 : j <= 400) (hlt : ∀ q, q < j -> (S q).log.length < u) (hju : (S j).log.length = u)
 (hB : BS (fun k => w.heap.size <= k) b s n (S 0) 0 s2 n2 σ2 w0) (hO : Off (fun k => w.heap.size <= k) w w0) (Q : Exit -> Act -> World -> Prop)
 (HEX : Hid (∀ (t10 t19 t20 t21 t22 t77 t78 t79 t80 t81 t82 t83 t84 t85 t86 t87 t88 t89 t90 t91 t92 t93 t94 t95 t96 t97 t98 t99 t100 t101 t102 t103 t104 t105 t106 t107 t108 t109 t110 t111 t112 t113 t114 t115 t116 t117 : Value) (w' : World), BS (fun k => w.heap.size <= k) b s n (S j) j s2 n2 σ2 w' -> Off (fun k => w.heap.size <= k) w w' -> Q .normal ⟨(c0::c1::.slice o l.length cap::c3::c4::c5::c6::c7::c8::c9::t10::c11::.pointer (some ⟨b, 0, none⟩)::c13::c14::c15::.int .i64 (u : Nat)::c17::.int .i64 ((S j).time : Nat)::t19::t20::t21::t22::c23::c24::c25::c26::c27::c28::c29::c30::c31::c32::c33::c34::c35::c36::c37::c38::c39::c40::c41::c42::c43::c44::c45::c46::c47::c48::c49::c50::c51::c52::c53::c54::c55::c56::c57::c58::c59::c60::c61::c62::c63::c64::c65::c66::c67::c68::c69::c70::c71::c72::c73::c74::c75::c76::t77::t78::t79::t80::t81::t82::t83::t84::t85::t86::t87::t88::t89::t90::t91::t92::t93::t94::t95::t96::t97::t98::t99::t100::t101::t102::t103::t104::t105::t106::t107::t108::t109::t110::t111::t112::t113::t114::t115::t116::t117::c118::c119::c120::c121::c122::c123::c124::c125::c126::c127::c128::c129::c130::c131::c132::c133::c134::c135::c136::c137::c138::c139::c140::c141::c142::c143::c144::c145::c146::c147::c148::c149::c150::c151::c152::c153::c154::c155::c156::c157::c158::c159::c160::c161::c162::c163::c164::c165::c166::c167::c168::c169::c170::c171::c172::c173::c174::c175::c176::c177::c178::c179::c180::c181::c182::c183::c184::c185::c186::c187::c188::c189::c190::c191::c192::c193::c194::c195::c196::c197::c198::c199::c200::c201::c202::c203::c204::c205::c206::c207::c208::c209::c210::c211::c212::c213::c214::c215::c216::c217::c218::c219::c220::c221::c222::c223::c224::c225::c226::c227::c228::c229::c230::c231::c232::c233::c234::c235::c236::c237::c238::c239::c240::c241::c242::c243::c244::c245::c246::c247::c248::c249::c250::c251::c252::c253::c254::c255::c256::c257::c258::c259::c260::c261::c262::c263::c264::c265::c266::[]).toArray, []⟩ w')) :
 Code.wp Tryz.prog recFst Q ⟨(c0::c1::.slice o l.length cap::c3::c4::c5::c6::c7::c8::c9::c10::c11::.pointer (some ⟨b, 0, none⟩)::c13::c14::c15::.int .i64 (u : Nat)::c17::.int .i64 0::c19::c20::c21::c22::c23::c24::c25::c26::c27::c28::c29::c30::c31::c32::c33::c34::c35::c36::c37::c38::c39::c40::c41::c42::c43::c44::c45::c46::c47::c48::c49::c50::c51::c52::c53::c54::c55::c56::c57::c58::c59::c60::c61::c62::c63::c64::c65::c66::c67::c68::c69::c70::c71::c72::c73::c74::c75::c76::c77::c78::c79::c80::c81::c82::c83::c84::c85::c86::c87::c88::c89::c90::c91::c92::c93::c94::c95::c96::c97::c98::c99::c100::c101::c102::c103::c104::c105::c106::c107::c108::c109::c110::c111::c112::c113::c114::c115::c116::c117::c118::c119::c120::c121::c122::c123::c124::c125::c126::c127::c128::c129::c130::c131::c132::c133::c134::c135::c136::c137::c138::c139::c140::c141::c142::c143::c144::c145::c146::c147::c148::c149::c150::c151::c152::c153::c154::c155::c156::c157::c158::c159::c160::c161::c162::c163::c164::c165::c166::c167::c168::c169::c170::c171::c172::c173::c174::c175::c176::c177::c178::c179::c180::c181::c182::c183::c184::c185::c186::c187::c188::c189::c190::c191::c192::c193::c194::c195::c196::c197::c198::c199::c200::c201::c202::c203::c204::c205::c206::c207::c208::c209::c210::c211::c212::c213::c214::c215::c216::c217::c218::c219::c220::c221::c222::c223::c224::c225::c226::c227::c228::c229::c230::c231::c232::c233::c234::c235::c236::c237::c238::c239::c240::c241::c242::c243::c244::c245::c246::c247::c248::c249::c250::c251::c252::c253::c254::c255::c256::c257::c258::c259::c260::c261::c262::c263::c264::c265::c266::[]).toArray, []⟩ w0 := by
 conv => arg 2; whnf
 have HV : Hid _ := hv
 have hlen := hv.len
 have hlie := hv.lie
 obtain ⟨o', cap', he, hlie⟩ := hlie
 cases he
 have HB0 : Hid _ := hB
 have HO0 : Hid _ := hO
 have HST : Hid _ := hst
 have HLT : Hid _ := hlt
 clear hv hB hO hst hlt
 obtain ⟨ln, hln⟩ : ∃ x, l.length = x := ⟨_, rfl⟩
 rw [hln] at hlen hlie hjl HEX ⊢
 go_wp2
 go_loopw [18, 19] (fun tv iv wr => ∃ (i : Nat) (t : Int), i <= j /\ iv = .int .i64 i /\ tv = .int .i64 t /\ (i = j -> t = ((S j).time : Int)) /\ BS (fun k => w.heap.size <= k) b s n (S i) i s2 n2 σ2 wr /\ Off (fun k => w.heap.size <= k) w wr) (fun _ iv _ => 400 - (intOf iv).toNat)
 case atStart => exact ⟨0, 0, Nat.zero_le _, rfl, rfl, fun e => by rw [<- e, h0]; rfl, HB0.out, HO0.out⟩
 case round =>
  obtain ⟨i, t, hij, rfl, rfl, ht, hBi, hOi⟩ := hrel
  have HT : Hid _ := ht
  have HOI : Hid _ := hOi
  have hBi : BS (fun k => w.heap.size <= k) b s n (S i) i s2 n2 σ2 wr := hBi
  have HBI : Hid (BS (fun k => w.heap.size <= k) b s n (S i) i s2 n2 σ2 wr) := hBi
  have z0 := hBi.cells.1
  have zl := hBi.cells.2.2
  have HL1 : Hid _ := hBi.log
  clear ht hOi hBi HB0 HO0
  obtain ⟨J1, hJ1⟩ : ∃ J, (S i).log = J := ⟨_, rfl⟩
  rw [hJ1] at HL1
  have sJ1 : (⟨J1.toArray⟩ : ByteArray).size = J1.length := Lib.size_eq _
  by_cases hlt : i < j
  ·have hJu : J1.length < u := by rw [<- hJ1]; exact HLT.out i hlt
   have hJI : ¬ (u : Int) <= (J1.length : Int) := by omega
   have hil : (i : Int) < (ln : Int) := by omega
   have hi4 : (i : Int) < 400 := by omega
   obtain ⟨y, hy⟩ : ∃ y, l[i]? = some y := ⟨_, List.getElem?_eq_getElem (by omega)⟩
   obtain ⟨g, off, rfl, hg, hcc⟩ := hlie (by omega)
   have hyn := HV.out.num y (List.mem_of_getElem? hy)
   have hc := hcc i y hy
   have HS1 : Hid (S (i + 1) = stepF (S i) y.k y.a y.b y.c) := HST.out i y hy
   have HCL : Hid (∀ z, Off (fun k => w.heap.size <= k) w z -> z.cell? ⟨g, off + i * 4, none⟩ = some (.int .i64 y.k) /\ z.cell? ⟨g, off + i * 4 + 1, none⟩ = some (.int .i64 y.a) /\ z.cell? ⟨g, off + i * 4 + 2, none⟩ = some (.int .i64 y.b) /\ z.cell? ⟨g, off + i * 4 + 3, none⟩ = some (.int .i64 y.c)) := fun z hz => by
    have hblk := hz.block g hg (by omega)
    simp only [World.cell?] at hc ⊢
    rw [hblk]
    exact hc
   clear hc hcc hy hlie
   go_wp2_with fail
   refine Calls.mono HL1.out ?_
   rintro e w1 ⟨rfl, hB1, hO1⟩
   have HB1 : Hid _ := hB1
   have HO1 : Hid _ := HOI.out.trans hO1
   have s0 := (HCL.out w1 HO1.out).1
   have s1 := (HCL.out w1 HO1.out).2.1
   have s2' := (HCL.out w1 HO1.out).2.2.1
   have s3 := (HCL.out w1 HO1.out).2.2.2
   have HSP : Hid _ := hB1.step y.k y.a y.b y.c (by omega) hyn.1 hyn.2.1 hyn.2.2.1 hyn.2.2.2
   rw [<- HS1.out] at HSP
   clear hB1 hO1 hyn HL1 HBI z0 zl
   go_wp2_with fail
   refine Calls.mono HSP.out ?_
   rintro e w2 ⟨rfl, hB2, hO2⟩
   have HB2 : Hid _ := hB2
   have HO2 : Hid _ := HO1.out.trans hO2
   have z0 := hB2.cells.1
   have zl := hB2.cells.2.2
   have HL2 : Hid _ := hB2.log
   obtain ⟨J2, hJ2⟩ : ∃ J, (S (i + 1)).log = J := ⟨_, rfl⟩
   rw [hJ2] at HL2
   have sJ2 : (⟨J2.toArray⟩ : ByteArray).size = J2.length := Lib.size_eq _
   clear hB2 hO2 HSP s0 s1 s2' s3 HB1 HO1
   go_wp2_with fail
   refine Calls.mono HL2.out ?_
   rintro e w3 ⟨rfl, hB3, hO3⟩
   have HB3 : Hid _ := hB3
   have HO3 : Hid _ := HO2.out.trans hO3
   have z16 := hB3.cells.2.1
   have zl3 := hB3.cells.2.2
   have HGR : Hid (i + 1 = j -> J1.length < J2.length) := fun e => by
    have : J2.length = u := by rw [<- hJ2, e, hju]
    omega
   have HJ : Hid (J1.length < J2.length \/ i + 1 ≠ j) := by
    by_cases e : i + 1 = j
    ·exact Or.inl (HGR.out e)
    ·exact Or.inr e
   clear hB3 hO3 HL2 z0 zl HB2 HO2 hJ1 hJ2 HGR
   by_cases hgr : (J1.length : Int) < (J2.length : Int)
   ·go_wp2
    exact ⟨⟨i + 1, ((S (i + 1)).time : Int), by omega, by go_num, rfl, fun e => by rw [e], HB3.out, HO3.out⟩, by simp [intOf]; omega⟩
   ·go_wp2
    exact ⟨⟨i + 1, t, by omega, by go_num, rfl, fun e => absurd e (HJ.out.resolve_left (by omega)), HB3.out, HO3.out⟩, by simp [intOf]; omega⟩
  ·obtain rfl : i = j := by omega
   have HTJ : Hid (t = ((S i).time : Int)) := HT.out rfl
   have hJu : J1.length = u := by rw [<- hJ1]; exact hju
   clear HT
   by_cases hgo : i < ln /\ i < 400
   ·have hil : (i : Int) < (ln : Int) := by omega
    have hi4 : (i : Int) < 400 := by omega
    have hJI : (u : Int) <= (J1.length : Int) := by omega
    clear hJu
    go_wp2_with fail
    refine Calls.mono HL1.out ?_
    rintro e w1 ⟨rfl, hB1, hO1⟩
    have HB1 : Hid _ := hB1
    have HO1 : Hid _ := HOI.out.trans hO1
    clear hB1 hO1
    go_wp2
    rw [HTJ.out]
    apply HEX.out
    ·exact HB1.out
    ·exact HO1.out
   ·by_cases hil : (i : Int) < (ln : Int)
    ·have hi4 : ¬ (i : Int) < 400 := by omega
     go_wp2
     rw [HTJ.out]
     apply HEX.out
     ·exact HBI.out
     ·exact HOI.out
    ·go_wp2
     rw [HTJ.out]
     apply HEX.out
     ·exact HBI.out
     ·exact HOI.out
theorem addB (a b : List UInt8) (h : a.length + b.length <= 1000000000000000) : ∀ w : World, (Op.stringOp .add ⟨a.toArray⟩ ⟨b.toArray⟩).run Tryz.prog w = .ok (.string ⟨(a ++ b).toArray⟩) w := by
 intro w
 have := run_string_add_sum (P := Tryz.prog) w ⟨a.toArray⟩ ⟨b.toArray⟩ (by simp [ByteArray.size]; omega)
 rw [mk_app] at this
 exact this
structure Dsk (B s : Nat) (I : World -> Prop) (D : List UInt8 -> List UInt8 -> Prop) (t : Nat) (lg : List UInt8) (KK : Nat -> List UInt8) : Prop where
 bel : ∀ y z, I y -> Below y.heap.size y z -> I z
 asks : ∀ R T, D R T -> ∀ y, I y -> Calls Tryz.prog 11 #[.pointer (some ⟨s, 0, none⟩), .string ⟨R.toArray⟩] y fun e w' => e = .returned (.string ⟨T.toArray⟩) /\ I w' /\ Off (fun k => B <= k) y w'
 clk : ∀ y, I y -> Calls Tryz.prog 25 #[.pointer (some ⟨s, 0, none⟩)] y fun e w' => e = .returned (.int .i64 t) /\ w' = y
 log : ∀ y, I y -> Calls Tryz.prog 22 #[.pointer (some ⟨s, 0, none⟩)] y fun e w' => e = .returned (.string ⟨lg.toArray⟩) /\ I w' /\ Off (fun k => B <= k) y w'
 itoa : ∀ y, I y -> Calls Tryz.prog 13 #[.int .i64 t] y fun e w' => e = .returned (.string ⟨(Lib.decDigits t).toArray⟩) /\ Below y.heap.size y w'
 nm : ∀ i : Nat, i < 5 -> ∀ y : World, Calls Tryz.prog 28 #[.int .i64 i] y fun e w' => e = .returned (.string ⟨(KK i).toArray⟩) /\ Below y.heap.size y w'
 kl : ∀ i, i < 5 -> (KK i).length <= 40
def dmpF (T0 : List UInt8) (TA TH : Nat -> List UInt8) : Nat -> List UInt8
 | 0 => T0
 | k + 1 => dmpF T0 TA TH k ++ TA k ++ TH k
theorem dmpF_len {T0 : List UInt8} {TA TH : Nat -> List UInt8} (h0 : T0.length <= 1000000000) (ha : ∀ i, i < 5 -> (TA i).length <= 1000000000) (hh : ∀ i, i < 5 -> (TH i).length <= 1000000000) (k : Nat) (hk : k <= 5) : (dmpF T0 TA TH k).length <= 1000000000 + k * 2000000000 := by
 induction k with
 | zero => simpa [dmpF] using h0
 | succ k ih =>
   have := ih (by omega)
   have := ha k (by omega)
   have := hh k (by omega)
   simp only [dmpF, List.length_append]
   omega
def versQ : List UInt8 := [63, 118, 101, 114, 115, 105, 111, 110, 115]
theorem dump_walk {B s : Nat} {I : World -> Prop} {D : List UInt8 -> List UInt8 -> Prop} {t : Nat} {lg : List UInt8} {KK : Nat -> List UInt8} (hs : Dsk B s I D t lg KK) (T0 : List UInt8) (TA TH : Nat -> List UInt8) (w : World) (hw : I w)
 (d0 : D (reqB [71, 69, 84] [47] [] []) T0) (da : ∀ i, i < 5 -> D (reqB [71, 69, 84] (47::KK i) [] []) (TA i)) (dh : ∀ i, i < 5 -> D (reqB [71, 69, 84] (47::KK i ++ versQ) [] []) (TH i))
 (h0 : T0.length <= 1000000000) (ha : ∀ i, i < 5 -> (TA i).length <= 1000000000) (hh : ∀ i, i < 5 -> (TH i).length <= 1000000000) (hl : lg.length <= 140000000000000) (ht : (Lib.decDigits t).length <= 20) :
 Calls Tryz.prog 20 #[.pointer (some ⟨s, 0, none⟩)] w fun e w' => e = .returned (.string ⟨(dmpF T0 TA TH 5 ++ lg ++ Lib.decDigits t).toArray⟩) /\ I w' /\ Off (fun k => B <= k) w w' := by
 have HS : Hid _ := hs
 have HI0 : Hid _ := hw
 have HD0 : Hid _ := d0
 have HDA : Hid _ := da
 have HDH : Hid _ := dh
 have HL : Hid _ := dmpF_len h0 ha hh
 have HLA : Hid _ := ha
 have HLH : Hid _ := hh
 clear hs hw d0 da dh h0 ha hh
 have HQ1 : Hid (∀ y, Calls Tryz.prog 12 #[.string ⟨#[71, 69, 84]⟩, .string ⟨#[47]⟩, .string ⟨#[]⟩, .string ⟨#[]⟩] y fun e w' => e = .returned (.string ⟨(reqB [71, 69, 84] [47] [] []).toArray⟩) /\ w' = y) :=
  fun y => request_any [71, 69, 84] [47] [] [] y (by decide) (by decide) (by decide) (by decide)
 obtain ⟨R0, hR0⟩ : ∃ R, reqB [71, 69, 84] [47] [] [] = R := ⟨_, rfl⟩
 rw [hR0] at HD0 HQ1
 clear hR0
 go_enter Tryz.func20, Tryz.ntmps20
 go_wp2_with (first
  | (go_at_call 12; refine Calls.mono (HQ1.out _) ?_; rintro e w2 ⟨rfl, hw2⟩; rw [hw2]; clear hw2)
  | (go_at_call 11; refine Calls.mono (HS.out.asks _ _ HD0.out _ HI0.out) ?_; rintro e w3 ⟨rfl, i3, o3⟩))
 have HI3 : Hid (I w3) := i3
 have HO3 : Hid _ := o3
 clear i3 o3 HD0 HQ1 HI0
 go_loopw [3, 4, 5, 6] (fun ou iv _ _ wr => ∃ i : Nat, i <= 5 /\ iv = .int .i64 i /\ ou = .string ⟨(dmpF T0 TA TH i).toArray⟩ /\ I wr /\ Off (fun k => B <= k) w wr) (fun _ iv _ _ _ => 5 - (intOf iv).toNat)
 case atStart => exact ⟨0, by omega, rfl, rfl, HI3.out, HO3.out⟩
 case round =>
  obtain ⟨i, hi, rfl, rfl, hIr, hOr⟩ := hrel
  have HIR : Hid _ := hIr
  have HOR : Hid _ := hOr
  clear hIr hOr
  have hdl := HL.out i hi
  by_cases hi5 : i < 5
  ·have hiI : (i : Int) < 5 := by omega
   have hkl := HS.out.kl i hi5
   have hda := HDA.out i hi5
   have hdh := HDH.out i hi5
   have hla := HLA.out i hi5
   have hlh := HLH.out i hi5
   have HNM : Hid _ := HS.out.nm i hi5
   have HST : Hid (dmpF T0 TA TH (i + 1) = dmpF T0 TA TH i ++ TA i ++ TH i) := rfl
   obtain ⟨K, hK⟩ : ∃ K, KK i = K := ⟨_, rfl⟩
   obtain ⟨A, hA⟩ : ∃ A, TA i = A := ⟨_, rfl⟩
   obtain ⟨H, hH⟩ : ∃ A, TH i = A := ⟨_, rfl⟩
   obtain ⟨O, hO⟩ : ∃ A, dmpF T0 TA TH i = A := ⟨_, rfl⟩
   rw [hK] at hkl hda hdh HNM
   rw [hA] at hda hla HST
   rw [hH] at hdh hlh HST
   rw [hO] at hdl HST ⊢
   have a1 : ∀ w : World, (Op.stringOp .add ⟨#[47]⟩ ⟨K.toArray⟩).run Tryz.prog w = .ok (.string ⟨(47::K).toArray⟩) w := addB [47] K (by simp; omega)
   have a2 : ∀ w : World, (Op.stringOp .add ⟨(47::K).toArray⟩ ⟨#[63, 118, 101, 114, 115, 105, 111, 110, 115]⟩).run Tryz.prog w = .ok (.string ⟨(47::K ++ versQ).toArray⟩) w := addB (47::K) versQ (by simp [versQ]; omega)
   have a3 : ∀ w : World, (Op.stringOp .add ⟨O.toArray⟩ ⟨A.toArray⟩).run Tryz.prog w = .ok (.string ⟨(O ++ A).toArray⟩) w := addB O A (by omega)
   have a4 : ∀ w : World, (Op.stringOp .add ⟨(O ++ A).toArray⟩ ⟨H.toArray⟩).run Tryz.prog w = .ok (.string ⟨(O ++ A ++ H).toArray⟩) w := addB (O ++ A) H (by rw [List.length_append]; omega)
   have HQ2 : Hid (∀ T, T = 47::K \/ T = 47::K ++ versQ -> ∀ y, Calls Tryz.prog 12 #[.string ⟨#[71, 69, 84]⟩, .string ⟨T.toArray⟩, .string ⟨#[]⟩, .string ⟨#[]⟩] y fun e w' => e = .returned (.string ⟨(reqB [71, 69, 84] T [] []).toArray⟩) /\ w' = y) := by
    rintro T hT y
    have : T.length < 1000 := by rcases hT with rfl | rfl <;> simp [versQ] <;> omega
    exact request_any [71, 69, 84] T [] [] y (by decide) (by omega) (by decide) (by decide)
   obtain ⟨U2, hU2⟩ : ∃ x, 47::K ++ versQ = x := ⟨_, rfl⟩
   obtain ⟨U1, hU1⟩ : ∃ x, 47::K = x := ⟨_, rfl⟩
   rw [hU2] at a2 HQ2 hdh
   rw [hU1] at a1 a2 HQ2 hda
   obtain ⟨Z2, hZ2⟩ : ∃ x, O ++ A ++ H = x := ⟨_, rfl⟩
   obtain ⟨Z1, hZ1⟩ : ∃ x, O ++ A = x := ⟨_, rfl⟩
   rw [hZ2] at a4 HST
   rw [hZ1] at a3 a4
   have HDD : Hid (∀ T, T = U1 \/ T = U2 -> ∀ y, I y -> ∃ Q, (T = U1 -> Q = A) /\ (T = U2 -> U1 ≠ U2 -> Q = H) /\ D (reqB [71, 69, 84] T [] []) Q) := by
    rintro T hT y hy
    by_cases e : T = U1
    ·exact ⟨A, fun _ => rfl, fun h1 h2 => absurd (e.symm.trans h1) h2, by rw [e]; exact hda⟩
    ·exact ⟨H, fun h => absurd h e, fun _ _ => rfl, by rw [hT.resolve_left e]; exact hdh⟩
   clear HDD
   have HD1 : Hid _ := hda
   have HD2 : Hid _ := hdh
   clear hda hdh hK hA hH hO hU1 hU2 hZ1 hZ2 hdl
   obtain ⟨R1, hR1⟩ : ∃ R, reqB [71, 69, 84] U1 [] [] = R := ⟨_, rfl⟩
   obtain ⟨R2, hR2⟩ : ∃ R, reqB [71, 69, 84] U2 [] [] = R := ⟨_, rfl⟩
   have HQA : Hid (∀ y, Calls Tryz.prog 12 #[.string ⟨#[71, 69, 84]⟩, .string ⟨U1.toArray⟩, .string ⟨#[]⟩, .string ⟨#[]⟩] y fun e w' => e = .returned (.string ⟨R1.toArray⟩) /\ w' = y) := by rw [<- hR1]; exact HQ2.out U1 (Or.inl rfl)
   have HQB : Hid (∀ y, Calls Tryz.prog 12 #[.string ⟨#[71, 69, 84]⟩, .string ⟨U2.toArray⟩, .string ⟨#[]⟩, .string ⟨#[]⟩] y fun e w' => e = .returned (.string ⟨R2.toArray⟩) /\ w' = y) := by rw [<- hR2]; exact HQ2.out U2 (Or.inr rfl)
   rw [hR1] at HD1
   rw [hR2] at HD2
   clear hR1 hR2 HQ2
   go_wp2_with fail
   refine Calls.mono (HNM.out _) ?_
   rintro e w4 ⟨rfl, b4⟩
   have HI4 : Hid (I w4) := HS.out.bel _ _ HIR.out b4
   have HO4 : Hid (Off (fun k => B <= k) w w4) := HOR.out.trans (Off.of_below b4)
   clear b4
   go_wp2_with fail
   refine Calls.mono (HQA.out _) ?_
   rintro e w5 ⟨rfl, rfl⟩
   go_wp2_with fail
   refine Calls.mono (HS.out.asks _ _ HD1.out _ HI4.out) ?_
   rintro e w6 ⟨rfl, i6, o6⟩
   have HI6 : Hid (I w6) := i6
   have HO6 : Hid (Off (fun k => B <= k) w w6) := HO4.out.trans o6
   clear i6 o6 HI4 HO4
   go_wp2_with fail
   refine Calls.mono (HNM.out _) ?_
   rintro e w7 ⟨rfl, b7⟩
   have HI7 : Hid (I w7) := HS.out.bel _ _ HI6.out b7
   have HO7 : Hid (Off (fun k => B <= k) w w7) := HO6.out.trans (Off.of_below b7)
   clear b7
   go_wp2_with fail
   refine Calls.mono (HQB.out _) ?_
   rintro e w8 ⟨rfl, rfl⟩
   go_wp2_with fail
   refine Calls.mono (HS.out.asks _ _ HD2.out _ HI7.out) ?_
   rintro e w9 ⟨rfl, i9, o9⟩
   have HI9 : Hid (I w9) := i9
   have HO9 : Hid (Off (fun k => B <= k) w w9) := HO7.out.trans o9
   clear i9 o9 HI7 HO7
   go_wp2_with fail
   exact ⟨⟨i + 1, by omega, by go_num, by rw [HST.out], HI9.out, HO9.out⟩, by simp [intOf]; omega⟩
  ·obtain rfl : i = 5 := by omega
   obtain ⟨O, hO⟩ : ∃ A, dmpF T0 TA TH 5 = A := ⟨_, rfl⟩
   obtain ⟨Dt, hDt⟩ : ∃ A, Lib.decDigits t = A := ⟨_, rfl⟩
   have HIT := HS.out.itoa
   rw [hDt] at HIT ht
   rw [hO] at hdl ⊢
   have a1 : ∀ w : World, (Op.stringOp .add ⟨O.toArray⟩ ⟨lg.toArray⟩).run Tryz.prog w = .ok (.string ⟨(O ++ lg).toArray⟩) w := addB O lg (by omega)
   have a2 : ∀ w : World, (Op.stringOp .add ⟨(O ++ lg).toArray⟩ ⟨Dt.toArray⟩).run Tryz.prog w = .ok (.string ⟨(O ++ lg ++ Dt).toArray⟩) w := addB (O ++ lg) Dt (by rw [List.length_append]; omega)
   obtain ⟨Z2, hZ2⟩ : ∃ x, O ++ lg ++ Dt = x := ⟨_, rfl⟩
   obtain ⟨Z1, hZ1⟩ : ∃ x, O ++ lg = x := ⟨_, rfl⟩
   rw [hZ2] at a2
   rw [hZ1] at a1 a2
   have HZ : Hid (dmpF T0 TA TH 5 ++ lg ++ Lib.decDigits t = Z2) := by show _ = _; rw [hO, hDt, hZ2]
   have HIT : Hid _ := HIT
   clear hO hDt hZ1 hZ2 hdl
   go_wp2_with fail
   refine Calls.mono (HS.out.clk _ HIR.out) ?_
   rintro e w4 ⟨rfl, rfl⟩
   go_wp2_with fail
   refine Calls.mono (HS.out.log _ HIR.out) ?_
   rintro e w6 ⟨rfl, i6, o6⟩
   have HI6 : Hid (I w6) := i6
   have HO6 : Hid (Off (fun k => B <= k) w w6) := HOR.out.trans o6
   clear i6 o6
   go_wp2_with fail
   refine Calls.mono (HIT.out _ HI6.out) ?_
   rintro e w7 ⟨rfl, b7⟩
   have HI7 : Hid (I w7) := HS.out.bel _ _ HI6.out b7
   have HO7 : Hid (Off (fun k => B <= k) w w7) := HO6.out.trans (Off.of_below b7)
   go_wp2
   go_ret
   exact ⟨by rw [HZ.out]; rfl, HI7.out, HO7.out⟩
def AskR (s B : Nat) (R T : List UInt8) (I I' : World -> Prop) : Prop := ∀ y, I y -> Calls Tryz.prog 11 #[.pointer (some ⟨s, 0, none⟩), .string ⟨R.toArray⟩] y fun e w' => e = .returned (.string ⟨T.toArray⟩) /\ I' w' /\ Off (fun k => B <= k) y w'
def DumpR (s B : Nat) (Z : List UInt8) (I : World -> Prop) : Prop := ∀ y, I y -> Calls Tryz.prog 20 #[.pointer (some ⟨s, 0, none⟩)] y fun e w' => e = .returned (.string ⟨Z.toArray⟩) /\ I w' /\ Off (fun k => B <= k) y w'
end Go.Proofs.YtmehkneofinmiabGreatDoor
namespace Go.Proofs.YtmehkneofinmiabGreatDoor
theorem ask_r {σ : St} {m : Nat} {t : Tgt} {k : Cnd} {body : List UInt8} (h3 : t.kind ≠ 3) (hw : isW m = false) : askF σ m t k body = (if condF false k (aimF (findE σ.ents t.key) t) ≠ 0 then ⟨condF false k (aimF (findE σ.ents t.key) t), [], []⟩ else
 match aimF (findE σ.ents t.key) t with
 | none => ⟨404, [], []⟩
 | some v => ⟨200, verFlds v (stampL v.time), if m = 0 then v.body else []⟩, σ) := by
 unfold askF
 rw [if_neg h3, hw]
 by_cases h : condF false k (aimF (findE σ.ents t.key) t) ≠ 0
 ·rw [if_pos h, if_pos h]
 ·rw [if_neg h, if_neg h]
  simp only [Bool.false_eq_true, if_false]
  cases aimF (findE σ.ents t.key) t <;> rfl
theorem get_none {σ : St} {l key : List UInt8} {m : Nat} (hr : readF l = .ok (m, ⟨1, key, 0⟩, k0, [])) (hw : isW m = false) (h : curOf (findE σ.ents key) = none) : ansF σ l = (⟨404, [], []⟩, σ) := by
 rw [ans_of hr (by simp), ask_r (by simp) hw]
 have e : aimF (findE σ.ents key) ⟨1, key, 0⟩ = none := h
 simp only [e, condF0]
 rfl
theorem get_some {σ : St} {l key : List UInt8} {m : Nat} {k : Cnd} {v : Ver} (hr : readF l = .ok (m, ⟨1, key, 0⟩, k, [])) (hw : isW m = false) (h : curOf (findE σ.ents key) = some v) (hc : condF false k (some v) = 0) : ansF σ l = (⟨200, verFlds v (stampL v.time), if m = 0 then v.body else []⟩, σ) := by
 rw [ans_of hr (by simp), ask_r (by simp) hw]
 have e : aimF (findE σ.ents key) ⟨1, key, 0⟩ = some v := h
 simp only [e, hc]
 rfl
theorem read_key0 {mt key : List UInt8} {m : Nat} (hm : methF mt = some m /\ ∀ c ∈ mt, c ≠ 32 /\ c ≠ 13) (hl : mt.length < 10) (hf : fitsF m 1 = true) (h : keyOK key = true) : readF (reqB mt (47::key) [] []) = .ok (m, ⟨1, key, 0⟩, k0, []) :=
 rf6 (by have := (key_no h).2.1; rw [reqB_len]; simp; omega) (parse_req0 hm.1 hm.2 (key13 h) (target_key h)) (by simp) (by simp) hf
end Go.Proofs.YtmehkneofinmiabGreatDoor
namespace Go.Proofs.YtmehkneofinmiabGreatDoor
open Go.RowKit
theorem asks {B : Nat -> Prop} {b s n : Nat} {σ : St} {M : Mem} {vs : Nat -> Value} {d c : Nat} (R : List UInt8) (a : Ans) (y : World) (h : Bk B y b s n σ M vs d c) (hR : ansF σ R = (a, σ)) (hl : R.length < 3000) (hc : c <= 400) :
 Calls Tryz.prog 11 #[.pointer (some ⟨s, 0, none⟩), .string ⟨R.toArray⟩] y fun e w' => e = .returned (.string ⟨(textF a.told a.flds a.body).toArray⟩) /\ (∃ M', Bk B w' b s n σ M' vs d c) /\ Off B y w' /\ (∀ (k : Nat) (cs : Array Value) (f : Nat × Nat), y.heap[k]? = some (.cells cs 42 f) -> w'.heap[k]? = some (.cells cs 42 f)) := by
 refine (do_sto R h.sto (by have := h.lg; omega) (by omega) hR).mono ?_
 rintro e w' ⟨rfl, _, M2, hS2, hO2, hP2⟩
 refine ⟨rfl, ⟨M2, ⟨hS2, h.bk.did h.sto.st hO2, h.bB, h.vB, h.ks, h.tm, h.lg, h.ls, h.dn⟩⟩, hP2, fun k cs f hk => ?_⟩
 rw [hO2.block k (Array.getElem?_eq_some_iff.1 hk).1 (fun ho => (own_book h.sto.st ho).2 hk)]
 exact hk
variable {σ : St} {key : List UInt8} {v : Ver}
theorem hd_get (hk : keyOK key = true) (hc : curOf (findE σ.ents key) = some v) : ansF σ (reqB getM (47::key) [] []) = (⟨200, verFlds v (stampL v.time), v.body⟩, σ) :=
 get_some (read_key0 m_get (by decide) rfl hk) rfl hc (condF0 _ _)
theorem hd_get0 (hk : keyOK key = true) (hc : curOf (findE σ.ents key) = none) : ansF σ (reqB getM (47::key) [] []) = (⟨404, [], []⟩, σ) :=
 get_none (read_key0 m_get (by decide) rfl hk) rfl hc
end Go.Proofs.YtmehkneofinmiabGreatDoor
namespace Go.Proofs.YtmehkneofinmiabGreatDoor
theorem read_list {σ : St} : ansF σ (reqB getM [47] [] []) = (listA σ [], σ) := by
 have hr : readF (reqB getM [47] [] []) = .ok (0, ⟨0, [], 0⟩, k0, []) := rf6 (by decide) (parse_req0 m_get.1 m_get.2 (by decide) target_list) (by simp) (by simp) rfl
 unfold ansF
 rw [hr]
 rfl
def versW : List UInt8 := [118, 101, 114, 115, 105, 111, 110, 115]
theorem read_vers {key : List UInt8} (h : keyOK key = true) : readF (reqB getM (47::(key ++ [63] ++ versW)) [] []) = .ok (0, ⟨3, key, 0⟩, k0, []) := by
 refine rf6 (by have := (key_no h).2.1; rw [reqB_len]; simp [getM, versW]; omega) (parse_req0 m_get.1 m_get.2 ?_ (target_versions h)) (by simp) (by simp) rfl
 intro c hc
 rcases List.mem_cons.1 hc with rfl | hc
 ·decide
 ·rcases List.mem_append.1 hc with hc | hc
  ·rcases List.mem_append.1 hc with hc | hc
   ·exact ((key_no h).2.2 c hc).1
   ·rw [List.mem_singleton.1 hc]; decide
  ·exact (by decide : ∀ c ∈ versW, c ≠ 13) c hc
theorem kp_all {σ : St} {key : List UInt8} (h : keyOK key = true) : ansF σ (reqB getM (47::(key ++ [63] ++ versW)) [] []) = (if (findE σ.ents key).vers = [] then ⟨404, [], []⟩ else ⟨200, [], (findE σ.ents key).vers.reverse.flatMap lineF2⟩, σ) := by
 rw [ans_of (read_vers h) (by simp)]
 unfold askF
 rw [if_pos rfl]
end Go.Proofs.YtmehkneofinmiabGreatDoor
namespace Go.Proofs.YtmehkneofinmiabGreatDoor
open Go.RowKit
noncomputable def txtR (σ : St) (R : List UInt8) : List UInt8 := textF (ansF σ R).1.told (ansF σ R).1.flds (ansF σ R).1.body
noncomputable def dumpF (σ : St) : List UInt8 := dmpF (txtR σ (reqB [71, 69, 84] [47] [] [])) (fun i => txtR σ (reqB [71, 69, 84] (47::nmK i) [] [])) (fun i => txtR σ (reqB [71, 69, 84] (47::nmK i ++ versQ) [] [])) 5 ++ σ.log ++ Lib.decDigits σ.time
theorem same_get (σ : St) (i : Nat) : (ansF σ (reqB [71, 69, 84] (47::nmK i) [] [])).2 = σ := by
 cases hc : curOf (findE σ.ents (nmK i)) with
 | none => exact congrArg Prod.snd (hd_get0 (nmK_ok i) hc)
 | some v => exact congrArg Prod.snd (hd_get (nmK_ok i) hc)
theorem same_vers (σ : St) (i : Nat) : (ansF σ (reqB [71, 69, 84] (47::nmK i ++ versQ) [] [])).2 = σ := by
 have h := kp_all (σ := σ) (nmK_ok i)
 have e : (47::(nmK i ++ [63] ++ versW) : List UInt8) = 47::nmK i ++ versQ := by simp [versW, versQ]
 rw [e] at h
 exact congrArg Prod.snd h
def Two (B s n : Nat) (σ : St) (s2 n2 : Nat) (σ2 : St) (y : World) : Prop :=
 ∃ M M2, Sto (fun k => B <= k) y s n σ M /\ StoreAt y s2 n2 0 (fun _ => 0) σ2 M2 /\ (∀ k, M.own s n k -> ¬ M2.own s2 n2 k) /\ ∀ k, M2.own s2 n2 k -> B <= k
theorem Two.swap {B s n : Nat} {σ : St} {s2 n2 : Nat} {σ2 : St} {y : World} (h : Two B s n σ s2 n2 σ2 y) : Two B s2 n2 σ2 s n σ y := by
 obtain ⟨M, M2, h1, h2, h3, h4⟩ := h
 exact ⟨M2, M, ⟨h1.env, h2, h4⟩, h1.st, fun k hk h => h3 k h hk, h1.own⟩
theorem Two.bel {B s n : Nat} {σ : St} {s2 n2 : Nat} {σ2 : St} {y z : World} (h : Two B s n σ s2 n2 σ2 y) (hb : Below y.heap.size y z) : Two B s n σ s2 n2 σ2 z := by
 obtain ⟨M, M2, h1, h2, h3, h4⟩ := h
 exact ⟨M, M2, h1.below hb, h2.below hb, h3, h4⟩
theorem Two.ask {B s n : Nat} {σ : St} {s2 n2 : Nat} {σ2 : St} (R : List UInt8) (hR : (ansF σ R).2 = σ) (hl : R.length <= 9223372036854775807) (hlog : σ.log.length < 140000000000000) : AskR s B R (txtR σ R) (Two B s n σ s2 n2 σ2) (Two B s n σ s2 n2 σ2) := by
 rintro y ⟨M, M2, h1, h2, h3, h4⟩
 have hd := do_store R y h1.st h1.env.mx h1.env.tb (fun k hk => h1.env.high (h1.own k hk)) hlog hl
 refine hd.mono ?_
 rintro e w' ⟨rfl, M', hS, hO, hW⟩
 have hS' : StoreAt w' s n 0 (fun _ => 0) (ansF σ R).2 M' := hS
 rw [hR] at hS'
 have hO2 : Off (fun k => B <= k) y w' := hO.mono (fun k hk => h1.own k hk)
 refine ⟨rfl, ⟨M', M2, ⟨h1.env.off hO2, hS', fun k hk => (hW k hk).elim (h1.own k) (fun h => h1.env.sz k h)⟩, h2.off hO (fun k hk h => h3 k h hk), fun k hk h => ?_, h4⟩, hO2⟩
 rcases hW k hk with h5 | h5
 ·exact h3 k h5 h
 ·have := h2.own_lt h
  omega
theorem Two.dump {B s n : Nat} {σ : St} {s2 n2 : Nat} {σ2 : St} (hlog : σ.log.length < 140000000000000) : DumpR s B (dumpF σ) (Two B s n σ s2 n2 σ2) := by
 intro w hw
 have hd : Dsk B s (Two B s n σ s2 n2 σ2) (fun R T => (ansF σ R).2 = σ /\ T = txtR σ R /\ R.length < 3000) σ.time σ.log nmK := by
  refine ⟨fun y z h hb => h.bel hb, ?_, ?_, ?_, ?_, fun i hi y => named_any i y hi, fun i _ => (key_no (nmK_ok i)).2.1⟩
  ·rintro R T ⟨h1, rfl, h3⟩ y hy
   exact Two.ask R h1 (by omega) hlog y hy
  ·rintro y ⟨M, M2, h1, _⟩
   exact clock_any y h1.st
  ·rintro y ⟨M, M2, h1, h2, h3, h4⟩
   refine (log_store y h1.st).mono ?_
   rintro e w' ⟨rfl, hS, hO⟩
   have hB : B <= s := h1.own s (Or.inl rfl)
   have hO2 : Off (fun k => B <= k) y w' := hO.mono (fun k hk => by rw [hk]; exact hB)
   exact ⟨rfl, ⟨M, M2, ⟨h1.env.off hO2, hS, h1.own⟩, h2.off hO (fun k hk e => h3 k (Or.inl e) hk), h3, h4⟩, hO2⟩
  ·rintro y ⟨M, M2, h1, _⟩
   have := h1.st.time
   exact itoaN σ.time y (by omega) h1.env.tb.b
 have hsm : ∀ R, (txtR σ R).length <= 1000000000 := fun R => by
  obtain ⟨M, M2, h1, _⟩ := hw
  exact text_len (ans_ok h1.st hlog R)
 have htm : σ.time <= 253402300799 := by obtain ⟨M, M2, h1, _⟩ := hw; exact h1.st.time
 refine dump_walk hd _ _ _ w hw ⟨congrArg Prod.snd (read_list (σ := σ)), rfl, by decide⟩ (fun i _ => ⟨same_get σ i, rfl, ?_⟩) (fun i _ => ⟨same_vers σ i, rfl, ?_⟩) (hsm _) (fun i _ => hsm _) (fun i _ => hsm _) (by omega) (dec_len10 (by omega) (by omega))
 ·have := (key_no (nmK_ok i)).2.1
  rw [reqB_len]
  simp
  omega
 ·have := (key_no (nmK_ok i)).2.1
  rw [reqB_len]
  simp [versQ]
  omega
end Go.Proofs.YtmehkneofinmiabGreatDoor

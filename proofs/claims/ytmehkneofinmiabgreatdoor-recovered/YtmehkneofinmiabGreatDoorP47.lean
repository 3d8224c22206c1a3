/-
 Texts of this proof, part 47.
-/
import Derived.Test.YtmehkneofinmiabGreatDoorP45
set_option maxRecDepth 100000
set_option maxHeartbeats 8000000
namespace Go.Proofs.YtmehkneofinmiabGreatDoor
open Go.RowKit
noncomputable def recLoop : Code := (Tryz.f7.body.bind (cutAt 41)).getD .skip
set_option linter.unusedVariables false in
theorem rec_loop {c0 c1 c2 c3 c5 c6 c7 c8 c9 c10 c11 c13 c14 c15 c16 c17 c18 c19 c20 c21 c22 c23 c24 c25 c26 c28 c29 c30 c31 c32 c33 c34 c35 c36 c37 c38 c39 c40 c41 c42 c43 c44 c45 c46 c47 c48 c49 c50 c51 c52 c53 c54 c55 c56 c57 c58 c59 c60 c61 c62 c63 c64 c65 c66 c67 c68 c69 c70 c71 c72 c73 c74 c75 c76 c77 c78 c79 c80 c81 c82 c83 c84 c85 c86 c87 c88 c89 c90 c91 c92 c93 c94 c95 c96 c97 c98 c99 c100 c101 c102 c103 c104 c105 c106 c107 c108 c109 c110 c111 c112 c113 c114 c115 c116 c117 c118 c119 c120 c121 c122 c123 c124 c125 c126 c127 c128 c129 c130 c131 c132 c133 c134 c135 c136 c137 c138 c139 c140 c141 c142 c143 c144 c145 c146 c147 c148 c149 c150 c151 c152 c153 c154 c155 c156 c157 c158 c159 c160 c161 c162 c163 c164 c165 c166 c167 c168 c169 c170 c171 c172 c173 c174 c175 c176 c177 c178 c179 c180 c181 c182 c183 c184 c185 c186 c187 c188 c189 c190 c191 c192 c193 c194 c195 c196 c197 c198 c199 c200 c201 c202 c203 c204 c205 c206 c207 c208 c209 c210 c211 c212 c213 c214 c215 c216 c217 c218 c219 c220 c221 c222 c223 c224 c225 c226 c227 c228 c229 c230 c231 c232 c233 c234 c235 c236 c237 c238 c239 c240 c241 c242 c243 c244 c245 c246 c247 c248 c249 c250 c251 c252 c253 c254 c255 c256 c257 c258 c259 c260 c261 c262 c263 c264 c265 c266 : Value} (w w0 : World) (b s n b2 s2 n2 : Nat) (σ : St) (c : Nat) (hc : c <= 400) (o : Option Addr) (cap : Nat) (l : List Stp) (hv : StpAt w (.slice o l.length cap) l) (hT : TwoB (fun k => w.heap.size <= k) b s n σ c b2 s2 n2 σ c w0) (hO : Off (fun k => w.heap.size <= k) w w0) (Q : Exit -> Act -> World -> Prop)
 (HEX : Hid (∀ (t10 t29 t30 t31 t229 t230 t231 t232 t233 t234 t235 t236 t237 t238 t239 t240 t241 t242 t243 t244 t245 t246 t247 t248 t249 t250 t251 t252 t253 t254 t255 t256 : Value) (w' : World), (∃ i, i <= 400 /\ TwoB (fun k => w.heap.size <= k) b s n (playF σ (l.take 400)) (c + i) b2 s2 n2 (playF σ (l.take 400)) (c + i) w') -> Off (fun k => w.heap.size <= k) w w' -> Q .normal ⟨(c0::c1::c2::c3::.slice o l.length cap::c5::c6::c7::c8::c9::t10::c11::.pointer (some ⟨b, 0, none⟩)::c13::c14::c15::c16::c17::c18::c19::c20::c21::c22::c23::c24::c25::c26::.pointer (some ⟨b2, 0, none⟩)::c28::t29::t30::t31::c32::c33::c34::c35::c36::c37::c38::c39::c40::c41::c42::c43::c44::c45::c46::c47::c48::c49::c50::c51::c52::c53::c54::c55::c56::c57::c58::c59::c60::c61::c62::c63::c64::c65::c66::c67::c68::c69::c70::c71::c72::c73::c74::c75::c76::c77::c78::c79::c80::c81::c82::c83::c84::c85::c86::c87::c88::c89::c90::c91::c92::c93::c94::c95::c96::c97::c98::c99::c100::c101::c102::c103::c104::c105::c106::c107::c108::c109::c110::c111::c112::c113::c114::c115::c116::c117::c118::c119::c120::c121::c122::c123::c124::c125::c126::c127::c128::c129::c130::c131::c132::c133::c134::c135::c136::c137::c138::c139::c140::c141::c142::c143::c144::c145::c146::c147::c148::c149::c150::c151::c152::c153::c154::c155::c156::c157::c158::c159::c160::c161::c162::c163::c164::c165::c166::c167::c168::c169::c170::c171::c172::c173::c174::c175::c176::c177::c178::c179::c180::c181::c182::c183::c184::c185::c186::c187::c188::c189::c190::c191::c192::c193::c194::c195::c196::c197::c198::c199::c200::c201::c202::c203::c204::c205::c206::c207::c208::c209::c210::c211::c212::c213::c214::c215::c216::c217::c218::c219::c220::c221::c222::c223::c224::c225::c226::c227::c228::t229::t230::t231::t232::t233::t234::t235::t236::t237::t238::t239::t240::t241::t242::t243::t244::t245::t246::t247::t248::t249::t250::t251::t252::t253::t254::t255::t256::c257::c258::c259::c260::c261::c262::c263::c264::c265::c266::[]).toArray, []⟩ w')) :
 Code.wp Tryz.prog recLoop Q ⟨(c0::c1::c2::c3::.slice o l.length cap::c5::c6::c7::c8::c9::c10::c11::.pointer (some ⟨b, 0, none⟩)::c13::c14::c15::c16::c17::c18::c19::c20::c21::c22::c23::c24::c25::c26::.pointer (some ⟨b2, 0, none⟩)::c28::c29::c30::c31::c32::c33::c34::c35::c36::c37::c38::c39::c40::c41::c42::c43::c44::c45::c46::c47::c48::c49::c50::c51::c52::c53::c54::c55::c56::c57::c58::c59::c60::c61::c62::c63::c64::c65::c66::c67::c68::c69::c70::c71::c72::c73::c74::c75::c76::c77::c78::c79::c80::c81::c82::c83::c84::c85::c86::c87::c88::c89::c90::c91::c92::c93::c94::c95::c96::c97::c98::c99::c100::c101::c102::c103::c104::c105::c106::c107::c108::c109::c110::c111::c112::c113::c114::c115::c116::c117::c118::c119::c120::c121::c122::c123::c124::c125::c126::c127::c128::c129::c130::c131::c132::c133::c134::c135::c136::c137::c138::c139::c140::c141::c142::c143::c144::c145::c146::c147::c148::c149::c150::c151::c152::c153::c154::c155::c156::c157::c158::c159::c160::c161::c162::c163::c164::c165::c166::c167::c168::c169::c170::c171::c172::c173::c174::c175::c176::c177::c178::c179::c180::c181::c182::c183::c184::c185::c186::c187::c188::c189::c190::c191::c192::c193::c194::c195::c196::c197::c198::c199::c200::c201::c202::c203::c204::c205::c206::c207::c208::c209::c210::c211::c212::c213::c214::c215::c216::c217::c218::c219::c220::c221::c222::c223::c224::c225::c226::c227::c228::c229::c230::c231::c232::c233::c234::c235::c236::c237::c238::c239::c240::c241::c242::c243::c244::c245::c246::c247::c248::c249::c250::c251::c252::c253::c254::c255::c256::c257::c258::c259::c260::c261::c262::c263::c264::c265::c266::[]).toArray, []⟩ w0 := by
 conv => arg 2; whnf
 have HV : Hid _ := hv
 have hlen := hv.len
 have hlie := hv.lie
 obtain ⟨o', cap', he, hlie⟩ := hlie
 cases he
 have HT0 : Hid _ := hT
 have HO0 : Hid _ := hO
 clear hv hT hO
 obtain ⟨ln, hln⟩ : ∃ x, l.length = x := ⟨_, rfl⟩
 rw [hln] at hlen hlie HEX ⊢
 go_wp2
 go_loopw [29] (fun iv wr => ∃ i : Nat, i <= ln /\ i <= 400 /\ iv = .int .i64 i /\ TwoB (fun k => w.heap.size <= k) b s n (playF σ (l.take i)) (c + i) b2 s2 n2 (playF σ (l.take i)) (c + i) wr /\ Off (fun k => w.heap.size <= k) w wr) (fun iv _ => 400 - (intOf iv).toNat)
 case atStart => exact ⟨0, Nat.zero_le _, Nat.zero_le _, rfl, HT0.out, HO0.out⟩
 case round =>
  obtain ⟨i, hi, hi4, rfl, hTi, hOi⟩ := hrel
  have HTI : Hid (TwoB (fun k => w.heap.size <= k) b s n (playF σ (l.take i)) (c + i) b2 s2 n2 (playF σ (l.take i)) (c + i) wr) := hTi
  have HOI : Hid _ := hOi
  clear hTi hOi HT0 HO0
  by_cases hgo : i < ln /\ i < 400
  ·have hil : (i : Int) < (ln : Int) := by omega
   have hi4I : (i : Int) < 400 := by omega
   obtain ⟨y, hy⟩ : ∃ y, l[i]? = some y := ⟨_, List.getElem?_eq_getElem (by omega)⟩
   obtain ⟨g, off, rfl, hg, hcc⟩ := hlie (by omega)
   have hyn := HV.out.num y (List.mem_of_getElem? hy)
   have hc' := hcc i y hy
   have HCL : Hid (∀ z, Off (fun k => w.heap.size <= k) w z -> z.cell? ⟨g, off + i * 4, none⟩ = some (.int .i64 y.k) /\ z.cell? ⟨g, off + i * 4 + 1, none⟩ = some (.int .i64 y.a) /\ z.cell? ⟨g, off + i * 4 + 2, none⟩ = some (.int .i64 y.b) /\ z.cell? ⟨g, off + i * 4 + 3, none⟩ = some (.int .i64 y.c)) := fun z hz => by
    have hblk := hz.block g hg (by omega)
    simp only [World.cell?] at hc' ⊢
    rw [hblk]
    exact hc'
   have HTK : Hid (playF σ (l.take (i + 1)) = stepF (playF σ (l.take i)) y.k y.a y.b y.c) := by
    show _ = _
    rw [List.take_add_one, hy, Option.toList_some, playF_snoc]
   have HSP : Hid _ := TwoB.step HTI.out y.k y.a y.b y.c (by omega) hyn.1 hyn.2.1 hyn.2.2.1 hyn.2.2.2
   rw [<- HTK.out] at HSP
   have s0 := (HCL.out wr HOI.out).1
   have s1 := (HCL.out wr HOI.out).2.1
   have s2' := (HCL.out wr HOI.out).2.2.1
   have s3 := (HCL.out wr HOI.out).2.2.2
   clear hc' hcc hy hlie
   go_wp2_with fail
   refine Calls.mono HSP.out ?_
   rintro e w1 ⟨rfl, hT1, hO1⟩
   have HO1 : Hid _ := HOI.out.trans hO1
   have HSQ : Hid _ := hT1.swap.step y.k y.a y.b y.c (by omega) hyn.1 hyn.2.1 hyn.2.2.1 hyn.2.2.2
   rw [<- HTK.out] at HSQ
   have q0 := (HCL.out w1 HO1.out).1
   have q1 := (HCL.out w1 HO1.out).2.1
   have q2 := (HCL.out w1 HO1.out).2.2.1
   have q3 := (HCL.out w1 HO1.out).2.2.2
   clear hT1 hO1 HSP s0 s1 s2' s3 hyn HTI HOI
   go_wp2_with fail
   refine Calls.mono HSQ.out ?_
   rintro e w2 ⟨rfl, hT2, hO2⟩
   have HT2 : Hid _ := hT2.swap
   have HO2 : Hid _ := HO1.out.trans hO2
   clear hT2 hO2 HSQ HO1 q0 q1 q2 q3
   go_wp2
   exact ⟨⟨i + 1, by omega, by omega, by go_num, HT2.out, HO2.out⟩, by simp [intOf]; omega⟩
  ·have HF : Hid (TwoB (fun k => w.heap.size <= k) b s n (playF σ (l.take 400)) (c + i) b2 s2 n2 (playF σ (l.take 400)) (c + i) wr) := by
    have h : TwoB (fun k => w.heap.size <= k) b s n (playF σ (l.take i)) (c + i) b2 s2 n2 (playF σ (l.take i)) (c + i) wr := HTI.out
    show TwoB _ _ _ _ _ _ _ _ _ _ _ _
    by_cases e : i = 400
    ·rw [e] at h; rw [e]; exact h
    ·rw [List.take_of_length_le (by omega)] at h
     rw [List.take_of_length_le (by omega)]
     exact h
   clear HTI
   by_cases hil : (i : Int) < (ln : Int)
   ·have hi4I : ¬ (i : Int) < 400 := by omega
    go_wp2
    apply HEX.out
    ·exact ⟨i, hi4, HF.out⟩
    ·exact HOI.out
   ·go_wp2
    apply HEX.out
    ·exact ⟨i, hi4, HF.out⟩
    ·exact HOI.out
theorem row_cell {Y : World} {g : Nat} {cur : Array Value} {e : TypeId} {m : Nat} {xs : List Value} (hg : Y.heap[g]? = some (.cells cur e (0, 0))) (htk : cur.toList.take m = xs) {j : Nat} {u : Value} (hu : xs[j]? = some u) : Y.cell? ((⟨g, 0, none⟩ : Addr).add j) = some u := by
 rw [Go.WideShapes.add_plain, Nat.zero_add]
 simp only [World.cell?, hg]
 rw [<- htk] at hu
 have h1 : j < m := by
  have := (List.getElem?_eq_some_iff.1 hu).1
  rw [List.length_take] at this
  omega
 rw [List.getElem?_take_of_lt h1] at hu
 simpa using hu
theorem bRow_one {l : List Ver} {u : Value} (hu : u ∈ bRow l) : u.oneCell' = true := by
 obtain ⟨v, _, hv⟩ := List.mem_flatMap.1 hu
 simp only [bvCells, List.mem_cons, List.not_mem_nil, or_false] at hv
 rcases hv with rfl | rfl | rfl | rfl | rfl <;> rfl
theorem row_copy (Y : World) (v : Value) (l : List Ver) (hr : Y.ownsRow 0 42 5 v l.length (bRow l)) (hl : l.length < 1000000) :
 ∃ r w2, AppOk Tryz.prog 26 26 Y (.slice none 0 0) v /\ (appR Tryz.prog 26 26 Y (.slice none 0 0) v).1 = r /\ (appR Tryz.prog 26 26 Y (.slice none 0 0) v).2 = w2 /\
  w2.ownsRow 0 42 5 r l.length (bRow l) /\ (∀ g, r.ownBlock = some g -> Y.heap.size <= g) /\ Below Y.heap.size Y w2 := by
 obtain ⟨i0, hi0, hz0, hz1, hz2⟩ := info_parts info56m
 have hn : Y.ownsRow 0 42 5 (.slice none 0 0) 0 [] := ⟨rfl, Or.inl ⟨rfl, rfl⟩⟩
 by_cases h0 : l.length = 0
 ·have hl0 : l = [] := List.eq_nil_of_length_eq_zero h0
  have hv : ∃ o c, v = .slice o 0 c := by
   rcases hr.2 with ⟨h, _⟩ | ⟨g, cap, cur, h, _⟩
   ·exact ⟨_, _, h⟩
   ·rw [h0] at h
    exact ⟨_, _, h⟩
  obtain ⟨o, c, rfl⟩ := hv
  have hrun : (Builtin.append_ #[26, 26] 26 #[.slice none 0 0, .slice o 0 c]).run Tryz.prog Y = .ok (.slice none 0 0) Y := by
   have hu : Tryz.prog.underlying 26 = _ := Tryz.underlying26
   cases o with
   | none =>
     have hf := run_firstCells_none (P := Tryz.prog) Y i0.size 0 0 c
     simp [Builtin.append_, run_underlying hu, sizeOf, typeInfo, hi0, Builtin.lenOf, hf]
   | some a =>
     have hf := run_firstCells_some (P := Tryz.prog) Y i0.size 0 a 0 c [] (by simp) (fun j u h => by simp at h)
     simp [Builtin.append_, run_underlying hu, sizeOf, typeInfo, hi0, Builtin.lenOf, hf]
  obtain ⟨hok, hr1, hr2⟩ := app_is hrun
  refine ⟨_, _, hok, hr1, hr2, ?_, (fun g hg => by cases hg), Below.refl _ _⟩
  rw [hl0]
  exact hn
 ·rcases hr.2 with ⟨_, h⟩ | ⟨g, cap, cur, hv, hg0, hg, hcn, hcm, hcs, htk⟩
  ·exact absurd h h0
  ·obtain ⟨gg, cap', w2, hrun, hown1, hgrow, hat, hlt2⟩ := run_append_lies (P := Tryz.prog) Y 26 26 0 42 i0 _ 5 56 Tryz.underlying26 hi0 hz0 hz1 hz2 rfl (by omega) (.slice none 0 0) 0 [] hn
    ⟨g, 0, none⟩ l.length cap (bRow l) hr.1 (fun j u hu => row_cell hg htk hu) (fun u hu => bRow_one hu) (by omega) (by simp only [maxLen]; omega) (by omega) (by omega) _ rfl
   ·rw [<- hv] at hrun
    obtain ⟨hok, hr1, hr2⟩ := app_is hrun
    refine ⟨_, _, hok, hr1, hr2, ?_, fun g' hg' => ?_, ?_⟩
    ·simpa using hown1
    ·cases hg'
     rcases hat with h1 | h1
     ·cases h1
     ·show Y.heap.size <= gg
      omega
    ·exact ⟨hgrow.os, hgrow.tape, hgrow.output, hgrow.size, fun k hk => hgrow.block k hk (fun e => by cases e)⟩
def enC (σ : St) (i j : Nat) : Ent := if j < i then enK σ j else ⟨[], 0, []⟩
theorem enC_all (σ : St) (j : Nat) (hj : j < 5) : enC σ 5 j = enK σ j := by unfold enC; rw [if_pos hj]
structure CpyAt (B : Nat -> Prop) (b s n : Nat) (σ : St) (c s2 n2 D dn i : Nat) (M : Mem) (vs : Nat -> Value) (M2 : Mem) (v2 : Nat -> Value) (w : World) : Prop where
 bk : Bk B w b s n σ M vs dn c
 st : StoreAt w s2 n2 0 (fun _ => 0) σ M2
 ap : ∀ k, bkOwn b s n M vs k -> ¬ M2.own s2 n2 k
 ow : ∀ k, M2.own s2 n2 k -> B k
 bd : BookAt w D s2 (enC σ i) v2 σ.time dn
 bB : B D
 vB : ∀ j, j < 5 -> ∀ g, (v2 j).ownBlock = some g -> B g
 nil : ∀ j, i <= j -> v2 j = .slice none 0 0
 far : ∀ k, (k = D \/ ∃ j, j < 5 /\ (v2 j).ownBlock = some k) -> ¬ bkOwn b s n M vs k /\ ¬ M2.own s2 n2 k
theorem CpyAt.made {B : Nat -> Prop} {b s n : Nat} {σ : St} {c s2 n2 dn : Nat} {M : Mem} {vs : Nat -> Value} {M2 : Mem} {w : World} (bk : Bk B w b s n σ M vs dn c) (st : StoreAt w s2 n2 0 (fun _ => 0) σ M2) (ap : ∀ k, bkOwn b s n M vs k -> ¬ M2.own s2 n2 k) (ow : ∀ k, M2.own s2 n2 k -> B k)
 {Z : World} (hb : Below w.heap.size w Z) (hd : Z.heap[w.heap.size]? = some (.cells (bookCells s2 (enC σ 0) (fun _ => .slice none 0 0) σ.time dn) 31 (0, 0))) : CpyAt B b s n σ c s2 n2 w.heap.size dn 0 M vs M2 (fun _ => .slice none 0 0) Z := by
 refine ⟨bk.below hb, st.below hb, ap, ow, ⟨hd, fun i hi => ⟨rfl, Or.inl ⟨rfl, rfl⟩⟩, fun i j _ _ _ g hg => by cases hg⟩, bk.sto.env.sz _ (Nat.le_refl _), fun j _ g hg => (by cases hg), fun _ _ => rfl, ?_⟩
 rintro k (rfl | ⟨j, _, hj⟩)
 ·exact ⟨fun h => Nat.lt_irrefl _ (bk.own_size h), fun h => Nat.lt_irrefl _ (st.own_lt h)⟩
 ·cases hj
theorem CpyAt.next {B : Nat -> Prop} {b s n : Nat} {σ : St} {c s2 n2 D dn i : Nat} {M : Mem} {vs : Nat -> Value} {M2 : Mem} {v2 : Nat -> Value} {w Z : World} (h : CpyAt B b s n σ c s2 n2 D dn i M vs M2 v2 w) (hi : i < 5) (hO : Off (fun k => k = D) w Z) {r : Value}
 (hd : Z.heap[D]? = some (.cells (bookCells s2 (enC σ (i + 1)) (fun j => if j = i then r else v2 j) σ.time dn) 31 (0, 0))) (hr : Z.ownsRow 0 42 5 r (enK σ i).vers.length (bRow (enK σ i).vers)) (hg : ∀ g, r.ownBlock = some g -> w.heap.size <= g) :
 CpyAt B b s n σ c s2 n2 D dn (i + 1) M vs M2 (fun j => if j = i then r else v2 j) Z := by
 have fD := h.far D (Or.inl rfl)
 have hB : ∀ k, k = D -> B k := fun k e => by rw [e]; exact h.bB
 have hlt : ∀ j, j < 5 -> ∀ g, (v2 j).ownBlock = some g -> g < w.heap.size /\ g ≠ D := fun j hj g hjg => by
  obtain ⟨cur, hc⟩ := own_block (h.bd.row j hj) hjg
  refine ⟨(Array.getElem?_eq_some_iff.1 hc).1, fun e => ?_⟩
  rw [e] at hc
  exact ne_of_types h.bd.blk hc (by decide) rfl
 refine ⟨h.bk.offS hO hB (fun k hk e => fD.1 (by rw [<- e]; exact hk)), h.st.off hO (fun k hk e => fD.2 (by rw [<- e]; exact hk)), h.ap, h.ow, ⟨hd, fun j hj => ?_, fun j k hj hk hjk g hjg => ?_⟩, h.bB, fun j hj g hjg => ?_, fun j hij => ?_, fun k hk => ?_⟩
 ·by_cases e : j = i
  ·subst e
   simp only [if_pos]
   unfold enC
   rw [if_pos (Nat.lt_succ_self _)]
   exact hr
  ·simp only [if_neg e]
   have he : enC σ (i + 1) j = enC σ i j := by
    unfold enC
    by_cases e2 : j < i
    ·rw [if_pos e2, if_pos (by omega)]
    ·rw [if_neg e2, if_neg (by omega)]
   rw [he]
   have hrow := h.bd.row j hj
   refine ⟨hrow.1, ?_⟩
   rcases hrow.2 with h0 | ⟨g, cap, cur, hv', h1, hgg, h2⟩
   ·exact Or.inl h0
   ·exact Or.inr ⟨g, cap, cur, hv', h1, (hO.block g (Array.getElem?_eq_some_iff.1 hgg).1 (hlt j hj g (by rw [hv']; rfl)).2).trans hgg, h2⟩
 ·by_cases e : j = i
  ·subst e
   have ek : ¬ k = j := fun e => hjk e.symm
   simp only [if_pos, if_neg ek] at hjg ⊢
   intro hkg
   have := hg g hjg
   have := (hlt k hk g hkg).1
   omega
  ·simp only [if_neg e] at hjg
   by_cases ek : k = i
   ·subst ek
    simp only [if_pos]
    intro hkg
    have := hg g hkg
    have := (hlt j hj g hjg).1
    omega
   ·simp only [if_neg ek]
    exact h.bd.dvs j k hj hk hjk g hjg
 ·by_cases e : j = i
  ·simp only [if_pos e] at hjg
   exact h.bk.sto.env.sz g (hg g hjg)
  ·simp only [if_neg e] at hjg
   exact h.vB j hj g hjg
 ·rw [if_neg (by omega)]
  exact h.nil j (by omega)
 ·rcases hk with e | ⟨j, hj, hjg⟩
  ·exact h.far k (Or.inl e)
  ·by_cases e : j = i
   ·simp only [if_pos e] at hjg
    have := hg k hjg
    exact ⟨fun q => by have := h.bk.own_size q; omega, fun q => by have := h.st.own_lt q; omega⟩
   ·simp only [if_neg e] at hjg
    exact h.far k (Or.inr ⟨j, hj, hjg⟩)
theorem CpyAt.done {B : Nat -> Prop} {b s n : Nat} {σ : St} {c s2 n2 D dn : Nat} {M : Mem} {vs : Nat -> Value} {M2 : Mem} {v2 : Nat -> Value} {w : World} (h : CpyAt B b s n σ c s2 n2 D dn 5 M vs M2 v2 w) : TwoB B b s n σ c D s2 n2 σ c w := by
 refine ⟨M, vs, dn, M2, v2, dn, h.bk, ⟨⟨h.bk.sto.env, h.st, h.ow⟩, h.bd.ext (fun j hj => ⟨enC_all σ j hj, rfl⟩), h.bB, h.vB, h.bk.ks, h.bk.tm, h.bk.lg, h.bk.ls, h.bk.dn⟩, ?_⟩
 rintro k hk (h1 | h1)
 ·exact h.ap k hk h1
 ·exact (h.far k h1).1 hk
theorem enC_cells (s2 : Nat) (σ : St) (v2 : Nat -> Value) (t d : Nat) (r : Value) (i : Nat) (hi : i < 5) : (((((bookCells s2 (enC σ i) v2 t d).setIfInBounds (1 + i * 3) (.string ⟨(enK σ i).key.toArray⟩)).setIfInBounds (1 + i * 3 + 1) (.slice none 0 0)).setIfInBounds (1 + i * 3 + 2) (.int .i64 ((enK σ i).last : Nat))).setIfInBounds (1 + i * 3 + 1) r) = bookCells s2 (enC σ (i + 1)) (fun j => if j = i then r else v2 j) t d := by
 rw [bookCells_key _ _ _ _ _ _ i hi, bookCells_vs _ _ _ _ _ _ i hi, bookCells_last _ _ _ _ _ (enK σ i).last _ rfl i hi, bookCells_vs _ _ _ _ _ _ i hi]
 refine bookCells_ext (fun j hj => ?_)
 by_cases e : j = i
 ·subst e
  simp only [if_pos]
  unfold enC
  rw [if_pos (Nat.lt_succ_self _)]
  exact ⟨rfl, rfl, trivial⟩
 ·simp only [if_neg e]
  have he : enC σ (i + 1) j = enC σ i j := by
   unfold enC
   by_cases e2 : j < i
   ·rw [if_pos e2, if_pos (by omega)]
   ·rw [if_neg e2, if_neg (by omega)]
  rw [he]
  exact ⟨rfl, rfl, trivial⟩
theorem CpyAt.stored {B : Nat -> Prop} {b s n : Nat} {σ : St} {c s2 n2 D dn i : Nat} {M : Mem} {vs : Nat -> Value} {M2 : Mem} {v2 : Nat -> Value} {w : World} (h : CpyAt B b s n σ c s2 n2 D dn i M vs M2 v2 w) (hi : i < 5) :
 (((w.setCell ⟨D, 1 + i * 3, none⟩ (.string ⟨(enK σ i).key.toArray⟩)).setCell ⟨D, 1 + i * 3 + 1, none⟩ (.slice none 0 0)).setCell ⟨D, 1 + i * 3 + 2, none⟩ (.int .i64 ((enK σ i).last : Nat))).drew.cell? ⟨b, 1 + i * 3, none⟩ = some (.string ⟨(enK σ i).key.toArray⟩) /\
 (((w.setCell ⟨D, 1 + i * 3, none⟩ (.string ⟨(enK σ i).key.toArray⟩)).setCell ⟨D, 1 + i * 3 + 1, none⟩ (.slice none 0 0)).setCell ⟨D, 1 + i * 3 + 2, none⟩ (.int .i64 ((enK σ i).last : Nat))).drew.cell? ⟨b, 1 + i * 3 + 2, none⟩ = some (.int .i64 ((enK σ i).last : Nat)) /\
 (((w.setCell ⟨D, 1 + i * 3, none⟩ (.string ⟨(enK σ i).key.toArray⟩)).setCell ⟨D, 1 + i * 3 + 1, none⟩ (.slice none 0 0)).setCell ⟨D, 1 + i * 3 + 2, none⟩ (.int .i64 ((enK σ i).last : Nat))).drew.cell? ⟨b, 1 + i * 3 + 1, none⟩ = some (vs i) /\
 (((w.setCell ⟨D, 1 + i * 3, none⟩ (.string ⟨(enK σ i).key.toArray⟩)).setCell ⟨D, 1 + i * 3 + 1, none⟩ (.slice none 0 0)).setCell ⟨D, 1 + i * 3 + 2, none⟩ (.int .i64 ((enK σ i).last : Nat))).drew.cell? ⟨D, 1 + i * 3 + 1, none⟩ = some (.slice none 0 0) /\
 (((w.setCell ⟨D, 1 + i * 3, none⟩ (.string ⟨(enK σ i).key.toArray⟩)).setCell ⟨D, 1 + i * 3 + 1, none⟩ (.slice none 0 0)).setCell ⟨D, 1 + i * 3 + 2, none⟩ (.int .i64 ((enK σ i).last : Nat))).drew.frozen? ⟨D, 1 + i * 3 + 1, none⟩ = false /\
 ∃ ro rn rc W2, AppOk Tryz.prog 26 26 (((w.setCell ⟨D, 1 + i * 3, none⟩ (.string ⟨(enK σ i).key.toArray⟩)).setCell ⟨D, 1 + i * 3 + 1, none⟩ (.slice none 0 0)).setCell ⟨D, 1 + i * 3 + 2, none⟩ (.int .i64 ((enK σ i).last : Nat))).drew.drew (.slice none 0 0) (vs i) /\
  (appR Tryz.prog 26 26 (((w.setCell ⟨D, 1 + i * 3, none⟩ (.string ⟨(enK σ i).key.toArray⟩)).setCell ⟨D, 1 + i * 3 + 1, none⟩ (.slice none 0 0)).setCell ⟨D, 1 + i * 3 + 2, none⟩ (.int .i64 ((enK σ i).last : Nat))).drew.drew (.slice none 0 0) (vs i)).1 = .slice ro rn rc /\
  (appR Tryz.prog 26 26 (((w.setCell ⟨D, 1 + i * 3, none⟩ (.string ⟨(enK σ i).key.toArray⟩)).setCell ⟨D, 1 + i * 3 + 1, none⟩ (.slice none 0 0)).setCell ⟨D, 1 + i * 3 + 2, none⟩ (.int .i64 ((enK σ i).last : Nat))).drew.drew (.slice none 0 0) (vs i)).2 = W2 /\
  W2.cell? ⟨b, 1 + i * 3 + 1, none⟩ = some (vs i) /\ W2.cell? ⟨D, 1 + i * 3 + 1, none⟩ = some (.slice none 0 0) /\ W2.frozen? ⟨D, 1 + i * 3 + 1, none⟩ = false /\ (W2.setCell ⟨D, 1 + i * 3 + 1, none⟩ (.slice ro rn rc)).cell? ⟨b, 1 + i * 3 + 1, none⟩ = some (vs i) /\
  CpyAt B b s n σ c s2 n2 D dn (i + 1) M vs M2 (fun j => if j = i then .slice ro rn rc else v2 j) (W2.setCell ⟨D, 1 + i * 3 + 1, none⟩ (.slice ro rn rc)) /\ Off B w (W2.setCell ⟨D, 1 + i * 3 + 1, none⟩ (.slice ro rn rc)) := by
 have hDb : D ≠ b := fun e => (h.far D (Or.inl rfl)).1 (by rw [e]; exact Or.inr (Or.inl rfl))
 have hO : Off (fun k => k = D) w (((w.setCell ⟨D, 1 + i * 3, none⟩ (.string ⟨(enK σ i).key.toArray⟩)).setCell ⟨D, 1 + i * 3 + 1, none⟩ (.slice none 0 0)).setCell ⟨D, 1 + i * 3 + 2, none⟩ (.int .i64 ((enK σ i).last : Nat))).drew :=
  ((((Off.refl (fun k => k = D) w).set D _ _ (Or.inl rfl)).set D _ _ (Or.inl rfl)).set D _ _ (Or.inl rfl)).drew
 have hD : (((w.setCell ⟨D, 1 + i * 3, none⟩ (.string ⟨(enK σ i).key.toArray⟩)).setCell ⟨D, 1 + i * 3 + 1, none⟩ (.slice none 0 0)).setCell ⟨D, 1 + i * 3 + 2, none⟩ (.int .i64 ((enK σ i).last : Nat))).drew.heap[D]? = some (.cells ((((bookCells s2 (enC σ i) v2 σ.time dn).setIfInBounds (1 + i * 3) (.string ⟨(enK σ i).key.toArray⟩)).setIfInBounds (1 + i * 3 + 1) (.slice none 0 0)).setIfInBounds (1 + i * 3 + 2) (.int .i64 ((enK σ i).last : Nat))) 31 (0, 0)) :=
  heap_set (heap_set (heap_set h.bd.blk))
 generalize (((w.setCell ⟨D, 1 + i * 3, none⟩ (.string ⟨(enK σ i).key.toArray⟩)).setCell ⟨D, 1 + i * 3 + 1, none⟩ (.slice none 0 0)).setCell ⟨D, 1 + i * 3 + 2, none⟩ (.int .i64 ((enK σ i).last : Nat))).drew = X at hO hD ⊢
 have hB : ∀ k, k = D -> B k := fun k e => by rw [e]; exact h.bB
 have fD := h.far D (Or.inl rfl)
 have hbk := h.bk.offS hO hB (fun k hk e => fD.1 (by rw [<- e]; exact hk))
 have hck := hbk.bk.ck i hi
 have hrow := row_below (hbk.bk.row i hi) (Below.refl X.heap.size X).drew
 obtain ⟨r, W2, hok, hr1, hr2, hr, hg, hb⟩ := row_copy X.drew (vs i) (enK σ i).vers hrow (by have := (hbk.facts i).1; omega)
 obtain ⟨ro, rn, rc, rfl⟩ : ∃ ro rn rc, r = .slice ro rn rc := by
  rcases hr.2 with ⟨h0, _⟩ | ⟨g, cap, cur, hv', _⟩
  ·exact ⟨_, _, _, h0⟩
  ·exact ⟨_, _, _, hv'⟩
 have hb' : Below X.heap.size X W2 := (Below.refl X.heap.size X).drew.trans hb
 have hbl : b < X.heap.size := hbk.bk.lt
 have hDl : D < X.heap.size := (Array.getElem?_eq_some_iff.1 hD).1
 have hD2 : W2.heap[D]? = _ := (hb'.block D hDl).trans hD
 have hb2 : W2.heap[b]? = _ := (hb'.block b hbl).trans hbk.bk.blk
 have hn : (bookCells s2 (enC σ i) v2 σ.time dn).size = 18 := rfl
 have hc1 : ((((bookCells s2 (enC σ i) v2 σ.time dn).setIfInBounds (1 + i * 3) (.string ⟨(enK σ i).key.toArray⟩)).setIfInBounds (1 + i * 3 + 1) (.slice none 0 0)).setIfInBounds (1 + i * 3 + 2) (.int .i64 ((enK σ i).last : Nat)))[1 + i * 3 + 1]? = some (.slice none 0 0) := by
  rw [Array.getElem?_setIfInBounds_ne (by omega), Array.getElem?_setIfInBounds_self_of_lt (by simp [hn]; omega)]
 have hWb : (W2.setCell ⟨D, 1 + i * 3 + 1, none⟩ (.slice ro rn rc)).heap[b]? = some (.cells (bookCells s (enK σ) vs σ.time dn) 31 (0, 0)) := by
  rw [<- hb2]
  simp [World.setCell, Array.getElem?_modify, hDb]
 have hck2 := bookCells_get s (enK σ) vs σ.time dn i hi
 have hO2 : Off (fun k => k = D) w (W2.setCell ⟨D, 1 + i * 3 + 1, none⟩ (.slice ro rn rc)) := (hO.trans (Off.of_below hb')).set D _ _ (Or.inl rfl)
 refine ⟨hck.1, hck.2.2, hck.2.1, ?_, ?_, ro, rn, rc, W2, hok, hr1, hr2, ?_, ?_, ?_, ?_, ?_, hO2.mono hB⟩
 ·simp only [World.cell?, hD]
  exact hc1
 ·simp [World.frozen?, hD]
 ·simp only [World.cell?, hb2]
  exact hck2.2.1
 ·simp only [World.cell?, hD2]
  exact hc1
 ·simp [World.frozen?, hD2]
 ·simp only [World.cell?, hWb]
  exact hck2.2.1
 ·refine h.next hi hO2 (r := .slice ro rn rc) ?_ ?_ (fun g hgg => ?_)
  ·rw [heap_set hD2, enC_cells _ _ _ _ _ _ i hi]
  ·refine ⟨hr.1, ?_⟩
   rcases hr.2 with h0 | ⟨g, cap, cur, hv', h1, hgg, h2⟩
   ·exact Or.inl h0
   ·have hgD : D ≠ g := fun e => by
     have := hg g (by rw [hv']; rfl)
     have hs : X.drew.heap.size = X.heap.size := rfl
     omega
    refine Or.inr ⟨g, cap, cur, hv', h1, ?_, h2⟩
    rw [<- hgg]
    simp [World.setCell, Array.getElem?_modify, hgD]
  ·have := hg g hgg
   have hs : X.drew.heap.size = X.heap.size := rfl
   have := hO.size
   omega
end Go.Proofs.YtmehkneofinmiabGreatDoor

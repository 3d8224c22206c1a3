/-
  Texts of this proof, part 40.
-/
import Derived.Test.YtmehkneofinmiabGreatDoorP39
import Derived.Test.YtmehkneofinmiabGreatDoorRows
import Derived.Test.YtmehkneofinmiabGreatDoorProg
import Derived.Lib.LaidTab
import Derived.Shelf.Vars
import Derived.OpenShut
import Derived.ProofKit
import Derived.Conc.HoldsTime
import Derived.Handed
import Derived.Deep.DeepHandedRow
import Derived.Deep.RegionHeld3
import Derived.Deep.AppendLies
namespace Go.Proofs.YtmehkneofinmiabGreatDoor
theorem findE_cons (a : Ent) (l : List Ent) (key : List UInt8) : findE (a :: l) key = if a.key = key then a else findE l key := by
  unfold findE
  rw [List.find?_cons]
  by_cases h : a.key = key
  · simp [h]
  · have : (a.key == key) = false := beq_eq_false_iff_ne.2 h
    rw [this, if_neg h]
theorem findE_put {l : List Ent} (hr : RiseL l) (E : Ent) (key : List UInt8) : findE (putE l E) key = if E.key = key then E else findE l key := by
  induction l with
  | nil =>
    rw [show putE [] E = [E] from rfl, findE_cons]
  | cons a l ih =>
    have ⟨h1, h2⟩ := List.pairwise_cons.1 hr
    rw [putE_cons]
    by_cases e : a.key = E.key
    · rw [if_pos e, findE_cons]
      by_cases hk : E.key = key
      · rw [if_pos hk, if_pos hk]
      · rw [if_neg hk, if_neg hk, findE_cons, if_neg (by rw [e]; exact hk)]
    · rw [if_neg e]
      by_cases hlt : cmpB E.key a.key = -1
      · rw [if_pos hlt, findE_cons]
      · rw [if_neg hlt, findE_cons, ih h2]
        by_cases ha : a.key = key
        · rw [if_pos ha, if_neg (by rw [← ha]; exact fun h => e h.symm), findE_cons, if_pos ha]
        · rw [if_neg ha, findE_cons, if_neg ha]
theorem condF0 (wt : Bool) (v : Option Ver) : condF wt k0 v = 0 := by
  unfold condF k0 hasD Jd.jd
  simp
theorem chg_put {σ : St} {key body : List UInt8} (h1 : ¬ 20 ≤ (findE σ.ents key).vers.length) (h2 : (findE σ.ents key).last ≠ 0 ∨ σ.ents.length < 60) :
    chgF σ key 1 ((findE σ.ents key).last + 1) body = ((if (curOf (findE σ.ents key)).isSome then 200 else 201), some ⟨σ.time, putE σ.ents ⟨key, (findE σ.ents key).last + 1, (findE σ.ents key).vers ++ [⟨(findE σ.ents key).last + 1, σ.time, false, body⟩]⟩, σ.log ++ recF 1 σ.time key ((findE σ.ents key).last + 1) body⟩) := by
  unfold chgF
  rw [if_neg (by unfold obstF; simp; omega), if_neg (by omega)]
  unfold succF applyF
  rw [if_pos rfl, if_neg (show ¬ (1 : Nat) = 3 by decide), findE_key]
  rfl
theorem ans_of {σ : St} {l body : List UInt8} {m : Nat} {t : Tgt} {k : Cnd} (hr : readF l = .ok (m, t, k, body)) (h0 : t.kind ≠ 0) : ansF σ l = askF σ m t k body := by
  unfold ansF
  rw [hr]
  simp only
  rw [if_neg h0]
theorem ask_yes {σ σ' : St} {m : Nat} {t : Tgt} {k : Cnd} {body : List UInt8} {told a n : Nat} {bd : List UInt8} (h3 : t.kind ≠ 3) (hw : isW m = true) (h : condF true k (aimF (findE σ.ents t.key) t) = 0) (hn : wantF (findE σ.ents t.key) m t body = (a, n, bd)) (hc : chgF σ t.key a n bd = (told, some σ')) : askF σ m t k body = (⟨told, if m = 2 then [⟨[69, 84, 97, 103], qTag body⟩, ⟨[86, 101, 114, 115, 105, 111, 110], Lib.decDigits n⟩] else [⟨[86, 101, 114, 115, 105, 111, 110], Lib.decDigits n⟩], []⟩, σ') := by
  unfold askF
  rw [if_neg h3, hw, if_neg (by simp [h]), if_pos rfl, hn]
  simp only [hc]
def eTag : List UInt8 := [69, 84, 97, 103]
def versN : List UInt8 := [86, 101, 114, 115, 105, 111, 110]
theorem put_done {σ : St} {l key body : List UInt8} {k : Cnd} (hr : readF l = .ok (2, ⟨1, key, 0⟩, k, body)) (h : condF true k (curOf (findE σ.ents key)) = 0) (h1 : ¬ 20 ≤ (findE σ.ents key).vers.length) (h2 : (findE σ.ents key).last ≠ 0 ∨ σ.ents.length < 60) :
    ansF σ l = (⟨if (curOf (findE σ.ents key)).isSome then 200 else 201, [⟨eTag, qTag body⟩, ⟨versN, Lib.decDigits ((findE σ.ents key).last + 1)⟩], []⟩,
      ⟨σ.time, putE σ.ents ⟨key, (findE σ.ents key).last + 1, (findE σ.ents key).vers ++ [⟨(findE σ.ents key).last + 1, σ.time, false, body⟩]⟩, σ.log ++ recF 1 σ.time key ((findE σ.ents key).last + 1) body⟩) :=
  (ans_of hr (by simp)).trans (ask_yes (by simp) rfl h rfl (chg_put h1 h2))
end Go.Proofs.YtmehkneofinmiabGreatDoor

namespace Go.Proofs.YtmehkneofinmiabGreatDoor
open Go.RowKit
structure Env (B : Nat) (w : World) : Prop where
  mx : MaxIs w
  tb : Tbl w
  hm : 1 < B
  hi : High B
  sz : B ≤ w.heap.size
theorem Env.high {B : Nat} {w : World} (h : Env B w) {k : Nat} (hk : B ≤ k) : High k := ⟨Nat.lt_of_lt_of_le h.hi.1 hk, Nat.lt_of_lt_of_le h.hi.2 hk⟩
theorem Env.off {B : Nat} {w x : World} (h : Env B w) (ho : Off (fun k => B ≤ k) w x) : Env B x := by
  refine ⟨?_, h.tb.off ho (fun k hk => h.high hk), h.hm, h.hi, Nat.le_trans h.sz ho.size⟩
  obtain ⟨m, hm⟩ := h.mx
  refine ⟨m, ?_⟩
  have hlt := cell_lt hm
  simp only [World.cell?] at hm ⊢
  rw [ho.block _ hlt (by have := h.hm; omega)]
  exact hm
theorem Env.made {w : World} (hM : MaxIs w) (hT : Tbl w) : Env w.heap.size w := by
  obtain ⟨m, hm⟩ := hM
  exact ⟨⟨m, hm⟩, hT, cell_lt hm, hT.high (Nat.le_refl _), Nat.le_refl _⟩
theorem Env.below {B : Nat} {w x : World} (h : Env B w) (hb : Below w.heap.size w x) : Env B x := h.off (Off.of_below hb)
structure Sto (B : Nat) (w : World) (s n : Nat) (σ : St) (M : Mem) : Prop where
  env : Env B w
  st : StoreAt w s n 0 (fun _ => 0) σ M
  own : ∀ k, M.own s n k → B ≤ k
theorem Sto.below {B : Nat} {w x : World} {s n : Nat} {σ : St} {M : Mem} (h : Sto B w s n σ M) (hb : Below w.heap.size w x) : Sto B x s n σ M := ⟨h.env.below hb, h.st.below hb, h.own⟩
theorem text_len {a : Ans} (h : AnsOK a) : (textF a.told a.flds a.body).length ≤ 1000000000 := by
  obtain ⟨h1, h2, h3, h4⟩ := h
  have h5 := flatU_len a.flds fldText 2004 (fun f hf => by have := h3 f hf; simp [fldText]; omega)
  have h6 : a.flds.length * 2004 ≤ 1000 * 2004 := Nat.mul_le_mul_right _ (by omega)
  have h7 := dec_len10 (n := a.told) (k := 5) (by omega) (by omega)
  simp only [textF, List.length_append, List.length_cons, List.length_nil]
  omega
theorem do_sto {B : Nat} {w : World} {s n : Nat} {σ : St} {M : Mem} (l : List UInt8) (h : Sto B w s n σ M) (hlog : σ.log.length < 140000000000000) (hl : l.length ≤ 9223372036854775807) {a : Ans} {σ' : St} (ha : ansF σ l = (a, σ')) :
    Calls Tryz.prog 11 #[.pointer (some ⟨s, 0, none⟩), .string ⟨l.toArray⟩] w fun e w' => e = .returned (.string ⟨(textF a.told a.flds a.body).toArray⟩) ∧ (textF a.told a.flds a.body).length ≤ 1000000000 ∧ ∃ M', Sto B w' s n σ' M' ∧ Off (M.own s n) w w' ∧ Off (fun k => B ≤ k) w w' := by
  have hok := ans_ok h.st hlog l
  rw [ha] at hok
  refine (do_store l w h.st h.env.mx h.env.tb (fun k hk => h.env.high (h.own k hk)) (by omega) hl).mono ?_
  rintro e w' ⟨rfl, M', hS, hO, hW⟩
  have hd : doF σ l = (textF a.told a.flds a.body, σ') := by
    unfold doF
    rw [ha]
  rw [hd] at hS
  rw [hd]
  have hO2 : Off (fun k => B ≤ k) w w' := hO.mono h.own
  exact ⟨rfl, text_len hok, M', ⟨h.env.off hO2, hS, fun k hk => (hW k hk).elim (h.own k) (fun h1 => Nat.le_trans h.env.sz h1)⟩, hO, hO2⟩
theorem own_book {w : World} {s n : Nat} {rd : Int} {lk : Nat → Int} {σ : St} {M : Mem} (h : StoreAt w s n rd lk σ M) {k : Nat} (hk : M.own s n k) {c : Array Value} {f : Nat × Nat} : w.heap[k]? ≠ some (.cells c 31 f) ∧ w.heap[k]? ≠ some (.cells c 42 f) := by
  constructor
  all_goals
    intro e
    rcases hk with rfl | rfl | ⟨i, hi, hb⟩ | ⟨i, hi, hb⟩ | ⟨i, p, hi, hp, hb⟩ | hb
    · exact ne_of_types h.blk e (by decide) rfl
    · obtain ⟨cs, hc, _⟩ := h.row
      exact ne_of_types hc e (by decide) rfl
    · exact own_far (h.kt i hi).k.row e (by decide) hb
    · exact ne_of_types (h.ent i hi k hb).blk e (by decide) rfl
    · exact own_far (h.ent i hi p hp).row e (by decide) hb
    · exact own_far h.jrn e (by decide) hb
def enK (σ : St) (i : Nat) : Ent := findE σ.ents (nmK i)
theorem nmK_inj : ∀ i, i < 5 → ∀ j, j < 5 → nmK i = nmK j → i = j := by
  refine five ?_ ?_ ?_ ?_ ?_ <;> refine five ?_ ?_ ?_ ?_ ?_ <;> decide
theorem nmK_ok : ∀ i, keyOK (nmK i) = true
  | 0 => by decide
  | 1 => by decide
  | 2 => by decide
  | 3 => by decide
  | _ + 4 => by show keyOK [97, 95] = true; decide
theorem nodup_le : ∀ {l m : List (List UInt8)}, l.Pairwise (· ≠ ·) → (∀ x ∈ l, x ∈ m) → l.length ≤ m.length
  | [], _, _, _ => Nat.zero_le _
  | a :: l, m, h, hs => by
    have ⟨h1, h2⟩ := List.pairwise_cons.1 h
    have ha : a ∈ m := hs a (by simp)
    have := nodup_le (l := l) (m := m.erase a) h2 (fun x hx => (List.mem_erase_of_ne (fun e => h1 x hx e.symm)).2 (hs x (by simp [hx])))
    rw [List.length_erase_of_mem ha] at this
    have : 0 < m.length := List.length_pos_of_mem ha
    simp
    omega
structure Bk (B : Nat) (w : World) (b s n : Nat) (σ : St) (M : Mem) (vs : Nat → Value) (d c : Nat) : Prop where
  sto : Sto B w s n σ M
  bk : BookAt w b s (enK σ) vs σ.time d
  bB : B ≤ b
  vB : ∀ i, i < 5 → ∀ g, (vs i).ownBlock = some g → B ≤ g
  ks : ∀ E ∈ σ.ents, ∃ i, i < 5 ∧ E.key = nmK i
  tm : σ.time ≤ c * 5000
  lg : σ.log.length ≤ c * 1000
  ls : ∀ i, (enK σ i).last ≤ c
  dn : d ≤ c
theorem Bk.many {B : Nat} {w : World} {b s n : Nat} {σ : St} {M : Mem} {vs : Nat → Value} {d c : Nat} (h : Bk B w b s n σ M vs d c) : σ.ents.length < 60 := by
  have hr := h.sto.st.rise
  have := nodup_le (l := σ.ents.map Ent.key) (m := [nmK 0, nmK 1, nmK 2, nmK 3, nmK 4]) (by
    rw [List.pairwise_map]
    exact List.Pairwise.imp (fun h => cmpB_ne h) hr) (fun x hx => by
      obtain ⟨E, hE, rfl⟩ := List.mem_map.1 hx
      obtain ⟨i, hi, e⟩ := h.ks E hE
      rw [e]
      revert i
      exact fun i hi _ => (five (P := fun i => nmK i ∈ [nmK 0, nmK 1, nmK 2, nmK 3, nmK 4]) (by simp) (by simp) (by simp) (by simp) (by simp)) i hi)
  simp at this
  omega
theorem Bk.below {B : Nat} {w x : World} {b s n : Nat} {σ : St} {M : Mem} {vs : Nat → Value} {d c : Nat} (h : Bk B w b s n σ M vs d c) (hb : Below w.heap.size w x) : Bk B x b s n σ M vs d c :=
  ⟨h.sto.below hb, h.bk.below hb, h.bB, h.vB, h.ks, h.tm, h.lg, h.ls, h.dn⟩
theorem Bk.more {B : Nat} {w : World} {b s n : Nat} {σ : St} {M : Mem} {vs : Nat → Value} {d c : Nat} (h : Bk B w b s n σ M vs d c) : Bk B w b s n σ M vs d (c + 1) :=
  ⟨h.sto, h.bk, h.bB, h.vB, h.ks, Nat.le_trans h.tm (Nat.mul_le_mul_right _ (Nat.le_succ _)), Nat.le_trans h.lg (Nat.mul_le_mul_right _ (Nat.le_succ _)), fun i => Nat.le_succ_of_le (h.ls i), Nat.le_succ_of_le h.dn⟩
theorem BookAt.did {w x : World} {b s n : Nat} {en : Nat → Ent} {vs : Nat → Value} {t d : Nat} {σ : St} {M : Mem} (h : BookAt w b s en vs t d) (hS : StoreAt w s n 0 (fun _ => 0) σ M) (ho : Off (M.own s n) w x) : BookAt x b s en vs t d :=
  h.off ho (fun hk => (own_book hS hk).1 h.blk) (fun i hi g hg hk => by
    obtain ⟨cur, hc⟩ := own_block (h.row i hi) hg
    exact (own_book hS hk).2 hc)
end Go.Proofs.YtmehkneofinmiabGreatDoor

namespace Go.Proofs.YtmehkneofinmiabGreatDoor
open Go.ChangeShapes Go.WideShapes Go.ChangeAt Go.RowKit
theorem own : ownKnob Tryz.prog.godebug = none := by kernel_rfl
theorem gBru : Tryz.prog.globalNamed "math/bits.deBruijn64tab" = some 3 := by kernel_rfl
theorem gBruType : (Tryz.prog.globals[3]?).map (·.type) = some 304 := by kernel_rfl
theorem cellsBru : Tryz.prog.cellsOf 304 = 64 := by kernel_rfl
theorem cellsU8 : Tryz.prog.cellsOf 5 = 1 := by kernel_rfl
theorem gPowN : Tryz.prog.globalNamed "internal/strconv.uint64pow10" = some 0 := by kernel_rfl
theorem gPowType : (Tryz.prog.globals[0]?).map (·.type) = some 249 := by kernel_rfl
theorem cellsPow : Tryz.prog.cellsOf 249 = 20 := by kernel_rfl
theorem cellsU64 : Tryz.prog.cellsOf 194 = 1 := by kernel_rfl
def bruNs : List Int := [0, 1, 56, 2, 57, 49, 28, 3, 61, 58, 42, 50, 38, 29, 17, 4, 62, 47, 59, 36, 45, 43, 51, 22, 53, 39, 33, 30, 24, 18, 12, 5, 63, 55, 48, 27, 60, 41, 37, 16, 46, 35, 44, 21, 52, 32, 23, 11, 54, 26, 40, 15, 34, 20, 31, 10, 25, 14, 19, 9, 13, 8, 7, 6]
theorem bru_data : Rows.laid_math_bits_deBruijn64tab = (Lib.tabData .u8 bruNs : DataW Unit) := by kernel_rfl
theorem pow_data : Rows.laid_internal_strconv_uint64pow10 = (Lib.tabData .u64 Lib.pow10Tab : DataW Unit) := by kernel_rfl
theorem maxIs {W : World} (h : W.ShapedOpen Tryz.prog) : MaxIs W :=
  Go.Proofs.cell_of_shapedOpen_int (zero := #[.int .i64 0]) (t := 3) h (of_decide_eq_true (by kernel_rfl)) (by kernel_rfl) rfl (by kernel_rfl) (by kernel_rfl) Tryz.underlying3
def laids : List (String × DataW Unit) := [("math/bits.deBruijn32tab", Rows.laid_math_bits_deBruijn32tab), ("math/bits.deBruijn64tab", Rows.laid_math_bits_deBruijn64tab), ("internal/strconv.uint64pow10", Rows.laid_internal_strconv_uint64pow10), ("unicode/utf8.acceptRanges", Rows.laid_unicode_utf8_acceptRanges), ("unicode.CaseRanges", Rows.laid_unicode_CaseRanges), ("unicode/utf8.first", Rows.laid_unicode_utf8_first)]
set_option maxRecDepth 100000 in
theorem tables {W : World} (h : laidMetH Tryz.prog laids W) : Tbl W := by
  have h' : laidMet Tryz.prog laids W := h
  obtain ⟨ps, ⟨_, _, _, _, _, _, _, _, _, _, t1, _⟩, _⟩ := h'
  obtain ⟨_, _, _, _, _, _, _, _, _, _, t2, _⟩ := id t1
  obtain ⟨g', t', cs, fuel, p, q, hg', ht', hvar, hd, _, _⟩ := t1
  obtain rfl := Option.some.inj (gBru.symm.trans hg')
  obtain rfl := Option.some.inj (gBruType.symm.trans ht')
  rw [bru_data] at hd
  have tab : Lib.TabIs Tryz.prog W "math/bits.deBruijn64tab" .u8 bruNs := by
    unfold Lib.TabIs
    rw [hvar, ← Lib.cells_of_tab Tryz.underlying304 Tryz.underlying5 cellsU8 cellsBru hd]
  obtain ⟨g2, u2, cs2, fuel2, p2, q2, hg2, ht2, hvar2, hd2, _, _⟩ := t2
  obtain rfl := Option.some.inj (gPowN.symm.trans hg2)
  obtain rfl := Option.some.inj (gPowType.symm.trans ht2)
  rw [pow_data] at hd2
  have tab2 : Lib.TabIs Tryz.prog W "internal/strconv.uint64pow10" .u64 Lib.pow10Tab := by
    unfold Lib.TabIs
    rw [hvar2, ← Lib.cells_of_tab Tryz.underlying249 Tryz.underlying194 cellsU64 cellsPow hd2]
  exact ⟨tab.cell gBru 15 (by decide), ⟨tab2, World.block_lt_of_cell? _ _ (tab2.cell gPowN 0 (by decide))⟩⟩
end Go.Proofs.YtmehkneofinmiabGreatDoor

namespace Go.Proofs.YtmehkneofinmiabGreatDoor
open Go Go.Conc Go.ConcM
theorem good_of_calls {P : Program} {f : FuncId} {args : Array Value} {w : World} {R : Value → World → Prop} (h : Calls P f args w fun | .returned v, w' => R v w' | _, _ => False) (hi : P.inits.idxOf? f = none) :
    ∃ M last o w' t', runNT P (M + 1) (solo (G (Frame.enter P f args .normal) []) w) #[] = (.ended o w', t') ∧ runN P M (solo (G (Frame.enter P f args .normal) []) w) = .next last ∧ step P last = .ended o w' ∧ Conc.Good P R last o w' t' := by
  obtain ⟨n, v, w', fr, hn, hend, hp⟩ := h.done_lone hi
  refine ⟨n, lone fr [] w', .done v, w', (runNT P (n + 1) (lone (Frame.enter P f args .normal) [] w) #[]).2, ?_, hn, step_of_runs hn hend, v, rfl, hp, fun said => (no_race_of_lone P n _ _ hn (by simp [lone]) rfl).2, handedOver_of_lone hn, ⟨?_, rfl⟩, ?_⟩
  · refine Prod.ext ?_ rfl
    rw [runNT_fst]
    exact hend
  · intro g hg
    simp [lone] at hg
  · intro i g hg hi
    cases i with
    | zero => exact absurd rfl hi
    | succ k => simp [lone] at hg
end Go.Proofs.YtmehkneofinmiabGreatDoor

namespace Go.Proofs.YtmehkneofinmiabGreatDoor
open Go Go.Conc Go.ConcM
section
variable {H : Type} {enc : TypeId × Value → H}
theorem leaving_of_row {a : Assume} {C : Checked} {os : Os} {f : FuncId} {fn : Func} {s : ChangeSpec} {F : Stop.Interp} {conds : List PathCond} {apart fresh handsOn : Bool} {laid : List (String × DataW Unit)}
    (own : ownKnob C.prog.godebug = none) (started : os.Started) (noInit : C.prog.inits.idxOf? f = none) (hfn : C.prog.funcs[f]? = some fn)
    (witness : ∃ (w : World) (tape : Tape) (i : Input), w.os = os ∧ (w.forCall tape i).Shaped C.prog ∧ i.vars = [] ∧ Input.okWide C.prog (w.forCall tape i) .any w.heap.size f i ∧
      (OpenSpec.ofChange s).preRow enc C.prog fn conds apart laid (w.forCall tape i).memory i.args ∧ a.holds C.prog (lone (Frame.enter C.prog f i.args .normal) [] (w.forCall tape i)))
    (contract : ∀ (W : World) (base : Nat) (args : Array Value) (ds gs : List (DataW H)) (before : List MemPlace),
      (∀ (j : Nat) t v, fn.params[j]? = some t → args[j]? = some v → Value.okWide C.prog W .any base t v) →
      DataW.Whole enc C.prog fn.params.toList s.vars apart W args.toList ds gs before →
      laidMetH C.prog laid W →
      W.ShapedOpen C.prog →
      Calls C.prog f args W fun e W' => ∃ v, e = .returned v ∧ s.post enc C.prog fn apart fresh handsOn false W args v W' ∧ W'.os = W.os) :
    ReturnsInLeavingWide a C os f .any ((OpenSpec.ofChange s).preRow enc C.prog fn conds apart laid) ((OpenSpec.ofChange s).postWith enc C.prog fn F (outsideKept [.timePasses]) apart fresh handsOn) := by
  refine returnsInLeavingWide_of_good own started witness ?_
  intro w tape i _ hsh _ hok hpre hholds
  obtain ⟨_, _, _, fn', hfn', _, _, _, _, hval⟩ := hok
  have e : fn' = fn := Option.some.inj (hfn'.symm.trans hfn)
  subst e
  obtain ⟨⟨hp, hl⟩, hz⟩ := hpre
  obtain ⟨ds, gs, before, hw, hc, hk⟩ := OpenSpec.pre_parts hp
  have hw' := DataW.Whole.of_heap (w' := w.forCall tape i) (by rfl) hw
  have hcall := contract (w.forCall tape i) w.heap.size i.args ds gs before hval hw' (hl.of_heap (by rfl)) hsh
  obtain ⟨M, last, o, w', t', h1, h2, h3, h4⟩ := good_of_calls (R := fun v W' => s.post enc C.prog fn' apart fresh handsOn false (w.forCall tape i) i.args v W' ∧ W'.os = (w.forCall tape i).os) (hcall.mono fun e W' ⟨v, he, hp⟩ => by subst he; exact hp) noInit
  obtain ⟨v, e, hp, r1, r2, r3, r4⟩ := h4
  refine ⟨M, last, o, w', t', h1, h2, h3, v, e, postWith_blind (postWith_of_post (?_ : s.post enc C.prog fn' apart fresh handsOn false (w.forCall tape i) i.args v { w' with os := (w.forCall tape i).os }) ?_), r1, r2, r3, r4⟩
  · have e2 : ({ w' with os := (w.forCall tape i).os } : World) = w' := by rw [← hp.2]
    rw [e2]
    exact hp.1
  · rw [hp.2]
    exact ⟨0, rfl⟩
end
end Go.Proofs.YtmehkneofinmiabGreatDoor

namespace Go.Proofs.YtmehkneofinmiabGreatDoor
open Go.RowKit
def putM : List UInt8 := [80, 85, 84]
end Go.Proofs.YtmehkneofinmiabGreatDoor

namespace Go.Proofs.YtmehkneofinmiabGreatDoor
open Go.RowKit
theorem bookCells_ext {s : Nat} {en en' : Nat → Ent} {vs vs' : Nat → Value} {t d : Nat} (h : ∀ j, j < 5 → (en j).key = (en' j).key ∧ (en j).last = (en' j).last ∧ vs j = vs' j) : bookCells s en vs t d = bookCells s en' vs' t d := by
  have h0 := h 0 (by omega)
  have h1 := h 1 (by omega)
  have h2 := h 2 (by omega)
  have h3 := h 3 (by omega)
  have h4 := h 4 (by omega)
  simp only [bookCells, h0, h1, h2, h3, h4]
theorem BookAt.ext {w : World} {b s : Nat} {en en' : Nat → Ent} {vs vs' : Nat → Value} {t d : Nat} (h : BookAt w b s en vs t d) (he : ∀ j, j < 5 → en j = en' j ∧ vs j = vs' j) : BookAt w b s en' vs' t d := by
  refine ⟨?_, fun i hi => ?_, fun i j hi hj => ?_⟩
  · rw [h.blk, bookCells_ext (fun j hj => ?_)]
    rw [(he j hj).1, (he j hj).2]
    exact ⟨rfl, rfl, rfl⟩
  · rw [← (he i hi).1, ← (he i hi).2]
    exact h.row i hi
  · rw [← (he i hi).2, ← (he j hj).2]
    exact h.dvs i j hi hj
theorem BookAt.set {w : World} {b s : Nat} {en en' : Nat → Ent} {vs : Nat → Value} {t d t' d' : Nat} (h : BookAt w b s en vs t d) (j : Nat) (v : Value) (hc : (bookCells s en vs t d).setIfInBounds j v = bookCells s en' vs t' d') (hv : ∀ i, i < 5 → (en' i).vers = (en i).vers) : BookAt (w.setCell ⟨b, j, none⟩ v) b s en' vs t' d' := by
  refine ⟨by rw [heap_set h.blk, hc], fun i hi => ?_, h.dvs⟩
  have hr := h.row i hi
  have hf := own_far hr h.blk (by decide)
  rw [hv i hi]
  refine ⟨hr.1, ?_⟩
  rcases hr.2 with h0 | ⟨g, cap, cur, hv', h1, hg, h2⟩
  · exact Or.inl h0
  · refine Or.inr ⟨g, cap, cur, hv', h1, ?_, h2⟩
    rw [heap_set_far (fun e => hf (by rw [hv', e]; rfl))]
    exact hg
end Go.Proofs.YtmehkneofinmiabGreatDoor

namespace Go.Proofs.YtmehkneofinmiabGreatDoor
def delM : List UInt8 := [68, 69, 76, 69, 84, 69]
def getM : List UInt8 := [71, 69, 84]
theorem key13 {key : List UInt8} (h : keyOK key = true) : ∀ c ∈ 47 :: key, c ≠ 13 := by
  intro c hc
  rcases List.mem_cons.1 hc with rfl | hc
  · decide
  · exact ((key_no h).2.2 c hc).1
theorem read_put0 {key what : List UInt8} (h : keyOK key = true) (hw : what.length < 100) : readF (reqB putM (47 :: key) [] what) = .ok (2, ⟨1, key, 0⟩, k0, what) :=
  rf6 (by have := (key_no h).2.1; rw [reqB_len]; simp [putM]; omega) (parse_req0 m_put.1 m_put.2 (key13 h) (target_key h)) (by simp) (by omega) rfl
def lineM (t : List UInt8) : List UInt8 := [73, 102, 45, 77, 97, 116, 99, 104, 58, 32] ++ (34 :: t ++ [34])
def lineS : List UInt8 := [73, 102, 45, 78, 111, 110, 101, 45, 77, 97, 116, 99, 104, 58, 32, 42]
theorem enK_put {σ : St} {l : List Ent} (hr : RiseL l) (E : Ent) (i : Nat) (hi : i < 5) (he : E.key = nmK i) (σ' : St) (hs : σ'.ents = putE l E) (hl : σ.ents = l) (j : Nat) (hj : j < 5) : enK σ' j = if j = i then E else enK σ j := by
  unfold enK
  rw [hs, findE_put hr, he, hl]
  by_cases e : j = i
  · rw [if_pos (by rw [e]), if_pos e]
  · rw [if_neg (fun h => e (nmK_inj j hj i hi h.symm)), if_neg e]
end Go.Proofs.YtmehkneofinmiabGreatDoor

namespace Go.Proofs.YtmehkneofinmiabGreatDoor
open Go.RowKit
attribute [local go_sem ↓] appS_is
attribute [local go_sem] app_run
end Go.Proofs.YtmehkneofinmiabGreatDoor

namespace Go.Proofs.YtmehkneofinmiabGreatDoor
open Go.RowKit
attribute [local go_sem ↓] appS_is
attribute [local go_sem] app_run
end Go.Proofs.YtmehkneofinmiabGreatDoor

namespace Go.Proofs.YtmehkneofinmiabGreatDoor
open Go.RowKit
theorem nmK_le (i : Nat) : ∃ j, j < 5 ∧ nmK i = nmK j := by
  match i with
  | 0 => exact ⟨0, by omega, rfl⟩
  | 1 => exact ⟨1, by omega, rfl⟩
  | 2 => exact ⟨2, by omega, rfl⟩
  | 3 => exact ⟨3, by omega, rfl⟩
  | _ + 4 => exact ⟨4, by omega, rfl⟩
theorem Bk.of {B : Nat} {w w' : World} {b s n : Nat} {σ σ' : St} {M M' : Mem} {vs vs' : Nat → Value} {d d' c : Nat} (h : Bk B w b s n σ M vs d c) (hS : Sto B w' s n σ' M') (i : Nat) (hi : i < 5) (E : Ent) (hE : E.key = nmK i) (hs : σ'.ents = putE σ.ents E) (ht : σ'.time = σ.time) (hl : σ'.log.length ≤ σ.log.length + 1000) (hL : E.last ≤ c + 1)
    (hb : BookAt w' b s (fun j => if j = i then E else enK σ j) vs' σ.time d') (hd : d' ≤ c + 1) (hv : ∀ j, j < 5 → ∀ g, (vs' j).ownBlock = some g → B ≤ g) : Bk B w' b s n σ' M' vs' d' (c + 1) := by
  have hen : ∀ j, j < 5 → enK σ' j = if j = i then E else enK σ j := fun j hj => enK_put h.sto.st.rise E i hi hE σ' hs rfl j hj
  refine ⟨hS, ?_, h.bB, hv, fun x hx => ?_, ?_, ?_, fun j => ?_, hd⟩
  · rw [ht]
    exact hb.ext (fun j hj => ⟨(hen j hj).symm, rfl⟩)
  · rw [hs] at hx
    rcases putE_mem hx with rfl | hx
    · exact ⟨i, hi, hE⟩
    · exact h.ks x hx
  · have := h.tm; omega
  · have := h.lg; omega
  · obtain ⟨k, hk, e⟩ := nmK_le j
    have e2 : enK σ' j = enK σ' k := by unfold enK; rw [e]
    rw [e2, hen k hk]
    have := h.ls k
    split
    · exact hL
    · omega
end Go.Proofs.YtmehkneofinmiabGreatDoor

namespace Go.Proofs.YtmehkneofinmiabGreatDoor
open Go.RowKit
attribute [local go_sem ↓] appS_is
attribute [local go_sem] app_run
end Go.Proofs.YtmehkneofinmiabGreatDoor

namespace Go.Proofs.YtmehkneofinmiabGreatDoor
open Go.RowKit
def noneT : List UInt8 := [110, 111, 110, 101]
def pickT (E : Ent) (C : Int) : List UInt8 :=
  match E.vers[(pk C E.vers.length).toNat]? with
  | none => noneT
  | some v => if v.mark then noneT else hexN 16 (fnv v.body)
noncomputable def stepF (σ : St) (k a b c : Int) : St :=
  if pk k 8 ≤ 2 then (ansF σ (reqB putM (47 :: nmK (pk a 5).toNat) [] (txtK b))).2
  else if pk k 8 = 3 then (ansF σ (reqB putM (47 :: nmK (pk a 5).toNat) (lineS ++ crlf) (txtK b))).2
  else if pk k 8 = 4 then (ansF σ (reqB putM (47 :: nmK (pk a 5).toNat) (lineM (pickT (enK σ (pk a 5).toNat) c) ++ crlf) (txtK b))).2
  else if pk k 8 = 5 then (ansF σ (reqB delM (47 :: nmK (pk a 5).toNat) [] [])).2
  else if pk k 8 = 6 then (ansF σ (reqB delM (47 :: (nmK (pk a 5).toNat ++ [63] ++ ([118, 61] ++ Lib.decDigits (1 + (pk b ((enK σ (pk a 5).toNat).last + 2 : Nat)).toNat)))) [] [])).2
  else ⟨σ.time + (pk b 5000).toNat, σ.ents, σ.log⟩
def I64 (x : Int) : Prop := -9223372036854775808 ≤ x ∧ x ≤ 9223372036854775807
end Go.Proofs.YtmehkneofinmiabGreatDoor

namespace Go.Proofs.YtmehkneofinmiabGreatDoor
open Go.RowKit
end Go.Proofs.YtmehkneofinmiabGreatDoor

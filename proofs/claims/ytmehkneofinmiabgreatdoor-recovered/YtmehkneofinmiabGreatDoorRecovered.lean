/-
  Proved: whatever list of steps was played on a store, and however much of its journal is left, what is found in that is the store as it was behind the first of the steps whose records are whole; and it goes on, over whatever list of steps comes after, as that would: the law Recovered holds at every input. Condition: none of ours; the library's tables are tied to its text by the card.
-/
import Derived.Test.YtmehkneofinmiabGreatDoorCards
import Derived.Test.YtmehkneofinmiabGreatDoorTie
import Derived.Test.YtmehkneofinmiabGreatDoorP33
import Derived.Test.YtmehkneofinmiabGreatDoorP34
import Derived.Test.YtmehkneofinmiabGreatDoorP40
import Derived.Test.YtmehkneofinmiabGreatDoorP39
import Derived.Test.YtmehkneofinmiabGreatDoorP49
import Derived.ChangeMaps5
import Derived.Lay
import Derived.Carry
import Derived.ProofKit
namespace Go.Proofs.YtmehkneofinmiabGreatDoor
namespace Recovered
open Go.ChangeShapes Go.WideShapes Go.ChangeAt Go.RowKit Go.Conc Go.ConcM
open Go.ChangeMaps (open_string shut_string)
section
variable {H : Type} {enc : TypeId × Value → H} {P : Program} {w : World} {base : Nat} {spare : Nat → Bool} {held : Bool}
theorem trodAll_five {t t1 t2 t3 t4 : TypeId} {args : Array Value} {ds : List (DataW H)} {ps : List MemPlace} (h : DataW.TrodAll enc P w base spare held [t, t1, t2, t3, t4] args.toList ds ps) :
    ∃ v v1 v2 v3 v4 d d1 d2 d3 d4 p p1 p2 p3 p4, args = #[v, v1, v2, v3, v4] ∧ ds = [d, d1, d2, d3, d4] ∧ ps = p ++ p1 ++ p2 ++ p3 ++ p4 ∧ DataW.Trod enc P w base spare held t v d p ∧ DataW.Trod enc P w base spare held t1 v1 d1 p1 ∧ DataW.Trod enc P w base spare held t2 v2 d2 p2 ∧ DataW.Trod enc P w base spare held t3 v3 d3 p3 ∧ DataW.Trod enc P w base spare held t4 v4 d4 p4 := by
  obtain ⟨v, vs, d, dz, p, q, hargs, rfl, rfl, hd, hr⟩ := trodAll_cons h
  obtain ⟨v1, vs1, d1, dz1, p1, q1, rfl, rfl, rfl, hd1, hr1⟩ := trodAll_cons hr
  obtain ⟨v2, vs2, d2, dz2, p2, q2, rfl, rfl, rfl, hd2, hr2⟩ := trodAll_cons hr1
  obtain ⟨v3, vs3, d3, dz3, p3, q3, rfl, rfl, rfl, hd3, hr3⟩ := trodAll_cons hr2
  obtain ⟨v4, vs4, d4, dz4, p4, q4, rfl, rfl, rfl, hd4, hr4⟩ := trodAll_cons hr3
  obtain ⟨rfl, rfl, rfl⟩ := trodAll_nil hr4
  exact ⟨v, v1, v2, v3, v4, d, d1, d2, d3, d4, p, p1, p2, p3, p4, by cases args; simp_all, rfl, by simp, hd, hd1, hd2, hd3, hd4⟩
theorem trodAll_mk5 {t t1 t2 t3 t4 : TypeId} {v v1 v2 v3 v4 : Value} {d d1 d2 d3 d4 : DataW H} {p p1 p2 p3 p4 : List MemPlace} (h : DataW.Trod enc P w base spare held t v d p) (h1 : DataW.Trod enc P w base spare held t1 v1 d1 p1)
    (h2 : DataW.Trod enc P w base spare held t2 v2 d2 p2) (h3 : DataW.Trod enc P w base spare held t3 v3 d3 p3) (h4 : DataW.Trod enc P w base spare held t4 v4 d4 p4) : DataW.TrodAll enc P w base spare held [t, t1, t2, t3, t4] [v, v1, v2, v3, v4] [d, d1, d2, d3, d4] (p ++ (p1 ++ (p2 ++ (p3 ++ p4)))) := ⟨p, p1 ++ (p2 ++ (p3 ++ p4)), h, trodAll_mk4 h1 h2 h3 h4, rfl⟩
end
set_option maxRecDepth 100000 in
theorem contract (H : Type) (enc : TypeId × Value → H) (W : World) (base : Nat) (args : Array Value) (ds gs : List (DataW H)) (before : List MemPlace)
    (hval : ∀ (j : Nat) t v, Tryz.f7.params[j]? = some t → args[j]? = some v → Value.okWide Tryz.prog W .any base t v)
    (hW : DataW.Whole enc Tryz.prog Tryz.f7.params.toList Rows.recoveredSpec.vars false W args.toList ds gs before) (hL : laidMetH Tryz.prog Rows.recoveredRow.laid W) (hsh : W.ShapedOpen Tryz.prog) :
    Calls Tryz.prog 7 args W fun e W' => ∃ v, e = .returned v ∧ Rows.recoveredSpec.post enc Tryz.prog Tryz.f7 false true false false W args v W' ∧ W'.os = W.os := by
  have hW' := hW
  obtain ⟨p, q, hA0, hV, rfl, hfz, hnd⟩ := hW
  have hA : DataW.TrodAll enc Tryz.prog W 0 (fun _ => true) true Tryz.f7.params.toList args.toList ds p := hA0
  rw [Tryz.params7] at hA hval
  obtain ⟨v0, v1, v2, v3, v4, d0, d1, d2, d3, d4, p0, p1, p2, p3, p4, rfl, rfl, rfl, h0, h1, h2, h3, h4⟩ := trodAll_five hA
  obtain ⟨rfl, rfl⟩ := trodVars_none hV
  obtain ⟨x0, rfl, rfl, rfl, w0⟩ := open_int Tryz.underlying3 (hval 0 3 v0 rfl rfl) h0
  obtain ⟨x1, rfl, rfl, rfl, w1⟩ := open_int Tryz.underlying3 (hval 1 3 v1 rfl rfl) h1
  obtain ⟨x3, rfl, rfl, rfl, w3⟩ := open_int Tryz.underlying3 (hval 3 3 v3 rfl rfl) h3
  obtain ⟨l, hl⟩ := open_steps (hval 2 38 v2 rfl rfl) h2
  obtain ⟨l4, hl4⟩ := open_steps (hval 4 38 v4 rfl rfl) h4
  have y0 := bounds_i64 w0
  have y1 := bounds_i64 w1
  have y3 := bounds_i64 w3
  have hwk := recovered_walk x0 x1 x3 v2 v4 l l4 W (maxIs hsh) (tables hL) y0.1 y0.2 y1.1 y1.2 y3.1 y3.2 hl hl4
  clear hA0
  have hlt := hW'.lt
  simp only [List.append_nil, List.nil_append] at hW' hlt
  have hlt2 := fun q hq => hlt q (List.mem_append_left _ hq)
  have hlt4 := fun q hq => hlt q (List.mem_append_right _ hq)
  refine hwk.mono fun e W' ⟨he, ho⟩ => ?_
  subst he
  have hb : Below W.heap.size W W' := ⟨ho.os, ho.tape, ho.output, ho.size, fun k hk => ho.block k hk (by omega)⟩
  refine ⟨_, rfl, ⟨_, _, _, [], p2 ++ p4, [], hW', ?_, ?_, rfl, hb.frame _, fun h => by cases h⟩, ho.os⟩
  · exact trodAll_mk1 (shut_bool Tryz.underlying4 _)
  · have := trodAll_mk5 (shut_int (enc := enc) (P := Tryz.prog) (w := W') (base := 0) (spare := fun b => decide (b < W.heap.size)) (held := true) Tryz.underlying3 w0) (shut_int (enc := enc) (P := Tryz.prog) (w := W') (base := 0) (spare := fun b => decide (b < W.heap.size)) (held := true) Tryz.underlying3 w1) (Below.trod laidOut (by kernel_rfl) (of_decide_eq_true (by kernel_rfl)) h2 hb hlt2) (shut_int (enc := enc) (P := Tryz.prog) (w := W') (base := 0) (spare := fun b => decide (b < W.heap.size)) (held := true) Tryz.underlying3 w3) (Below.trod laidOut (by kernel_rfl) (of_decide_eq_true (by kernel_rfl)) h4 hb hlt4)
    simp only [List.nil_append] at this
    exact this
def nils : Array Value := #[.int .i64 0, .int .i64 0, .slice none 0 0, .int .i64 0, .slice none 0 0]
theorem reads (os : Os) {H : Type} (enc : TypeId × Value → H) : ∃ places, DataW.whole enc Tryz.prog ((World.laidAll Tryz.prog os Rows.recoveredRow.laid).forCall (fun _ _ => 0) ⟨#[], nils, []⟩).memory Tryz.f7.params.toList Rows.recoveredSpec.vars false nils.toList 8 = some ([.lit (.int .i64 0), .lit (.int .i64 0), .nil, .lit (.int .i64 0), .nil], [], places) :=
  ⟨[], by kernel_rfl⟩
set_option maxRecDepth 100000 in
theorem lifted (os : Os) (started : os.Started) (H : Type) (enc : TypeId × Value → H) (F : Stop.Interp) :
    ReturnsInLeavingWide Rows.recoveredRow.assume Tryz.checked os 7 .any ((OpenSpec.ofChange Rows.recoveredSpec).preRow enc Tryz.prog Tryz.f7 Rows.recoveredRow.domain false Rows.recoveredRow.laid) ((OpenSpec.ofChange Rows.recoveredSpec).postWith enc Tryz.prog Tryz.f7 F (outsideKept [.timePasses]) false true false) := by
  obtain ⟨places, hx⟩ := reads os enc
  refine leaving_of_row (C := Tryz.checked) own started (by kernel_rfl) Tryz.func7
    ⟨World.laidAll Tryz.prog os Rows.recoveredRow.laid, fun _ _ => 0, ⟨#[], nils, []⟩, World.laidAll_os _ _ _, World.shaped_of_ZipB (by kernel_rfl) (by kernel_rfl), rfl, (Input.okWide_of_okWideB (by kernel_rfl)).2,
      OpenSpec.preRow_of_cond 8 hx (by kernel_rfl) (fun k hk => by cases hk) (by kernel_rfl) (laidMet_laidAll _ (by kernel_rfl) (by kernel_rfl)), ?_⟩ ?_
  · simp only [Assume.holds]
    exact ⟨fun h => (by cases h), fun _ _ _ _ => rfl, fun h => (by cases h), fun _ h => (by cases h), fun _ h => (by cases h), fun h => (by cases h)⟩
  · intro W base args ds gs before hval hW hL hsh
    exact contract H enc W base args ds gs before hval hW hL hsh
theorem closed : joinedFacts Tryz.prog 7 Tryz.f7 Rows.recoveredSpec Rows.recoveredRow = true := by kernel_rfl
theorem wrp : Tryz.f7.isWrapper Tryz.prog Rows.recoveredRow.wrapper Rows.recoveredRow.mainSum := by unfold Func.isWrapper; first | (rw [if_pos (by decide +kernel)]; kernel_rfl) | (rw [if_neg (by decide +kernel)]; exact ⟨rfl, rfl⟩)
theorem ins : Tryz.f7.isInstance Tryz.prog Rows.recoveredRow.origin Rows.recoveredRow.targs := of_decide_eq_true (by kernel_rfl)
theorem fnm : Tryz.prog.funcNamed Rows.recoveredRow.func = some 7 := by kernel_rfl
theorem lifts (os : Os) (started : os.Started) (H : Type) (enc : TypeId × Value → H) (F : Stop.Interp) : ReturnsInLeavingWide Rows.recoveredRow.assume Tryz.checked os 7 .any (Rows.recoveredRow.pre enc Tryz.prog Tryz.f7 (OpenSpec.ofChange Rows.recoveredSpec)) ((OpenSpec.ofChange Rows.recoveredSpec).postWith enc Tryz.prog Tryz.f7 F (outsideKept [.timePasses]) false true false) := by
  rw [OpenClaim.pre_eq_preRow]
  exact lifted os started H enc F
theorem said : Rows.RecoveredSaid :=
  OpenClaim.holds_of_wide_leaving_time 7 Tryz.f7 rfl rfl rfl rfl rfl rfl rfl ⟨rfl, rfl, rfl, rfl, rfl⟩ rfl rfl rfl rfl rfl fnm Tryz.func7 closed ins wrp
    (fun os started H enc _ F => lifts os started H enc F)
theorem plain (f : FuncId) (fn : Func) (hf : Tryz.pinned.checked.prog.funcNamed "vault/vaultkeep.Recovered" = some f) (hfn : Tryz.pinned.checked.prog.funcs[f]? = some fn) :
    false = Tryz.pinned.checked.prog.looks [] ∧ ∀ (j : Nat) t, fn.params[j]? = some t → Tryz.pinned.checked.prog.wantsStandIn t = false := by
  obtain rfl : f = 7 := Option.some.inj ((show Tryz.prog.funcNamed "vault/vaultkeep.Recovered" = some 7 by kernel_rfl).symm.trans hf) |>.symm
  obtain rfl : fn = Tryz.f7 := (Option.some.inj (Tryz.func7.symm.trans hfn)).symm
  refine ⟨by kernel_rfl, fun j t ht => ?_⟩
  rw [Tryz.params7] at ht
  have hm := Array.mem_of_getElem? ht
  simp only [List.mem_toArray, List.mem_cons, List.not_mem_nil, or_false] at hm
  rcases hm with rfl | rfl | rfl | rfl | rfl
  · exact (show Tryz.prog.wantsStandIn 3 = false by kernel_rfl)
  · exact (show Tryz.prog.wantsStandIn 3 = false by kernel_rfl)
  · exact (show Tryz.prog.wantsStandIn 38 = false by kernel_rfl)
  · exact (show Tryz.prog.wantsStandIn 3 = false by kernel_rfl)
  · exact (show Tryz.prog.wantsStandIn 38 = false by kernel_rfl)
end Recovered
theorem holds_tied_goes (Lk : Looks) {p : Pinned} {s : OpenSpec} {c : OpenClaim} (kinds : List LaidKind) (tests : Bool) (har : Bool × String) (lk : Bool)
    (hc : c.holds p s) (hw : c.wfByText s = true) (htie : c.laidByTextAt Lk p kinds tests)
    (hst : c.start = .entering) (hnb : c.noBlocks = false ∧ c.again = false) (hm : p.checked.prog.mainIs = some (har.1, har.2.toList)) (hn : (!har.1 && har.2.isEmpty && !lk) = false)
    (hl : ∀ f fn, p.checked.prog.funcNamed c.func = some f → p.checked.prog.funcs[f]? = some fn → lk = p.checked.prog.looks [] ∧ ∀ (j : Nat) t, fn.params[j]? = some t → p.checked.prog.wantsStandIn t = false)
    (hg : true = c.goesBy p.checked.prog) :
    Claim7.holds p (.plain s) { stood := { row := c, standIns := [], harness := har, looks := lk }, kinds := [], alts := [], goes := true, laidByText := true, laidKinds := kinds, laidTests := tests, laidLooks := Lk } := by
  have h6 : ∀ r : OpenClaim, Claim7.isSixth { stood := { row := r, standIns := [], harness := har, looks := lk }, kinds := [] } = false := fun r => by simpa [Claim7.isSixth] using hn
  exact ⟨Claim7.tied_new_at Lk kinds tests (Claim7.new_of_sixth hc har lk hst hnb hm (h6 c) hl) hw, fun D hD => (by cases hD), htie, (fun h => by cases h), hg⟩
theorem recovered_card : Rows.RecoveredCardSaid :=
  holds_tied_goes .later _ _ _ _ Recovered.said (by kernel_rfl) recovered_row_tie rfl ⟨rfl, rfl⟩ (by kernel_rfl) rfl Recovered.plain (by kernel_rfl)
end Go.Proofs.YtmehkneofinmiabGreatDoor

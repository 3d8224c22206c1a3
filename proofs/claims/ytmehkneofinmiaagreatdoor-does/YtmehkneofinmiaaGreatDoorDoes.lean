/-
  Proved: on two stores of New, whatever script of requests in bytes, ticks and looks at the clock is played, each answer is the document's (package vaultref's): the law Does holds at every input. Condition: none of ours; the library's tables are tied to its text by the card.
-/
import Derived.Test.YtmehkneofinmiaaGreatDoorCards
import Derived.Test.YtmehkneofinmiaaGreatDoorTie
import Derived.Test.YtmehkneofinmiaaGreatDoorP34
import Derived.Test.YtmehkneofinmiaaGreatDoorP53
import Derived.Lay
import Derived.ProofKit
namespace Go.Proofs.YtmehkneofinmiaaGreatDoor
namespace Does
open Go.ChangeShapes Go.WideShapes Go.ChangeAt Go.RowKit Go.Conc Go.ConcM
set_option maxRecDepth 100000 in
theorem contract (H : Type) (enc : TypeId × Value → H) (W : World) (base : Nat) (args : Array Value) (ds gs : List (DataW H)) (before : List MemPlace)
    (hval : ∀ (j : Nat) t v, Tryz.f3.params[j]? = some t → args[j]? = some v → Value.okWide Tryz.prog W .any base t v)
    (hW : DataW.Whole enc Tryz.prog Tryz.f3.params.toList Rows.doesSpec.vars false W args.toList ds gs before) (hL : laidMetH Tryz.prog Rows.doesRow.laid W) (hsh : W.ShapedOpen Tryz.prog) :
    Calls Tryz.prog 3 args W fun e W' => ∃ v, e = .returned v ∧ Rows.doesSpec.post enc Tryz.prog Tryz.f3 false true false false W args v W' ∧ W'.os = W.os := by
  have hW' := hW
  obtain ⟨p, q, hA0, hV, rfl, hfz, hnd⟩ := hW
  have hA : DataW.TrodAll enc Tryz.prog W 0 (fun _ => true) true Tryz.f3.params.toList args.toList ds p := hA0
  rw [Tryz.params3] at hA hval
  obtain ⟨v0, v1, v2, d0, d1, d2, p0, p1, p2, rfl, rfl, rfl, h0, h1, h2⟩ := trodAll_three hA
  obtain ⟨rfl, rfl⟩ := trodVars_none hV
  obtain ⟨x0, rfl, rfl, rfl, w0⟩ := open_int Tryz.underlying3 (hval 0 3 v0 rfl rfl) h0
  obtain ⟨x1, rfl, rfl, rfl, w1⟩ := open_int Tryz.underlying3 (hval 1 3 v1 rfl rfl) h1
  obtain ⟨l, hl⟩ := open_ops (hval 2 22 v2 rfl rfl) h2
  have y0 := bounds_i64 w0
  have y1 := bounds_i64 w1
  have hwk := does_all x0 x1 v2 l W (maxIs hsh) (tables hL) y0.1 y0.2 y1.1 y1.2 hl
  clear hA0
  have hlt := hW'.lt
  simp only [List.append_nil, List.nil_append] at hW' hlt
  refine hwk.mono fun e W' ⟨he, ho⟩ => ?_
  subst he
  have hb : Below W.heap.size W W' := ⟨ho.os, ho.tape, ho.output, ho.size, fun k hk => ho.block k hk (by omega)⟩
  refine ⟨_, rfl, ⟨_, _, _, [], p2, [], hW', ?_, ?_, rfl, hb.frame _, fun h => by cases h⟩, ho.os⟩
  · exact trodAll_mk1 (shut_bool Tryz.underlying4 _)
  · have := trodAll_mk3 (shut_int (enc := enc) (P := Tryz.prog) (w := W') (base := 0) (spare := fun b => decide (b < W.heap.size)) (held := true) Tryz.underlying3 w0) (shut_int (enc := enc) (P := Tryz.prog) (w := W') (base := 0) (spare := fun b => decide (b < W.heap.size)) (held := true) Tryz.underlying3 w1) (Below.trod laidOut (by kernel_rfl) (of_decide_eq_true (by kernel_rfl)) h2 hb hlt)
    simp only [List.nil_append] at this
    exact this
def nils : Array Value := #[.int .i64 0, .int .i64 0, .slice none 0 0]
theorem reads (os : Os) {H : Type} (enc : TypeId × Value → H) : ∃ places, DataW.whole enc Tryz.prog ((World.laidAll Tryz.prog os Rows.doesRow.laid).forCall (fun _ _ => 0) ⟨#[], nils, []⟩).memory Tryz.f3.params.toList Rows.doesSpec.vars false nils.toList 8 = some ([.lit (.int .i64 0), .lit (.int .i64 0), .nil], [], places) :=
  ⟨[], by kernel_rfl⟩
set_option maxRecDepth 100000 in
theorem lifted (os : Os) (started : os.Started) (H : Type) (enc : TypeId × Value → H) (F : Stop.Interp) :
    ReturnsInLeavingWide Rows.doesRow.assume Tryz.checked os 3 .any ((OpenSpec.ofChange Rows.doesSpec).preRow enc Tryz.prog Tryz.f3 Rows.doesRow.domain false Rows.doesRow.laid) ((OpenSpec.ofChange Rows.doesSpec).postWith enc Tryz.prog Tryz.f3 F (outsideKept [.timePasses]) false true false) := by
  obtain ⟨places, hx⟩ := reads os enc
  refine leaving_of_row (C := Tryz.checked) own started (by kernel_rfl) Tryz.func3
    ⟨World.laidAll Tryz.prog os Rows.doesRow.laid, fun _ _ => 0, ⟨#[], nils, []⟩, World.laidAll_os _ _ _, World.shaped_of_ZipB (by kernel_rfl) (by kernel_rfl), rfl, (Input.okWide_of_okWideB (by kernel_rfl)).2,
      OpenSpec.preRow_of_cond 8 hx (by kernel_rfl) (fun k hk => by cases hk) (by kernel_rfl) (laidMet_laidAll _ (by kernel_rfl) (by kernel_rfl)), ?_⟩ ?_
  · simp only [Assume.holds]
    exact ⟨fun h => (by cases h), fun _ _ _ _ => rfl, fun h => (by cases h), fun _ h => (by cases h), fun _ h => (by cases h), fun h => (by cases h)⟩
  · intro W base args ds gs before hval hW hL hsh
    exact contract H enc W base args ds gs before hval hW hL hsh
theorem closed : joinedFacts Tryz.prog 3 Tryz.f3 Rows.doesSpec Rows.doesRow = true := closedD
theorem wrp : Tryz.f3.isWrapper Tryz.prog Rows.doesRow.wrapper Rows.doesRow.mainSum := by unfold Func.isWrapper; first | (rw [if_pos (by decide +kernel)]; kernel_rfl) | (rw [if_neg (by decide +kernel)]; exact ⟨rfl, rfl⟩)
theorem ins : Tryz.f3.isInstance Tryz.prog Rows.doesRow.origin Rows.doesRow.targs := of_decide_eq_true (by kernel_rfl)
theorem fnm : Tryz.prog.funcNamed Rows.doesRow.func = some 3 := by kernel_rfl
theorem lifts (os : Os) (started : os.Started) (H : Type) (enc : TypeId × Value → H) (F : Stop.Interp) : ReturnsInLeavingWide Rows.doesRow.assume Tryz.checked os 3 .any (Rows.doesRow.pre enc Tryz.prog Tryz.f3 (OpenSpec.ofChange Rows.doesSpec)) ((OpenSpec.ofChange Rows.doesSpec).postWith enc Tryz.prog Tryz.f3 F (outsideKept [.timePasses]) false true false) := by
  rw [OpenClaim.pre_eq_preRow]
  exact lifted os started H enc F
theorem said : Rows.DoesSaid :=
  OpenClaim.holds_of_wide_leaving_time 3 Tryz.f3 rfl rfl rfl rfl rfl rfl rfl ⟨rfl, rfl, rfl, rfl, rfl⟩ rfl rfl rfl rfl rfl fnm Tryz.func3 closed ins wrp
    (fun os started H enc _ F => lifts os started H enc F)
theorem plain (f : FuncId) (fn : Func) (hf : Tryz.pinned.checked.prog.funcNamed "vault/vaultlaw.Does" = some f) (hfn : Tryz.pinned.checked.prog.funcs[f]? = some fn) :
    false = Tryz.pinned.checked.prog.looks [] ∧ ∀ (j : Nat) t, fn.params[j]? = some t → Tryz.pinned.checked.prog.wantsStandIn t = false := by
  obtain rfl : f = 3 := Option.some.inj ((show Tryz.prog.funcNamed "vault/vaultlaw.Does" = some 3 by kernel_rfl).symm.trans hf) |>.symm
  obtain rfl : fn = Tryz.f3 := (Option.some.inj (Tryz.func3.symm.trans hfn)).symm
  refine ⟨by kernel_rfl, fun j t ht => ?_⟩
  rw [Tryz.params3] at ht
  have hm := Array.mem_of_getElem? ht
  simp only [List.mem_toArray, List.mem_cons, List.not_mem_nil, or_false] at hm
  rcases hm with rfl | rfl | rfl
  · exact (show Tryz.prog.wantsStandIn 3 = false by kernel_rfl)
  · exact (show Tryz.prog.wantsStandIn 3 = false by kernel_rfl)
  · exact (show Tryz.prog.wantsStandIn 22 = false by kernel_rfl)
end Does
theorem holds_tied_goes (Lk : Looks) {p : Pinned} {s : OpenSpec} {c : OpenClaim} (kinds : List LaidKind) (tests : Bool) (har : Bool × String) (lk : Bool)
    (hc : c.holds p s) (hw : c.wfByText s = true) (htie : c.laidByTextAt Lk p kinds tests)
    (hst : c.start = .entering) (hnb : c.noBlocks = false ∧ c.again = false) (hm : p.checked.prog.mainIs = some (har.1, har.2.toList)) (hn : (!har.1 && har.2.isEmpty && !lk) = false)
    (hl : ∀ f fn, p.checked.prog.funcNamed c.func = some f → p.checked.prog.funcs[f]? = some fn → lk = p.checked.prog.looks [] ∧ ∀ (j : Nat) t, fn.params[j]? = some t → p.checked.prog.wantsStandIn t = false)
    (hg : true = c.goesBy p.checked.prog) :
    Claim7.holds p (.plain s) { stood := { row := c, standIns := [], harness := har, looks := lk }, kinds := [], alts := [], goes := true, laidByText := true, laidKinds := kinds, laidTests := tests, laidLooks := Lk } := by
  have h6 : ∀ r : OpenClaim, Claim7.isSixth { stood := { row := r, standIns := [], harness := har, looks := lk }, kinds := [] } = false := fun r => by simpa [Claim7.isSixth] using hn
  exact ⟨Claim7.tied_new_at Lk kinds tests (Claim7.new_of_sixth hc har lk hst hnb hm (h6 c) hl) hw, fun D hD => (by cases hD), htie, (fun h => by cases h), hg⟩
theorem does_card : Rows.DoesCardSaid :=
  holds_tied_goes .later _ _ _ _ Does.said (by kernel_rfl) does_row_tie rfl ⟨rfl, rfl⟩ (by kernel_rfl) rfl Does.plain (by kernel_rfl)
end Go.Proofs.YtmehkneofinmiaaGreatDoor

/-
  Proved: whatever list of steps was played on a store, HEAD tells of a key what GET tells, without the body; conditions on what is there are answered as they must be (304, 412, or the whole): the law Headed holds at every input. Condition: none of ours; the library's six tables are tied to its text by the card.
-/
import Derived.Test.YtmehkneofinmiaaGreatDoorCards
import Derived.Test.YtmehkneofinmiaaGreatDoorTie
import Derived.Test.YtmehkneofinmiaaGreatDoorP35
import Derived.Test.YtmehkneofinmiaaGreatDoorP42
import Derived.Test.YtmehkneofinmiaaGreatDoorP41
import Derived.Test.YtmehkneofinmiaaGreatDoorP44
import Derived.Lay
import Derived.ProofKit
namespace Go.Proofs.YtmehkneofinmiaaGreatDoor
namespace Headed
open Go.ChangeShapes Go.WideShapes Go.ChangeAt Go.RowKit Go.Conc Go.ConcM

set_option maxRecDepth 100000 in
theorem contract (H : Type) (enc : TypeId × Value → H) (W : World) (base : Nat) (args : Array Value) (ds gs : List (DataW H)) (before : List MemPlace)
    (hval : ∀ (j : Nat) t v, Tryz.f8.params[j]? = some t → args[j]? = some v → Value.okWide Tryz.prog W .any base t v)
    (hW : DataW.Whole enc Tryz.prog Tryz.f8.params.toList Rows.headedSpec.vars false W args.toList ds gs before) (hL : laidMetH Tryz.prog Rows.headedRow.laid W) (hsh : W.ShapedOpen Tryz.prog) :
    Calls Tryz.prog 8 args W fun e W' => ∃ v, e = .returned v ∧ Rows.headedSpec.post enc Tryz.prog Tryz.f8 false true false false W args v W' ∧ W'.os = W.os := by
  have hW' := hW
  obtain ⟨p, q, hA0, hV, rfl, hfz, hnd⟩ := hW
  have hA : DataW.TrodAll enc Tryz.prog W 0 (fun _ => true) true Tryz.f8.params.toList args.toList ds p := hA0
  rw [Tryz.params8] at hA hval
  obtain ⟨v0, v1, v2, d0, d1, d2, p0, p1, p2, rfl, rfl, rfl, h0, h1, h2⟩ := trodAll_three hA
  obtain ⟨rfl, rfl⟩ := trodVars_none hV
  obtain ⟨x0, rfl, rfl, rfl, w0⟩ := open_int Tryz.underlying3 (hval 0 3 v0 rfl rfl) h0
  obtain ⟨x2, rfl, rfl, rfl, w2⟩ := open_int Tryz.underlying3 (hval 2 3 v2 rfl rfl) h2
  obtain ⟨l, hl⟩ := open_steps (hval 1 42 v1 rfl rfl) h1
  have y0 := bounds_i64 w0
  have y2 := bounds_i64 w2
  clear hA0
  have hlt := hW'.lt
  simp only [List.append_nil, List.nil_append] at hW' hlt
  refine (headed_walk x0 x2 v1 l W (maxIs hsh) (tables hL) y0.1 y0.2 y2.1 y2.2 hl).mono fun e W' ⟨he, ho⟩ => ?_
  subst he
  have hb : Below W.heap.size W W' := ⟨ho.os, ho.tape, ho.output, ho.size, fun k hk => ho.block k hk (by omega)⟩
  refine ⟨_, rfl, ⟨_, _, _, [], p1, [], hW', ?_, ?_, rfl, hb.frame _, fun h => by cases h⟩, ho.os⟩
  · exact trodAll_mk1 (shut_bool Tryz.underlying4 _)
  · have := trodAll_mk3 (shut_int (enc := enc) (P := Tryz.prog) (w := W') (base := 0) (spare := fun b => decide (b < W.heap.size)) (held := true) Tryz.underlying3 w0) (Below.trod laidOut (by kernel_rfl) (of_decide_eq_true (by kernel_rfl)) h1 hb hlt) (shut_int (enc := enc) (P := Tryz.prog) (w := W') (base := 0) (spare := fun b => decide (b < W.heap.size)) (held := true) Tryz.underlying3 w2)
    simp only [List.append_nil, List.nil_append] at this
    exact this

def nils : Array Value := #[.int .i64 0, .slice none 0 0, .int .i64 0]
theorem reads (os : Os) {H : Type} (enc : TypeId × Value → H) : ∃ places, DataW.whole enc Tryz.prog ((World.laidAll Tryz.prog os Rows.headedRow.laid).forCall (fun _ _ => 0) ⟨#[], nils, []⟩).memory Tryz.f8.params.toList Rows.headedSpec.vars false nils.toList 8 = some ([.lit (.int .i64 0), .nil, .lit (.int .i64 0)], [], places) :=
  ⟨[], by kernel_rfl⟩
set_option maxRecDepth 100000 in
theorem lifted (os : Os) (started : os.Started) (H : Type) (enc : TypeId × Value → H) (F : Stop.Interp) :
    ReturnsInLeavingWide Rows.headedRow.assume Tryz.checked os 8 .any ((OpenSpec.ofChange Rows.headedSpec).preRow enc Tryz.prog Tryz.f8 Rows.headedRow.domain false Rows.headedRow.laid) ((OpenSpec.ofChange Rows.headedSpec).postWith enc Tryz.prog Tryz.f8 F (outsideKept [.timePasses]) false true false) := by
  obtain ⟨places, hx⟩ := reads os enc
  refine leaving_of_row (C := Tryz.checked) own started (by kernel_rfl) Tryz.func8
    ⟨World.laidAll Tryz.prog os Rows.headedRow.laid, fun _ _ => 0, ⟨#[], nils, []⟩, World.laidAll_os _ _ _, World.shaped_of_ZipB (by kernel_rfl) (by kernel_rfl), rfl, (Input.okWide_of_okWideB (by kernel_rfl)).2,
      OpenSpec.preRow_of_cond 8 hx (by kernel_rfl) (fun k hk => by cases hk) (by kernel_rfl) (laidMet_laidAll _ (by kernel_rfl) (by kernel_rfl)), ?_⟩ ?_
  · simp only [Assume.holds]
    exact ⟨fun h => (by cases h), fun _ _ _ _ => rfl, fun h => (by cases h), fun _ h => (by cases h), fun _ h => (by cases h), fun h => (by cases h)⟩
  · intro W base args ds gs before hval hW hL hsh
    exact contract H enc W base args ds gs before hval hW hL hsh

theorem closed : joinedFacts Tryz.prog 8 Tryz.f8 Rows.headedSpec Rows.headedRow = true := by kernel_rfl
theorem wrp : Tryz.f8.isWrapper Tryz.prog Rows.headedRow.wrapper Rows.headedRow.mainSum := by unfold Func.isWrapper; first | (rw [if_pos (by decide +kernel)]; kernel_rfl) | (rw [if_neg (by decide +kernel)]; exact ⟨rfl, rfl⟩)
theorem ins : Tryz.f8.isInstance Tryz.prog Rows.headedRow.origin Rows.headedRow.targs := of_decide_eq_true (by kernel_rfl)
theorem fnm : Tryz.prog.funcNamed Rows.headedRow.func = some 8 := by kernel_rfl
theorem lifts (os : Os) (started : os.Started) (H : Type) (enc : TypeId × Value → H) (F : Stop.Interp) : ReturnsInLeavingWide Rows.headedRow.assume Tryz.checked os 8 .any (Rows.headedRow.pre enc Tryz.prog Tryz.f8 (OpenSpec.ofChange Rows.headedSpec)) ((OpenSpec.ofChange Rows.headedSpec).postWith enc Tryz.prog Tryz.f8 F (outsideKept [.timePasses]) false true false) := by
  rw [OpenClaim.pre_eq_preRow]
  exact lifted os started H enc F
theorem said : Rows.HeadedSaid :=
  OpenClaim.holds_of_wide_leaving_time 8 Tryz.f8 rfl rfl rfl rfl rfl rfl rfl ⟨rfl, rfl, rfl, rfl, rfl⟩ rfl rfl rfl rfl rfl fnm Tryz.func8 closed ins wrp
    (fun os started H enc _ F => lifts os started H enc F)

theorem plain (f : FuncId) (fn : Func) (hf : Tryz.pinned.checked.prog.funcNamed "vault/vaultkeep.Headed" = some f) (hfn : Tryz.pinned.checked.prog.funcs[f]? = some fn) :
    false = Tryz.pinned.checked.prog.looks [] ∧ ∀ (j : Nat) t, fn.params[j]? = some t → Tryz.pinned.checked.prog.wantsStandIn t = false := by
  obtain rfl : f = 8 := Option.some.inj ((show Tryz.prog.funcNamed "vault/vaultkeep.Headed" = some 8 by kernel_rfl).symm.trans hf) |>.symm
  obtain rfl : fn = Tryz.f8 := (Option.some.inj (Tryz.func8.symm.trans hfn)).symm
  refine ⟨by kernel_rfl, fun j t ht => ?_⟩
  rw [Tryz.params8] at ht
  have hm := Array.mem_of_getElem? ht
  simp only [List.mem_toArray, List.mem_cons, List.not_mem_nil, or_false] at hm
  rcases hm with rfl | rfl | rfl
  · exact (show Tryz.prog.wantsStandIn 3 = false by kernel_rfl)
  · exact (show Tryz.prog.wantsStandIn 42 = false by kernel_rfl)
  · exact (show Tryz.prog.wantsStandIn 3 = false by kernel_rfl)
end Headed

theorem holds_tied_goes (Lk : Looks) {p : Pinned} {s : OpenSpec} {c : OpenClaim} (kinds : List LaidKind) (tests : Bool) (har : Bool × String) (lk : Bool)
    (hc : c.holds p s) (hw : c.wfByText s = true) (htie : c.laidByTextAt Lk p kinds tests)
    (hst : c.start = .entering) (hnb : c.noBlocks = false ∧ c.again = false) (hm : p.checked.prog.mainIs = some (har.1, har.2.toList)) (hn : (!har.1 && har.2.isEmpty && !lk) = false)
    (hl : ∀ f fn, p.checked.prog.funcNamed c.func = some f → p.checked.prog.funcs[f]? = some fn → lk = p.checked.prog.looks [] ∧ ∀ (j : Nat) t, fn.params[j]? = some t → p.checked.prog.wantsStandIn t = false)
    (hg : true = c.goesBy p.checked.prog) :
    Claim7.holds p (.plain s) { stood := { row := c, standIns := [], harness := har, looks := lk }, kinds := [], alts := [], goes := true, laidByText := true, laidKinds := kinds, laidTests := tests, laidLooks := Lk } := by
  have h6 : ∀ r : OpenClaim, Claim7.isSixth { stood := { row := r, standIns := [], harness := har, looks := lk }, kinds := [] } = false := fun r => by simpa [Claim7.isSixth] using hn
  exact ⟨Claim7.tied_new_at Lk kinds tests (Claim7.new_of_sixth hc har lk hst hnb hm (h6 c) hl) hw, fun D hD => (by cases hD), htie, (fun h => by cases h), hg⟩
theorem headed_card : Rows.HeadedCardSaid :=
  holds_tied_goes .later _ _ _ _ Headed.said (by kernel_rfl) headed_row_tie rfl ⟨rfl, rfl⟩ (by kernel_rfl) rfl Headed.plain (by kernel_rfl)
end Go.Proofs.YtmehkneofinmiaaGreatDoor

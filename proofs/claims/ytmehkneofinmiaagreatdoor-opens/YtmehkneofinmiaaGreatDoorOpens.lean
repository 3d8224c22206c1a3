/-
  Proved: whatever bytes are opened as a journal, with any number of stripes, the store that is found, how many bytes were followed and the error are the document's (package vaultref's), and so are its journal, its time, each answer to any requests behind it, and the journal behind those: the law Opens holds at every input. Condition: none of ours; the library's tables are tied to its text by the card.
-/
import Derived.Test.YtmehkneofinmiaaGreatDoorCards
import Derived.Test.YtmehkneofinmiaaGreatDoorTie
import Derived.Test.YtmehkneofinmiaaGreatDoorP29
import Derived.Test.YtmehkneofinmiaaGreatDoorP52
import Derived.ChangeMaps5
import Derived.Lay
import Derived.ProofKit
namespace Go.Proofs.YtmehkneofinmiaaGreatDoor
namespace Opens
open Go.ChangeShapes Go.WideShapes Go.ChangeAt Go.RowKit Go.Conc Go.ConcM
open Go.ChangeMaps (open_string shut_string)
set_option maxRecDepth 100000 in
theorem mG (H : Type) (enc : TypeId × Value → H) (W : World) (base : Nat) (args : Array Value) (ds gs : List (DataW H)) (before : List MemPlace)
    (hval : ∀ (j : Nat) t v, Tryz.f5.params[j]? = some t → args[j]? = some v → Value.okWide Tryz.prog W .any base t v)
    (hW : DataW.Whole enc Tryz.prog Tryz.f5.params.toList Rows.opensSpec.vars false W args.toList ds gs before) (hL : laidMetH Tryz.prog Rows.opensRow.laid W) (hsh : W.ShapedOpen Tryz.prog) :
    Calls Tryz.prog 5 args W λ e W' => ∃ v, e = .returned v ∧ Rows.opensSpec.post enc Tryz.prog Tryz.f5 false true false false W args v W' ∧ W'.os = W.os := by
  have A0 := hW;obtain ⟨p, q, A1, hV, rfl, A4, A5⟩ := hW;have hA : DataW.TrodAll enc Tryz.prog W 0 (λ _ => true) true Tryz.f5.params.toList args.toList ds p := A1;rw [Tryz.params5] at hA hval;obtain ⟨v0, v1, v2, d0, d1, d2, p0, p1, p2, rfl, rfl, rfl, h0, h1, h2⟩ := trodAll_three hA;obtain ⟨rfl, rfl⟩ := trodVars_none hV;obtain ⟨x0, rfl, rfl, rfl, w0⟩ := open_string Tryz.underlying9 (hval 0 9 v0 rfl rfl) h0;obtain ⟨x1, rfl, rfl, rfl, w1⟩ := open_int Tryz.underlying3 (hval 1 3 v1 rfl rfl) h1;obtain ⟨l, hl⟩ := vw (hval 2 25 v2 rfl rfl) h2;(have y0 : x0.data.toList.length ≤ 9223372036854775807 := by have h1 : x0.size ≤ 9223372036854775807 := w0;have e : x0.data.toList.length = x0.size := Array.length_toList;omega);have ex : (⟨x0.data.toList.toArray⟩ : ByteArray) = x0 := rfl;have A3 := uZ x0.data.toList x1 v2 l W (Bn hsh) (tables hL) y0 hl;rw [ex] at A3;clear A1;have A2 := A0.lt;simp only [List.append_nil, List.nil_append] at A0 A2;refine A3.mono λ e W' ⟨he, ho⟩ => ?_;subst he;have hb : Below W.heap.size W W' := ⟨ho.os, ho.tape, ho.output, ho.size, λ k hk => ho.block k hk (by omega)⟩;refine ⟨_, rfl, ⟨_, _, _, [], p2, [], A0, ?_, ?_, rfl, hb.frame _, λ h => by cases h⟩, ho.os⟩
  · exact trodAll_mk1 (shut_bool Tryz.underlying4 _)
  · have := trodAll_mk3 (shut_string (enc := enc) (P := Tryz.prog) (w := W') (base := 0) (sp := λ b => decide (b < W.heap.size)) (held := true) Tryz.underlying9 w0) (shut_int (enc := enc) (P := Tryz.prog) (w := W') (base := 0) (spare := λ b => decide (b < W.heap.size)) (held := true) Tryz.underlying3 w1) (Below.trod yT (by kernel_rfl) (of_decide_eq_true (by kernel_rfl)) h2 hb A2)
    simp only [List.nil_append] at this;exact this
def AL : Array Value := #[.string ⟨#[]⟩, .int .i64 0, .slice none 0 0]
theorem reads (os : Os) {H : Type} (enc : TypeId × Value → H) : ∃ places, DataW.whole enc Tryz.prog ((World.laidAll Tryz.prog os Rows.opensRow.laid).forCall (λ _ _ => 0) ⟨#[], AL, []⟩).memory Tryz.f5.params.toList Rows.opensSpec.vars false AL.toList 8 = some ([.lit (.string []), .lit (.int .i64 0), .nil], [], places) :=
  ⟨[], by kernel_rfl⟩
set_option maxRecDepth 100000 in
theorem AK (os : Os) (started : os.Started) (H : Type) (enc : TypeId × Value → H) (F : Stop.Interp) :
    ReturnsInLeavingWide Rows.opensRow.assume Tryz.checked os 5 .any ((OpenSpec.ofChange Rows.opensSpec).preRow enc Tryz.prog Tryz.f5 Rows.opensRow.domain false Rows.opensRow.laid) ((OpenSpec.ofChange Rows.opensSpec).postWith enc Tryz.prog Tryz.f5 F (outsideKept [.timePasses]) false true false) := by
  obtain ⟨A2, hx⟩ := reads os enc;refine l9 (C := Tryz.checked) own started (by kernel_rfl) Tryz.func5
    ⟨World.laidAll Tryz.prog os Rows.opensRow.laid, λ _ _ => 0, ⟨#[], AL, []⟩, World.laidAll_os _ _ _, World.shaped_of_ZipB (by kernel_rfl) (by kernel_rfl), rfl, (Input.okWide_of_okWideB (by kernel_rfl)).2,
      OpenSpec.preRow_of_cond 8 hx (by kernel_rfl) (λ k hk => by cases hk) (by kernel_rfl) (laidMet_laidAll _ (by kernel_rfl) (by kernel_rfl)), ?_⟩ ?_
  · simp only [Assume.holds]
    exact ⟨λ h => (by cases h), λ _ _ _ _ => rfl, λ h => (by cases h), λ _ h => (by cases h), λ _ h => (by cases h), λ h => (by cases h)⟩
  · intro W A4 A1 ds gs A0 A3 hW hL A5
    exact mG H enc W A4 A1 ds gs A0 A3 hW hL A5
theorem closed : joinedFacts Tryz.prog 5 Tryz.f5 Rows.opensSpec Rows.opensRow = true := yQ
theorem wrp : Tryz.f5.isWrapper Tryz.prog Rows.opensRow.wrapper Rows.opensRow.mainSum := by unfold Func.isWrapper; first | (rw [if_pos (by decide +kernel)]; kernel_rfl) | (rw [if_neg (by decide +kernel)]; exact ⟨rfl, rfl⟩)
theorem ins : Tryz.f5.isInstance Tryz.prog Rows.opensRow.origin Rows.opensRow.targs := of_decide_eq_true (by kernel_rfl)
theorem fnm : Tryz.prog.funcNamed Rows.opensRow.func = some 5 := by kernel_rfl
theorem BD (os : Os) (started : os.Started) (H : Type) (enc : TypeId × Value → H) (F : Stop.Interp) : ReturnsInLeavingWide Rows.opensRow.assume Tryz.checked os 5 .any (Rows.opensRow.pre enc Tryz.prog Tryz.f5 (OpenSpec.ofChange Rows.opensSpec)) ((OpenSpec.ofChange Rows.opensSpec).postWith enc Tryz.prog Tryz.f5 F (outsideKept [.timePasses]) false true false) := by
  rw [OpenClaim.pre_eq_preRow];exact AK os started H enc F
theorem said : Rows.OpensSaid :=
  OpenClaim.holds_of_wide_leaving_time 5 Tryz.f5 rfl rfl rfl rfl rfl rfl rfl ⟨rfl, rfl, rfl, rfl, rfl⟩ rfl rfl rfl rfl rfl fnm Tryz.func5 closed ins wrp
    (λ os started H enc _ F => BD os started H enc F)
theorem plain (f : FuncId) (fn : Func) (hf : Tryz.pinned.checked.prog.funcNamed "vault/vaultlaw.Opens" = some f) (hfn : Tryz.pinned.checked.prog.funcs[f]? = some fn) :
    false = Tryz.pinned.checked.prog.looks [] ∧ ∀ (j : Nat) t, fn.params[j]? = some t → Tryz.pinned.checked.prog.wantsStandIn t = false := by
  obtain rfl : f = 5 := Option.some.inj ((show Tryz.prog.funcNamed "vault/vaultlaw.Opens" = some 5 by kernel_rfl).symm.trans hf) |>.symm;obtain rfl : fn = Tryz.f5 := (Option.some.inj (Tryz.func5.symm.trans hfn)).symm;refine ⟨by kernel_rfl, λ j t ht => ?_⟩;rw [Tryz.params5] at ht;have hm := Array.mem_of_getElem? ht;simp only [List.mem_toArray, List.mem_cons, List.not_mem_nil, or_false] at hm;rcases hm with rfl | rfl | rfl
  · exact (show Tryz.prog.wantsStandIn 9 = false by kernel_rfl)
  · exact (show Tryz.prog.wantsStandIn 3 = false by kernel_rfl)
  · exact (show Tryz.prog.wantsStandIn 25 = false by kernel_rfl)
end Opens
theorem lz (Lk : Looks) {p : Pinned} {s : OpenSpec} {c : OpenClaim} (kinds : List LaidKind) (tests : Bool) (har : Bool × String) (lk : Bool)
    (hc : c.holds p s) (hw : c.wfByText s = true) (htie : c.laidByTextAt Lk p kinds tests)
    (hst : c.start = .entering) (hnb : c.noBlocks = false ∧ c.again = false) (hm : p.checked.prog.mainIs = some (har.1, har.2.toList)) (hn : (!har.1 && har.2.isEmpty && !lk) = false)
    (hl : ∀ f fn, p.checked.prog.funcNamed c.func = some f → p.checked.prog.funcs[f]? = some fn → lk = p.checked.prog.looks [] ∧ ∀ (j : Nat) t, fn.params[j]? = some t → p.checked.prog.wantsStandIn t = false)
    (hg : true = c.goesBy p.checked.prog) :
    Claim7.holds p (.plain s) { stood := { row := c, standIns := [], harness := har, looks := lk }, kinds := [], alts := [], goes := true, laidByText := true, laidKinds := kinds, laidTests := tests, laidLooks := Lk } := by
  (have h6 : ∀ r : OpenClaim, Claim7.isSixth { stood := { row := r, standIns := [], harness := har, looks := lk }, kinds := [] } = false := λ r => by simpa [Claim7.isSixth] using hn);exact ⟨Claim7.tied_new_at Lk kinds tests (Claim7.new_of_sixth hc har lk hst hnb hm (h6 c) hl) hw, λ D hD => (by cases hD), htie, (λ h => by cases h), hg⟩
theorem opens_card : Rows.OpensCardSaid :=
  lz .later _ _ _ _ Opens.said (by kernel_rfl) opens_row_tie rfl ⟨rfl, rfl⟩ (by kernel_rfl) rfl Opens.plain (by kernel_rfl)
end Go.Proofs.YtmehkneofinmiaaGreatDoor

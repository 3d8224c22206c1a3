/-
  Proved: of many that write what they read at once, in one batch, with the tag that they read, the first one writes and the others fail; so do those who want to be the first: the law Swapped holds at every input, whatever the scheduler does. Condition: none of ours; the library's tables are tied to its text by the card.
-/
import Derived.Test.YtmehkneofinmiabGreatDoorCards
import Derived.Test.YtmehkneofinmiabGreatDoorTie
import Derived.Test.YtmehkneofinmiabGreatDoorP09
import Derived.Test.YtmehkneofinmiabGreatDoorP17
import Derived.Test.YtmehkneofinmiabGreatDoorP18
import Derived.Test.YtmehkneofinmiabGreatDoorP27
import Derived.ChangeMaps5
import Derived.Lay
import Derived.Carry
import Derived.ProofKit
open Go.Proofs.Tryz
open Go.Proofs.Tryz renaming prog->ID,underlying3->IF
open Bool renaming false->IH,true->IR
namespace Go.Proofs.YtmehkneofinmiabGreatDoor
namespace Swapped
open Go.ChangeShapes Go.WideShapes Go.ChangeAt Go.RowKit Go.Conc Go.ConcM Go.Proofs.Rn
open Go.ChangeMaps (open_string shut_string)
section
variable {H : Type} {enc : TypeId × Value → H} {P : Program} {w : World} {base : Nat} {spare : Nat → Bool} {held : Bool}
theorem qI {t t1 t2 t3 t4 : TypeId} {args : Array Value} {ds : List (DataW H)} {ps : List MemPlace} (h : DataW.TrodAll enc P w base spare held [t, t1, t2, t3, t4] args.toList ds ps) :
    ∃v v1 v2 v3 v4 d d1 d2 d3 d4 p p1 p2 p3 p4, args = #[v, v1, v2, v3, v4] ∧ ds = [d, d1, d2, d3, d4] ∧ ps = p ++ p1 ++ p2 ++ p3 ++ p4 ∧ DataW.Trod enc P w base spare held t v d p ∧ DataW.Trod enc P w base spare held t1 v1 d1 p1 ∧ DataW.Trod enc P w base spare held t2 v2 d2 p2 ∧ DataW.Trod enc P w base spare held t3 v3 d3 p3 ∧ DataW.Trod enc P w base spare held t4 v4 d4 p4 := by
  obtain⟨v, vs, d, dz, p, q, A0, rfl, rfl, hd, hr⟩ := trodAll_cons h;obtain⟨v1, A9, d1, Aa, p1, q1, rfl, rfl, rfl, A5, A6⟩ := trodAll_cons hr;obtain⟨v2, Af, d2, Ae, p2, q2, rfl, rfl, rfl, A1, A3⟩ := trodAll_cons A6;obtain⟨v3, Ac, d3, Ad, p3, q3, rfl, rfl, rfl, A4, A7⟩ := trodAll_cons A3;obtain⟨v4, Ab, d4, Ag, p4, q4, rfl, rfl, rfl, A8, A2⟩ := trodAll_cons A7;obtain⟨rfl, rfl, rfl⟩ := trodAll_nil A2;exact⟨v, v1, v2, v3, v4, d, d1, d2, d3, d4, p, p1, p2, p3, p4, by cases args; simp_all, rfl, by simp, hd, A5, A1, A4, A8⟩
theorem uh {t t1 t2 t3 t4 : TypeId} {v v1 v2 v3 v4 : Value} {d d1 d2 d3 d4 : DataW H} {p p1 p2 p3 p4 : List MemPlace} (h : DataW.Trod enc P w base spare held t v d p) (h1 : DataW.Trod enc P w base spare held t1 v1 d1 p1)
    (h2 : DataW.Trod enc P w base spare held t2 v2 d2 p2) (h3 : DataW.Trod enc P w base spare held t3 v3 d3 p3) (h4 : DataW.Trod enc P w base spare held t4 v4 d4 p4) : DataW.TrodAll enc P w base spare held [t, t1, t2, t3, t4] [v, v1, v2, v3, v4] [d, d1, d2, d3, d4] (p ++ (p1 ++ (p2 ++ (p3 ++ p4)))) := ⟨p, p1 ++ (p2 ++ (p3 ++ p4)), h, trodAll_mk4 h1 h2 h3 h4, rfl⟩
end
set_option maxRecDepth 100000 in
theorem om (H : Type) (enc : TypeId × Value → H) (W : World) (base : Nat) (args : Array Value) (ds gs : List (DataW H)) (before : List MemPlace)
    (hval : ∀(j : Nat) t v, f4.params[j]? = some t → args[j]? = some v → Value.okWide ID W .any base t v)
    (hW : DataW.Whole enc ID f4.params.toList Rows.swappedSpec.vars IH W args.toList ds gs before) (hL : laidMetH ID Rows.swappedRow.laid W) (hsh : W.ShapedOpen ID) :
    ∃R, EX ID R 0 (G (Frame.enter ID 4 args .normal) []) W ∧ ∀v W', R v W' → Rows.swappedSpec.post enc ID f4 IH IR IH IH W args v W' ∧ W'.os = W.os := by
  have A0 := hW;obtain⟨p, q, A3, hV, rfl, Aa, A9⟩ := hW;have hA : DataW.TrodAll enc ID W 0 (λ_ => IR) IR f4.params.toList args.toList ds p := A3;rw [params4] at hA hval;obtain⟨v0, v1, v2, v3, v4, d0, d1, d2, d3, d4, p0, p1, p2, p3, p4, rfl, rfl, rfl, h0, h1, h2, h3, h4⟩ := qI hA;obtain⟨rfl, rfl⟩ := trodVars_none hV;obtain⟨x0, rfl, rfl, rfl, w0⟩ := open_int IF (hval 0 3 v0 rfl rfl) h0;obtain⟨x1, rfl, rfl, rfl, w1⟩ := open_int IF (hval 1 3 v1 rfl rfl) h1;obtain⟨x3, rfl, rfl, rfl, w3⟩ := open_int IF (hval 3 3 v3 rfl rfl) h3;obtain⟨x4, rfl, rfl, rfl, w4⟩ := open_int IF (hval 4 3 v4 rfl rfl) h4;obtain⟨l, hl⟩ := wy (hval 2 38 v2 rfl rfl) h2;have y0 := bounds_i64 w0;have y1 := bounds_i64 w1;have y3 := bounds_i64 w3;have y4 := bounds_i64 w4;have A6 := Ey x0 x1 x3 x4 v2 l base W hsh (GX hsh) (tables hL) (hval 2 38 v2 rfl rfl) y0.1 y0.2 y1.1 y1.2 y3.1 y3.2 y4.1 y4.2 hl;clear A3;have A2 := A0.lt;simp only [List.append_nil, List.nil_append] at A0 A2;refine⟨_, A6, λv W' ho => ?_⟩;obtain⟨he, A4, A7, A1, A5, A8⟩ := ho;subst he;have hb : Below W.heap.size W W' := ⟨A4, A7, A1, A5, A8⟩;refine⟨⟨_, _, _, [], p2, [], A0, ?_, ?_, rfl, hb.frame _, λh => by cases h⟩, A4⟩
  · exact trodAll_mk1 (shut_bool underlying4 _)
  · have := uh (shut_int (enc := enc) (P := ID) (w := W') (base := 0) (spare := λb => decide (b < W.heap.size)) (held := IR) IF w0) (shut_int (enc := enc) (P := ID) (w := W') (base := 0) (spare := λb => decide (b < W.heap.size)) (held := IR) IF w1) (Below.trod laidOut (by kernel_rfl) (of_decide_eq_true (by kernel_rfl)) h2 hb A2) (shut_int (enc := enc) (P := ID) (w := W') (base := 0) (spare := λb => decide (b < W.heap.size)) (held := IR) IF w3) (shut_int (enc := enc) (P := ID) (w := W') (base := 0) (spare := λb => decide (b < W.heap.size)) (held := IR) IF w4)
    simp only [List.append_nil, List.nil_append] at this;exact this
def FL : Array Value := #[.int .i64 0, .int .i64 0, .slice none 0 0, .int .i64 0, .int .i64 0]
theorem reads (os : Os) {H : Type} (enc : TypeId × Value → H) : ∃places, DataW.whole enc ID ((World.laidAll ID os Rows.swappedRow.laid).forCall (λ_ _ => 0) ⟨#[], FL, []⟩).memory f4.params.toList Rows.swappedSpec.vars IH FL.toList 8 = some ([.lit (.int .i64 0), .lit (.int .i64 0), .nil, .lit (.int .i64 0), .lit (.int .i64 0)], [], places) :=
  ⟨[], by kernel_rfl⟩
set_option maxRecDepth 100000 in
theorem lifted (os : Os) (started : os.Started) (H : Type) (enc : TypeId × Value → H) (F : Stop.Interp) :
    ReturnsInLeavingWide Rows.swappedRow.assume checked os 4 .any ((OpenSpec.ofChange Rows.swappedSpec).preRow enc ID f4 Rows.swappedRow.domain IH Rows.swappedRow.laid) ((OpenSpec.ofChange Rows.swappedSpec).postWith enc ID f4 F (outsideKept [.timePasses]) IH IR IH) := by
  obtain⟨A2, hx⟩ := reads os enc;refine pB (C := checked) own started func4
    ⟨World.laidAll ID os Rows.swappedRow.laid, λ_ _ => 0, ⟨#[], FL, []⟩, World.laidAll_os _ _ _, World.shaped_of_ZipB (by kernel_rfl) (by kernel_rfl), rfl, (Input.okWide_of_okWideB (by kernel_rfl)).2,
      OpenSpec.preRow_of_cond 8 hx (by kernel_rfl) (λk hk => by cases hk) (by kernel_rfl) (laidMet_laidAll _ (by kernel_rfl) (by kernel_rfl)), ?_⟩ ?_
  · simp only [Assume.holds]
    exact⟨λh => (by cases h), λ_ _ _ _ => rfl, λh => (by cases h), λ_ h => (by cases h), λ_ h => (by cases h), λh => (by cases h)⟩
  · intro W A4 A1 ds gs A0 A3 hW hL A5
    exact om H enc W A4 A1 ds gs A0 A3 hW hL A5
theorem limb {a b : Bool} (ha : a = IR) (hb : b = IR) : (a && b) = IR := by rw [ha, hb]; rfl
set_option maxHeartbeats 40000000 in
set_option maxRecDepth 100000 in
theorem closed : joinedFacts ID 4 f4 Rows.swappedSpec Rows.swappedRow = IR := by
  unfold joinedFacts
  iterate 31 refine limb ?_ ?_
  all_goals as_aux_lemma => kernel_rfl
theorem wrp : f4.isWrapper ID Rows.swappedRow.wrapper Rows.swappedRow.mainSum := by unfold Func.isWrapper; first | (rw [if_pos (by decide +kernel)]; kernel_rfl) | (rw [if_neg (by decide +kernel)]; exact⟨rfl, rfl⟩)
theorem ins : f4.isInstance ID Rows.swappedRow.origin Rows.swappedRow.targs := of_decide_eq_true (by kernel_rfl)
theorem fnm : prog.funcNamed Rows.swappedRow.func = some 4 := by kernel_rfl
theorem GZ (os : Os) (started : os.Started) (H : Type) (enc : TypeId × Value → H) (F : Stop.Interp) : ReturnsInLeavingWide Rows.swappedRow.assume checked os 4 .any (Rows.swappedRow.pre enc ID f4 (OpenSpec.ofChange Rows.swappedSpec)) ((OpenSpec.ofChange Rows.swappedSpec).postWith enc ID f4 F (outsideKept [.timePasses]) IH IR IH) := by
  rw [OpenClaim.pre_eq_preRow];exact lifted os started H enc F
theorem said : Rows.SwappedSaid :=
  OpenClaim.holds_of_wide_leaving_time 4 f4 rfl rfl rfl rfl rfl rfl rfl ⟨rfl, rfl, rfl, rfl, rfl⟩ rfl rfl rfl rfl rfl fnm func4 closed ins wrp
    (λos started H enc _ F => GZ os started H enc F)
theorem plain (f : FuncId) (fn : Func) (hf : Tryz.pinned.checked.prog.funcNamed "vault/vaultkeep.Swapped" = some f) (hfn : Tryz.pinned.checked.prog.funcs[f]? = some fn) :
    IH = Tryz.pinned.checked.prog.looks [] ∧ ∀(j : Nat) t, fn.params[j]? = some t → Tryz.pinned.checked.prog.wantsStandIn t = IH := by
  obtain rfl : f = 4 := Option.some.inj ((show prog.funcNamed "vault/vaultkeep.Swapped" = some 4 by kernel_rfl).symm.trans hf) |>.symm;obtain rfl : fn = f4 := (Option.some.inj (func4.symm.trans hfn)).symm;refine⟨by kernel_rfl, λj t ht => ?_⟩;rw [params4] at ht;have hm := Array.mem_of_getElem? ht;simp only [List.mem_toArray, List.mem_cons, List.not_mem_nil, or_false] at hm;rcases hm with rfl | rfl | rfl | rfl | rfl
  · exact(show prog.wantsStandIn 3 = IH by kernel_rfl)
  · exact(show prog.wantsStandIn 3 = IH by kernel_rfl)
  · exact(show prog.wantsStandIn 38 = IH by kernel_rfl)
  · exact(show prog.wantsStandIn 3 = IH by kernel_rfl)
  · exact(show prog.wantsStandIn 3 = IH by kernel_rfl)
end Swapped
theorem mM (Lk : Looks) {p : Pinned} {s : OpenSpec} {c : OpenClaim} (kinds : List LaidKind) (tests : Bool) (har : Bool × String) (lk : Bool)
    (hc : c.holds p s) (hw : c.wfByText s = IR) (htie : c.laidByTextAt Lk p kinds tests)
    (hst : c.start = .entering) (hnb : c.noBlocks = IH ∧ c.again = IH) (hm : p.checked.prog.mainIs = some (har.1, har.2.toList)) (hn : (!har.1 && har.2.isEmpty && !lk) = IH)
    (hl : ∀f fn, p.checked.prog.funcNamed c.func = some f → p.checked.prog.funcs[f]? = some fn → lk = p.checked.prog.looks [] ∧ ∀(j : Nat) t, fn.params[j]? = some t → p.checked.prog.wantsStandIn t = IH)
    (hg : IR = c.goesBy p.checked.prog) :
    Claim7.holds p (.plain s) { stood := { row := c, standIns := [], harness := har, looks := lk }, kinds := [], alts := [], goes := IR, laidByText := IR, laidKinds := kinds, laidTests := tests, laidLooks := Lk } := by
  (have h6 : ∀r : OpenClaim, Claim7.isSixth { stood := { row := r, standIns := [], harness := har, looks := lk }, kinds := [] } = IH := λr => by simpa [Claim7.isSixth] using hn);exact⟨Claim7.tied_new_at Lk kinds tests (Claim7.new_of_sixth hc har lk hst hnb hm (h6 c) hl) hw, λD hD => (by cases hD), htie, (λh => by cases h), hg⟩
theorem swapped_card : Rows.SwappedCardSaid :=
  mM .later _ _ _ _ Swapped.said (by kernel_rfl) swapped_row_tie rfl ⟨rfl, rfl⟩ (by kernel_rfl) rfl Swapped.plain (by kernel_rfl)
end Go.Proofs.YtmehkneofinmiabGreatDoor

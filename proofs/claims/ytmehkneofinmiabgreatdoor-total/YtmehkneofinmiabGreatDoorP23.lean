/-
  Texts of this proof, part 23.
-/
import Derived.Test.YtmehkneofinmiabGreatDoorP22
import Derived.Test.YtmehkneofinmiabGreatDoorP17
import Derived.Test.YtmehkneofinmiabGreatDoorP15
import Derived.Test.YtmehkneofinmiabGreatDoorP14
import Derived.Lib.AppendStr
import Derived.WalkKit
namespace Go.Proofs.YtmehkneofinmiabGreatDoor
open Go.RowKit Go.Shelf
attribute [local go_sem] Oper.semAt_some
theorem builderF_same {T e B b : Nat} {bs : List Value} {W W' : World} (h : Lib.IsBuilderF T e B b bs W) (hs : ∀ (k : Nat) (c : Array Value) (t : TypeId) (f : Nat × Nat), W.heap[k]? = some (Obj.cells c t f) → W'.heap[k]? = some (Obj.cells c t f)) : Lib.IsBuilderF T e B b bs W' := by
  have row : ∀ v n xs, W.ownsRowF B e 1 v n xs → W'.ownsRowF B e 1 v n xs := by
    intro v n xs h
    refine ⟨h.1, ?_⟩
    rcases h.2 with h0 | ⟨g, cap, cur, fz, hv, h1, hg, h2⟩
    · exact Or.inl h0
    · exact Or.inr ⟨g, cap, cur, fz, hv, h1, hs _ _ _ _ hg, h2⟩
  rcases h with ⟨h0, v, h1, h2, h3⟩ | ⟨h0, v, h1, h2, h3⟩
  · exact Or.inl ⟨h0, v, hs _ _ _ _ h1, row _ _ _ h2, h3⟩
  · exact Or.inr ⟨h0, v, hs _ _ _ _ h1, row _ _ _ h2, h3⟩
structure Vx (w0 : World) (sl : Value) (t : List UInt8) (W : World) : Prop where
  low : Below w0.heap.size w0 W
  res : W.heap[w0.heap.size]? = some (.cells #[.int .i64 0, .slice none 0 0, .string ⟨#[]⟩] 80 (0, 0))
  bld : Lib.IsBuilderF 118 5 (w0.heap.size + 1) (w0.heap.size + 1) (Lib.byteCells t) W
  box : W.heap[w0.heap.size + 2]? = some (.cells #[sl] 181 (0, 0))
  sz : w0.heap.size + 3 ≤ W.heap.size
theorem Vx.grown {w0 : World} {sl : Value} {t : List UInt8} {W W' : World} {row : Option Nat} (h : Vx w0 sl t W) (hg : W.grownBy W' row) (hr : ∀ r, row = some r → w0.heap.size + 3 ≤ r ∧ ∃ o : Obj, W.heap[r]? = some o ∧ o.isCells = false) : Vx w0 sl t W' := by
  have hs : ∀ (k : Nat) (c : Array Value) (t : TypeId) (f : Nat × Nat), W.heap[k]? = some (Obj.cells c t f) → W'.heap[k]? = some (Obj.cells c t f) := by
    intro k c t f hk
    rw [hg.block k (Array.getElem?_eq_some_iff.1 hk).1 ?_]
    · exact hk
    · intro e
      obtain ⟨_, o, ho, hc⟩ := hr k e.symm
      rw [hk] at ho
      cases ho
      cases hc
  exact ⟨h.low.grown hg (by have := h.sz; omega) (fun k e => by have := (hr k e).1; omega), hs _ _ _ _ h.res, builderF_same h.bld hs, hs _ _ _ _ h.box, Nat.le_trans h.sz hg.size⟩
theorem Vx.below {w0 : World} {sl : Value} {t : List UInt8} {W W' : World} (h : Vx w0 sl t W) (hb : Below W.heap.size W W') : Vx w0 sl t W' :=
  have hs : ∀ (k : Nat) (c : Array Value) (t : TypeId) (f : Nat × Nat), W.heap[k]? = some (Obj.cells c t f) → W'.heap[k]? = some (Obj.cells c t f) := fun k _ _ _ hk => (hb.block k (Array.getElem?_eq_some_iff.1 hk).1).trans hk
  ⟨h.low.trans (hb.mono (by have := h.sz; omega)), hs _ _ _ _ h.res, builderF_same h.bld hs, hs _ _ _ _ h.box, Nat.le_trans h.sz hb.size⟩
theorem keeps_below {B : Nat} {W W' : World} (hb : Below W.heap.size W W') : KeepsFrom B W W' := ⟨hb.size, fun k _ _ hk _ => (hb.block k (Array.getElem?_eq_some_iff.1 hk).1).trans hk⟩
theorem Vx.write {w0 : World} {sl : Value} {t : List UInt8} {W : World} (h : Vx w0 sl t W) (s : List UInt8) (hl : t.length + s.length ≤ 140737488355328) :
    Calls Tryz.prog 50 #[.pointer (some ⟨w0.heap.size + 1, 0, none⟩), .string ⟨s.toArray⟩] W fun e W' => (∃ v, e = .returned v) ∧ Vx w0 sl (t ++ s) W' ∧ KeepsFrom (w0.heap.size + 3) W W' ∧ Kq w0.heap.size (w0.heap.size + 2) W W' := by
  refine (Tryz.Builder_WriteString_k (w0.heap.size + 1) (w0.heap.size + 1) (Lib.byteCells t) ⟨s.toArray⟩ W h.bld (by rw [Lib.byteCells_length, Lib.size_eq]; simpa using hl) (by have := h.sz; omega)).mono ?_
  rintro e W' ⟨rfl, hB, hb, hk⟩
  rw [strCells_mk, ← byteCells_append] at hB
  have hbox := hk _ _ h.box (by intro e; injection e; omega) (by intro c fz e; cases e)
  refine ⟨⟨_, rfl⟩, ⟨h.low.trans (hb.mono (by omega)), (hb.block _ (by omega)).trans h.res, Or.inr hB, hbox, Nat.le_trans h.sz hb.size⟩, ⟨hb.size, fun k o hB2 hk2 ho => hk k o hk2 ?_ ?_⟩, ⟨hb.mono (by omega), hbox.trans h.box.symm⟩⟩
  · intro e; injection e; omega
  · intro c fz e; subst e; cases ho
theorem line_len (v : V) : (lineF2 v.1).length ≤ 60 := by
  have h1 := dec_len_pow 14 v.1.num (by have := v.2.1; omega)
  have h2 := dec_len_pow 14 v.1.time (by have := v.2.2.1; omega)
  unfold lineF2
  simp only [List.length_append, List.length_cons, List.length_nil]
  split
  · simp only [List.length_cons, List.length_nil]; omega
  · rw [qTag_len]; omega
def linesOf (l : List (Nat × V)) : List UInt8 := l.flatMap fun x => lineF2 x.2.1
theorem linesOf_snoc (l : List (Nat × V)) (x : Nat × V) : linesOf (l ++ [x]) = linesOf l ++ lineF2 x.2.1 := by simp [linesOf]
theorem linesOf_len (l : List (Nat × V)) : (linesOf l).length ≤ l.length * 60 := by
  induction l with
  | nil => simp [linesOf]
  | cons a l ih =>
    have := line_len a.2
    simp only [linesOf, List.flatMap_cons, List.length_append, List.length_cons] at ih ⊢
    omega
theorem results_row1 {P : Program} {fn : Func} {p : Tmp} {ty : TypeId} (h : fn.results = #[.cell p ty]) (tmps : Array Value) (w : World) (g : Nat) (t : TypeId) (cs : Array Value) (fr : Nat × Nat) (d : TypeDesc)
    (hp : tmps.getD p undef = .pointer (some ⟨g, 0, none⟩)) (hg : w.heap[g]? = some (.cells cs t fr))
    (hu : P.underlying ty = some d) (hd : (match d with | .struct _ | .array _ _ => true | _ => false) = true) (hi : (P.info? ty).map (·.size) = some cs.size) :
    (results fn tmps).run P w = .ok (.agg cs) w := by
  have hp' : tmps[p]?.getD undef = .pointer (some ⟨g, 0, none⟩) := by simpa using hp
  simp [results, h, hp', asAddr, run_loadVar_row w g t ty cs fr d hg hu hd hi]
theorem hiAns : (Tryz.prog.info? 80).map (·.size) = some 3 := by kernel_rfl
theorem backs_lines (l : List V) : linesOf (backs l l.length) = (plainV l).reverse.flatMap lineF2 := by
  have e : (backs l l.length).map (fun x => x.2) = l.reverse := by
    apply List.ext_getElem
    · simp [backs]
    · intro i h1 h2
      have hi : i < l.length := by simpa [backs] using h1
      have hm : l.length - 1 - i < l.length := by omega
      simp [backs, backAt, hm]
  have e2 : linesOf (backs l l.length) = ((backs l l.length).map (fun x => x.2)).flatMap (fun v => lineF2 v.1) := by
    simp [linesOf, List.flatMap_map]
  rw [e2, e, plainV, ← List.map_reverse, List.flatMap_map]
set_option maxRecDepth 100000 in
set_option maxHeartbeats 4000000 in
theorem tellVersions_some (p : Nat) (key : List UInt8) (last : Nat) (vs : Value) (l : List V) (w : World) (hE : EntAt w p ⟨key, last, plainV l⟩ vs) (hl : l.length < 1000) (h0 : l ≠ []) (hz : Tz w) (hT : Tab w) :
    Calls Tryz.prog 66 #[.pointer (some ⟨p, 0, none⟩)] w fun e w' => e = .returned (.agg #[.int .i64 200, .slice none 0 0, .string ⟨((plainV l).reverse.flatMap lineF2).toArray⟩]) ∧ Below w.heap.size w w' := by
  refine (callsIn_wide (n := 3)).1 ?_
  have hlen : ∃ a c, vs = .slice a l.length c := by
    have e : (plainV l).length = l.length := by simp [plainV]
    rcases hE.row.2 with ⟨rfl, hz⟩ | ⟨g, cap, cur, hv, _⟩
    · simp only at hz; rw [e] at hz; rw [hz]; exact ⟨_, _, rfl⟩
    · simp only at hv; rw [e] at hv; exact ⟨_, _, hv⟩
  obtain ⟨a, c, rfl⟩ := hlen
  have c2 := hE.c2
  have hlt := hE.lt
  have hne : ((l.length : Int) == 0) = false := beq_eq_false_iff_ne.2 (by have : l.length ≠ 0 := fun e => h0 (List.length_eq_zero_iff.1 e); omega)
  have HE : Hid _ := hE
  clear hE
  refine callsIn_of_wp_marks Tryz.func66 rfl trivial ?_ rfl
  simp only [Tryz.ntmps66, List.size_toArray, List.length_cons, List.length_nil, Nat.reduceAdd, Nat.reduceSub, Array.replicate_succ, Array.replicate_zero, List.push_toArray, List.append_toArray, List.nil_append, List.cons_append]
  gi_wp2_with (refine ⟨trivial, ?_⟩; gi_at_call 97; refine (back_in _ _ trivial rfl _ _ _ _).mono ?_; rintro e w' ⟨rfl, rfl⟩)
  obtain ⟨W0, hW0⟩ : ∃ W0, ((w.alloc (.cells #[.int .i64 0, .slice none 0 0, .string ⟨#[]⟩] 80)).alloc (.cells #[.pointer none, .slice none 0 0] 118)).alloc (.cells #[.slice a l.length c] 181) = W0 := ⟨_, rfl⟩
  have hsz : W0.heap.size = w.heap.size + 3 := by rw [← hW0]; simp
  have hB0 : Below w.heap.size w W0 := by rw [← hW0]; exact (((Below.refl _ w).alloc (Nat.le_refl _) _).alloc (by simp) _).alloc (by simp; omega) _
  have X0 : Vx w (.slice a l.length c) [] W0 := by
    refine ⟨hB0, ?_, Lib.IsBuilderF.of (Or.inl ⟨Nat.le_refl _, .slice none 0 0, ?_, ⟨rfl, Or.inl ⟨rfl, rfl⟩⟩, by simp [Value.ownBlock]⟩), ?_, by omega⟩
    · rw [← hW0, heap_alloc_old _ _ (by simp; omega), heap_alloc_old _ _ (by simp)]
      exact heap_alloc_new _ _
    · rw [← hW0, heap_alloc_old _ _ (by simp)]
      have := heap_alloc_new (w.alloc (.cells #[.int .i64 0, .slice none 0 0, .string ⟨#[]⟩] 80)) (.cells #[.pointer none, .slice none 0 0] 118)
      simpa using this
    · rw [← hW0]
      have := heap_alloc_new ((w.alloc (.cells #[.int .i64 0, .slice none 0 0, .string ⟨#[]⟩] 80)).alloc (.cells #[.pointer none, .slice none 0 0] 118)) (.cells #[.slice a l.length c] 181)
      simpa using this
  rw [hW0]
  clear hW0
  have hrow : W0.ownsRow 0 147 4 (.slice a l.length c) l.length (rowOf (plainV l)) := by
    have := row_below HE.out.row hB0
    simp only [show (plainV l).length = l.length by simp [plainV]] at this
    exact this
  have hrb : ∀ g, (Value.slice a l.length c).ownBlock = some g → g < w.heap.size := by
    intro g hg
    rcases HE.out.row.2 with ⟨e, _⟩ | ⟨g', cap, cur, hv, _, hg', _⟩
    · rw [e] at hg; cases hg
    · rw [hv] at hg
      simp only [Value.ownBlock, Option.some.injEq] at hg
      rw [← hg]
      exact (Array.getElem?_eq_some_iff.1 hg').1
  refine wpIn_rangeFunc_ownH rfl (by omega) (gf := 143) (lb := #[.pointer (some ⟨w.heap.size + 1 + 1, 0, none⟩)]) rfl trivial (enters_of Tryz.func143 (by kernel_rfl) rfl)
    (back_stops Fence.wide (3 - 1) trivial rfl (by omega) (w.heap.size + 1 + 1) w.heap.size a c l (by omega) W0 (by omega) (by omega) (by simp [World.cell?, X0.box]) hrow hrb) Kq.trans (Kq.put (by omega) (by omega)) (Below.refl _ _) (fun _ => rfl)
    (fun pre W => Vx w (.slice a l.length c) (linesOf pre) W)
    (fun _ _ _ => False)
    (fun s A B row hs hg hr => hs.grown hg (fun r e => ⟨by have := (hr r e).1; omega, (hr r e).2⟩))
    (fun _ _ _ _ _ hs _ _ => hs)
    X0
    (fun x a' W => ∃ Bx, w.heap.size + 3 ≤ Bx ∧ W.heap[Bx]? = some (.cells #[.int .i64 x.2.1.num, .int .i64 x.2.1.time, .bool x.2.1.mark, .string ⟨x.2.1.body.toArray⟩] 147 (0, 0)) ∧ a' = { tmps := #[.pointer (some ⟨p, 0, none⟩), undef, .pointer (some ⟨w.heap.size, 0, none⟩), .pointer (some ⟨w.heap.size + 1, 0, none⟩), undef, .pointer (some ⟨Bx, 0, none⟩), .pointer (some ⟨p, 0, none⟩), .pointer (some ⟨p, 0, none⟩), .pointer (some ⟨p, 2, none⟩), .slice a l.length c, .int .i64 l.length, .bool false, undef, .pointer (some ⟨p, 0, none⟩), .pointer (some ⟨p, 0, none⟩), .pointer (some ⟨p, 2, none⟩), .slice a l.length c, .func (.func 143) #[] #[.pointer (some ⟨w.heap.size + 1 + 1, 0, none⟩)], .int .i64 x.1, verAgg x.2.1, undef, undef, undef, undef, undef], defers := [] })
    (fun x a' _ X Y row hs hg hr => by
      obtain ⟨Bx, h1, h2, h3⟩ := hs
      refine ⟨Bx, h1, ?_, h3⟩
      rw [hg.block Bx (Array.getElem?_eq_some_iff.1 h2).1 ?_]
      · exact h2
      · intro e
        obtain ⟨_, o, ho, hc⟩ := hr Bx e.symm
        rw [h2] at ho
        cases ho
        cases hc)
    ?assign ?body ?done ?stop
  case assign =>
    rintro l' pre x W K hI hK
    unfold encV verAgg at hK ⊢
    gi_wp2
    have hal : Below W.heap.size W (W.alloc (.cells #[.int .i64 x.2.1.num, .int .i64 x.2.1.time, .bool x.2.1.mark, .string ⟨x.2.1.body.toArray⟩] 147)) := (Below.refl _ _).alloc (Nat.le_refl _) _
    have hs := hI.sz
    exact hK _ _ (keeps_below hal) ⟨hal.mono (by omega), hal.block _ (by omega)⟩ (hI.below hal) ⟨W.heap.size, hs, heap_alloc_new _ _, rfl⟩
  case body =>
    rintro l' pre x a' W hl' ⟨r, hr⟩ hI ⟨Bx, hBx, bX, rfl⟩ hlt'
    have b0 : W.cell? ⟨Bx, 0, none⟩ = some (.int .i64 x.2.1.num) := by simp [World.cell?, bX]
    have b1 : W.cell? ⟨Bx, 1, none⟩ = some (.int .i64 x.2.1.time) := by simp [World.cell?, bX]
    have b2 : W.cell? ⟨Bx, 2, none⟩ = some (.bool x.2.1.mark) := by simp [World.cell?, bX]
    have b3 : W.cell? ⟨Bx, 3, none⟩ = some (.string ⟨x.2.1.body.toArray⟩) := by simp [World.cell?, bX]
    have hll := linesOf_len pre
    have hln := line_len x.2
    have HI : Hid (Vx w (.slice a l.length c) (linesOf pre) W) := hI
    have HL : Hid _ := line_any x.2.1 W x.2.2.1 x.2.2.2.1 x.2.2.2.2 (hz.below hI.low) (hT.below hI.low)
    unfold verAgg at HL ⊢
    clear hI bX
    gi_wp2_with (refine ⟨trivial, ?_⟩; gi_at_call 98; refine (CallsIn.inRound l' (callsIn_wide.2 HL.out)).mono ?_; rintro e W1 ⟨rfl, hb1⟩)
    refine ⟨trivial, ?_⟩
    have X1 := HI.out.below hb1
    refine (CallsIn.inRound l' (callsIn_wide.2 (X1.write (lineF2 x.2.1) (by omega)))).mono ?_
    rintro e W2 ⟨⟨v2, rfl⟩, X2, k2, q2⟩
    have hs := HI.out.sz
    have HX2 : Hid _ := X2
    have HK2 : Hid (KeepsFrom (w.heap.size + 3) W W2) := (keeps_below hb1).trans k2
    have HQ2 : Hid (Kq w.heap.size (w.heap.size + 2) W W2) := Kq.trans ⟨hb1.mono (by omega), hb1.block _ (by omega)⟩ q2
    clear X1 X2 k2 q2 hb1 HI
    gi_wp2
    rw [← hsz] at HK2
    exact ⟨HK2.out, HQ2.out, by show Vx w _ (linesOf (pre ++ [x])) W2; rw [linesOf_snoc]; exact HX2.out⟩
  case done =>
    rintro D zs W hD rfl hI hK
    have HI : Hid _ := hI
    have HK : Hid _ := hK
    clear hI hK
    gi_wp2_with fail
    refine ⟨trivial, ?_⟩
    refine (callsIn_wide.2 (Tryz.Builder_String_any_k (w.heap.size + 1) (w.heap.size + 1) _ _ HI.out.bld (by have := HI.out.sz; omega))).mono ?_
    rintro e W1 ⟨rfl, h1, hb1, ho1⟩
    have hres := (hb1.block w.heap.size (by omega)).trans HI.out.res
    have hKD := ho1 D _ HK.out (by intro e; injection e; omega) (by intro c fz e; cases e)
    have hlow : Below w.heap.size w W1 := HI.out.low.trans (hb1.mono (by omega))
    have r0 : W1.cell? ⟨w.heap.size, 0, none⟩ = some (.int .i64 0) := by simp [World.cell?, hres]
    have r1 : W1.cell? ⟨w.heap.size, 1, none⟩ = some (.slice none 0 0) := by simp [World.cell?, hres]
    have r2 : W1.cell? ⟨w.heap.size, 2, none⟩ = some (.string ⟨#[]⟩) := by simp [World.cell?, hres]
    have rf : ∀ j, W1.frozen? ⟨w.heap.size, j, none⟩ = false := fun j => by simp [World.frozen?, hres]
    have rf0 := rf 0
    have rf1 := rf 1
    have rf2 := rf 2
    have HR : Hid _ := hres
    have HD : Hid _ := hKD
    have HL : Hid _ := hlow
    clear h1 hb1 ho1 hres hKD hlow rf HI HK
    gi_wp2
    have hne2 : w.heap.size ≠ D := by omega
    have hK2 : (((W1.setCell ⟨w.heap.size, 0, none⟩ (.int .i64 200)).setCell ⟨w.heap.size, 1, none⟩ (.slice none 0 0)).setCell ⟨w.heap.size, 2, none⟩ (.string ⟨(linesOf (backs l l.length)).toArray⟩)).heap[D]? = some (.deferred (some [])) := by
      rw [← HD.out]
      simp [World.setCell, Array.getElem?_modify, hne2]
    have hb3 : Below w.heap.size w (((W1.setCell ⟨w.heap.size, 0, none⟩ (.int .i64 200)).setCell ⟨w.heap.size, 1, none⟩ (.slice none 0 0)).setCell ⟨w.heap.size, 2, none⟩ (.string ⟨(linesOf (backs l l.length)).toArray⟩)) :=
      ((HL.out.setCell (p := ⟨w.heap.size, 0, none⟩) (Nat.le_refl _) _).setCell (p := ⟨w.heap.size, 1, none⟩) (Nat.le_refl _) _).setCell (p := ⟨w.heap.size, 2, none⟩) (Nat.le_refl _) _
    have hblk := heap_set (i := 2) (v := .string ⟨(linesOf (backs l l.length)).toArray⟩) (heap_set (i := 1) (v := .slice none 0 0) (heap_set (i := 0) (v := .int .i64 200) HR.out))
    rw [← backs_lines l]
    refine ⟨by simp, .inl ⟨_, _, rfl, run_takeDeferred hK2, ?_⟩⟩
    refine ⟨.agg #[.int .i64 200, .slice none 0 0, .string ⟨(linesOf (backs l l.length)).toArray⟩], results_row1 Tryz.results66 _ _ w.heap.size 80 _ (0, 0) _ rfl ?_ Tryz.underlying80 rfl hiAns, rfl, hb3.trans (belowK_b (w := w) (Nat.le_refl _) _ D _ _ (by omega) hK2 rfl rfl)⟩
    simp only [World.putObj]
    rw [Array.getElem?_setIfInBounds_ne (Ne.symm hne2)]
    exact hblk
  case stop =>
    rintro D c pre W _ _ h _
    exact h.elim
end Go.Proofs.YtmehkneofinmiabGreatDoor

namespace Go.Proofs.YtmehkneofinmiabGreatDoor
open Go.RowKit Go.Shelf
attribute [local go_sem] Oper.semAt_some
set_option maxHeartbeats 1000000 in
theorem lists_in (n : Nat) (a : Option Addr) (len cap : Nat) (w : World) :
    CallsIn Fence.wide n Tryz.prog 92 #[.slice a len cap, .func (.func 93) #[] #[]] w fun e w' => e = .returned (.func (.func 140) #[] #[.pointer (some ⟨w.heap.size, 0, none⟩), .pointer (some ⟨w.heap.size + 1, 0, none⟩)]) ∧ w' = (w.alloc (.cells #[.slice a len cap] 133)).alloc (.cells #[.func (.func 93) #[] #[]] 179) := by
  refine callsIn_of_wp Tryz.func92 rfl trivial ?_ rfl
  simp only [Tryz.ntmps92, List.size_toArray, List.length_cons, List.length_nil, Nat.reduceAdd, Nat.reduceSub, Array.replicate_succ, Array.replicate_zero, List.push_toArray, List.append_toArray, List.nil_append, List.cons_append]
  gi_wp2
  go_ret
  exact ⟨rfl, rfl⟩
def curOf (E : Ent) : Option Ver := match E.vers.getLast? with
  | none => none
  | some v => if v.mark then none else some v
theorem current_any (p : Nat) (E : Ent) (vs : Value) (w : World) (h : EntAt w p E vs) (hl : E.vers.length < 1000) :
    Calls Tryz.prog 94 #[.pointer (some ⟨p, 0, none⟩)] w fun e w' => (∃ v : Ver, e = .returned (.tuple #[verAgg v, .bool (curOf E).isSome]) ∧ (∀ u, curOf E = some u → v = u)) ∧ Below w.heap.size w w' := by
  cases hv : E.vers.getLast? with
  | none =>
    have h0 : E.vers = [] := List.getLast?_eq_none_iff.1 hv
    refine (current_none p E vs w h h0).mono ?_
    rintro e w' ⟨rfl, hb⟩
    refine ⟨⟨⟨0, 0, false, []⟩, ?_, fun u hu => ?_⟩, hb⟩
    · simp [curOf, hv]
      rfl
    · simp [curOf, hv] at hu
  | some v =>
    have hne : E.vers ≠ [] := by intro e; rw [e] at hv; simp at hv
    have hlen : 0 < E.vers.length := List.length_pos_iff.2 hne
    have hget : E.vers[E.vers.length - 1]? = some v := by rw [← hv, List.getLast?_eq_getElem?]
    refine (current_some p E vs w h v (E.vers.length - 1) (by omega) hget (by omega)).mono ?_
    rintro e w' ⟨rfl, hb⟩
    refine ⟨⟨v, ?_, fun u hu => ?_⟩, hb⟩
    · cases hm : v.mark <;> simp [curOf, hv, hm]
    · cases hm : v.mark <;> simp [curOf, hv, hm] at hu
      exact hu
def curs (en : Nat → Ent) (l : List Nat) : List (List UInt8 × List UInt8) := l.filterMap fun q => (curOf (en q)).map fun v => ((en q).key, v.body)
def lineK (x : List UInt8 × List UInt8) : List UInt8 := x.1 ++ [32] ++ qTag x.2 ++ [10]
def linesK (l : List (List UInt8 × List UInt8)) : List UInt8 := l.flatMap lineK
def lastK (l : List (List UInt8 × List UInt8)) : List UInt8 := match l.getLast? with | none => [] | some x => x.1
theorem curs_no {en : Nat → Ent} {l : List Nat} {q : Nat} (h : curOf (en q) = none) : curs en (l ++ [q]) = curs en l := by simp [curs, h]
theorem curs_yes {en : Nat → Ent} {l : List Nat} {q : Nat} {v : Ver} (h : curOf (en q) = some v) : curs en (l ++ [q]) = curs en l ++ [((en q).key, v.body)] := by simp [curs, h]
theorem linesK_snoc (l : List (List UInt8 × List UInt8)) (x : List UInt8 × List UInt8) : linesK (l ++ [x]) = linesK l ++ lineK x := by simp [linesK]
theorem lastK_snoc (l : List (List UInt8 × List UInt8)) (x : List UInt8 × List UInt8) : lastK (l ++ [x]) = x.1 := by simp [lastK]
theorem linesK_len (l : List (List UInt8 × List UInt8)) (h : ∀ x ∈ l, x.1.length ≤ 100) : (linesK l).length ≤ l.length * 120 := by
  induction l with
  | nil => simp [linesK]
  | cons a l ih =>
    have h1 := h a (by simp)
    have h2 := ih (fun x hx => h x (by simp [hx]))
    simp only [linesK, List.flatMap_cons, List.length_append, List.length_cons, lineK, List.length_nil, qTag_len] at h2 ⊢
    omega
structure Tk (w : World) (fv : Value) (t : List UInt8) (n : Nat) (k : List UInt8) (W : World) : Prop where
  low : Below w.heap.size w W
  res : W.heap[w.heap.size]? = some (.cells #[.int .i64 0, .slice none 0 0, .string ⟨#[]⟩] 80 (0, 0))
  ans : W.heap[w.heap.size + 1]? = some (.cells #[.int .i64 200, fv, .string ⟨#[]⟩] 80 (0, 0))
  bld : Lib.IsBuilderF 118 5 (w.heap.size + 2) (w.heap.size + 2) (Lib.byteCells t) W
  cnt : W.heap[w.heap.size + 3]? = some (.cells #[.int .i64 n] 3 (0, 0))
  lst : W.heap[w.heap.size + 4]? = some (.cells #[.string ⟨k.toArray⟩] 9 (0, 0))
  sz : w.heap.size + 7 ≤ W.heap.size
theorem Tk.same {w : World} {fv : Value} {t k : List UInt8} {n : Nat} {W W' : World} (h : Tk w fv t n k W) (hb : Below w.heap.size W W') (hs : ∀ (k : Nat) (c : Array Value) (t : TypeId) (f : Nat × Nat), W.heap[k]? = some (Obj.cells c t f) → ¬ tHeap t → W'.heap[k]? = some (Obj.cells c t f)) : Tk w fv t n k W' := by
  refine ⟨h.low.trans hb, hs _ _ _ _ h.res (by unfold tHeap; decide), hs _ _ _ _ h.ans (by unfold tHeap; decide), ?_, hs _ _ _ _ h.cnt (by unfold tHeap; decide), hs _ _ _ _ h.lst (by unfold tHeap; decide), Nat.le_trans h.sz hb.size⟩
  have row : ∀ v n xs, W.ownsRowF (w.heap.size + 2) 5 1 v n xs → W'.ownsRowF (w.heap.size + 2) 5 1 v n xs := by
    intro v n xs h
    refine ⟨h.1, ?_⟩
    rcases h.2 with h0 | ⟨g, cap, cur, fz, hv, h1, hg, h2⟩
    · exact Or.inl h0
    · exact Or.inr ⟨g, cap, cur, fz, hv, h1, hs _ _ _ _ hg (by unfold tHeap; decide), h2⟩
  rcases h.bld with ⟨h0, v, h1, h2, h3⟩ | ⟨h0, v, h1, h2, h3⟩
  · exact Or.inl ⟨h0, v, hs _ _ _ _ h1 (by unfold tHeap; decide), row _ _ _ h2, h3⟩
  · exact Or.inr ⟨h0, v, hs _ _ _ _ h1 (by unfold tHeap; decide), row _ _ _ h2, h3⟩
theorem Tk.turn {w : World} {fv : Value} {t k : List UInt8} {n : Nat} {W W' : World} (h : Tk w fv t n k W) (ht : Turn tHeap (w.heap.size + 7) W W') : Tk w fv t n k W' :=
  h.same ⟨ht.os, ht.tape, ht.output, ht.size, fun k hk => ht.low k (by omega)⟩ ht.keep
theorem Tk.below {w : World} {fv : Value} {t k : List UInt8} {n : Nat} {W W' : World} (h : Tk w fv t n k W) (hb : Below W.heap.size W W') : Tk w fv t n k W' :=
  h.same (hb.mono (by have := h.sz; omega)) (fun i _ _ _ hi _ => (hb.block i (Array.getElem?_eq_some_iff.1 hi).1).trans hi)
theorem km_below {n₀ : Nat} {W W' : World} (h : n₀ ≤ W.heap.size) (hb : Below W.heap.size W W') : Km n₀ W W' := ⟨hb.mono h, fun i _ _ _ hi _ => (hb.block i (Array.getElem?_eq_some_iff.1 hi).1).trans hi⟩
theorem Tk.write {w : World} {fv : Value} {t k : List UInt8} {n : Nat} {W : World} (h : Tk w fv t n k W) (s : List UInt8) (hl : t.length + s.length ≤ 140737488355328) :
    Calls Tryz.prog 50 #[.pointer (some ⟨w.heap.size + 1 + 1, 0, none⟩), .string ⟨s.toArray⟩] W fun e W' => e = .returned (.tuple #[.int .i64 (⟨s.toArray⟩ : ByteArray).size, .nilIface]) ∧ Tk w fv (t ++ s) n k W' ∧ KeepsFrom (w.heap.size + 7) W W' ∧ Km w.heap.size W W' := by
  refine (Tryz.Builder_WriteString_k (w.heap.size + 2) (w.heap.size + 2) (Lib.byteCells t) ⟨s.toArray⟩ W h.bld (by rw [Lib.byteCells_length, Lib.size_eq]; simpa using hl) (by have := h.sz; omega)).mono ?_
  rintro e W' ⟨rfl, hB, hb, hk⟩
  rw [strCells_mk, ← byteCells_append] at hB
  refine ⟨rfl, ⟨h.low.trans (hb.mono (by omega)), (hb.block _ (by omega)).trans h.res, (hb.block _ (by omega)).trans h.ans, Or.inr hB, hk _ _ h.cnt (by intro e; injection e; omega) (by intro c fz e; cases e), hk _ _ h.lst (by intro e; injection e; omega) (by intro c fz e; cases e), Nat.le_trans h.sz hb.size⟩, ⟨hb.size, fun i o hi hk2 ho => hk i o hk2 ?_ ?_⟩, ⟨hb.mono (by omega), fun i c t f hi ht => hk i _ hi ?_ ?_⟩⟩
  · intro e; injection e; omega
  · intro c fz e; subst e; cases ho
  · intro e
    injection e with e
    subst e
    rcases h.bld with ⟨_, v, h1, _⟩ | ⟨_, v, h1, _⟩ <;> (rw [hi] at h1; injection h1 with h1; injection h1 with _ h2 _; subst h2; exact absurd ht (by unfold tHeap; decide))
  · intro c' fz e
    injection e with _ e2 _
    subst e2
    exact absurd ht (by unfold tHeap; decide)
end Go.Proofs.YtmehkneofinmiabGreatDoor

namespace Go.Proofs.YtmehkneofinmiabGreatDoor
open Go.RowKit
def be (n : Nat) : Nat → List UInt8
  | 0 => []
  | k + 1 => UInt8.ofNat (n / 256 ^ k % 256) :: be n k
theorem be_len (n k : Nat) : (be n k).length = k := by
  induction k with
  | zero => rfl
  | succ k ih => simp [be, ih]
def chkS (h : Nat) (c : UInt8) : Nat := (h ^^^ c.toNat) * 16777619 % 4294967296
def chkF (l : List UInt8) : Nat := l.foldl chkS 2166136261
theorem chk_snoc (l : List UInt8) (c : UInt8) : chkF (l ++ [c]) = chkS (chkF l) c := by
  unfold chkF
  rw [List.foldl_append, List.foldl_cons, List.foldl_nil]
theorem chkS_lt (h : Nat) (c : UInt8) : chkS h c < 4294967296 := by
  unfold chkS
  omega
theorem chk_lt (l : List UInt8) : chkF l < 4294967296 := by
  suffices h : ∀ (l : List UInt8) (x : Nat), x < 4294967296 → l.foldl chkS x < 4294967296 from h l _ (by omega)
  intro l
  induction l with
  | nil => exact fun x hx => hx
  | cons c l ih => exact fun x _ => ih _ (chkS_lt x c)
theorem chk_step (H : Nat) (c : UInt8) (hH : H < 4294967296) : bits .xor .u32 (H : Int) ((c.toNat : Int) % 4294967296) * 16777619 % 4294967296 = ((chkS H c : Nat) : Int) := by
  have hc := c.toNat_lt
  rw [show (c.toNat : Int) % 4294967296 = (c.toNat : Int) by omega, u32_xor_nat H c.toNat hH (by omega)]
  unfold chkS
  omega
def u8s (l : List UInt8) : List Value := l.map fun c => .int .u8 (c.toNat : Int)
theorem u8s_app (a b : List UInt8) : u8s (a ++ b) = u8s a ++ u8s b := by simp [u8s]
set_option maxHeartbeats 1000000 in
theorem check_any (l : List UInt8) (w : World) (hs : l.length < 4611686018427387904) :
    Calls Tryz.prog 126 #[.string ⟨l.toArray⟩] w fun e w' => e = .returned (.int .u32 ((chkF l : Nat) : Int)) ∧ w' = w := by
  obtain ⟨s, hS⟩ : ∃ S : ByteArray, S = ⟨l.toArray⟩ := ⟨_, rfl⟩
  have hd : s.data.toList = l := by rw [hS]
  have hsz : s.size = l.length := by rw [hS]; exact List.size_toArray
  rw [← hS, ← hd]
  have hsl : s.size < 4611686018427387904 := by omega
  clear hS hsz hd hs
  go_enter Tryz.func126, Tryz.ntmps126
  go_wp2
  go_loop [3, 7] (fun hh i => ∃ k : Nat, k ≤ s.size ∧ i = .int .i64 k ∧ hh = .int .u32 ((chkF (s.data.toList.take k) : Nat) : Int)) (fun _ i => s.size - (intOf i).toNat)
  case atStart => exact ⟨0, Nat.zero_le _, rfl, rfl⟩
  case round =>
    obtain ⟨k, hk, rfl, rfl⟩ := hrel
    by_cases hlt : k < s.size
    · have hlt' := chk_lt (s.data.toList.take k)
      have HX : Hid (chkF (s.data.toList.take (k + 1)) = chkS (chkF (s.data.toList.take k)) s[k]) := by
        show _ = _
        rw [take_snoc s k hlt, chk_snoc]
      obtain ⟨F, hF⟩ : ∃ F, chkF (s.data.toList.take k) = F := ⟨_, rfl⟩
      rw [hF] at hlt' HX ⊢
      have hst := chk_step F s[k] hlt'
      obtain ⟨F2, hF2⟩ : ∃ F2, chkS F s[k] = F2 := ⟨_, rfl⟩
      rw [hF2] at HX hst
      have HS : Hid _ := hst
      clear hst
      go_wp2
      exact ⟨⟨k + 1, by omega, by go_num, by rw [HS.out, HX.out]⟩, by simp [intOf]; omega⟩
    · obtain rfl : k = s.size := by omega
      rw [List.take_of_length_le (by rw [Lib.size_eq]; exact Nat.le_refl _)]
      go_wp2
      go_ret
      exact ⟨rfl, rfl⟩
theorem infoU8 : (Tryz.prog.info? 5).map (fun i => (i.zero, i.size, i.bytes)) = some (some (.int .u8 0), 1, 1) := by kernel_rfl
def Byt (w : World) (base : Nat) (v : Value) (l : List UInt8) : Prop := w.ownsRow base 5 1 v l.length (u8s l)
theorem Byt.nil (w : World) (base : Nat) : Byt w base (.slice none 0 0) [] := World.ownsRow_nil w base _ 1
theorem Byt.below {w x : World} {base : Nat} {v : Value} {l : List UInt8} (h : Byt w base v l) (hb : Below w.heap.size w x) : Byt x base v l := by
  refine ⟨h.1, ?_⟩
  rcases h.2 with h0 | ⟨g, cap, cur, hv, h1, hg, h2⟩
  · exact Or.inl h0
  · exact Or.inr ⟨g, cap, cur, hv, h1, (hb.block g (Array.getElem?_eq_some_iff.1 hg).1).trans hg, h2⟩
theorem byte_at (n k : Nat) : (n : Int) / 2 ^ (8 * k) % 256 = (((UInt8.ofNat (n / 256 ^ k % 256)).toNat : Nat) : Int) := by
  rw [show (2 : Int) ^ (8 * k) = ((256 ^ k : Nat) : Int) by rw [Int.natCast_pow, Int.pow_mul]; rfl]
  simp only [UInt8.toNat_ofNat', Nat.reducePow, Nat.mod_mod]
  omega
set_option maxRecDepth 100000 in
set_option maxHeartbeats 4000000 in
theorem appendNumber_any (v : Value) (l : List UInt8) (base n size : Nat) (w : World) (hv : Byt w base v l) (hb : base ≤ w.heap.size) (hs : size ≤ 8) (hl : l.length < 1000000) :
    Calls Tryz.prog 214 #[v, .int .u64 (n : Int), .int .i64 (size : Int)] w fun e w' => ∃ v', e = .returned v' ∧ Byt w' base v' (l ++ be n size) ∧ Below base w w' := by
  obtain ⟨i0, hi0, hz0, hz1, hz2⟩ := info_parts infoU8
  have HV : Hid _ := hv
  clear hv
  go_enter Tryz.func214, Tryz.ntmps214
  go_wp2
  go_loopw [0, 7] (fun x p wx => ∃ (k : Nat) (done : List UInt8), k + done.length = size ∧ p = .int .i64 ((k : Int) - 1) ∧ Hid (done ++ be n k = be n size) ∧ Hid (Byt wx base x (l ++ done)) ∧ Hid (Below base w wx)) (fun _ p _ => (intOf p + 1).toNat)
  case atStart => exact ⟨size, [], by simp, rfl, rfl, by show Byt _ _ _ _; rw [List.append_nil]; exact HV.out, Below.refl _ _⟩
  case round =>
    obtain ⟨k, done, hk, rfl, HD, HB, HW⟩ := hrel
    cases k with
    | zero =>
      go_wp2
      go_ret
      refine ⟨_, rfl, ?_, HW.out⟩
      have h0 := HD.out
      simp only [be, List.append_nil] at h0
      rw [← h0]
      exact HB.out
    | succ k =>
      have hk8 : k < 8 := by omega
      have hkI : (((k + 1 : Nat) : Int) - 1) = (k : Int) := by omega
      rw [hkI]
      have HPW : Hid _ := byte_at n k
      have hpos : (0 : Int) ≤ (k : Int) := by omega
      have hlen : (l ++ done).length < 1000008 := by rw [List.length_append]; omega
      have hbw : base ≤ wr.heap.size := Nat.le_trans hb HW.out.size
      go_wp2_with (at_builtin; refine wpList_append_lies _ rfl (.tmp 14) (.tmp 20) 95 rfl base 5 i0 (.int .u8 0) 1 1 Tryz.underlying95 hi0 hz0 hz1 hz2 rfl (by omega) u0 (l ++ done).length (u8s (l ++ done)) rfl (World.ownsRow.alloc HB.out _) ⟨wr.heap.size, 0, none⟩ 1 1 [.int .u8 ((n : Int) / 2 ^ (8 * k) % 256)] rfl rfl (World.news_of_block (cs := #[.int .u8 ((n : Int) / 2 ^ (8 * k) % 256)]) (t := 5) (fr := (0, 0)) (heap_alloc_new wr _)) (by intro u hu; simp at hu; subst hu; rfl) (by omega) (by unfold maxLen; omega) (by omega) (by simp; omega) _ rfl ?_; intro g2 cap2 w3 hown3 hgr3 hat3 hlt3)
      refine ⟨⟨k, done ++ [UInt8.ofNat (n / 256 ^ k % 256)], by simp; omega, rfl, ?_, ?_, ?_⟩, by simp [intOf]⟩
      · have h0 := HD.out
        show _ = _
        rw [← h0, List.append_assoc]
        rfl
      · show Byt _ _ _ _
        have e : u8s (l ++ done) ++ [.int .u8 ((n : Int) / 2 ^ (8 * k) % 256)] = u8s (l ++ (done ++ [UInt8.ofNat (n / 256 ^ k % 256)])) := by
          rw [HPW.out]; simp [u8s]
        rw [e] at hown3
        have e2 : (l ++ done).length + 1 = (l ++ (done ++ [UInt8.ofNat (n / 256 ^ k % 256)])).length := by simp; omega
        unfold Byt
        rw [← e2]
        rw [List.length_append] at hown3 ⊢
        exact hown3
      · exact ((HW.out.alloc (Nat.le_trans hb HW.out.size) _).grown hgr3 (by simp; omega) (fun r hr => (HB.out.lt r hr).1))
end Go.Proofs.YtmehkneofinmiabGreatDoor

/-
  Texts of this proof, part 39.
-/
import Derived.Test.YtmehkneofinmiaaGreatDoorP38
import Derived.Test.YtmehkneofinmiaaGreatDoorP01
import Derived.Test.YtmehkneofinmiaaGreatDoorP11
import Derived.Test.YtmehkneofinmiaaGreatDoorP32
import Derived.Test.YtmehkneofinmiaaGreatDoorP27
import Derived.Deep.Slices
import Derived.ChangeArms
import Derived.OpenShut
import Derived.ProofKit
import Derived.Deep.RegionHeld3
namespace Go.Proofs.YtmehkneofinmiaaGreatDoor
open Go.ChangeShapes Go.WideShapes Go.ChangeAt Go.RowKit
theorem cells84 : Tryz.prog.cellsOf 84 = 4 := by kernel_rfl
theorem cells3 : Tryz.prog.cellsOf 3 = 1 := by kernel_rfl
set_option maxRecDepth 100000 in
theorem open_steps {H : Type} {enc : TypeId × Value → H} {W : World} {r : Reach} {b0 : Nat} {v : Value} {d : DataW H} {p : List MemPlace} (hv : Value.okWide Tryz.prog W r b0 42 v) (h : DataW.Trod enc Tryz.prog W 0 (fun _ => true) true 42 v d p) : ∃ l, StpAt W v l := by
  obtain ⟨o, N, cap, rfl⟩ : ∃ o N cap, v = .slice o N cap := okWide_slice Tryz.underlying42 hv
  obtain ⟨fuel, hf⟩ := h
  rcases Deep.open_slice Tryz.underlying42 hf with ⟨e, hx⟩ | ⟨a, len, cp, m, n, D, Pl, e, _, hl, hml, hm, hx, hc⟩
  · simp [Value.cells] at e
    obtain ⟨rfl, rfl, rfl⟩ := e
    exact ⟨[], ⟨none, 0, rfl, fun h => absurd h (by simp)⟩, by simp, by simp⟩
  · simp [Value.cells] at e hm
    obtain ⟨rfl, rfl, rfl⟩ := e
    subst hm
    have each : ∀ i, i < m → ∃ q : Int × Int × Int × Int, (W.cell? (a.add (i * 4)) = some (.int .i64 q.1) ∧ W.cell? (a.add (i * 4 + 1)) = some (.int .i64 q.2.1) ∧ W.cell? (a.add (i * 4 + 2)) = some (.int .i64 q.2.2.1) ∧ W.cell? (a.add (i * 4 + 3)) = some (.int .i64 q.2.2.2)) ∧ I64 q.1 ∧ I64 q.2.1 ∧ I64 q.2.2.1 ∧ I64 q.2.2.2 := by
      intro i hi
      obtain ⟨cs', h1, h2⟩ := hc i hi
      rw [cells84] at h1
      obtain ⟨_, hlen, hcell⟩ := World.cells?_some h1
      obtain ⟨xs, k, hk, hxy, _, hxl, hf⟩ := DataW.trod_struct Tryz.underlying84 h2
      have e0 := hcell 0 (by omega)
      have e1 := hcell 1 (by omega)
      have e2 := hcell 2 (by omega)
      have e3 := hcell 3 (by omega)
      rw [Deep.add_add] at e0 e1 e2 e3
      match xs, hxl, cs', hlen with
      | [y0, y1, y2, y3], _, [v0, v1, v2, v3], _ =>
        have g0 := hf 0 _ rfl
        have g1 := hf 1 _ rfl
        have g2 := hf 2 _ rfl
        have g3 := hf 3 _ rfl
        simp [cells3] at g0 g1 g2 g3
        obtain ⟨n0, q0, _, w0⟩ := DataW.trod_int Tryz.underlying3 g0
        obtain ⟨n1, q1, _, w1⟩ := DataW.trod_int Tryz.underlying3 g1
        obtain ⟨n2, q2, _, w2⟩ := DataW.trod_int Tryz.underlying3 g2
        obtain ⟨n3, q3, _, w3⟩ := DataW.trod_int Tryz.underlying3 g3
        simp only [List.cons.injEq, and_true] at q0 q1 q2 q3
        subst q0 q1 q2 q3
        exact ⟨(n0, n1, n2, n3), ⟨by simpa using e0, by simpa using e1, by simpa using e2, by simpa using e3⟩, bounds_i64 w0, bounds_i64 w1, bounds_i64 w2, bounds_i64 w3⟩
    obtain ⟨q, hq⟩ := Deep.choose_lt each
    refine ⟨(List.range N).map fun i => ⟨(q i).1, (q i).2.1, (q i).2.2.1, (q i).2.2.2⟩, ⟨some a, m, by simp, fun h0 => ?_⟩, fun x hx => ?_, ?_⟩
    · have h0' : 0 < N := by simpa using h0
      obtain ⟨b, off, spot⟩ := a
      have hspot : spot = none := by simpa [Addr.add] using World.cell?_spot (hq 0 (by omega)).1.1
      subst hspot
      have hlt : b < W.heap.size := by
        have := (hq 0 (by omega)).1.1
        rw [add_plain] at this
        exact cell_lt this
      refine ⟨b, off, rfl, hlt, fun j x hx => ?_⟩
      have hjN : j < N := by
        have := (List.getElem?_eq_some_iff.1 hx).1
        simpa using this
      rw [List.getElem?_map, List.getElem?_range hjN] at hx
      cases hx
      have := (hq j (by omega)).1
      simp only [add_plain] at this
      exact this
    · obtain ⟨i, hi, rfl⟩ := List.mem_map.1 hx
      exact (hq i (by have := List.mem_range.1 hi; omega)).2
    · simp
      unfold maxLen at hml
      omega
end Go.Proofs.YtmehkneofinmiaaGreatDoor

namespace Go.Proofs.YtmehkneofinmiaaGreatDoor
open Go.RowKit
structure Hsk (B b s q : Nat) (K : List UInt8) (I : World → Prop) (D : List UInt8 → List UInt8 → Prop) (S : Nat → List UInt8) (cur : Value) (th : Bool) : Prop where
  sz : ∀ y, I y → b < y.heap.size
  c0 : ∀ y, I y → y.cell? ⟨b, 0, none⟩ = some (.pointer (some ⟨s, 0, none⟩))
  ck : ∀ y, I y → y.cell? ⟨b, 1 + q * 3, none⟩ = some (.string ⟨K.toArray⟩)
  bel : ∀ y z, I y → Below y.heap.size y z → I z
  asks : ∀ R T, D R T → ∀ y, I y → Calls Tryz.prog 15 #[.pointer (some ⟨s, 0, none⟩), .string ⟨R.toArray⟩] y fun e w' => e = .returned (.string ⟨T.toArray⟩) ∧ I w' ∧ Off (fun k => B ≤ k) y w' ∧ (∀ (k : Nat) (cs : Array Value) (f : Nat × Nat), y.heap[k]? = some (.cells cs 56 f) → w'.heap[k]? = some (.cells cs 56 f))
  curr : ∀ y, I y → Calls Tryz.prog 19 #[.pointer (some ⟨b, 1 + q * 3, none⟩)] y fun e w' => e = .returned (.tuple #[cur, .bool th]) ∧ Below y.heap.size y w'
  stamp : ∀ t : Nat, t < 2678400 → ∀ y, I y → Calls Tryz.prog 18 #[.int .i64 t] y fun e w' => e = .returned (.string ⟨(S t).toArray⟩) ∧ Below y.heap.size y w'
theorem addS' (a b : ByteArray) (h : a.size + b.size ≤ 1000000) : ∀ w : World, (Op.stringOp .add a b).run Tryz.prog w = .ok (.string (a ++ b)) w := fun w => run_string_add_sum w a b (by omega)
theorem Hsk.drw {B b s q : Nat} {K : List UInt8} {I : World → Prop} {D : List UInt8 → List UInt8 → Prop} {S : Nat → List UInt8} {cur : Value} {th : Bool} (h : Hsk B b s q K I D S cur th) {y : World} (hy : I y) : I y.drew := h.bel _ _ hy (Below.refl _ _).drew
def CodeIs (T : List UInt8) (n : Int) : Prop := ∀ y : World, Calls Tryz.prog 20 #[.string ⟨T.toArray⟩] y fun e w' => e = .returned (.int .i64 n) ∧ w' = y
end Go.Proofs.YtmehkneofinmiaaGreatDoor

namespace Go.Proofs.YtmehkneofinmiaaGreatDoor
def versW : List UInt8 := [118, 101, 114, 115, 105, 111, 110, 115]
def fndV (l : List Ver) (n : Nat) : Option Ver := l.find? fun v => v.num == n
def optL (o : Option Ver) : List Ver := match o with | none => [] | some v => [v]
theorem filt_step {l : List Ver} (hr : l.Pairwise fun a b => a.num < b.num) (n : Nat) : (l.filter fun v => decide (n < v.num)) = optL (fndV l (n + 1)) ++ l.filter fun v => decide (n + 1 < v.num) := by
  induction l with
  | nil => rfl
  | cons a l ih =>
    have ⟨h1, h2⟩ := List.pairwise_cons.1 hr
    have ih := ih h2
    by_cases e : a.num = n + 1
    · have f1 : (l.filter fun v => decide (n < v.num)) = l := List.filter_eq_self.2 (fun b hb => by have := h1 b hb; simp; omega)
      have f2 : (l.filter fun v => decide (n + 1 < v.num)) = l := List.filter_eq_self.2 (fun b hb => by have := h1 b hb; simp; omega)
      have f3 : fndV (a :: l) (n + 1) = some a := by simp [fndV, e]
      rw [f3, List.filter_cons_of_pos (by simp; omega), List.filter_cons_of_neg (by simp; omega), f1, f2]
      rfl
    · have f3 : fndV (a :: l) (n + 1) = fndV l (n + 1) := by simp [fndV, e]
      rw [f3]
      by_cases e2 : a.num ≤ n
      · rw [List.filter_cons_of_neg (by simp; omega), List.filter_cons_of_neg (by simp; omega)]
        exact ih
      · have f4 : fndV l (n + 1) = none := by
          simp [fndV]
          intro b hb
          have := h1 b hb
          omega
        rw [f4] at ih ⊢
        rw [List.filter_cons_of_pos (by simp; omega), List.filter_cons_of_pos (by simp; omega), ih]
        rfl
def lnsF (l : List Ver) (m : Nat) : List UInt8 := ((l.filter fun v => decide (m < v.num)).reverse).flatMap lineF2
def lineV (o : Option Ver) : List UInt8 := match o with | none => [] | some v => lineF2 v
theorem lns_step {l : List Ver} (hr : l.Pairwise fun a b => a.num < b.num) (n : Nat) : lnsF l n = lnsF l (n + 1) ++ lineV (fndV l (n + 1)) := by
  unfold lnsF
  rw [filt_step hr, List.reverse_append, List.flatMap_append]
  congr 1
  cases fndV l (n + 1) <;> simp [optL, lineV]
theorem lns_0 {l : List Ver} (h : ∀ v ∈ l, 0 < v.num) : lnsF l 0 = l.reverse.flatMap lineF2 := by
  unfold lnsF
  rw [List.filter_eq_self.2 (fun v hv => by simpa using h v hv)]
theorem lns_top {l : List Ver} {m : Nat} (h : ∀ v ∈ l, v.num ≤ m) : lnsF l m = [] := by
  unfold lnsF
  rw [List.filter_eq_nil_iff.2 (fun v hv => by have := h v hv; simp; omega)]
  rfl
theorem line2_len {v : Ver} (h1 : v.num < 1000000000000) (h2 : v.time < 1000000000000) : (lineF2 v).length ≤ 60 := by
  have a := dec_len10 (n := v.num) (k := 12) (by omega) (by omega)
  have b := dec_len10 (n := v.time) (k := 12) (by omega) (by omega)
  have c : (if v.mark then [103, 111, 110, 101] else qTag v.body : List UInt8).length ≤ 18 := by split <;> simp [qTag_len]
  simp only [lineF2, List.length_append, List.length_cons, List.length_nil]
  omega
theorem flatV_len {l : List Ver} (h : ∀ v ∈ l, v.num < 1000000000000 ∧ v.time < 1000000000000) : (l.flatMap lineF2).length ≤ l.length * 60 := by
  induction l with
  | nil => simp
  | cons a l ih =>
    have := ih (fun v hv => h v (List.mem_cons_of_mem _ hv))
    have h1 := h a List.mem_cons_self
    have := line2_len h1.1 h1.2
    simp only [List.flatMap_cons, List.length_append, List.length_cons]
    omega
theorem lns_len {l : List Ver} (h : ∀ v ∈ l, v.num < 1000000000000 ∧ v.time < 1000000000000) (hl : l.length ≤ 20) (m : Nat) : (lnsF l m).length ≤ 1200 := by
  unfold lnsF
  have h1 := flatV_len (l := (l.filter fun v => decide (m < v.num)).reverse) (fun v hv => h v ((List.mem_filter.1 (List.mem_reverse.1 hv)).1))
  have h2 : (l.filter fun v => decide (m < v.num)).length ≤ l.length := List.length_filter_le _ _
  rw [List.length_reverse] at h1
  omega
noncomputable def wantV (o : Option Ver) : List UInt8 := match o with | none => [] | some v => if v.mark then [] else textF 200 (verFlds v (stampL v.time)) v.body
noncomputable def answV (o : Option Ver) : List UInt8 := match o with | none => textF 404 [] [] | some v => if v.mark then textF 404 [] [] else textF 200 (verFlds v (stampL v.time)) v.body
theorem fnd_take {l : List Ver} (hr : l.Pairwise fun a b => a.num < b.num) {k : Nat} {v : Ver} (hk : l[k]? = some v) (n : Nat) :
    (v.num = n → fndV (l.take k) n = none ∧ fndV (l.take (k + 1)) n = some v) ∧ (v.num ≠ n → fndV (l.take (k + 1)) n = fndV (l.take k) n) := by
  have ht : l.take (k + 1) = l.take k ++ [v] := by rw [List.take_add_one, hk]; rfl
  have hlt : ∀ a ∈ l.take k, a.num < v.num := by
    intro a ha
    have hr' := hr
    rw [← List.take_append_drop k l, List.pairwise_append] at hr'
    refine hr'.2.2 a ha v ?_
    have : (l.drop k)[0]? = some v := by rw [List.getElem?_drop]; simpa using hk
    exact List.mem_of_getElem? this
  constructor
  · intro e
    have h0 : fndV (l.take k) n = none := by
      unfold fndV
      rw [List.find?_eq_none]
      intro a ha
      have := hlt a ha
      simp
      omega
    refine ⟨h0, ?_⟩
    unfold fndV at h0 ⊢
    rw [ht, List.find?_append, h0]
    simp [e]
  · intro e
    unfold fndV
    rw [ht, List.find?_append]
    cases (l.take k).find? (fun v => v.num == n) <;> simp [e]
end Go.Proofs.YtmehkneofinmiaaGreatDoor

namespace Go.Proofs.YtmehkneofinmiaaGreatDoor
open Go.RowKit
theorem addL2 (a b : List UInt8) (h : a.length + b.length ≤ 100000) : ∀ w : World, (Op.stringOp .add ⟨a.toArray⟩ ⟨b.toArray⟩).run Tryz.prog w = .ok (.string ⟨(a ++ b).toArray⟩) w := by
  have := addS' ⟨a.toArray⟩ ⟨b.toArray⟩ (by simp [ByteArray.size]; omega)
  rw [mk_app] at this
  exact this
def BodyIs (T L : List UInt8) : Prop := ∀ y : World, Calls Tryz.prog 21 #[.string ⟨T.toArray⟩] y fun e w' => e = .returned (.string ⟨L.toArray⟩) ∧ w' = y
def VersIs (T L : List UInt8) : Prop := ∀ y : World, Calls Tryz.prog 22 #[.string ⟨T.toArray⟩, .string ⟨#[86, 101, 114, 115, 105, 111, 110]⟩] y fun e w' => e = .returned (.string ⟨L.toArray⟩) ∧ w' = y
structure Ksk (B b s : Nat) (KK : Nat → List UInt8) (en : Nat → Ent) (vs : Nat → Value) (I : World → Prop) (D : List UInt8 → List UInt8 → Prop) : Prop where
  h : ∀ i, i < 5 → Hsk B b s i (KK i) I D stampL (bvOut (curOf (en i))) (curOf (en i)).isSome
  kl : ∀ i, i < 5 → (KK i).length ≤ 40
  cl : ∀ i, i < 5 → ∀ y, I y → y.cell? ⟨b, 1 + i * 3 + 2, none⟩ = some (.int .i64 (en i).last)
  cv : ∀ i, i < 5 → ∀ y, I y → y.cell? ⟨b, 1 + i * 3 + 1, none⟩ = some (vs i)
  row : ∀ i, i < 5 → ∀ y, I y → y.ownsRow 0 56 5 (vs i) (en i).vers.length (bRow (en i).vers)
  len : ∀ i, i < 5 → (en i).vers.length ≤ 20
  last : ∀ i, i < 5 → (en i).last ≤ 1000
  ver : ∀ i, i < 5 → ∀ v ∈ (en i).vers, 0 < v.num ∧ v.num ≤ (en i).last ∧ v.time < 2678400 ∧ v.body.length ≤ 400
  rise : ∀ i, i < 5 → (en i).vers.Pairwise fun a b => a.num < b.num
  itoa : ∀ n : Nat, n < 10000000 → ∀ y, I y → Calls Tryz.prog 17 #[.int .i64 n] y fun e w' => e = .returned (.string ⟨(Lib.decDigits n).toArray⟩) ∧ Below y.heap.size y w'
  dv : ∀ i, i < 5 → ∀ n, 0 < n → n < 1000000 → D (reqB [71, 69, 84] (47 :: (KK i ++ [63] ++ ([118, 61] ++ Lib.decDigits n))) [] []) (answV (fndV (en i).vers n))
  da : ∀ i, i < 5 → D (reqB [71, 69, 84] (47 :: (KK i ++ [63] ++ versW)) [] []) (if (en i).vers = [] then [52, 48, 52, 13, 10, 13, 10] else [50, 48, 48, 13, 10, 13, 10] ++ (en i).vers.reverse.flatMap lineF2)
  dc : ∀ i, i < 5 → ∃ G, D (reqB [71, 69, 84] (47 :: KK i) [] []) G ∧ ((curOf (en i) = none ∧ CodeIs G 404) ∨ (∃ u, curOf (en i) = some u ∧ CodeIs G 200 ∧ BodyIs G u.body ∧ VersIs G (Lib.decDigits u.num)))
theorem five_cells {y : World} {vb : Nat} {a t : Int} {m : Bool} {bd tg : ByteArray} {f : Nat × Nat} (hv : y.heap[vb]? = some (.cells #[.int .i64 a, .int .i64 t, .bool m, .string bd, .string tg] 56 f)) :
    y.cell? ⟨vb, 0, none⟩ = some (.int .i64 a) ∧ y.cell? ⟨vb, 1, none⟩ = some (.int .i64 t) ∧ y.cell? ⟨vb, 2, none⟩ = some (.bool m) ∧ y.cell? ⟨vb, 3, none⟩ = some (.string bd) ∧ y.cell? ⟨vb, 4, none⟩ = some (.string tg) := by
  simp [World.cell?, hv]
theorem curU_mem {E : Ent} {v : Ver} (h : curOf E = some v) : v ∈ E.vers ∧ v.mark = false := by
  cases hg : E.vers.getLast? with
  | none => simp [curOf, hg] at h
  | some y =>
    cases hm : y.mark with
    | true => simp [curOf, hg, hm] at h
    | false =>
      simp [curOf, hg, hm] at h
      rw [← h]
      exact ⟨List.mem_of_getLast? hg, hm⟩
theorem stampL_le (n : Nat) : (stampL n).length ≤ 40 := by unfold stampL; rw [List.length_take]; omega
theorem sumX (a b : List UInt8) (h : a.length + b.length ≤ 100000) : ∃ X, a ++ b = X ∧ X.length = a.length + b.length ∧ ∀ w : World, (Op.stringOp .add ⟨a.toArray⟩ ⟨b.toArray⟩).run Tryz.prog w = .ok (.string ⟨X.toArray⟩) w := ⟨_, rfl, List.length_append, addL2 a b h⟩
def cutAt (n : Nat) : Code → Option Code
  | .seq (.region id ops d) b => if id = n then some (.seq (.region id ops d) b) else cutAt n b
  | .seq a b => match cutAt n a with
    | some c => some c
    | none => cutAt n b
  | .loop c => cutAt n c
  | .block _ c => cutAt n c
  | .scope c => cutAt n c
  | .cond _ a b => match cutAt n a with
    | some c => some c
    | none => cutAt n b
  | _ => none
def loopsOf : Code → List Code
  | .seq a b => loopsOf a ++ loopsOf b
  | .loop c => c :: loopsOf c
  | .block _ c => loopsOf c
  | .scope c => loopsOf c
  | .cond _ a b => loopsOf a ++ loopsOf b
  | _ => []
theorem seq_hid {P : Program} {x y : Code} {Q : Exit → Act → World → Prop} {a : Act} {w : World} (h : ∀ K : Act → World → Prop, Hid (∀ a w, y.wp P Q a w → K a w) → x.wp P (Exit.then K Q) a w) : (Code.seq x y).wp P Q a w := wp_seq_k h
noncomputable def keptMid : Code := ((Tryz.f7.body.map loopsOf).getD []).getD 1 .skip
noncomputable def keptTail : Code := (Tryz.f7.body.bind (cutAt 32)).getD .skip
end Go.Proofs.YtmehkneofinmiaaGreatDoor

/-
  Texts of this proof, part 16.
-/
import Derived.Test.YtmehkneofinmiabGreatDoorP15
import Derived.RegionTactic
import Derived.BigRegion
import Derived.Laws.AppendOwn
import Derived.Laws.Tables
import Derived.Laws.Rows
import Derived.Deep.WholeRow
import Derived.Laws.CopyOwn
import Derived.Deep.AppendLies
import Derived.WalkKit
import Derived.Deep.RegionHeld3
namespace Go.Proofs.YtmehkneofinmiabGreatDoor
open Go.RowKit
structure Ver where
  num : Nat
  time : Nat
  mark : Bool
  body : List UInt8
structure Ent where
  key : List UInt8
  last : Nat
  vers : List Ver
def verCells (v : Ver) : List Value := [.int .i64 v.num, .int .i64 v.time, .bool v.mark, .string ⟨v.body.toArray⟩]
def verAgg (v : Ver) : Value := .agg #[.int .i64 v.num, .int .i64 v.time, .bool v.mark, .string ⟨v.body.toArray⟩]
def verZero : Value := .agg #[.int .i64 0, .int .i64 0, .bool false, .string ⟨#[]⟩]
def rowOf (l : List Ver) : List Value := l.flatMap verCells
theorem rowOf_length (l : List Ver) : (rowOf l).length = l.length * 4 := by
  induction l with
  | nil => rfl
  | cons a l ih => simp only [rowOf, List.flatMap_cons, List.length_append] at ih ⊢; rw [ih]; simp [verCells]; omega
theorem rowOf_get (l : List Ver) (i : Nat) (v : Ver) (h : l[i]? = some v) (j : Nat) (hj : j < 4) : (rowOf l)[i * 4 + j]? = (verCells v)[j]? := by
  induction l generalizing i with
  | nil => simp at h
  | cons a l ih =>
    simp only [rowOf, List.flatMap_cons]
    cases i with
    | zero =>
      simp at h; subst h
      rw [List.getElem?_append_left (by simp [verCells]; omega)]
      simp
    | succ i =>
      rw [List.getElem?_append_right (by simp [verCells]; omega)]
      have e : (i + 1) * 4 + j - (verCells a).length = i * 4 + j := by simp [verCells]; omega
      rw [e]
      exact ih i (by simpa using h)
structure EntAt (w : World) (p : Nat) (E : Ent) (vs : Value) : Prop where
  blk : w.heap[p]? = some (.cells #[.string ⟨E.key.toArray⟩, .int .i64 E.last, vs] 183 (0, 0))
  row : w.ownsRow 0 147 4 vs E.vers.length (rowOf E.vers)
theorem EntAt.c0 {w : World} {p : Nat} {E : Ent} {vs : Value} (h : EntAt w p E vs) : w.cell? ⟨p, 0, none⟩ = some (.string ⟨E.key.toArray⟩) := by simp [World.cell?, h.blk]
theorem EntAt.c1 {w : World} {p : Nat} {E : Ent} {vs : Value} (h : EntAt w p E vs) : w.cell? ⟨p, 1, none⟩ = some (.int .i64 E.last) := by simp [World.cell?, h.blk]
theorem EntAt.c2 {w : World} {p : Nat} {E : Ent} {vs : Value} (h : EntAt w p E vs) : w.cell? ⟨p, 2, none⟩ = some vs := by simp [World.cell?, h.blk]
theorem EntAt.fz {w : World} {p : Nat} {E : Ent} {vs : Value} (h : EntAt w p E vs) (j : Nat) : w.frozen? ⟨p, j, none⟩ = false := by simp [World.frozen?, h.blk]
theorem EntAt.lt {w : World} {p : Nat} {E : Ent} {vs : Value} (h : EntAt w p E vs) : p < w.heap.size := (Array.getElem?_eq_some_iff.1 h.blk).1
theorem row_cells {w : World} {vs : Value} {l : List Ver} (h : w.ownsRow 0 147 4 vs l.length (rowOf l)) (i : Nat) (v : Ver) (hi : l[i]? = some v) :
    ∃ g cap, vs = .slice (some ⟨g, 0, none⟩) l.length cap ∧ l.length ≤ cap ∧ cap ≤ maxLen ∧ g < w.heap.size ∧ w.frozen? ⟨g, 0, none⟩ = false ∧ (∀ j, w.frozen? ⟨g, j, none⟩ = false) ∧
      w.cell? ⟨g, i * 4, none⟩ = some (.int .i64 v.num) ∧ w.cell? ⟨g, i * 4 + 1, none⟩ = some (.int .i64 v.time) ∧ w.cell? ⟨g, i * 4 + 2, none⟩ = some (.bool v.mark) ∧ w.cell? ⟨g, i * 4 + 3, none⟩ = some (.string ⟨v.body.toArray⟩) := by
  have hlt : i < l.length := (List.getElem?_eq_some_iff.1 hi).1
  rcases h.2 with ⟨_, h0⟩ | ⟨g, cap, cur, hv, _, hg, hn, hm, hs, htk⟩
  · omega
  · refine ⟨g, cap, hv, hn, hm, (Array.getElem?_eq_some_iff.1 hg).1, by simp [World.frozen?, hg], fun j => by simp [World.frozen?, hg], ?_⟩
    have key : ∀ j, j < 4 → w.cell? ⟨g, i * 4 + j, none⟩ = (verCells v)[j]? := by
      intro j hj
      rw [← rowOf_get l i v hi j hj, ← htk, List.getElem?_take_of_lt (by omega)]
      simp [World.cell?, hg]
    exact ⟨key 0 (by omega), key 1 (by omega), key 2 (by omega), key 3 (by omega)⟩
set_option maxHeartbeats 1000000 in
theorem isFull_any (p : Nat) (E : Ent) (vs : Value) (w : World) (h : EntAt w p E vs) :
    Calls Tryz.prog 199 #[.pointer (some ⟨p, 0, none⟩)] w fun e w' => e = .returned (.bool (decide (20 ≤ (E.vers.length : Int)))) ∧ w' = w := by
  have h2 := h.c2
  rcases h.row.2 with ⟨rfl, h0⟩ | ⟨g, cap, cur, rfl, _, hg, hn, hm, hs, htk⟩
  · rw [h0]
    go_enter Tryz.func199, Tryz.ntmps199
    go_wp2
    go_ret
    exact ⟨rfl, rfl⟩
  · clear htk hs
    go_enter Tryz.func199, Tryz.ntmps199
    go_wp2
    go_ret
    exact ⟨rfl, rfl⟩
set_option maxHeartbeats 1000000 in
theorem isKnown_any (p : Nat) (E : Ent) (vs : Value) (w : World) (h : EntAt w p E vs) :
    Calls Tryz.prog 150 #[.pointer (some ⟨p, 0, none⟩)] w fun e w' => e = .returned (.bool (decide (0 < E.last))) ∧ w' = w := by
  have h2 := h.c1
  go_enter Tryz.func150, Tryz.ntmps150
  go_wp2
  go_ret
  exact ⟨rfl, rfl⟩
theorem results_row_tmp {P : Program} {fn : Func} {p u : Tmp} {ty : TypeId} (h : fn.results = #[.cell p ty, .tmp u]) (tmps : Array Value) (w : World) (g : Nat) (t : TypeId) (cs : Array Value) (fr : Nat × Nat) (d : TypeDesc)
    (hp : tmps.getD p undef = .pointer (some ⟨g, 0, none⟩)) (hg : w.heap[g]? = some (.cells cs t fr))
    (hu : P.underlying ty = some d) (hd : (match d with | .struct _ | .array _ _ => true | _ => false) = true) (hi : (P.info? ty).map (·.size) = some cs.size) :
    (results fn tmps).run P w = .ok (.tuple #[.agg cs, tmps.getD u undef]) w := by
  have hp' : tmps[p]?.getD undef = .pointer (some ⟨g, 0, none⟩) := by simpa using hp
  simp [results, h, hp', asAddr, run_loadVar_row w g t ty cs fr d hg hu hd hi]
theorem hi154 : (Tryz.prog.info? 147).map (·.size) = some 4 := by kernel_rfl
set_option maxHeartbeats 1000000 in
theorem current_none (p : Nat) (E : Ent) (vs : Value) (w : World) (h : EntAt w p E vs) (h0 : E.vers = []) :
    Calls Tryz.prog 94 #[.pointer (some ⟨p, 0, none⟩)] w fun e w' => e = .returned (.tuple #[verZero, .bool false]) ∧ Below w.heap.size w w' := by
  have h2 := h.c2
  have hlt := h.lt
  have hr := h.row
  rw [h0] at hr
  have hlen : ∃ a c, vs = .slice a 0 c := by
    rcases hr.2 with ⟨rfl, _⟩ | ⟨g, cap, cur, rfl, _⟩
    · exact ⟨_, _, rfl⟩
    · exact ⟨_, _, rfl⟩
  obtain ⟨a, c, rfl⟩ := hlen
  clear hr h
  go_enter Tryz.func94, Tryz.ntmps94
  go_wp2
  exact bodyPost_ret (v := .tuple #[verZero, .bool false]) (results_row_tmp Tryz.results94 _ _ w.heap.size _ _ _ _ rfl (heap_alloc_last _ _) Tryz.underlying147 rfl hi154) rfl ⟨rfl, (Below.refl _ _).alloc (Nat.le_refl _) _⟩
theorem heap_two (w : World) (a b : Obj) : ((w.alloc a).alloc b).drew.drew.heap[w.heap.size]? = some a :=
  (heap_alloc_old (w.alloc a) b (by simp)).trans (heap_alloc_new w a)
theorem below_two (w : World) (a b : Obj) : Below w.heap.size w ((w.alloc a).alloc b).drew.drew := by
  have h := ((Below.refl w.heap.size w).alloc (Nat.le_refl _) a).alloc (by simp) b
  exact ⟨h.os, h.tape, h.output, h.size, h.block⟩
set_option maxHeartbeats 4000000 in
theorem current_some (p : Nat) (E : Ent) (vs : Value) (w : World) (h : EntAt w p E vs) (v : Ver) (i : Nat) (hi : E.vers.length = i + 1) (hv : E.vers[i]? = some v) (hb : i < 1000) :
    Calls Tryz.prog 94 #[.pointer (some ⟨p, 0, none⟩)] w fun e w' => e = .returned (.tuple #[verAgg v, .bool (!v.mark)]) ∧ Below w.heap.size w w' := by
  have h2 := h.c2
  have hlt := h.lt
  obtain ⟨g, cap, rfl, hn, hm, hg, _, hf, c0, c1, c2, c3⟩ := row_cells h.row i v hv
  rw [hi] at h2 hn
  have hsub : ((i + 1 : Nat) : Int) - 1 = (i : Int) := by omega
  clear h hv
  go_enter Tryz.func94, Tryz.ntmps94
  go_wp2
  go_region
  go_wp2
  go_region
  go_wp2
  exact bodyPost_ret (v := .tuple #[verAgg v, .bool (!v.mark)]) (results_row_tmp Tryz.results94 _ _ w.heap.size _ _ _ _ rfl (heap_two _ _ _) Tryz.underlying147 rfl hi154) rfl ⟨rfl, below_two _ _ _⟩
end Go.Proofs.YtmehkneofinmiabGreatDoor

namespace Go.Proofs.YtmehkneofinmiabGreatDoor
open Go.RowKit
set_option maxHeartbeats 1000000 in
theorem place1_any (b : Nat) (n : Int) (v : Ver) (w : World) (hb : w.cell? ⟨b, 0, none⟩ = some (.int .i64 n)) (hlt : b < w.heap.size) :
    Calls Tryz.prog 193 #[verAgg v, .pointer (some ⟨b, 0, none⟩)] w fun e w' => e = .returned (.bool ((v.num : Int) == n)) ∧ Below w.heap.size w w' := by
  unfold verAgg
  go_enter Tryz.func193, Tryz.ntmps193
  go_wp2
  go_ret
  exact ⟨rfl, (Below.refl _ _).alloc (Nat.le_refl _) _⟩
def vidx (l : List Ver) (n : Int) : Option Nat := l.findIdx? (fun v => (v.num : Int) == n)
def vidxI (l : List Ver) (n : Int) : Int := match vidx l n with | some i => i | none => -1
theorem vidxI_some {l : List Ver} {n : Int} {i : Nat} (h : vidx l n = some i) : vidxI l n = i := by simp [vidxI, h]
theorem vidxI_none {l : List Ver} {n : Int} (h : vidx l n = none) : vidxI l n = -1 := by simp [vidxI, h]
def NoNum (l : List Ver) (n : Int) (i : Nat) : Prop := ∀ j v, j < i → l[j]? = some v → (v.num : Int) ≠ n
theorem NoNum.zero (l : List Ver) (n : Int) : NoNum l n 0 := fun _ _ h => by omega
theorem NoNum.succ {l : List Ver} {n : Int} {i : Nat} {v : Ver} (h : NoNum l n i) (hv : l[i]? = some v) (hn : ((v.num : Int) == n) = false) : NoNum l n (i + 1) := by
  intro j u hj hu
  by_cases e : j = i
  · subst e; rw [hv] at hu; cases hu; exact beq_eq_false_iff_ne.1 hn
  · exact h j u (by omega) hu
theorem vidx_hit {l : List Ver} {n : Int} {i : Nat} {v : Ver} (h : NoNum l n i) (hv : l[i]? = some v) (hn : ((v.num : Int) == n) = true) : vidx l n = some i := by
  have hlt : i < l.length := (List.getElem?_eq_some_iff.1 hv).1
  have hg : l[i] = v := (List.getElem?_eq_some_iff.1 hv).2
  unfold vidx
  rw [List.findIdx?_eq_some_iff_getElem]
  refine ⟨hlt, by rw [hg]; exact hn, ?_⟩
  intro j hj
  have := h j (l[j]'(by omega)) hj (List.getElem?_eq_getElem (by omega))
  simpa using this
theorem vidx_end {l : List Ver} {n : Int} (h : NoNum l n l.length) : vidx l n = none := by
  unfold vidx
  rw [List.findIdx?_eq_none_iff]
  intro v hv
  obtain ⟨j, hj, e⟩ := List.getElem_of_mem hv
  have := h j v hj (by rw [List.getElem?_eq_getElem hj, e])
  simpa using this
theorem row_below {w x : World} {base : Nat} {e : TypeId} {k : Nat} {v : Value} {n : Nat} {xs : List Value} (h : w.ownsRow base e k v n xs) (hb : Below w.heap.size w x) : x.ownsRow base e k v n xs := by
  refine ⟨h.1, ?_⟩
  rcases h.2 with h0 | ⟨g, cap, cur, hv, h1, hg, h2⟩
  · exact Or.inl h0
  · exact Or.inr ⟨g, cap, cur, hv, h1, (hb.block _ (Array.getElem?_eq_some_iff.1 hg).1).trans hg, h2⟩
theorem EntAt.below {w x : World} {p : Nat} {E : Ent} {vs : Value} (h : EntAt w p E vs) (hb : Below w.heap.size w x) : EntAt x p E vs := ⟨(hb.block _ h.lt).trans h.blk, row_below h.row hb⟩
set_option maxHeartbeats 4000000 in
theorem indexFunc_any (vs : Value) (l : List Ver) (b : Nat) (n : Int) (w : World) (h : w.ownsRow 0 147 4 vs l.length (rowOf l)) (hb : w.cell? ⟨b, 0, none⟩ = some (.int .i64 n)) (hlt : b < w.heap.size) (hl : l.length < 1000000) :
    Calls Tryz.prog 192 #[vs, .func (.func 193) #[] #[.pointer (some ⟨b, 0, none⟩)]] w fun e w' => e = .returned (.int .i64 (vidxI l n)) ∧ Below w.heap.size w w' := by
  have hlen : ∃ a c, vs = .slice a l.length c := by
    rcases h.2 with ⟨rfl, h0⟩ | ⟨g, cap, cur, rfl, _⟩
    · rw [h0]; exact ⟨_, _, rfl⟩
    · exact ⟨_, _, rfl⟩
  have HR : Hid (w.ownsRow 0 147 4 vs l.length (rowOf l)) := h
  clear h
  obtain ⟨a, c, hvs⟩ := hlen
  rw [hvs]
  go_enter Tryz.func192, Tryz.ntmps192
  go_wp2
  go_loopw [8] (fun x wx => ∃ i : Nat, i ≤ l.length ∧ x = .int .i64 i ∧ Hid (Below w.heap.size w wx) ∧ Hid (NoNum l n i)) (fun x _ => l.length - (intOf x).toNat)
  case atStart => exact ⟨0, by omega, rfl, Below.refl _ _, NoNum.zero _ _⟩
  case round =>
    obtain ⟨i, hi, rfl, HB, HN⟩ := hrel
    by_cases hlt2 : i < l.length
    · obtain ⟨v, hv⟩ : ∃ v, l[i]? = some v := ⟨l[i], List.getElem?_eq_getElem hlt2⟩
      obtain ⟨g, cap, e1, hn, hm, hg, _, hf, c0, c1, c2, c3⟩ := row_cells (row_below HR.out HB.out) i v hv
      rw [hvs] at e1
      cases e1
      have hb1 := (HB.out.cell (p := ⟨b, 0, none⟩) hlt).trans hb
      have hlt1 : b < wr.heap.size := Nat.lt_of_lt_of_le hlt HB.out.size
      have HV : Hid (l[i]? = some v) := hv
      have hltI : (i : Int) < (l.length : Int) := by omega
      clear hv
      go_wp2_with fail
      refine (place1_any b n v _ hb1 hlt1).mono ?_
      rintro e w2 ⟨rfl, hb2⟩
      have HB2 : Hid (Below w.heap.size w w2) := HB.out.trans (hb2.mono HB.out.size)
      clear hb2 HB
      cases hq : ((v.num : Int) == n) with
      | true =>
        have HQ : Hid (((v.num : Int) == n) = true) := hq
        clear hq
        go_wp2
        go_ret
        exact ⟨by rw [vidxI_some (vidx_hit HN.out HV.out HQ.out)]; rfl, HB2.out⟩
      | false =>
        have HQ : Hid (((v.num : Int) == n) = false) := hq
        clear hq
        go_wp2
        refine ⟨⟨i + 1, by omega, rfl, HB2, HN.out.succ HV.out HQ.out⟩, ?_⟩
        simp [intOf]
        omega
    · obtain rfl : i = l.length := by omega
      clear hlt2
      go_wp2
      go_ret
      exact ⟨by rw [vidxI_none (vidx_end HN.out)]; rfl, HB.out⟩
end Go.Proofs.YtmehkneofinmiabGreatDoor

namespace Go.Proofs.YtmehkneofinmiabGreatDoor
open Go.RowKit
set_option maxHeartbeats 1000000 in
theorem place_any (p : Nat) (E : Ent) (vs : Value) (n : Int) (w : World) (h : EntAt w p E vs) (hl : E.vers.length < 1000000) :
    Calls Tryz.prog 144 #[.pointer (some ⟨p, 0, none⟩), .int .i64 n] w fun e w' => e = .returned (.int .i64 (vidxI E.vers n)) ∧ Below w.heap.size w w' := by
  have h2 := h.c2
  have hlt := h.lt
  have hal : Below w.heap.size w (w.alloc (.cells #[.int .i64 n] 3)) := (Below.refl _ _).alloc (Nat.le_refl _) _
  have hr := row_below h.row hal
  clear h
  go_enter Tryz.func144, Tryz.ntmps144
  go_wp2_with fail
  refine (indexFunc_any vs E.vers w.heap.size n _ hr (by simp) (by simp) hl).mono ?_
  rintro e w2 ⟨rfl, hb2⟩
  go_wp2
  go_ret
  exact ⟨rfl, hal.trans (hb2.mono (by simp))⟩
set_option maxHeartbeats 1000000 in
theorem numbered_none (p : Nat) (E : Ent) (vs : Value) (n : Int) (w : World) (h : EntAt w p E vs) (hl : E.vers.length < 1000000) (hn : vidx E.vers n = none) :
    Calls Tryz.prog 99 #[.pointer (some ⟨p, 0, none⟩), .int .i64 n] w fun e w' => e = .returned (.tuple #[verZero, .bool false]) ∧ Below w.heap.size w w' := by
  have hal : Below w.heap.size w (w.alloc (.cells #[.int .i64 0, .int .i64 0, .bool false, .string ⟨#[]⟩] 147)) := (Below.refl _ _).alloc (Nat.le_refl _) _
  have h1 := h.below hal
  clear h
  go_enter Tryz.func99, Tryz.ntmps99
  go_wp2_with fail
  refine (place_any p E vs n _ h1 hl).mono ?_
  rintro e w2 ⟨rfl, hb2⟩
  have hB := hal.trans (hb2.mono (by simp))
  have hz : w2.heap[w.heap.size]? = some (.cells #[.int .i64 0, .int .i64 0, .bool false, .string ⟨#[]⟩] 147 (0, 0)) := (hb2.block _ (by simp)).trans (heap_alloc_new _ _)
  have hlt := (Array.getElem?_eq_some_iff.1 hz).1
  rw [vidxI_none hn]
  clear h1 hal hb2
  go_wp2_with (refine wpList_store_row rfl 147 (.tmp 4) (.tmp 13) rfl w.heap.size #[.int .i64 0, .int .i64 0, .bool false, .string ⟨#[]⟩] rfl rfl 147 #[.int .i64 0, .int .i64 0, .bool false, .string ⟨#[]⟩] hz hi154 rfl (by simp [Value.oneCell']) ?_)
  exact bodyPost_ret (v := .tuple #[verZero, .bool false]) (results_row_tmp Tryz.results99 _ _ w.heap.size _ _ _ _ rfl (setRow_heap _ _ _ _ _ _ hz) Tryz.underlying147 rfl hi154) rfl ⟨rfl, below_setRow hB (Nat.le_refl _) _⟩
theorem heap_set {w : World} {g i : Nat} {v : Value} {cs : Array Value} {t : TypeId} {fr : Nat × Nat} (h : w.heap[g]? = some (.cells cs t fr)) : (w.setCell ⟨g, i, none⟩ v).heap[g]? = some (.cells (cs.setIfInBounds i v) t fr) := by
  simp [World.setCell, Array.getElem?_modify, h]
theorem vidx_get {l : List Ver} {n : Int} {i : Nat} (h : vidx l n = some i) : ∃ v, l[i]? = some v ∧ (v.num : Int) = n := by
  unfold vidx at h
  rw [List.findIdx?_eq_some_iff_getElem] at h
  obtain ⟨hlt, hp, _⟩ := h
  exact ⟨l[i], List.getElem?_eq_getElem hlt, by simpa using hp⟩
set_option maxHeartbeats 4000000 in
theorem numbered_some (p : Nat) (E : Ent) (vs : Value) (n : Int) (w : World) (h : EntAt w p E vs) (hl : E.vers.length < 1000000) (i : Nat) (v : Ver) (hn : vidx E.vers n = some i) (hv : E.vers[i]? = some v) :
    Calls Tryz.prog 99 #[.pointer (some ⟨p, 0, none⟩), .int .i64 n] w fun e w' => e = .returned (.tuple #[verAgg v, .bool (!v.mark)]) ∧ Below w.heap.size w w' := by
  have hal : Below w.heap.size w (w.alloc (.cells #[.int .i64 0, .int .i64 0, .bool false, .string ⟨#[]⟩] 147)) := (Below.refl _ _).alloc (Nat.le_refl _) _
  have h1 := h.below hal
  clear h
  go_enter Tryz.func99, Tryz.ntmps99
  go_wp2_with fail
  refine (place_any p E vs n _ h1 hl).mono ?_
  rintro e w2 ⟨rfl, hb2⟩
  have hB := hal.trans (hb2.mono (by simp))
  have hz : w2.heap[w.heap.size]? = some (.cells #[.int .i64 0, .int .i64 0, .bool false, .string ⟨#[]⟩] 147 (0, 0)) := (hb2.block _ (by simp)).trans (heap_alloc_new _ _)
  have hlt := (Array.getElem?_eq_some_iff.1 hz).1
  have h2 := h1.below hb2
  rw [vidxI_some hn]
  have hltl : i < E.vers.length := (List.getElem?_eq_some_iff.1 hv).1
  obtain ⟨g, cap, rfl, hn2, hm, hg, _, hf, c0, c1, c2, c3⟩ := row_cells h2.row i v hv
  have e2 := h2.c2
  have hltp := h2.lt
  have HZ : Hid _ := hz
  have HBB : Hid _ := hB
  have k0 : w2.cell? ⟨w.heap.size, 0, none⟩ = some (.int .i64 0) := by simp [World.cell?, hz]
  have k1 : w2.cell? ⟨w.heap.size, 1, none⟩ = some (.int .i64 0) := by simp [World.cell?, hz]
  have k2 : w2.cell? ⟨w.heap.size, 2, none⟩ = some (.bool false) := by simp [World.cell?, hz]
  have k3 : w2.cell? ⟨w.heap.size, 3, none⟩ = some (.string ⟨#[]⟩) := by simp [World.cell?, hz]
  have kf : ∀ j, w2.frozen? ⟨w.heap.size, j, none⟩ = false := fun j => by simp [World.frozen?, hz]
  have kf0 := kf 0
  have kf1 := kf 1
  have kf2 := kf 2
  have kf3 := kf 3
  clear h1 hal hb2 h2 hv hn hz hB kf
  go_wp2
  go_region
  go_wp2
  have hs := heap_set (i := 3) (v := .string ⟨v.body.toArray⟩) (heap_set (i := 2) (v := .bool v.mark) (heap_set (i := 1) (v := .int .i64 v.time) (heap_set (i := 0) (v := .int .i64 v.num) HZ.out)))
  have hb4 := ((((HBB.out.setCell (p := ⟨w.heap.size, 0, none⟩) (Nat.le_refl _) (.int .i64 v.num)).setCell (p := ⟨w.heap.size, 1, none⟩) (Nat.le_refl _) (.int .i64 v.time)).setCell (p := ⟨w.heap.size, 2, none⟩) (Nat.le_refl _) (.bool v.mark)).setCell (p := ⟨w.heap.size, 3, none⟩) (Nat.le_refl _) (.string ⟨v.body.toArray⟩))
  exact bodyPost_ret (v := .tuple #[verAgg v, .bool (!v.mark)]) (results_row_tmp Tryz.results99 _ _ w.heap.size _ _ _ _ rfl ((heap_alloc_old _ _ (by simpa using hlt)).trans hs) Tryz.underlying147 rfl hi154) rfl ⟨rfl, (hb4.alloc hb4.size _).drew⟩
end Go.Proofs.YtmehkneofinmiabGreatDoor

namespace Go.Proofs.YtmehkneofinmiabGreatDoor
def appS (ts : Array TypeId) (ty : TypeId) (args : Array Value) : Sem Value := Builtin.append_ ts ty args
theorem appS_is (ts : Array TypeId) (ty : TypeId) (args : Array Value) : Builtin.append_ ts ty args = appS ts ty args := rfl
noncomputable def appR (P : Program) (t ty : TypeId) (w : World) (s x : Value) : Value × World :=
  match (Builtin.append_ #[t, t] ty #[s, x]).run P w with
  | .ok v w' => (v, w')
  | _ => (undef, w)
def AppOk (P : Program) (t ty : TypeId) (w : World) (s x : Value) : Prop := ∃ v w', (Builtin.append_ #[t, t] ty #[s, x]).run P w = .ok v w'
theorem app_run {P : Program} {t ty : TypeId} {w : World} {s x : Value} (h : AppOk P t ty w s x) :
    (appS #[t, t] ty #[s, x]).run P w = .ok (appR P t ty w s x).1 (appR P t ty w s x).2 := by
  obtain ⟨v, w', h⟩ := h
  simp only [appR, appS, h]
theorem app_is {P : Program} {t ty : TypeId} {w w' : World} {s x v : Value} (h : (Builtin.append_ #[t, t] ty #[s, x]).run P w = .ok v w') :
    AppOk P t ty w s x ∧ (appR P t ty w s x).1 = v ∧ (appR P t ty w s x).2 = w' := ⟨⟨v, w', h⟩, by simp only [appR, h], by simp only [appR, h]⟩
end Go.Proofs.YtmehkneofinmiabGreatDoor

namespace Go.Proofs.YtmehkneofinmiabGreatDoor
open Go.RowKit
structure Off (S : Nat → Prop) (w x : World) : Prop where
  os : x.os = w.os
  tape : x.tape = w.tape
  output : x.output = w.output
  size : w.heap.size ≤ x.heap.size
  block : ∀ k, k < w.heap.size → ¬ S k → x.heap[k]? = w.heap[k]?
theorem Off.refl (S : Nat → Prop) (w : World) : Off S w w := ⟨rfl, rfl, rfl, Nat.le_refl _, fun _ _ _ => rfl⟩
theorem Off.trans {S : Nat → Prop} {a b c : World} (h : Off S a b) (k : Off S b c) : Off S a c :=
  ⟨k.os.trans h.os, k.tape.trans h.tape, k.output.trans h.output, Nat.le_trans h.size k.size, fun i hi hs => (k.block i (Nat.lt_of_lt_of_le hi h.size) hs).trans (h.block i hi hs)⟩
theorem Off.trans' {S T : Nat → Prop} {a b c : World} (h : Off S a b) (k : Off T b c) (hT : ∀ i, i < a.heap.size → T i → S i) : Off S a c :=
  ⟨k.os.trans h.os, k.tape.trans h.tape, k.output.trans h.output, Nat.le_trans h.size k.size, fun i hi hs => (k.block i (Nat.lt_of_lt_of_le hi h.size) (fun t => hs (hT i hi t))).trans (h.block i hi hs)⟩
theorem Off.mono {S T : Nat → Prop} {a b : World} (h : Off S a b) (hT : ∀ i, S i → T i) : Off T a b := ⟨h.os, h.tape, h.output, h.size, fun k hk hs => h.block k hk (fun s => hs (hT k s))⟩
theorem Off.of_below {S : Nat → Prop} {w x : World} (h : Below w.heap.size w x) : Off S w x := ⟨h.os, h.tape, h.output, h.size, fun k hk _ => h.block k hk⟩
theorem Off.set {S : Nat → Prop} {w x : World} (h : Off S w x) (g i : Nat) (v : Value) (hg : S g ∨ w.heap.size ≤ g) : Off S w (x.setCell ⟨g, i, none⟩ v) := by
  refine ⟨h.os, h.tape, h.output, by simpa using h.size, fun k hk hs => ?_⟩
  have hne : g ≠ k := fun e => by subst e; rcases hg with hg | hg; exact hs hg; omega
  rw [← h.block k hk hs]
  simp [World.setCell, Array.getElem?_modify, hne]
theorem Off.alloc {S : Nat → Prop} {w x : World} (h : Off S w x) (o : Obj) : Off S w (x.alloc o) := by
  refine ⟨h.os, h.tape, h.output, by have := h.size; simp; omega, fun k hk hs => ?_⟩
  rw [← h.block k hk hs]
  exact heap_alloc_old _ _ (Nat.lt_of_lt_of_le hk h.size)
theorem Off.drew {S : Nat → Prop} {w x : World} (h : Off S w x) : Off S w x.drew := ⟨h.os, h.tape, h.output, h.size, h.block⟩
theorem Off.grown {S : Nat → Prop} {w x y : World} {r : Option Nat} (h : Off S w x) (hg : x.grownBy y r) (hr : ∀ k, r = some k → S k ∨ w.heap.size ≤ k) : Off S w y := by
  refine ⟨hg.os.trans h.os, hg.tape.trans h.tape, hg.output.trans h.output, Nat.le_trans h.size hg.size, fun k hk hs => ?_⟩
  rw [← h.block k hk hs]
  refine hg.block k (Nat.lt_of_lt_of_le hk h.size) (fun e => ?_)
  rcases hr k e.symm with h1 | h1
  · exact hs h1
  · omega
theorem info154m : (Tryz.prog.info? 147).map (fun i => (i.zero, i.size, i.bytes)) = some (some (.agg #[.int .i64 0, .int .i64 0, .bool false, .string ⟨#[]⟩]), 4, 40) := by kernel_rfl
end Go.Proofs.YtmehkneofinmiabGreatDoor

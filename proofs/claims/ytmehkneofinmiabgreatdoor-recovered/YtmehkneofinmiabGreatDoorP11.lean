/-
 Texts of this proof, part 11.
-/
import Derived.Test.YtmehkneofinmiabGreatDoorP10
import Derived.Deep.AppendLies
import Derived.Deep.RegionHeld3
set_option maxRecDepth 100000
set_option maxHeartbeats 4000000
namespace Go.Proofs.YtmehkneofinmiabGreatDoor
open Go.RowKit
theorem place1_any (b : Nat) (n : Int) (v : Ver) (w : World) (hb : w.cell? ⟨b, 0, none⟩ = some (.int .i64 n)) (hlt : b < w.heap.size) :
 Calls Tryz.prog 193 #[verAgg v, .pointer (some ⟨b, 0, none⟩)] w fun e w' => e = .returned (.bool ((v.num : Int) == n)) /\ Below w.heap.size w w' := by
 unfold verAgg
 go_enter Tryz.func193, Tryz.ntmps193
 go_wp2
 go_ret
 exact ⟨rfl, (Below.refl _ _).alloc (Nat.le_refl _) _⟩
def vidx (l : List Ver) (n : Int) : Option Nat := l.findIdx? (fun v => (v.num : Int) == n)
def vidxI (l : List Ver) (n : Int) : Int := match vidx l n with | some i => i | none => -1
theorem vidxI_some {l : List Ver} {n : Int} {i : Nat} (h : vidx l n = some i) : vidxI l n = i := by simp [vidxI, h]
theorem vidxI_none {l : List Ver} {n : Int} (h : vidx l n = none) : vidxI l n = -1 := by simp [vidxI, h]
def NoNum (l : List Ver) (n : Int) (i : Nat) : Prop := ∀ j v, j < i -> l[j]? = some v -> (v.num : Int) ≠ n
theorem NoNum.zero (l : List Ver) (n : Int) : NoNum l n 0 := fun _ _ h => by omega
theorem NoNum.succ {l : List Ver} {n : Int} {i : Nat} {v : Ver} (h : NoNum l n i) (hv : l[i]? = some v) (hn : ((v.num : Int) == n) = false) : NoNum l n (i + 1) := by
 intro j u hj hu
 by_cases e : j = i
 ·subst e; rw [hv] at hu; cases hu; exact beq_eq_false_iff_ne.1 hn
 ·exact h j u (by omega) hu
theorem vidx_hit {l : List Ver} {n : Int} {i : Nat} {v : Ver} (h : NoNum l n i) (hv : l[i]? = some v) (hn : ((v.num : Int) == n) = true) : vidx l n = some i := by
 have hlt : i < l.length := (List.getElem?_eq_some_iff.1 hv).1
 have hg : l[i] = v := (List.getElem?_eq_some_iff.1 hv).2
 unfold vidx
 rw [List.findIdx?_eq_some_iff_getElem]
 refine ⟨hlt, by rw [hg]; exact hn, ?_⟩
 intro j hj
 have := h j (l[j]'(by omega)) hj (List.getElem?_eq_getElem (by omega))
 simpa using this
theorem vidx_end {l : List Ver} {n : Int} (h : NoNum l n l.length) : vidx l n = none := by
 unfold vidx
 rw [List.findIdx?_eq_none_iff]
 intro v hv
 obtain ⟨j, hj, e⟩ := List.getElem_of_mem hv
 have := h j v hj (by rw [List.getElem?_eq_getElem hj, e])
 simpa using this
theorem row_below {w x : World} {base : Nat} {e : TypeId} {k : Nat} {v : Value} {n : Nat} {xs : List Value} (h : w.ownsRow base e k v n xs) (hb : Below w.heap.size w x) : x.ownsRow base e k v n xs := by
 refine ⟨h.1, ?_⟩
 rcases h.2 with h0 | ⟨g, cap, cur, hv, h1, hg, h2⟩
 ·exact Or.inl h0
 ·exact Or.inr ⟨g, cap, cur, hv, h1, (hb.block _ (Array.getElem?_eq_some_iff.1 hg).1).trans hg, h2⟩
theorem EntAt.below {w x : World} {p : Nat} {E : Ent} {vs : Value} (h : EntAt w p E vs) (hb : Below w.heap.size w x) : EntAt x p E vs := ⟨(hb.block _ h.lt).trans h.blk, row_below h.row hb⟩
theorem indexFunc_any (vs : Value) (l : List Ver) (b : Nat) (n : Int) (w : World) (h : w.ownsRow 0 147 4 vs l.length (rowOf l)) (hb : w.cell? ⟨b, 0, none⟩ = some (.int .i64 n)) (hlt : b < w.heap.size) (hl : l.length < 1000000) :
 Calls Tryz.prog 192 #[vs, .func (.func 193) #[] #[.pointer (some ⟨b, 0, none⟩)]] w fun e w' => e = .returned (.int .i64 (vidxI l n)) /\ Below w.heap.size w w' := by
 have hlen : ∃ a c, vs = .slice a l.length c := by
  rcases h.2 with ⟨rfl, h0⟩ | ⟨g, cap, cur, rfl, _⟩
  ·rw [h0]; exact ⟨_, _, rfl⟩
  ·exact ⟨_, _, rfl⟩
 have HR : Hid (w.ownsRow 0 147 4 vs l.length (rowOf l)) := h
 clear h
 obtain ⟨a, c, hvs⟩ := hlen
 rw [hvs]
 go_enter Tryz.func192, Tryz.ntmps192
 go_wp2
 go_loopw [8] (fun x wx => ∃ i : Nat, i <= l.length /\ x = .int .i64 i /\ Hid (Below w.heap.size w wx) /\ Hid (NoNum l n i)) (fun x _ => l.length - (intOf x).toNat)
 case atStart => exact ⟨0, by omega, rfl, Below.refl _ _, NoNum.zero _ _⟩
 case round =>
  obtain ⟨i, hi, rfl, HB, HN⟩ := hrel
  by_cases hlt2 : i < l.length
  ·obtain ⟨v, hv⟩ : ∃ v, l[i]? = some v := ⟨l[i], List.getElem?_eq_getElem hlt2⟩
   obtain ⟨g, cap, e1, hn, hm, hg, _, hf, c0, c1, c2, c3⟩ := row_cells (row_below HR.out HB.out) i v hv
   rw [hvs] at e1
   cases e1
   have hb1 := (HB.out.cell (p := ⟨b, 0, none⟩) hlt).trans hb
   have hlt1 : b < wr.heap.size := Nat.lt_of_lt_of_le hlt HB.out.size
   have HV : Hid (l[i]? = some v) := hv
   have hltI : (i : Int) < (l.length : Int) := by omega
   clear hv
   go_wp2_with fail
   refine (place1_any b n v _ hb1 hlt1).mono ?_
   rintro e w2 ⟨rfl, hb2⟩
   have HB2 : Hid (Below w.heap.size w w2) := HB.out.trans (hb2.mono HB.out.size)
   clear hb2 HB
   cases hq : ((v.num : Int) == n) with
   | true =>
     have HQ : Hid (((v.num : Int) == n) = true) := hq
     clear hq
     go_wp2
     go_ret
     exact ⟨by rw [vidxI_some (vidx_hit HN.out HV.out HQ.out)]; rfl, HB2.out⟩
   | false =>
     have HQ : Hid (((v.num : Int) == n) = false) := hq
     clear hq
     go_wp2
     refine ⟨⟨i + 1, by omega, rfl, HB2, HN.out.succ HV.out HQ.out⟩, ?_⟩
     simp [intOf]
     omega
  ·obtain rfl : i = l.length := by omega
   clear hlt2
   go_wp2
   go_ret
   exact ⟨by rw [vidxI_none (vidx_end HN.out)]; rfl, HB.out⟩
theorem place_any (p : Nat) (E : Ent) (vs : Value) (n : Int) (w : World) (h : EntAt w p E vs) (hl : E.vers.length < 1000000) :
 Calls Tryz.prog 144 #[.pointer (some ⟨p, 0, none⟩), .int .i64 n] w fun e w' => e = .returned (.int .i64 (vidxI E.vers n)) /\ Below w.heap.size w w' := by
 have h2 := h.c2
 have hlt := h.lt
 have hal : Below w.heap.size w (w.alloc (.cells #[.int .i64 n] 3)) := (Below.refl _ _).alloc (Nat.le_refl _) _
 have hr := row_below h.row hal
 clear h
 go_enter Tryz.func144, Tryz.ntmps144
 go_wp2_with fail
 refine (indexFunc_any vs E.vers w.heap.size n _ hr (by simp) (by simp) hl).mono ?_
 rintro e w2 ⟨rfl, hb2⟩
 go_wp2
 go_ret
 exact ⟨rfl, hal.trans (hb2.mono (by simp))⟩
theorem numbered_none (p : Nat) (E : Ent) (vs : Value) (n : Int) (w : World) (h : EntAt w p E vs) (hl : E.vers.length < 1000000) (hn : vidx E.vers n = none) :
 Calls Tryz.prog 99 #[.pointer (some ⟨p, 0, none⟩), .int .i64 n] w fun e w' => e = .returned (.tuple #[verZero, .bool false]) /\ Below w.heap.size w w' := by
 have hal : Below w.heap.size w (w.alloc (.cells #[.int .i64 0, .int .i64 0, .bool false, .string ⟨#[]⟩] 147)) := (Below.refl _ _).alloc (Nat.le_refl _) _
 have h1 := h.below hal
 clear h
 go_enter Tryz.func99, Tryz.ntmps99
 go_wp2_with fail
 refine (place_any p E vs n _ h1 hl).mono ?_
 rintro e w2 ⟨rfl, hb2⟩
 have hB := hal.trans (hb2.mono (by simp))
 have hz : w2.heap[w.heap.size]? = some (.cells #[.int .i64 0, .int .i64 0, .bool false, .string ⟨#[]⟩] 147 (0, 0)) := (hb2.block _ (by simp)).trans (heap_alloc_new _ _)
 have hlt := (Array.getElem?_eq_some_iff.1 hz).1
 rw [vidxI_none hn]
 clear h1 hal hb2
 go_wp2_with (refine wpList_store_row rfl 147 (.tmp 4) (.tmp 13) rfl w.heap.size #[.int .i64 0, .int .i64 0, .bool false, .string ⟨#[]⟩] rfl rfl 147 #[.int .i64 0, .int .i64 0, .bool false, .string ⟨#[]⟩] hz hi154 rfl (by simp [Value.oneCell']) ?_)
 exact bodyPost_ret (v := .tuple #[verZero, .bool false]) (results_row_tmp Tryz.results99 _ _ w.heap.size _ _ _ _ rfl (setRow_heap _ _ _ _ _ _ hz) Tryz.underlying147 rfl hi154) rfl ⟨rfl, below_setRow hB (Nat.le_refl _) _⟩
theorem heap_set {w : World} {g i : Nat} {v : Value} {cs : Array Value} {t : TypeId} {fr : Nat × Nat} (h : w.heap[g]? = some (.cells cs t fr)) : (w.setCell ⟨g, i, none⟩ v).heap[g]? = some (.cells (cs.setIfInBounds i v) t fr) := by
 simp [World.setCell, Array.getElem?_modify, h]
theorem vidx_get {l : List Ver} {n : Int} {i : Nat} (h : vidx l n = some i) : ∃ v, l[i]? = some v /\ (v.num : Int) = n := by
 unfold vidx at h
 rw [List.findIdx?_eq_some_iff_getElem] at h
 obtain ⟨hlt, hp, _⟩ := h
 exact ⟨l[i], List.getElem?_eq_getElem hlt, by simpa using hp⟩
theorem numbered_some (p : Nat) (E : Ent) (vs : Value) (n : Int) (w : World) (h : EntAt w p E vs) (hl : E.vers.length < 1000000) (i : Nat) (v : Ver) (hn : vidx E.vers n = some i) (hv : E.vers[i]? = some v) :
 Calls Tryz.prog 99 #[.pointer (some ⟨p, 0, none⟩), .int .i64 n] w fun e w' => e = .returned (.tuple #[verAgg v, .bool (!v.mark)]) /\ Below w.heap.size w w' := by
 have hal : Below w.heap.size w (w.alloc (.cells #[.int .i64 0, .int .i64 0, .bool false, .string ⟨#[]⟩] 147)) := (Below.refl _ _).alloc (Nat.le_refl _) _
 have h1 := h.below hal
 clear h
 go_enter Tryz.func99, Tryz.ntmps99
 go_wp2_with fail
 refine (place_any p E vs n _ h1 hl).mono ?_
 rintro e w2 ⟨rfl, hb2⟩
 have hB := hal.trans (hb2.mono (by simp))
 have hz : w2.heap[w.heap.size]? = some (.cells #[.int .i64 0, .int .i64 0, .bool false, .string ⟨#[]⟩] 147 (0, 0)) := (hb2.block _ (by simp)).trans (heap_alloc_new _ _)
 have hlt := (Array.getElem?_eq_some_iff.1 hz).1
 have h2 := h1.below hb2
 rw [vidxI_some hn]
 have hltl : i < E.vers.length := (List.getElem?_eq_some_iff.1 hv).1
 obtain ⟨g, cap, rfl, hn2, hm, hg, _, hf, c0, c1, c2, c3⟩ := row_cells h2.row i v hv
 have e2 := h2.c2
 have hltp := h2.lt
 have HZ : Hid _ := hz
 have HBB : Hid _ := hB
 have k0 : w2.cell? ⟨w.heap.size, 0, none⟩ = some (.int .i64 0) := by simp [World.cell?, hz]
 have k1 : w2.cell? ⟨w.heap.size, 1, none⟩ = some (.int .i64 0) := by simp [World.cell?, hz]
 have k2 : w2.cell? ⟨w.heap.size, 2, none⟩ = some (.bool false) := by simp [World.cell?, hz]
 have k3 : w2.cell? ⟨w.heap.size, 3, none⟩ = some (.string ⟨#[]⟩) := by simp [World.cell?, hz]
 have kf : ∀ j, w2.frozen? ⟨w.heap.size, j, none⟩ = false := fun j => by simp [World.frozen?, hz]
 have kf0 := kf 0
 have kf1 := kf 1
 have kf2 := kf 2
 have kf3 := kf 3
 clear h1 hal hb2 h2 hv hn hz hB kf
 go_wp2
 go_region
 go_wp2
 have hs := heap_set (i := 3) (v := .string ⟨v.body.toArray⟩) (heap_set (i := 2) (v := .bool v.mark) (heap_set (i := 1) (v := .int .i64 v.time) (heap_set (i := 0) (v := .int .i64 v.num) HZ.out)))
 have hb4 := ((((HBB.out.setCell (p := ⟨w.heap.size, 0, none⟩) (Nat.le_refl _) (.int .i64 v.num)).setCell (p := ⟨w.heap.size, 1, none⟩) (Nat.le_refl _) (.int .i64 v.time)).setCell (p := ⟨w.heap.size, 2, none⟩) (Nat.le_refl _) (.bool v.mark)).setCell (p := ⟨w.heap.size, 3, none⟩) (Nat.le_refl _) (.string ⟨v.body.toArray⟩))
 exact bodyPost_ret (v := .tuple #[verAgg v, .bool (!v.mark)]) (results_row_tmp Tryz.results99 _ _ w.heap.size _ _ _ _ rfl ((heap_alloc_old _ _ (by simpa using hlt)).trans hs) Tryz.underlying147 rfl hi154) rfl ⟨rfl, (hb4.alloc hb4.size _).drew⟩
end Go.Proofs.YtmehkneofinmiabGreatDoor
namespace Go.Proofs.YtmehkneofinmiabGreatDoor
def appS (ts : Array TypeId) (ty : TypeId) (args : Array Value) : Sem Value := Builtin.append_ ts ty args
theorem appS_is (ts : Array TypeId) (ty : TypeId) (args : Array Value) : Builtin.append_ ts ty args = appS ts ty args := rfl
noncomputable def appR (P : Program) (t ty : TypeId) (w : World) (s x : Value) : Value × World :=
 match (Builtin.append_ #[t, t] ty #[s, x]).run P w with
 | .ok v w' => (v, w')
 | _ => (undef, w)
def AppOk (P : Program) (t ty : TypeId) (w : World) (s x : Value) : Prop := ∃ v w', (Builtin.append_ #[t, t] ty #[s, x]).run P w = .ok v w'
theorem app_run {P : Program} {t ty : TypeId} {w : World} {s x : Value} (h : AppOk P t ty w s x) :
 (appS #[t, t] ty #[s, x]).run P w = .ok (appR P t ty w s x).1 (appR P t ty w s x).2 := by
 obtain ⟨v, w', h⟩ := h
 simp only [appR, appS, h]
theorem app_is {P : Program} {t ty : TypeId} {w w' : World} {s x v : Value} (h : (Builtin.append_ #[t, t] ty #[s, x]).run P w = .ok v w') :
 AppOk P t ty w s x /\ (appR P t ty w s x).1 = v /\ (appR P t ty w s x).2 = w' := ⟨⟨v, w', h⟩, by simp only [appR, h], by simp only [appR, h]⟩
theorem tkH {P : Program} {ops : Array Oper} {Q : Exit -> Act -> World -> Prop} {md : Region.Mode} {S : World -> Prop} {oi : Oper} {v : Value} {fuel : Nat} {listed : Array Bool} {a : Act} {w : World} (i : Nat) (hi : ops[i]? = some oi)
 (hk : (Region.noSelect ops && (Region.free md ops listed i && (Region.ready md ops listed).contains i)) = true)
 (hQ : ∀ c a w, Q (.panic c) (a.put oi.dst v) w -> Q (.panic c) a w) (hy : YieldsIf P ops S oi v a) (hS : S w)
 (h : wpAnyH P md ops Q S fuel (listed.setIfInBounds i true) (a.put oi.dst v) w) : wpAnyH P md ops Q S (fuel + 1) listed a w := by
 rw [Bool.and_eq_true, Bool.and_eq_true] at hk
 exact wpAnyH_take hi hk.1 hk.2.1 hk.2.2 hQ hy hS h
end Go.Proofs.YtmehkneofinmiabGreatDoor
namespace Go.Proofs.YtmehkneofinmiabGreatDoor
open Go.RowKit
structure Off (S : Nat -> Prop) (w x : World) : Prop where
 os : x.os = w.os
 tape : x.tape = w.tape
 output : x.output = w.output
 size : w.heap.size <= x.heap.size
 block : ∀ k, k < w.heap.size -> ¬ S k -> x.heap[k]? = w.heap[k]?
theorem Off.refl (S : Nat -> Prop) (w : World) : Off S w w := ⟨rfl, rfl, rfl, Nat.le_refl _, fun _ _ _ => rfl⟩
theorem Off.trans {S : Nat -> Prop} {a b c : World} (h : Off S a b) (k : Off S b c) : Off S a c :=
 ⟨k.os.trans h.os, k.tape.trans h.tape, k.output.trans h.output, Nat.le_trans h.size k.size, fun i hi hs => (k.block i (Nat.lt_of_lt_of_le hi h.size) hs).trans (h.block i hi hs)⟩
theorem Off.trans' {S T : Nat -> Prop} {a b c : World} (h : Off S a b) (k : Off T b c) (hT : ∀ i, i < a.heap.size -> T i -> S i) : Off S a c :=
 ⟨k.os.trans h.os, k.tape.trans h.tape, k.output.trans h.output, Nat.le_trans h.size k.size, fun i hi hs => (k.block i (Nat.lt_of_lt_of_le hi h.size) (fun t => hs (hT i hi t))).trans (h.block i hi hs)⟩
theorem Off.mono {S T : Nat -> Prop} {a b : World} (h : Off S a b) (hT : ∀ i, S i -> T i) : Off T a b := ⟨h.os, h.tape, h.output, h.size, fun k hk hs => h.block k hk (fun s => hs (hT k s))⟩
theorem Off.of_below {S : Nat -> Prop} {w x : World} (h : Below w.heap.size w x) : Off S w x := ⟨h.os, h.tape, h.output, h.size, fun k hk _ => h.block k hk⟩
theorem Off.set {S : Nat -> Prop} {w x : World} (h : Off S w x) (g i : Nat) (v : Value) (hg : S g \/ w.heap.size <= g) : Off S w (x.setCell ⟨g, i, none⟩ v) := by
 refine ⟨h.os, h.tape, h.output, by simpa using h.size, fun k hk hs => ?_⟩
 have hne : g ≠ k := fun e => by subst e; rcases hg with hg | hg; exact hs hg; omega
 rw [<- h.block k hk hs]
 simp [World.setCell, Array.getElem?_modify, hne]
theorem Off.alloc {S : Nat -> Prop} {w x : World} (h : Off S w x) (o : Obj) : Off S w (x.alloc o) := by
 refine ⟨h.os, h.tape, h.output, by have := h.size; simp; omega, fun k hk hs => ?_⟩
 rw [<- h.block k hk hs]
 exact heap_alloc_old _ _ (Nat.lt_of_lt_of_le hk h.size)
theorem Off.drew {S : Nat -> Prop} {w x : World} (h : Off S w x) : Off S w x.drew := ⟨h.os, h.tape, h.output, h.size, h.block⟩
theorem Off.grown {S : Nat -> Prop} {w x y : World} {r : Option Nat} (h : Off S w x) (hg : x.grownBy y r) (hr : ∀ k, r = some k -> S k \/ w.heap.size <= k) : Off S w y := by
 refine ⟨hg.os.trans h.os, hg.tape.trans h.tape, hg.output.trans h.output, Nat.le_trans h.size hg.size, fun k hk hs => ?_⟩
 rw [<- h.block k hk hs]
 refine hg.block k (Nat.lt_of_lt_of_le hk h.size) (fun e => ?_)
 rcases hr k e.symm with h1 | h1
 ·exact hs h1
 ·omega
theorem info154m : (Tryz.prog.info? 147).map (fun i => (i.zero, i.size, i.bytes)) = some (some (.agg #[.int .i64 0, .int .i64 0, .bool false, .string ⟨#[]⟩]), 4, 40) := by kernel_rfl
end Go.Proofs.YtmehkneofinmiabGreatDoor
namespace Go.Proofs.YtmehkneofinmiabGreatDoor
open Go.RowKit
attribute [local go_sem ↓] appS_is
attribute [local go_sem] app_run
theorem clear_one (w : World) (ty : TypeId) (b o c : Nat) (hc : ∀ j, j < 4 -> (w.cell? ⟨b, o + j, none⟩).isSome = true) (hf : ∀ j, j < 4 -> w.frozen? ⟨b, o + j, none⟩ = false) :
 (Builtin.clear_ #[181] ty #[.slice (some ⟨b, o, none⟩) 1 c]).run Tryz.prog w = .ok (.tuple #[]) (w.setCells b o [.int .i64 0, .int .i64 0, .bool false, .string ⟨#[]⟩]) := by
 have hst := run_storeCells_cells (P := Tryz.prog) b o [.int .i64 0, .int .i64 0, .bool false, .string ⟨#[]⟩] 0 w (by simpa using hc) (by simpa using hf) (by simp [Value.oneCell'])
 simp only [Nat.add_zero] at hst
 have hzc : (Builtin.zeroCells (Value.agg #[.int .i64 0, .int .i64 0, .bool false, .string ⟨#[]⟩]).cells 1).toList = [.int .i64 0, .int .i64 0, .bool false, .string ⟨#[]⟩] := by simp [Builtin.zeroCells, Value.cells, List.range_succ]
 simp only [Builtin.clear_]
 simp [run_underlying Tryz.underlying181, Tryz.zeroValue147, hzc, hst]
theorem rowOf_append (a b : List Ver) : rowOf (a ++ b) = rowOf a ++ rowOf b := by simp [rowOf]
theorem rowOf_take (l : List Ver) (i : Nat) (h : i <= l.length) : (rowOf l).take (i * 4) = rowOf (l.take i) := by
 have e : rowOf l = rowOf (l.take i) ++ rowOf (l.drop i) := by rw [<- rowOf_append, List.take_append_drop]
 rw [e]
 have hl : (rowOf (l.take i)).length = i * 4 := by rw [rowOf_length, List.length_take, Nat.min_eq_left h]
 rw [<- hl, List.take_left]
theorem rowOf_drop (l : List Ver) (i : Nat) (h : i <= l.length) : (rowOf l).drop (i * 4) = rowOf (l.drop i) := by
 have e : rowOf l = rowOf (l.take i) ++ rowOf (l.drop i) := by rw [<- rowOf_append, List.take_append_drop]
 rw [e]
 have hl : (rowOf (l.take i)).length = i * 4 := by rw [rowOf_length, List.length_take, Nat.min_eq_left h]
 rw [<- hl, List.drop_left]
theorem rowOf_one {l : List Ver} {v : Value} (h : v ∈ rowOf l) : v.oneCell' = true := by
 simp only [rowOf, List.mem_flatMap] at h
 obtain ⟨x, _, hx⟩ := h
 simp only [verCells, List.mem_cons, List.not_mem_nil, or_false] at hx
 rcases hx with rfl | rfl | rfl | rfl <;> rfl
theorem delete_any (l : List Ver) (g cap : Nat) (i : Nat) (w : World) (h : w.ownsRow 0 147 4 (.slice (some ⟨g, 0, none⟩) l.length cap) l.length (rowOf l)) (hi : i < l.length) (hl : l.length < 1000000) :
 Calls Tryz.prog 239 #[.slice (some ⟨g, 0, none⟩) l.length cap, .int .i64 i, .int .i64 ((i : Int) + 1)] w fun e w' => e = .returned (.slice (some ⟨g, 0, none⟩) (l.length - 1) cap) /\
  w'.ownsRow 0 147 4 (.slice (some ⟨g, 0, none⟩) (l.length - 1) cap) (l.length - 1) (rowOf (l.eraseIdx i)) /\ Off (fun k => k = g) w w' := by
 obtain ⟨i0, hi0, hz0, hz1, hz2⟩ := info_parts info154m
 obtain ⟨cur, hg, hnc, hcm, hcs, htk⟩ : ∃ cur, w.heap[g]? = some (.cells cur 147 (0, 0)) /\ l.length <= cap /\ cap <= maxLen /\ cur.size = cap * 4 /\ cur.toList.take (l.length * 4) = rowOf l := by
  rcases h.2 with ⟨h0, _⟩ | ⟨g', cap', cur, hv, _, hg, h2⟩
  ·cases h0
  ·cases hv; exact ⟨cur, hg, h2⟩
 have hlt : g < w.heap.size := (Array.getElem?_eq_some_iff.1 hg).1
 simp only [maxLen] at hcm
 have hown : w.drew.ownsRow 0 147 4 (.slice (some ⟨g, 0, none⟩) i cap) i (rowOf (l.take i)) := by
  refine ⟨by rw [rowOf_length, List.length_take, Nat.min_eq_left (by omega)], Or.inr ⟨g, cap, cur, rfl, Nat.zero_le _, hg, by omega, by simp only [maxLen]; omega, hcs, ?_⟩⟩
  rw [<- rowOf_take l i (by omega), <- htk, List.take_take, Nat.min_eq_left (by omega)]
 have hcell : ∀ j u, (rowOf l)[j]? = some u -> w.cell? ⟨g, j, none⟩ = some u := by
  intro j u hu
  have hj : j < l.length * 4 := by have := (List.getElem?_eq_some_iff.1 hu).1; rwa [rowOf_length] at this
  rw [<- htk, List.getElem?_take_of_lt hj] at hu
  simpa [World.cell?, hg] using hu
 obtain ⟨A, hA, hsrc⟩ : ∃ A : Addr, (if cap = i + 1 then some (⟨g, 0, none⟩ : Addr) else some ⟨g, (i + 1) * 4, none⟩) = some A /\ Hid (∀ t u, (rowOf (l.drop (i + 1)))[t]? = some u -> w.drew.cell? (A.add t) = some u) := by
  by_cases hc : cap = i + 1
  ·refine ⟨⟨g, 0, none⟩, by simp [hc], fun t u hu => ?_⟩
   have : l.drop (i + 1) = [] := List.drop_eq_nil_of_le (by omega)
   rw [this] at hu
   simp [rowOf] at hu
  ·refine ⟨⟨g, (i + 1) * 4, none⟩, by simp [hc], fun t u hu => ?_⟩
   rw [<- rowOf_drop l (i + 1) (by omega), List.getElem?_drop] at hu
   rw [Addr.add_lit]
   exact hcell _ _ hu
 obtain ⟨w1, hrun, hown1, hgrow⟩ := run_append_fits (P := Tryz.prog) w.drew 0 181 181 147 i0 4 Tryz.underlying181 hi0 hz1 g i cap (rowOf (l.take i)) hown A (l.length - (i + 1)) (cap - (i + 1)) (rowOf (l.drop (i + 1))) (by rw [rowOf_length, List.length_drop]) hsrc.out (fun u hu => rowOf_one hu) (by omega)
 obtain ⟨hok, hr1, hr2⟩ := app_is hrun
 have HG : Hid _ := hgrow
 have HO : Hid _ := hown1
 obtain ⟨cur1, hg1, hcs1, htk1⟩ : ∃ cur1, w1.heap[g]? = some (.cells cur1 147 (0, 0)) /\ cur1.size = cap * 4 /\ cur1.toList.take ((i + (l.length - (i + 1))) * 4) = rowOf (l.take i) ++ rowOf (l.drop (i + 1)) := by
  rcases HO.out.2 with ⟨h0, _⟩ | ⟨g', cap', cur', hv, _, hg', _, _, h3, h4⟩
  ·cases h0
  ·cases hv; exact ⟨cur', hg', h3, h4⟩
 have hcl : (Builtin.clear_ #[181] 0 #[.slice (some ⟨g, (i + (l.length - (i + 1))) * 4, none⟩) (l.length - (i + (l.length - (i + 1)))) (cap - (i + (l.length - (i + 1))))]).run Tryz.prog w1 = .ok (.tuple #[]) (w1.setCells g ((i + (l.length - (i + 1))) * 4) [.int .i64 0, .int .i64 0, .bool false, .string ⟨#[]⟩]) := by
  have e1 : l.length - (i + (l.length - (i + 1))) = 1 := by omega
  rw [e1]
  refine clear_one w1 0 g _ _ (fun j hj => ?_) (fun j hj => ?_)
  ·simp only [World.cell?, hg1]
   rw [Array.getElem?_eq_getElem (by omega)]
   rfl
  ·simp [World.frozen?, hg1]
 obtain ⟨w2, hw2⟩ : ∃ w2, w2 = w1.setCells g ((i + (l.length - (i + 1))) * 4) [.int .i64 0, .int .i64 0, .bool false, .string ⟨#[]⟩] := ⟨_, rfl⟩
 rw [<- hw2] at hcl
 have HW : Hid _ := hw2
 have H1 : Hid _ := hg1
 have H2 : Hid _ := hcs1
 have H3 : Hid _ := htk1
 clear hrun hgrow hown1 hown hcell hsrc h htk hcs hg hw2 hg1 hcs1 htk1
 go_enter Tryz.func239, Tryz.ntmps239
 go_wp2_with fail
 go_region
 go_wp2
 go_ret
 have hk : i + (l.length - (i + 1)) = l.length - 1 := by omega
 refine ⟨by rw [<- hk]; rfl, ?_, ?_⟩
 ·have hb : w2.heap[g]? = some (.cells (((((cur1.setIfInBounds ((l.length - 1) * 4) (.int .i64 0)).setIfInBounds ((l.length - 1) * 4 + 1) (.int .i64 0)).setIfInBounds ((l.length - 1) * 4 + 1 + 1) (.bool false)).setIfInBounds ((l.length - 1) * 4 + 1 + 1 + 1) (.string ⟨#[]⟩))) 147 (0, 0)) := by
   rw [HW.out, hk]
   exact heap_set (heap_set (heap_set (heap_set H1.out)))
  refine ⟨by rw [rowOf_length, List.length_eraseIdx_of_lt hi], Or.inr ⟨g, cap, _, rfl, Nat.zero_le _, hb, by omega, by simp only [maxLen]; omega, by simpa using H2.out, ?_⟩⟩
  have h3 := H3.out
  rw [hk] at h3
  have e2 : rowOf (l.eraseIdx i) = rowOf (l.take i) ++ rowOf (l.drop (i + 1)) := by rw [List.eraseIdx_eq_take_drop_succ, rowOf_append]
  rw [e2, <- h3]
  apply List.ext_getElem?
  intro t
  by_cases ht : t < (l.length - 1) * 4
  ·rw [List.getElem?_take_of_lt ht, List.getElem?_take_of_lt ht]
   simp only [Array.getElem?_toList]
   rw [Array.getElem?_setIfInBounds_ne (by omega), Array.getElem?_setIfInBounds_ne (by omega), Array.getElem?_setIfInBounds_ne (by omega), Array.getElem?_setIfInBounds_ne (by omega)]
  ·rw [List.getElem?_eq_none (by simp; omega), List.getElem?_eq_none (by simp; omega)]
 ·have ho : Off (fun k => k = g) w w1 := (Off.refl _ w).drew.grown HG.out (fun k hk => Or.inl (by cases hk; rfl))
  rw [HW.out]
  exact (((ho.set g _ _ (Or.inl rfl)).set g _ _ (Or.inl rfl)).set g _ _ (Or.inl rfl)).set g _ _ (Or.inl rfl)
end Go.Proofs.YtmehkneofinmiabGreatDoor
namespace Go.Proofs.YtmehkneofinmiabGreatDoor
open Go.RowKit
theorem remove_any (p : Nat) (E : Ent) (vs : Value) (n : Int) (w : World) (h : EntAt w p E vs) (hp : vs.ownBlock ≠ some p) (hl : E.vers.length < 1000000) (i : Nat) (hn : vidx E.vers n = some i) :
 Calls Tryz.prog 200 #[.pointer (some ⟨p, 0, none⟩), .int .i64 n] w fun e w' => (∃ v, e = .returned v) /\ ∃ vs', EntAt w' p ⟨E.key, E.last, E.vers.eraseIdx i⟩ vs' /\ vs'.ownBlock = vs.ownBlock /\ Off (fun k => k = p \/ vs.ownBlock = some k) w w' := by
 obtain ⟨v, hv, _⟩ := vidx_get hn
 have hi : i < E.vers.length := (List.getElem?_eq_some_iff.1 hv).1
 go_enter Tryz.func200, Tryz.ntmps200
 go_wp2_with fail
 refine (place_any p E vs n _ h hl).mono ?_
 rintro e w2 ⟨rfl, hb2⟩
 rw [vidxI_some hn]
 have h2 := h.below hb2
 obtain ⟨g, cap, rfl⟩ : ∃ g cap, vs = .slice (some ⟨g, 0, none⟩) E.vers.length cap := by
  obtain ⟨g, cap, e, _⟩ := row_cells h2.row i v hv
  exact ⟨g, cap, e⟩
 have c2 := h2.c2
 have hlt := h2.lt
 have HH : Hid (EntAt w2 p E (.slice (some ⟨g, 0, none⟩) E.vers.length cap)) := h2
 have HB : Hid (Below w.heap.size w w2) := hb2
 have HP : Hid ((Value.slice (some ⟨g, 0, none⟩) E.vers.length cap).ownBlock ≠ some p) := hp
 clear h2 hb2 h hp
 go_wp2_with fail
 refine (delete_any E.vers g cap i _ HH.out.row hi hl).mono ?_
 rintro e w3 ⟨rfl, hown3, ho3⟩
 have hgp : g ≠ p := fun e => HP.out (by rw [e]; rfl)
 have hb3 : w3.heap[p]? = some (.cells #[.string ⟨E.key.toArray⟩, .int .i64 E.last, .slice (some ⟨g, 0, none⟩) E.vers.length cap] 183 (0, 0)) := (ho3.block p hlt (Ne.symm hgp)).trans HH.out.blk
 have c3 : w3.cell? ⟨p, 2, none⟩ = some (.slice (some ⟨g, 0, none⟩) E.vers.length cap) := by simp [World.cell?, hb3]
 have f3 : w3.frozen? ⟨p, 2, none⟩ = false := by simp [World.frozen?, hb3]
 have H1 : Hid _ := hown3
 have H2 : Hid _ := ho3
 have H3 : Hid _ := hb3
 clear hown3 ho3 hb3
 go_wp2
 refine bodyPost_end (results_none Tryz.results200 _ _ _) rfl ⟨⟨_, rfl⟩, _, ⟨heap_set (i := 2) H3.out, ?_⟩, rfl, ?_⟩
 ·have h0 := H1.out
  rw [List.length_eraseIdx_of_lt hi]
  refine ⟨h0.1, ?_⟩
  rcases h0.2 with ⟨hc, _⟩ | ⟨g', cap', cur, hv, h1, hg, h2⟩
  ·cases hc
  ·cases hv
   refine Or.inr ⟨g, cap, cur, rfl, h1, ?_, h2⟩
   rw [<- hg]
   simp [World.setCell, Array.getElem?_modify, Ne.symm hgp]
 ·refine (((Off.of_below HB.out).trans' H2.out (fun k _ e => ?_)).set p 2 _ (Or.inl (Or.inl rfl)))
  right
  rw [e]; rfl
end Go.Proofs.YtmehkneofinmiabGreatDoor

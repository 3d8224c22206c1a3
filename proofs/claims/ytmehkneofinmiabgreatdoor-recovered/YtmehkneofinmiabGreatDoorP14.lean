/-
 Texts of this proof, part 14.
-/
import Derived.Test.YtmehkneofinmiabGreatDoorP11
import Derived.Lib.JoinLaws
import Derived.Lib.AppendZerosOnto
import Derived.Lib.Overlaps
set_option maxRecDepth 100000
set_option maxHeartbeats 4000000
namespace Go.Proofs.YtmehkneofinmiabGreatDoor
open Go.RowKit
attribute [local go_sem ↓] appS_is
attribute [local go_sem] app_run
theorem wp_copy_run (w : World) {P : Program} {o : Oper} {a : Act} {K : Act -> World -> Prop} {Q : Exit -> Act -> World -> Prop} (d s : Operand) (t t' : TypeId)
 (ho : o.op = .call { callee := .builtin .copy, args := #[d, s], argTypes := #[t, t'] }) (v u : Value) (hd : a.eval d = v) (hs : a.eval s = u) {v' : Value} {w' : World}
 (hr : (Builtin.copy_ #[t, t'] o.type #[v, u]).run P w = .ok v' w') (h : K (a.put o.dst v') w') : o.wp P a w K Q := by
 unfold Oper.wp execOp
 simp only [ho, resolve, invoke, builtin, Sem.run_bind, Sem.run_pure, Result.andThen_ok, List.map_toArray, List.map_cons, List.map_nil, hd, hs, hr]
 exact h
theorem wpList_copy_run (w : World) {P : Program} {ops : Array Oper} {rest : List Oper} {o : Oper} {a : Act} {Q : Exit -> Act -> World -> Prop} (hgd : o.guard = none) (d s : Operand) (t t' : TypeId)
 (ho : o.op = .call { callee := .builtin .copy, args := #[d, s], argTypes := #[t, t'] }) (v u : Value) (hd : a.eval d = v) (hs : a.eval s = u) {v' : Value} {w' : World}
 (hr : (Builtin.copy_ #[t, t'] o.type #[v, u]).run P w = .ok v' w') (h : wpList P ops Q rest (a.put o.dst v') w') : wpList P ops Q (o::rest) a w :=
 wpList_plain hgd fun _ hK => wp_copy_run w d s t t' ho v u hd hs hr (hK _ _ h)
theorem infoPm : (Tryz.prog.info? 143).map (fun i => (i.zero, i.size, i.bytes)) = some (some (.pointer none), 1, 8) := by kernel_rfl
theorem sizeP : (Tryz.prog.info? 143).map (·.size) = some 1 := by kernel_rfl
theorem row1_cells {w : World} {e : TypeId} {g n cap : Nat} {xs : List Value} (h : w.ownsRow 0 e 1 (.slice (some ⟨g, 0, none⟩) n cap) n xs) :
 xs.length = n /\ n <= cap /\ cap <= 9223372036854775807 /\ g < w.heap.size /\ ∃ cur, w.heap[g]? = some (.cells cur e (0, 0)) /\ cur.size = cap /\ cur.toList.take n = xs /\ (∀ j v, xs[j]? = some v -> w.cell? ⟨g, j, none⟩ = some v) /\
  (∀ j, j < cap -> (w.cell? ⟨g, j, none⟩).isSome = true) /\ ∀ j, w.frozen? ⟨g, j, none⟩ = false := by
 rcases h.2 with ⟨h0, _⟩ | ⟨g', cap', cur, hv, _, hg, hn, hm, hs, htk⟩
 ·cases h0
 ·cases hv
  rw [Nat.mul_one] at hs htk
  have hl : xs.length = n := by rw [h.1, Nat.mul_one]
  refine ⟨hl, hn, by simpa [maxLen] using hm, (Array.getElem?_eq_some_iff.1 hg).1, cur, hg, hs, htk, ?_, ?_, ?_⟩
  ·intro j v hv
   have hj : j < n := by rw [<- hl]; exact (List.getElem?_eq_some_iff.1 hv).1
   rw [<- htk, List.getElem?_take_of_lt hj] at hv
   simpa [World.cell?, hg] using hv
  ·intro j hj
   simp only [World.cell?, hg]
   rw [Array.getElem?_eq_getElem (by omega)]
   rfl
  ·intro j
   simp [World.frozen?, hg]
theorem insert_end (es : Value) (n : Nat) (xs : List Value) (vb : Nat) (x : Value) (w : World) (h : w.ownsRow 0 143 1 es n xs) (hx : x.oneCell' = true) (hv : w.heap[vb]? = some (.cells #[x] 143 (0, 0))) (hn : n < 1000000) :
 Calls Tryz.prog 241 #[es, .int .i64 n, .slice (some ⟨vb, 0, none⟩) 1 1] w fun e w' => ∃ g cap, e = .returned (.slice (some ⟨g, 0, none⟩) (n + 1) cap) /\
  w'.ownsRow 0 143 1 (.slice (some ⟨g, 0, none⟩) (n + 1) cap) (n + 1) (xs ++ [x]) /\ (es.ownBlock = some g \/ w.heap.size <= g) /\ Off (fun k => es.ownBlock = some k) w w' := by
 obtain ⟨i0, hi0, hz0, hz1, hz2⟩ := info_parts infoPm
 have HR : Hid (w.ownsRow 0 143 1 es n xs) := h
 have HV : Hid _ := hv
 rcases h.2 with ⟨rfl, rfl⟩ | ⟨g0, c, cur, rfl, _, _, hnc, _⟩
 all_goals (
  clear h hv
  go_enter Tryz.func241, Tryz.ntmps241
  go_wp2_with (at_builtin; refine wpList_append_lies _ rfl _ _ 135 rfl 0 143 i0 _ 1 8 Tryz.underlying135 hi0 hz0 hz1 hz2 rfl (by omega) _ _ xs rfl HR.out ⟨vb, 0, none⟩ 1 1 [x] rfl rfl (World.news_of_block (cs := #[x]) HV.out) (by simpa using hx) (by omega) (by simp only [maxLen]; omega) (by omega) (by omega) _ rfl ?_; intro g cap w1 hown1 hgrow hat hlt)
  all_goals (
   go_ret
   refine ⟨g, cap, rfl, hown1, ?_, (Off.refl _ w).grown hgrow (fun k hk => Or.inl hk)⟩
   rcases hat with h1 | h1
   ·exact Or.inl h1
   ·right; omega))
theorem isSome_setCells (b : Nat) (vs : List Value) (o : Nat) (w : World) (h : ∀ j, j < vs.length -> (w.cell? ⟨b, o + j, none⟩).isSome = true) (k : Nat) (hk : (w.cell? ⟨b, k, none⟩).isSome = true) : ((w.setCells b o vs).cell? ⟨b, k, none⟩).isSome = true := by
 by_cases hin : o <= k /\ k < o + vs.length
 ·have := World.cell?_setCells_in b vs o w h (k - o) (by omega)
  rw [show o + (k - o) = k by omega] at this
  rw [this]; rfl
 ·rw [World.cell?_setCells_out b vs o w ⟨b, k, none⟩ (fun _ _ => by show k < o \/ o + vs.length <= k; omega)]
  exact hk
theorem Off.setCells {S : Nat -> Prop} {w : World} (g : Nat) (hg : S g \/ w.heap.size <= g) : ∀ (vs : List Value) (o : Nat) (x : World), Off S w x -> Off S w (x.setCells g o vs)
 | [], _, _, h => h
 | v::r, o, _, h => Off.setCells g hg r (o + 1) _ (h.set g o v hg)
theorem row1_set {x : World} {e : TypeId} {g n cap : Nat} {xs : List Value} (cur : Array Value) (hg : x.heap[g]? = some (.cells cur e (0, 0))) (hs : cur.size = cap) (hn : n <= cap) (hc : cap <= 9223372036854775807) (hl : xs.length = n) (hx : ∀ j, j < n -> cur[j]? = xs[j]?) :
 x.ownsRow 0 e 1 (.slice (some ⟨g, 0, none⟩) n cap) n xs := by
 refine ⟨by omega, Or.inr ⟨g, cap, cur, rfl, Nat.zero_le _, hg, hn, by simpa [maxLen] using hc, by omega, ?_⟩⟩
 apply List.ext_getElem?
 intro j
 rw [Nat.mul_one]
 by_cases hj : j < n
 ·rw [List.getElem?_take_of_lt hj, <- hx j hj]; simp
 ·rw [List.getElem?_eq_none (by simp; omega), List.getElem?_eq_none (by omega)]
theorem setCells_blk (g : Nat) : ∀ (vs : List Value) (o : Nat) (w : World) (cur : Array Value) (t : TypeId) (fr : Nat × Nat), w.heap[g]? = some (.cells cur t fr) -> ∃ cur', (w.setCells g o vs).heap[g]? = some (.cells cur' t fr) /\ cur'.size = cur.size
 | [], _, _, cur, _, _, h => ⟨cur, h, rfl⟩
 | v::r, o, w, _, t, fr, h => by
   obtain ⟨cur', h1, h2⟩ := setCells_blk g r (o + 1) (w.setCell ⟨g, o, none⟩ v) _ t fr (heap_set h)
   exact ⟨cur', h1, by rw [h2]; simp⟩
theorem insert_shift (g c n i vb : Nat) (xs : List Value) (x : Value) (w : World) (h : w.ownsRow 0 143 1 (.slice (some ⟨g, 0, none⟩) n c) n xs) (h1 : ∀ v ∈ xs, v.oneCell' = true) (hx : x.oneCell' = true) (hv : w.heap[vb]? = some (.cells #[x] 143 (0, 0))) (hi : i < n) (hroom : n + 1 <= c) (hvb : vb ≠ g) (hn : n < 1000000) :
 Calls Tryz.prog 241 #[.slice (some ⟨g, 0, none⟩) n c, .int .i64 i, .slice (some ⟨vb, 0, none⟩) 1 1] w fun e w' => e = .returned (.slice (some ⟨g, 0, none⟩) (n + 1) c) /\
  w' = (w.drew.setCells g (i + 1) (xs.drop i)).setCells g i [x] := by
 obtain ⟨hcl, hnc, hc63, hlt, cur, hg, hcs, htk, hcell, hsp, hfz⟩ := row1_cells h
 have hvx : w.cell? ⟨vb, 0, none⟩ = some x := by simp [World.cell?, hv]
 have hov : ∀ lb cb, (callFunc 265 #[.slice (some ⟨vb, 0, none⟩) 1 1, .slice (some ⟨g, i + 1, none⟩) lb cb]).run Tryz.prog w = .ok (.value (.bool false)) w := fun lb cb => by
  rw [run_callFunc_extern Tryz.func265 (by kernel_rfl) (by kernel_rfl) (by kernel_rfl) (e := Extern.SlicesOverlaps.overlaps #[135, 135] #[4]) (by kernel_rfl),
   Lib.run_overlaps_apart w 135 4 143 Tryz.underlying135 1 Tryz.sizeOf143 ⟨vb, 0, none⟩ ⟨g, i + 1, none⟩ 1 1 lb cb hvb 143 143 1 cur.size (by simp [World.shape?, hv]) (by simp [World.shape?, hg]) (by omega) (by simp [World.frozen?, hv]) (by simp [World.frozen?, hv])]
  rfl
 have hdl : (xs.drop i).length = n - i := by rw [List.length_drop, hcl]
 have hcp1 : ∀ ty dc sc, (Builtin.copy_ #[135, 135] ty #[.slice (some ⟨g, i + 1, none⟩) (n - i) dc, .slice (some ⟨g, i, none⟩) (n + 1 - i) sc]).run Tryz.prog w.drew = .ok (goInt (xs.drop i).length) (w.drew.setCells g (i + 1) (xs.drop i)) := fun ty dc sc =>
  run_copy_cells w.drew _ _ ty 143 g (i + 1) (n - i) dc ⟨g, i, none⟩ (n + 1 - i) sc (xs.drop i) Tryz.underlying135 sizeP (by rw [hdl]; simp only [Nat.min_def]; split <;> omega)
   (fun j v hj => by rw [Addr.add_lit]; exact hcell (i + j) v (by rwa [List.getElem?_drop] at hj))
   (fun j hj => hsp _ (by omega)) (fun j hj => hfz _) (fun v hv => h1 v (List.mem_of_mem_drop hv))
 obtain ⟨W1, hW1⟩ : ∃ W1, W1 = w.drew.setCells g (i + 1) (xs.drop i) := ⟨_, rfl⟩
 have hsp1 : ∀ k, k < n + 1 -> (W1.cell? ⟨g, k, none⟩).isSome = true := fun k hk => by
  rw [hW1]
  exact isSome_setCells g (xs.drop i) (i + 1) w.drew (fun j hj => hsp _ (by omega)) _ (hsp k (by omega))
 have hcp2 : ∀ (W : World), (∀ x, W.cell? x = W1.cell? x) -> (∀ x, W.frozen? x = W1.frozen? x) -> ∀ ty dc, (Builtin.copy_ #[135, 135] ty #[.slice (some ⟨g, i, none⟩) (n + 1 - i) dc, .slice (some ⟨vb, 0, none⟩) 1 1]).run Tryz.prog W = .ok (goInt 1) (W.setCells g i [x]) := fun W hWc hWf ty dc =>
  run_copy_cells W _ _ ty 143 g i (n + 1 - i) dc ⟨vb, 0, none⟩ 1 1 [x] Tryz.underlying135 sizeP (by simp only [List.length_singleton, Nat.min_def]; split <;> omega)
   (fun j v hj => by
     rw [Addr.add_lit, hWc, hW1, World.cell?_setCells_out g _ _ _ _ (fun h _ => absurd h hvb)]
     cases j with
     | zero => simp at hj; subst hj; exact hvx
     | succ j => simp at hj)
   (fun j hj => by rw [hWc]; exact hsp1 _ (by simp at hj; omega)) (fun j hj => by rw [hWf, hW1, World.frozen?_setCells]; exact hfz _) (by simpa using hx)
 rw [<- hW1] at hcp1
 have HW : Hid _ := hW1
 have hz2 : ¬ ((i : Int) = (n : Int)) := by omega
 have hb2 : ¬ (c = i + 1) := by omega
 have hb4 : ¬ (c = i) := by omega
 clear hW1 hsp1 hsp hfz hcell htk hcs hg hvx h hdl
 go_enter Tryz.func241, Tryz.ntmps241
 go_wp2_with (simp only [hov])
 go_region
 go_wp2_with (at_builtin; refine wpList_copy_run _ rfl _ _ 135 135 rfl _ _ rfl rfl (hcp2 _ (fun _ => rfl) (fun _ => rfl) _ _) ?_)
 go_ret
 exact ⟨rfl, by rw [HW.out]⟩
end Go.Proofs.YtmehkneofinmiabGreatDoor
namespace Go.Proofs.YtmehkneofinmiabGreatDoor
open Go.RowKit
theorem insert_grow (g c n i vb : Nat) (xs : List Value) (x : Value) (w : World) (h : w.ownsRow 0 143 1 (.slice (some ⟨g, 0, none⟩) n c) n xs) (h1 : ∀ v ∈ xs, v.oneCell' = true) (hx : x.oneCell' = true) (hv : w.heap[vb]? = some (.cells #[x] 143 (0, 0))) (hi : i < n) (hroom : c < n + 1) (hn : n < 1000000) :
 Calls Tryz.prog 241 #[.slice (some ⟨g, 0, none⟩) n c, .int .i64 i, .slice (some ⟨vb, 0, none⟩) 1 1] w fun e w' => ∃ G ROW, e = .returned (.slice (some ⟨w.heap.size, 0, none⟩) (n + 1) G) /\ n + 1 <= G /\ G <= 9223372036854775807 /\ ROW.size = G /\ ROW.toList.take i = xs.take i /\
  w' = (((w.alloc (.cells ROW 143)).drew.setCells w.heap.size i [x]).drew).setCells w.heap.size (i + 1) (xs.drop i) := by
 obtain ⟨i0, hi0, hz0, hzs, hzb⟩ := info_parts infoPm
 obtain ⟨hcl, hnc, hc63, hlt, cur, hg, hcs, htk, hcell, hsp, hfz⟩ := row1_cells h
 have hvx : w.cell? ⟨vb, 0, none⟩ = some x := by simp [World.cell?, hv]
 have hvw : vb < w.heap.size := (Array.getElem?_eq_some_iff.1 hv).1
 have hkk : (n : Int) + 1 - (i : Int) = ((n + 1 - i : Nat) : Int) := by omega
 have hik : i + (n + 1 - i) = n + 1 := by omega
 have hold : (Builtin.firstCells i0.size i (.slice (some ⟨g, 0, none⟩) i c)).run Tryz.prog w.drew = .ok (xs.take i).toArray w.drew := by
  rw [hzs]
  exact run_firstCells_some w.drew 1 i ⟨g, 0, none⟩ i c (xs.take i) (by rw [List.length_take]; omega) (fun j v hj => by
   rw [Addr.add_lit]
   rw [List.getElem?_take] at hj
   split at hj
   ·simpa using hcell j v hj
   ·cases hj)
 have hrz : ∀ ty, (Builtin.append_ #[135, 3] ty #[.slice (some ⟨g, 0, none⟩) i c, .int .i64 ((n : Int) + 1 - (i : Int))]).run Tryz.prog w =
  .ok (.slice (some ⟨w.heap.size, 0, none⟩) (n + 1) (grownCap w (n + 1) c 143)) (w.drew.alloc (.cells ((xs.take i).toArray ++ Builtin.zeroCells (Value.pointer none).cells (n + 1 - i) ++ Builtin.zeroCells (Value.pointer none).cells (grownCap w (n + 1) c 143 - (n + 1))) 143)) := fun ty => by
  have h := Lib.run_append_grow_zeros w 135 3 ty 143 i0 _ .i64 .i64 Tryz.underlying135 Tryz.underlying3 hi0 hz0 (some ⟨g, 0, none⟩) i c (xs.take i) hold (n + 1 - i) (by omega) (by omega) (by omega) (by omega) (by rw [hzb]; omega) (by rw [hzb, hik]; exact growslice_fits hroom (by omega))
  rw [hik] at h
  rw [hkk]
  exact h
 obtain ⟨G, hG⟩ : ∃ G, G = grownCap w (n + 1) c 143 := ⟨_, rfl⟩
 obtain ⟨ROW, hROW⟩ : ∃ ROW : Array Value, ROW = (xs.take i).toArray ++ Builtin.zeroCells (Value.pointer none).cells (n + 1 - i) ++ Builtin.zeroCells (Value.pointer none).cells (G - (n + 1)) := ⟨_, rfl⟩
 rw [<- hG] at hrz
 rw [<- hROW] at hrz
 have hGn : n + 1 <= G := by rw [hG]; exact grownCap_ge w _ _ _
 have hG63 : G <= 9223372036854775807 := by
  have := grownCap_le_maxLen w (n + 1) c 143 (by unfold maxLen; omega)
  rw [<- hG] at this
  unfold maxLen at this
  omega
 have hRs : ROW.size = G := by
  rw [hROW]
  simp [Builtin.zeroCells, Value.cells]
  omega
 have hRt : ROW.toList.take i = xs.take i := by
  rw [hROW, Array.toList_append, Array.toList_append, List.append_assoc]
  rw [List.take_append_of_le_length (by simp; omega)]
  show List.take i (List.take i xs) = List.take i xs
  rw [List.take_take, Nat.min_self]
 obtain ⟨W1, hW1⟩ : ∃ W1, W1 = w.drew.alloc (.cells ROW 143) := ⟨_, rfl⟩
 rw [<- hW1] at hrz
 have hN : ∀ j, j < n + 1 -> (W1.cell? ⟨w.heap.size, j, none⟩).isSome = true := fun j hj => by
  rw [hW1, World.cell?_alloc_at (w := w.drew) ROW _ w.heap.size j rfl, Array.getElem?_eq_getElem (by omega)]; rfl
 have hNf : ∀ j, W1.frozen? ⟨w.heap.size, j, none⟩ = false := fun j => by rw [hW1]; exact World.frozen?_alloc_at (w := w.drew) ROW _ w.heap.size j rfl
 have hOb : ∀ j v, w.cell? ⟨g, j, none⟩ = some v -> W1.cell? ⟨g, j, none⟩ = some v := fun j v h => by rw [hW1, World.cell?_alloc_past (w := w.drew) _ g j hlt]; exact h
 have hOv : W1.cell? ⟨vb, 0, none⟩ = some x := by rw [hW1, World.cell?_alloc_past (w := w.drew) _ vb 0 hvw]; exact hvx
 have hcpA : ∀ (W : World), (∀ x, W.cell? x = W1.cell? x) -> (∀ x, W.frozen? x = W1.frozen? x) -> ∀ ty dc, (Builtin.copy_ #[135, 135] ty #[.slice (some ⟨w.heap.size, i, none⟩) (n + 1 - i) dc, .slice (some ⟨vb, 0, none⟩) 1 1]).run Tryz.prog W = .ok (goInt 1) (W.setCells w.heap.size i [x]) := fun W hWc hWf ty dc =>
  run_copy_cells W _ _ ty 143 w.heap.size i (n + 1 - i) dc ⟨vb, 0, none⟩ 1 1 [x] Tryz.underlying135 sizeP (by simp only [List.length_singleton, Nat.min_def]; split <;> omega)
   (fun j v hj => by
     rw [Addr.add_lit, hWc]
     cases j with
     | zero => simp at hj; subst hj; exact hOv
     | succ j => simp at hj)
   (fun j hj => by rw [hWc]; exact hN _ (by simp at hj; omega)) (fun j hj => by rw [hWf]; exact hNf _) (by simpa using hx)
 have hGi : ¬ (G = i) := by omega
 have hGim : ¬ (G = i + 1) := by omega
 have hci : ¬ (c = i) := by omega
 have hbN : g ≠ w.heap.size := by omega
 have hdl : (xs.drop i).length = n - i := by rw [List.length_drop, hcl]
 have hcpB : ∀ (W : World), (∀ q, W.cell? q = (W1.setCells w.heap.size i [x]).cell? q) -> (∀ q, W.frozen? q = (W1.setCells w.heap.size i [x]).frozen? q) -> ∀ ty dc sc, (Builtin.copy_ #[135, 135] ty #[.slice (some ⟨w.heap.size, i + 1, none⟩) (n - i) dc, .slice (some ⟨g, i, none⟩) (n - i) sc]).run Tryz.prog W = .ok (goInt (xs.drop i).length) (W.setCells w.heap.size (i + 1) (xs.drop i)) := fun W hWc hWf ty dc sc =>
  run_copy_cells W _ _ ty 143 w.heap.size (i + 1) (n - i) dc ⟨g, i, none⟩ (n - i) sc (xs.drop i) Tryz.underlying135 sizeP (by rw [hdl]; simp only [Nat.min_def]; split <;> omega)
   (fun j v hj => by
     rw [Addr.add_lit, hWc, World.cell?_setCells_out _ _ _ _ _ (fun h _ => absurd h hbN)]
     exact hOb _ v (hcell (i + j) v (by rwa [List.getElem?_drop] at hj)))
   (fun j hj => by rw [hWc]; exact isSome_setCells w.heap.size [x] i W1 (fun t ht => hN _ (by simp at ht; omega)) _ (hN _ (by omega)))
   (fun j hj => by rw [hWf, World.frozen?_setCells]; exact hNf _) (fun v hv => h1 v (List.mem_of_mem_drop hv))
 subst hW1
 have hE1 : ∀ x, ((w.alloc (.cells ROW 143)).drew).cell? x = (w.drew.alloc (.cells ROW 143)).cell? x := fun x => rfl
 have hE2 : ∀ x, ((w.alloc (.cells ROW 143)).drew).frozen? x = (w.drew.alloc (.cells ROW 143)).frozen? x := fun x => rfl
 have hF : ∀ ty dc sc, _ := hcpB (((w.alloc (.cells ROW 143)).drew.setCells w.heap.size i [x]).drew) (fun x => rfl) (fun x => rfl)
 have hz2 : ¬ ((i : Int) = (n : Int)) := by omega
 have hz3 : (c : Int) < (n : Int) + 1 := by omega
 have hw1 : IntKind.i64.wrap ((i : Int) + 1) = (i : Int) + 1 := by rw [IntKind.wrap_i64]; omega
 have HS : Hid (ROW.size = G) := hRs
 have HT : Hid (ROW.toList.take i = xs.take i) := hRt
 have hb3 : (i : Int) <= (n : Int) := by omega
 clear hkk hik hold hROW hG hRs hRt hN hNf hOb hOv hcell hsp hfz htk hcs hg h
 go_enter Tryz.func241, Tryz.ntmps241
 go_wp2_with (first
  | (at_builtin; refine Lib.wpList_append_run _ rfl _ _ _ _ rfl _ _ rfl rfl _ _ (hrz _) ?_)
  | (at_builtin; refine wpList_copy_run _ rfl _ _ 135 135 rfl _ _ rfl rfl (hcpA _ hE1 hE2 _ _) ?_))
 go_region
 go_wp2
 go_ret
 exact ⟨G, ROW, rfl, hGn, hG63, HS.out, HT.out, rfl⟩
theorem put_get (xs : List Value) (x : Value) (i j : Nat) (hi : i <= xs.length) : (xs.take i ++ x::xs.drop i)[j]? = if j < i then xs[j]? else if j = i then some x else xs[j - 1]? := by
 by_cases h : j < i
 ·rw [if_pos h, List.getElem?_append_left (by simp; omega), List.getElem?_take_of_lt h]
 ·rw [if_neg h, List.getElem?_append_right (by simp; omega), List.length_take, Nat.min_eq_left hi]
  by_cases h2 : j = i
  ·rw [if_pos h2, h2]; simp
  ·rw [if_neg h2]
   obtain ⟨k, rfl⟩ : ∃ k, j = i + 1 + k := ⟨j - i - 1, by omega⟩
   rw [show i + 1 + k - i = k + 1 by omega, List.getElem?_cons_succ, List.getElem?_drop, show i + 1 + k - 1 = i + k by omega]
theorem row1_of {x : World} {e : TypeId} {g n cap : Nat} {xs : List Value} (cur : Array Value) (hg : x.heap[g]? = some (.cells cur e (0, 0))) (hs : cur.size = cap) (hn : n <= cap) (hc : cap <= 9223372036854775807) (hl : xs.length = n) (hx : ∀ j, j < n -> x.cell? ⟨g, j, none⟩ = xs[j]?) :
 x.ownsRow 0 e 1 (.slice (some ⟨g, 0, none⟩) n cap) n xs :=
 row1_set cur hg hs hn hc hl (fun j hj => by rw [<- hx j hj]; simp [World.cell?, hg])
theorem insert_any (es : Value) (n i : Nat) (xs : List Value) (vb : Nat) (x : Value) (w : World) (h : w.ownsRow 0 143 1 es n xs) (h1 : ∀ v ∈ xs, v.oneCell' = true) (hx : x.oneCell' = true) (hv : w.heap[vb]? = some (.cells #[x] 143 (0, 0))) (hi : i <= n) (hvb : es.ownBlock ≠ some vb) (hn : n < 1000000) :
 Calls Tryz.prog 241 #[es, .int .i64 i, .slice (some ⟨vb, 0, none⟩) 1 1] w fun e w' => ∃ g cap, e = .returned (.slice (some ⟨g, 0, none⟩) (n + 1) cap) /\
  w'.ownsRow 0 143 1 (.slice (some ⟨g, 0, none⟩) (n + 1) cap) (n + 1) (xs.take i ++ x::xs.drop i) /\ (es.ownBlock = some g \/ w.heap.size <= g) /\ Off (fun k => es.ownBlock = some k) w w' := by
 have hxl : xs.length = n := by rw [h.1, Nat.mul_one]
 by_cases he : i = n
 ·subst he
  have e : xs.take i ++ x::xs.drop i = xs ++ [x] := by rw [List.take_of_length_le (by omega), List.drop_of_length_le (by omega)]
  rw [e]
  exact insert_end es i xs vb x w h hx hv hn
 ·have hlt : i < n := by omega
  obtain ⟨g, c, rfl⟩ : ∃ g c, es = .slice (some ⟨g, 0, none⟩) n c := by
   rcases h.2 with ⟨_, h0⟩ | ⟨g, cap, cur, rfl, _⟩
   ·omega
   ·exact ⟨g, cap, rfl⟩
  obtain ⟨_, hnc, hc63, hgl, cur, hg, hcs, htk, hcell, hsp, hfz⟩ := row1_cells h
  have hvg : vb ≠ g := fun e => hvb (by rw [e]; rfl)
  have hlen : (xs.take i ++ x::xs.drop i).length = n + 1 := by simp; omega
  by_cases hr : n + 1 <= c
  ·refine (insert_shift g c n i vb xs x w h h1 hx hv hlt hr hvg hn).mono ?_
   rintro e w' ⟨rfl, rfl⟩
   have hS : (fun k => (Value.slice (some ⟨g, 0, none⟩) n c).ownBlock = some k) g := rfl
   refine ⟨g, c, rfl, ?_, Or.inl rfl, Off.setCells g (Or.inl hS) _ _ _ (Off.setCells g (Or.inl hS) _ _ _ (Off.refl _ w).drew)⟩
   obtain ⟨cur1, hb1, hs1⟩ := setCells_blk g (xs.drop i) (i + 1) w.drew cur _ _ hg
   obtain ⟨cur2, hb2, hs2⟩ := setCells_blk g [x] i _ cur1 _ _ hb1
   refine row1_of cur2 hb2 (by omega) hr hc63 hlen (fun j hj => ?_)
   rw [put_get xs x i j (by omega)]
   have hs0 : ∀ t, t < (xs.drop i).length -> (w.drew.cell? ⟨g, i + 1 + t, none⟩).isSome = true := fun t ht => hsp _ (by simp at ht; omega)
   by_cases h2 : j = i
   ·subst h2
    rw [if_neg (by omega), if_pos rfl]
    have := World.cell?_setCells_in g [x] j (w.drew.setCells g (j + 1) (xs.drop j)) (fun t ht => isSome_setCells g _ _ _ hs0 _ (hsp _ (by simp at ht; omega))) 0 (by simp)
    simpa using this
   ·rw [World.cell?_setCells_out g [x] i _ ⟨g, j, none⟩ (fun _ _ => by show j < i \/ i + 1 <= j; omega)]
    by_cases h3 : j < i
    ·rw [if_pos h3, World.cell?_setCells_out g _ _ _ ⟨g, j, none⟩ (fun _ _ => by show j < i + 1 \/ _; omega)]
     have hv := List.getElem?_eq_getElem (l := xs) (i := j) (by omega)
     rw [hv]
     exact hcell j _ hv
    ·rw [if_neg h3, if_neg h2]
     have := World.cell?_setCells_in g (xs.drop i) (i + 1) w.drew hs0 (j - (i + 1)) (by simp; omega)
     rw [show i + 1 + (j - (i + 1)) = j by omega] at this
     rw [this]
     have hv := List.getElem?_eq_getElem (l := xs) (i := j - 1) (by omega)
     rw [hv]
     simp only [List.getElem_drop]
     congr 2
     omega
  ·refine (insert_grow g c n i vb xs x w h h1 hx hv hlt (by omega) hn).mono ?_
   rintro e w' ⟨G, ROW, rfl, hGn, hG63, hRs, hRt, rfl⟩
   refine ⟨w.heap.size, G, rfl, ?_, Or.inr (Nat.le_refl _), Off.setCells _ (Or.inr (Nat.le_refl _)) _ _ _ (Off.setCells _ (Or.inr (Nat.le_refl _)) _ _ _ ((Off.refl _ w).alloc _).drew).drew⟩
   have hb0 : (w.alloc (.cells ROW 143)).drew.heap[w.heap.size]? = some (.cells ROW 143 (0, 0)) := heap_alloc_new w _
   obtain ⟨cur1, hb1, hs1⟩ := setCells_blk w.heap.size [x] i _ ROW _ _ hb0
   have hb1' : ((w.alloc (.cells ROW 143)).drew.setCells w.heap.size i [x]).drew.heap[w.heap.size]? = some (.cells cur1 143 (0, 0)) := hb1
   obtain ⟨cur2, hb2, hs2⟩ := setCells_blk w.heap.size (xs.drop i) (i + 1) _ cur1 _ _ hb1'
   have hc0 : ∀ j, j < n + 1 -> ((w.alloc (.cells ROW 143)).drew.cell? ⟨w.heap.size, j, none⟩).isSome = true := fun j hj => by
    simp only [World.cell?, hb0]
    rw [Array.getElem?_eq_getElem (by omega)]; rfl
   have hc1 : ∀ j, j < n + 1 -> (((w.alloc (.cells ROW 143)).drew.setCells w.heap.size i [x]).drew.cell? ⟨w.heap.size, j, none⟩).isSome = true := fun j hj => isSome_setCells w.heap.size [x] i _ (fun t ht => hc0 _ (by simp at ht; omega)) _ (hc0 j hj)
   refine row1_of cur2 hb2 (by omega) hGn hG63 hlen (fun j hj => ?_)
   rw [put_get xs x i j (by omega)]
   by_cases h3 : j <= i
   ·rw [World.cell?_setCells_out _ _ _ _ ⟨w.heap.size, j, none⟩ (fun _ _ => by show j < i + 1 \/ _; omega)]
    show ((w.alloc (.cells ROW 143)).drew.setCells w.heap.size i [x]).cell? _ = _
    by_cases h2 : j = i
    ·subst h2
     rw [if_neg (by omega), if_pos rfl]
     have := World.cell?_setCells_in w.heap.size [x] j (w.alloc (.cells ROW 143)).drew (fun t ht => hc0 _ (by simp at ht; omega)) 0 (by simp)
     simpa using this
    ·have hji : j < i := by omega
     rw [if_pos hji, World.cell?_setCells_out _ _ _ _ ⟨w.heap.size, j, none⟩ (fun _ _ => by show j < i \/ _; omega)]
     simp only [World.cell?, hb0]
     have e1 : ROW[j]? = (ROW.toList.take i)[j]? := by rw [List.getElem?_take_of_lt hji]; simp
     have e2 : xs[j]? = (xs.take i)[j]? := by rw [List.getElem?_take_of_lt hji]
     rw [e2, <- hRt, <- e1]
     rfl
   ·rw [if_neg (by omega), if_neg (by omega)]
    have := World.cell?_setCells_in w.heap.size (xs.drop i) (i + 1) _ (fun t ht => hc1 _ (by simp at ht; omega)) (j - (i + 1)) (by simp; omega)
    rw [show i + 1 + (j - (i + 1)) = j by omega] at this
    rw [this]
    have hv := List.getElem?_eq_getElem (l := xs) (i := j - 1) (by omega)
    rw [hv]
    simp only [List.getElem_drop]
    congr 2
    omega
abbrev cmpB (a b : List UInt8) : Int := Lib.compareBytes a b
theorem cmpB_range : ∀ (a b : List UInt8), cmpB a b = -1 \/ cmpB a b = 0 \/ cmpB a b = 1
 | [], [] => Or.inr (Or.inl rfl)
 | [], _::_ => Or.inl rfl
 | _::_, [] => Or.inr (Or.inr rfl)
 | a::ar, b::br => by
   show Lib.compareBytes (a::ar) (b::br) = -1 \/ _
   unfold cmpB
   rw [Lib.compareBytes]
   split
   ·exact Or.inl rfl
   ·split
    ·exact Or.inr (Or.inr rfl)
    ·exact cmpB_range ar br
theorem cmpB_refl : ∀ a : List UInt8, cmpB a a = 0
 | [] => rfl
 | a::ar => by
   unfold cmpB
   rw [Lib.compareBytes, if_neg (UInt8.lt_irrefl a), if_neg (UInt8.lt_irrefl a)]
   exact cmpB_refl ar
theorem cmpB_eq : ∀ (a b : List UInt8), cmpB a b = 0 -> a = b
 | [], [], _ => rfl
 | [], _::_, h => by cases h
 | _::_, [], h => by cases h
 | a::ar, b::br, h => by
   unfold cmpB at h
   rw [Lib.compareBytes] at h
   split at h
   ·cases h
   ·split at h
    ·cases h
    ·rename_i h1 h2
     have e : a = b := UInt8.le_antisymm (UInt8.not_lt.1 h2) (UInt8.not_lt.1 h1)
     rw [e, cmpB_eq ar br h]
theorem cmpB_swap : ∀ (a b : List UInt8), cmpB b a = - cmpB a b
 | [], [] => rfl
 | [], _::_ => rfl
 | _::_, [] => rfl
 | a::ar, b::br => by
   unfold cmpB
   rw [Lib.compareBytes, Lib.compareBytes]
   by_cases h1 : a < b
   ·have h2 : ¬ b < a := UInt8.lt_asymm h1
    rw [if_pos h1, if_neg h2, if_pos h1]
    rfl
   ·by_cases h2 : b < a
    ·rw [if_pos h2, if_neg h1, if_pos h2]
    ·rw [if_neg h1, if_neg h2, if_neg h1, if_neg h2]
     exact cmpB_swap ar br
theorem cmpB_trans : ∀ (a b c : List UInt8), cmpB a b = -1 -> cmpB b c = -1 -> cmpB a c = -1
 | [], [], _, h, _ => by cases h
 | [], _::_, [], _, h => by cases h
 | [], _::_, _::_, _, _ => rfl
 | _::_, [], _, h, _ => by cases h
 | _::_, _::_, [], _, h => by cases h
 | a::ar, b::br, c::cr, h, k => by
   unfold cmpB at h k ⊢
   rw [Lib.compareBytes] at h k ⊢
   by_cases h1 : a < b
   ·by_cases k1 : b < c
    ·rw [if_pos (UInt8.lt_trans h1 k1)]
    ·rw [if_neg k1] at k
     by_cases k2 : c < b
     ·rw [if_pos k2] at k; cases k
     ·have e : b = c := UInt8.le_antisymm (UInt8.not_lt.1 k2) (UInt8.not_lt.1 k1)
      rw [if_pos (e ▸ h1)]
   ·rw [if_neg h1] at h
    by_cases h2 : b < a
    ·rw [if_pos h2] at h; cases h
    ·have e : a = b := UInt8.le_antisymm (UInt8.not_lt.1 h2) (UInt8.not_lt.1 h1)
     rw [if_neg h2] at h
     subst e
     by_cases k1 : a < c
     ·rw [if_pos k1]
     ·rw [if_neg k1] at k ⊢
      by_cases k2 : c < a
      ·rw [if_pos k2] at k; cases k
      ·rw [if_neg k2] at k ⊢
       exact cmpB_trans ar br cr h k
def ptrs (ps : List Nat) : List Value := ps.map fun p => .pointer (some ⟨p, 0, none⟩)
structure Keys (w : World) (es : Value) (ps : List Nat) (K : List (List UInt8)) : Prop where
 row : w.ownsRow 0 143 1 es ps.length (ptrs ps)
 len : K.length = ps.length
 key : ∀ (i p : Nat) (k : List UInt8), ps[i]? = some p -> K[i]? = some k -> w.cell? ⟨p, 0, none⟩ = some (.string ⟨k.toArray⟩)
 lt : ∀ p ∈ ps, p < w.heap.size
theorem Keys.below {w x : World} {es : Value} {ps : List Nat} {K : List (List UInt8)} (h : Keys w es ps K) (hb : Below w.heap.size w x) : Keys x es ps K :=
 ⟨row_below h.row hb, h.len, fun i p k hp hk => (hb.cell (p := ⟨p, 0, none⟩) (h.lt p (List.mem_of_getElem? hp))).trans (h.key i p k hp hk), fun p hp => Nat.lt_of_lt_of_le (h.lt p hp) hb.size⟩
theorem Keys.at {w : World} {es : Value} {ps : List Nat} {K : List (List UInt8)} (h : Keys w es ps K) (i : Nat) (hi : i < ps.length) :
 ∃ g cap p k, es = .slice (some ⟨g, 0, none⟩) ps.length cap /\ ps.length <= cap /\ cap <= maxLen /\ g < w.heap.size /\ ps[i]? = some p /\ K[i]? = some k /\
  w.cell? ⟨g, i, none⟩ = some (.pointer (some ⟨p, 0, none⟩)) /\ w.cell? ⟨p, 0, none⟩ = some (.string ⟨k.toArray⟩) := by
 have hk : i < K.length := by rw [h.len]; exact hi
 have e1 : ps[i]? = some ps[i] := List.getElem?_eq_getElem hi
 have e2 : K[i]? = some K[i] := List.getElem?_eq_getElem hk
 rcases h.row.2 with ⟨_, h0⟩ | ⟨g, cap, cur, hv, _, hg, hn, hm, hs, htk⟩
 ·omega
 ·refine ⟨g, cap, ps[i], K[i], hv, hn, hm, (Array.getElem?_eq_some_iff.1 hg).1, e1, e2, ?_, h.key i _ _ e1 e2⟩
  have : (ptrs ps)[i]? = some (.pointer (some ⟨ps[i], 0, none⟩)) := by simp [ptrs, e1]
  rw [<- this, <- htk, List.getElem?_take_of_lt (by omega)]
  simp [World.cell?, hg]
def Rising (K : List (List UInt8)) : Prop := ∀ (i j : Nat) (a b : List UInt8), i < j -> K[i]? = some a -> K[j]? = some b -> cmpB a b = -1
structure IsPos (K : List (List UInt8)) (t : List UInt8) (i : Nat) : Prop where
 le : i <= K.length
 lo : ∀ (j : Nat) (a : List UInt8), j < i -> K[j]? = some a -> cmpB a t = -1
 hi : ∀ (j : Nat) (a : List UInt8), i <= j -> K[j]? = some a -> 0 <= cmpB a t
theorem IsPos.uniq {K : List (List UInt8)} {t : List UInt8} {i j : Nat} (h : IsPos K t i) (k : IsPos K t j) : i = j := by
 apply Nat.le_antisymm
 ·apply Nat.le_of_not_lt
  intro hlt
  have hj : j < K.length := by have := h.le; omega
  have := h.lo j _ hlt (List.getElem?_eq_getElem hj)
  have := k.hi j _ (Nat.le_refl _) (List.getElem?_eq_getElem hj)
  omega
 ·apply Nat.le_of_not_lt
  intro hlt
  have hj : i < K.length := by have := k.le; omega
  have := k.lo i _ hlt (List.getElem?_eq_getElem hj)
  have := h.hi i _ (Nat.le_refl _) (List.getElem?_eq_getElem hj)
  omega
theorem cmp1_any (p : Nat) (k t : List UInt8) (w : World) (h : w.cell? ⟨p, 0, none⟩ = some (.string ⟨k.toArray⟩)) :
 Calls Tryz.prog 138 #[.pointer (some ⟨p, 0, none⟩), .string ⟨t.toArray⟩] w fun e w' => e = .returned (.int .i64 (cmpB k t)) /\ w' = w := by
 go_enter Tryz.func138, Tryz.ntmps138
 go_wp2_with fail
 refine (Tryz.strings_Compare ⟨k.toArray⟩ ⟨t.toArray⟩ _).mono ?_
 rintro e w1 ⟨rfl, rfl⟩
 go_wp2
 go_ret
 exact ⟨rfl, rfl⟩
theorem search_any (es : Value) (ps : List Nat) (K : List (List UInt8)) (t : List UInt8) (w : World) (h : Keys w es ps K) (hr : Rising K) (hl : ps.length < 1000000) :
 Calls Tryz.prog 137 #[es, .string ⟨t.toArray⟩, .func (.func 138) #[] #[]] w fun e w' =>
  (∃ i : Nat, IsPos K t i /\ e = .returned (.tuple #[.int .i64 i, .bool (K[i]? == some t)])) /\ Below w.heap.size w w' := by
 have hlen : ∃ a c, es = .slice a ps.length c := by
  rcases h.row.2 with ⟨rfl, h0⟩ | ⟨g, cap, cur, rfl, _⟩
  ·rw [h0]; exact ⟨_, _, rfl⟩
  ·exact ⟨_, _, rfl⟩
 have HR : Hid (Keys w es ps K) := h
 have HI : Hid (Rising K) := hr
 clear h hr
 obtain ⟨a, c, hvs⟩ := hlen
 rw [hvs]
 go_enter Tryz.func137, Tryz.ntmps137
 go_wp2
 go_loopw [9, 10] (fun x y wx => ∃ i j : Nat, i <= j /\ j <= ps.length /\ x = .int .i64 i /\ y = .int .i64 j /\ Hid (Below w.heap.size w wx) /\ Hid (∀ (k : Nat) (a : List UInt8), k < i -> K[k]? = some a -> cmpB a t = -1) /\ Hid (∀ (k : Nat) (a : List UInt8), j <= k -> K[k]? = some a -> 0 <= cmpB a t)) (fun x y _ => (intOf y - intOf x).toNat)
 case atStart =>
  refine ⟨0, ps.length, by omega, by omega, rfl, rfl, Below.refl _ _, fun k a hk => by omega, fun k a hk hka => ?_⟩
  have := (List.getElem?_eq_some_iff.1 hka).1
  rw [HR.out.len] at this
  omega
 case round =>
  obtain ⟨i, j, hij, hj, rfl, rfl, HB, HL, HH⟩ := hrel
  by_cases hlt : i < j
  ·have hmj : (i + j) / 2 < ps.length := by omega
   obtain ⟨g, cap, p, k, e1, hn, hc, hg, hp, hk, c0, c1⟩ := (HR.out.below HB.out).at ((i + j) / 2) hmj
   rw [hvs] at e1
   cases e1
   have HK : Hid (K[(i + j) / 2]? = some k) := hk
   have hltI : (i : Int) < (j : Int) := by omega
   clear hk hp
   go_wp2_with fail
   refine (cmp1_any p k t _ c1).mono ?_
   rintro e w2 ⟨rfl, rfl⟩
   by_cases hq : cmpB k t < 0
   ·have hq1 : cmpB k t = -1 := by rcases cmpB_range k t with h | h | h <;> omega
    obtain ⟨q, hqq⟩ : ∃ q, cmpB k t = q := ⟨_, rfl⟩
    rw [hqq] at hq hq1
    rw [hqq]
    have HQ : Hid (cmpB k t = -1) := hqq.trans hq1
    clear hqq hq1
    go_wp2
    refine ⟨⟨(i + j) / 2 + 1, j, by omega, by omega, rfl, rfl, HB, fun k' a' hk' ha' => ?_, HH⟩, ?_⟩
    ·by_cases e : k' = (i + j) / 2
     ·subst e; rw [HK.out] at ha'; cases ha'; exact HQ.out
     ·exact cmpB_trans _ _ _ (HI.out k' ((i + j) / 2) a' k (by omega) ha' HK.out) HQ.out
    ·simp [intOf]
     omega
   ·obtain ⟨q, hqq⟩ : ∃ q, cmpB k t = q := ⟨_, rfl⟩
    have HQ : Hid (0 <= cmpB k t) := Int.not_lt.1 hq
    rw [hqq] at hq
    rw [hqq]
    clear hqq
    go_wp2
    refine ⟨⟨i, (i + j) / 2, by omega, by omega, rfl, rfl, HB, HL, fun k' a' hk' ha' => ?_⟩, ?_⟩
    ·by_cases e : k' = (i + j) / 2
     ·subst e; rw [HK.out] at ha'; cases ha'; exact HQ.out
     ·apply Int.not_lt.1
      intro hh
      have h1 : cmpB a' t = -1 := by rcases cmpB_range a' t with h | h | h <;> omega
      have h2 := cmpB_trans _ _ _ (HI.out ((i + j) / 2) k' k a' (by omega) HK.out ha') h1
      have h3 := HQ.out
      omega
    ·simp [intOf]
     omega
  ·obtain rfl : i = j := by omega
   have HP : Hid (IsPos K t i) := ⟨by rw [HR.out.len]; exact hj, HL.out, HH.out⟩
   clear HL HH hlt hij
   by_cases hin : i < ps.length
   ·obtain ⟨g, cap, p, k, e1, hn, hc, hg, hp, hk, c0, c1⟩ := (HR.out.below HB.out).at i hin
    rw [hvs] at e1
    cases e1
    have HK : Hid (K[i]? = some k) := hk
    clear hk hp
    go_wp2_with fail
    refine (cmp1_any p k t _ c1).mono ?_
    rintro e w2 ⟨rfl, rfl⟩
    obtain ⟨q, hqq⟩ : ∃ q, cmpB k t = q := ⟨_, rfl⟩
    have HQ : Hid ((K[i]? == some t) = (q == 0)) := by
     rw [HK.out, Bool.eq_iff_iff, beq_iff_eq, beq_iff_eq, <- hqq]
     constructor
     ·intro e; cases e; exact cmpB_refl _
     ·intro e; rw [cmpB_eq _ _ e]
    rw [hqq]
    clear hqq
    go_wp2
    go_ret2
    refine ⟨⟨i, HP.out, ?_⟩, HB.out⟩
    rw [HQ.out]
    rfl
   ·obtain rfl : i = ps.length := by omega
    have HN : Hid (K[ps.length]? = none) := List.getElem?_eq_none (by rw [HR.out.len]; exact Nat.le_refl _)
    go_wp2
    go_ret2
    refine ⟨⟨ps.length, HP.out, ?_⟩, HB.out⟩
    rw [HN.out]
    rfl
end Go.Proofs.YtmehkneofinmiabGreatDoor

/-
 Texts of this proof, part 33.
-/
import Derived.Test.YtmehkneofinmiabGreatDoorP32
import Derived.Test.YtmehkneofinmiabGreatDoorRows
import Derived.OpenShut
import Derived.Conc.HoldsTime
set_option maxRecDepth 100000
set_option maxHeartbeats 4000000
namespace Go.Proofs.YtmehkneofinmiabGreatDoor
open Go.RowKit
def tagK (v : Ver) : List UInt8 := if v.mark then [] else qTag v.body
def bvCells (v : Ver) : List Value := [.int .i64 v.num, .int .i64 v.time, .bool v.mark, .string ⟨v.body.toArray⟩, .string ⟨(tagK v).toArray⟩]
def bvAgg (v : Ver) : Value := .agg #[.int .i64 v.num, .int .i64 v.time, .bool v.mark, .string ⟨v.body.toArray⟩, .string ⟨(tagK v).toArray⟩]
def bvZero : Value := .agg #[.int .i64 0, .int .i64 0, .bool false, .string ⟨#[]⟩, .string ⟨#[]⟩]
def bRow (l : List Ver) : List Value := l.flatMap bvCells
theorem bRow_get (l : List Ver) (i : Nat) (v : Ver) (h : l[i]? = some v) (j : Nat) (hj : j < 5) : (bRow l)[i * 5 + j]? = (bvCells v)[j]? := by
 induction l generalizing i with
 | nil => simp at h
 | cons a l ih =>
   simp only [bRow, List.flatMap_cons]
   cases i with
   | zero =>
     simp at h; subst h
     rw [List.getElem?_append_left (by simp [bvCells]; omega)]
     simp
   | succ i =>
     rw [List.getElem?_append_right (by simp [bvCells]; omega)]
     have e : (i + 1) * 5 + j - (bvCells a).length = i * 5 + j := by simp [bvCells]; omega
     rw [e]
     exact ih i (by simpa using h)
def bookCells (s : Nat) (en : Nat -> Ent) (vs : Nat -> Value) (t d : Nat) : Array Value :=
 #[.pointer (some ⟨s, 0, none⟩), .string ⟨(en 0).key.toArray⟩, vs 0, .int .i64 (en 0).last, .string ⟨(en 1).key.toArray⟩, vs 1, .int .i64 (en 1).last, .string ⟨(en 2).key.toArray⟩, vs 2, .int .i64 (en 2).last,
   .string ⟨(en 3).key.toArray⟩, vs 3, .int .i64 (en 3).last, .string ⟨(en 4).key.toArray⟩, vs 4, .int .i64 (en 4).last, .int .i64 t, .int .i64 d]
structure BookAt (w : World) (b s : Nat) (en : Nat -> Ent) (vs : Nat -> Value) (t d : Nat) : Prop where
 blk : w.heap[b]? = some (.cells (bookCells s en vs t d) 31 (0, 0))
 row : ∀ i, i < 5 -> w.ownsRow 0 42 5 (vs i) (en i).vers.length (bRow (en i).vers)
 dvs : ∀ i j, i < 5 -> j < 5 -> i ≠ j -> ∀ g, (vs i).ownBlock = some g -> (vs j).ownBlock ≠ some g
theorem five {P : Nat -> Prop} (h0 : P 0) (h1 : P 1) (h2 : P 2) (h3 : P 3) (h4 : P 4) : ∀ i, i < 5 -> P i := by
 intro i hi
 have : i = 0 \/ i = 1 \/ i = 2 \/ i = 3 \/ i = 4 := by omega
 rcases this with rfl | rfl | rfl | rfl | rfl <;> assumption
theorem bookCells_get (s : Nat) (en : Nat -> Ent) (vs : Nat -> Value) (t d : Nat) : ∀ i, i < 5 -> (bookCells s en vs t d)[1 + i * 3]? = some (.string ⟨(en i).key.toArray⟩) /\ (bookCells s en vs t d)[1 + i * 3 + 1]? = some (vs i) /\ (bookCells s en vs t d)[1 + i * 3 + 2]? = some (.int .i64 (en i).last) :=
 five ⟨rfl, rfl, rfl⟩ ⟨rfl, rfl, rfl⟩ ⟨rfl, rfl, rfl⟩ ⟨rfl, rfl, rfl⟩ ⟨rfl, rfl, rfl⟩
theorem BookAt.lt {w : World} {b s : Nat} {en : Nat -> Ent} {vs : Nat -> Value} {t d : Nat} (h : BookAt w b s en vs t d) : b < w.heap.size := (Array.getElem?_eq_some_iff.1 h.blk).1
theorem BookAt.ck {w : World} {b s : Nat} {en : Nat -> Ent} {vs : Nat -> Value} {t d : Nat} (h : BookAt w b s en vs t d) (i : Nat) (hi : i < 5) : w.cell? ⟨b, 1 + i * 3, none⟩ = some (.string ⟨(en i).key.toArray⟩) /\ w.cell? ⟨b, 1 + i * 3 + 1, none⟩ = some (vs i) /\ w.cell? ⟨b, 1 + i * 3 + 2, none⟩ = some (.int .i64 (en i).last) := by
 have := bookCells_get s en vs t d i hi
 simp only [World.cell?, h.blk]
 exact this
theorem BookAt.c0 {w : World} {b s : Nat} {en : Nat -> Ent} {vs : Nat -> Value} {t d : Nat} (h : BookAt w b s en vs t d) : w.cell? ⟨b, 0, none⟩ = some (.pointer (some ⟨s, 0, none⟩)) /\ w.cell? ⟨b, 16, none⟩ = some (.int .i64 t) /\ w.cell? ⟨b, 17, none⟩ = some (.int .i64 d) := by
 simp only [World.cell?, h.blk]
 exact ⟨rfl, rfl, rfl⟩
theorem BookAt.fz {w : World} {b s : Nat} {en : Nat -> Ent} {vs : Nat -> Value} {t d : Nat} (h : BookAt w b s en vs t d) (j : Nat) : w.frozen? ⟨b, j, none⟩ = false := by simp [World.frozen?, h.blk]
theorem BookAt.off {w x : World} {b s : Nat} {en : Nat -> Ent} {vs : Nat -> Value} {t d : Nat} {S : Nat -> Prop} (h : BookAt w b s en vs t d) (ho : Off S w x) (hb : ¬ S b) (hv : ∀ i, i < 5 -> ∀ g, (vs i).ownBlock = some g -> ¬ S g) : BookAt x b s en vs t d := by
 refine ⟨(ho.block b h.lt hb).trans h.blk, fun i hi => ?_, h.dvs⟩
 have hr := h.row i hi
 refine ⟨hr.1, ?_⟩
 rcases hr.2 with h0 | ⟨g, cap, cur, hv', h1, hg, h2⟩
 ·exact Or.inl h0
 ·exact Or.inr ⟨g, cap, cur, hv', h1, (ho.block g (Array.getElem?_eq_some_iff.1 hg).1 (hv i hi g (by rw [hv']; rfl))).trans hg, h2⟩
theorem BookAt.below {w x : World} {b s : Nat} {en : Nat -> Ent} {vs : Nat -> Value} {t d : Nat} (h : BookAt w b s en vs t d) (hb : Below w.heap.size w x) : BookAt x b s en vs t d :=
 h.off (Off.of_below (S := fun _ => False) hb) (fun h => h) (fun _ _ _ _ h => h)
theorem brow_cells {w : World} {vs : Value} {l : List Ver} (h : w.ownsRow 0 42 5 vs l.length (bRow l)) (i : Nat) (v : Ver) (hi : l[i]? = some v) :
 ∃ g cap, vs = .slice (some ⟨g, 0, none⟩) l.length cap /\ l.length <= cap /\ cap <= maxLen /\ g < w.heap.size /\ (∀ j, w.frozen? ⟨g, j, none⟩ = false) /\
  w.cell? ⟨g, i * 5, none⟩ = some (.int .i64 v.num) /\ w.cell? ⟨g, i * 5 + 1, none⟩ = some (.int .i64 v.time) /\ w.cell? ⟨g, i * 5 + 2, none⟩ = some (.bool v.mark) /\ w.cell? ⟨g, i * 5 + 3, none⟩ = some (.string ⟨v.body.toArray⟩) /\ w.cell? ⟨g, i * 5 + 4, none⟩ = some (.string ⟨(tagK v).toArray⟩) := by
 have hlt : i < l.length := (List.getElem?_eq_some_iff.1 hi).1
 rcases h.2 with ⟨_, h0⟩ | ⟨g, cap, cur, hv, _, hg, hn, hm, hs, htk⟩
 ·omega
 ·refine ⟨g, cap, hv, hn, hm, (Array.getElem?_eq_some_iff.1 hg).1, fun j => by simp [World.frozen?, hg], ?_⟩
  have key : ∀ j, j < 5 -> w.cell? ⟨g, i * 5 + j, none⟩ = (bvCells v)[j]? := by
   intro j hj
   rw [<- bRow_get l i v hi j hj, <- htk, List.getElem?_take_of_lt (by omega)]
   simp [World.cell?, hg]
  exact ⟨key 0 (by omega), key 1 (by omega), key 2 (by omega), key 3 (by omega), key 4 (by omega)⟩
theorem hi56 : (Tryz.prog.info? 42).map (·.size) = some 5 := by kernel_rfl
theorem bcur_nil (b o : Nat) (vs : Value) (w : World) (h2 : w.cell? ⟨b, o + 1, none⟩ = some vs) (hr : w.ownsRow 0 42 5 vs 0 []) :
 Calls Tryz.prog 18 #[.pointer (some ⟨b, o, none⟩)] w fun e w' => e = .returned (.tuple #[bvZero, .bool false]) /\ Below w.heap.size w w' := by
 have hlt : b < w.heap.size := cell_lt h2
 have hlen : ∃ a c, vs = .slice a 0 c := by
  rcases hr.2 with ⟨rfl, _⟩ | ⟨g, cap, cur, rfl, _⟩
  ·exact ⟨_, _, rfl⟩
  ·exact ⟨_, _, rfl⟩
 obtain ⟨a, c, rfl⟩ := hlen
 clear hr
 go_enter Tryz.func18, Tryz.ntmps18
 go_wp2
 exact bodyPost_ret (v := .tuple #[bvZero, .bool false]) (results_row_tmp Tryz.results18 _ _ w.heap.size _ _ _ _ rfl (heap_alloc_last _ _) Tryz.underlying42 rfl hi56) rfl ⟨rfl, (Below.refl _ _).alloc (Nat.le_refl _) _⟩
theorem bcur_last (b o : Nat) (vs : Value) (l : List Ver) (w : World) (h2 : w.cell? ⟨b, o + 1, none⟩ = some vs) (hr : w.ownsRow 0 42 5 vs l.length (bRow l)) (i : Nat) (v : Ver) (hi : l.length = i + 1) (hv : l[i]? = some v) (hb : i < 1000) (hm : v.mark = true) :
 Calls Tryz.prog 18 #[.pointer (some ⟨b, o, none⟩)] w fun e w' => e = .returned (.tuple #[bvZero, .bool false]) /\ Below w.heap.size w w' := by
 have hlt : b < w.heap.size := cell_lt h2
 obtain ⟨g, cap, rfl, hn, hmx, hg, hf, c0, c1, c2, c3, c4⟩ := brow_cells hr i v hv
 rw [hi] at h2 hn
 rw [hm] at c2
 have hsub : ((i + 1 : Nat) : Int) - 1 = (i : Int) := by omega
 clear hr hv
 go_enter Tryz.func18, Tryz.ntmps18
 go_wp2
 exact bodyPost_ret (v := .tuple #[bvZero, .bool false]) (results_row_tmp Tryz.results18 _ _ w.heap.size _ _ _ _ rfl (heap_alloc_last _ _) Tryz.underlying42 rfl hi56) rfl ⟨rfl, (Below.refl _ _).alloc (Nat.le_refl _) _⟩
theorem bcur_live (b o : Nat) (vs : Value) (l : List Ver) (w : World) (h2 : w.cell? ⟨b, o + 1, none⟩ = some vs) (hr : w.ownsRow 0 42 5 vs l.length (bRow l)) (i : Nat) (v : Ver) (hi : l.length = i + 1) (hv : l[i]? = some v) (hb : i < 1000) (hm : v.mark = false) :
 Calls Tryz.prog 18 #[.pointer (some ⟨b, o, none⟩)] w fun e w' => e = .returned (.tuple #[bvAgg v, .bool true]) /\ Below w.heap.size w w' := by
 have hlt : b < w.heap.size := cell_lt h2
 obtain ⟨g, cap, rfl, hn, hmx, hg, hf, c0, c1, c2, c3, c4⟩ := brow_cells hr i v hv
 rw [hi] at h2 hn
 rw [hm] at c2
 have hsub : ((i + 1 : Nat) : Int) - 1 = (i : Int) := by omega
 have HV : Hid (v.mark = false) := hm
 clear hr hv hm
 go_enter Tryz.func18, Tryz.ntmps18
 go_wp2
 exact bodyPost_ret (v := .tuple #[bvAgg v, .bool true]) (results_row_tmp Tryz.results18 _ _ w.heap.size _ #[.int .i64 v.num, .int .i64 v.time, .bool v.mark, .string ⟨v.body.toArray⟩, .string ⟨(tagK v).toArray⟩] _ _ rfl (by rw [HV.out]; exact heap_alloc_last _ _) Tryz.underlying42 rfl hi56) rfl ⟨rfl, (Below.refl _ _).alloc (Nat.le_refl _) _⟩
def bvOut : Option Ver -> Value
 | none => bvZero
 | some v => bvAgg v
theorem bcur_any (b o : Nat) (vs : Value) (E : Ent) (w : World) (h2 : w.cell? ⟨b, o + 1, none⟩ = some vs) (hr : w.ownsRow 0 42 5 vs E.vers.length (bRow E.vers)) (hl : E.vers.length < 1000) :
 Calls Tryz.prog 18 #[.pointer (some ⟨b, o, none⟩)] w fun e w' => e = .returned (.tuple #[bvOut (curOf E), .bool (curOf E).isSome]) /\ Below w.heap.size w w' := by
 cases hv : E.vers.getLast? with
 | none =>
   have h0 : E.vers = [] := List.getLast?_eq_none_iff.1 hv
   rw [h0] at hr
   have hc : curOf E = none := by simp [curOf, hv]
   rw [hc]
   exact bcur_nil b o vs w h2 hr
 | some v =>
   have hne : E.vers ≠ [] := by intro e; rw [e] at hv; simp at hv
   have hlen : 0 < E.vers.length := List.length_pos_iff.2 hne
   have hget : E.vers[E.vers.length - 1]? = some v := by rw [<- hv, List.getLast?_eq_getElem?]
   cases hm : v.mark with
   | true =>
     have hc : curOf E = none := by simp [curOf, hv, hm]
     rw [hc]
     exact bcur_last b o vs E.vers w h2 hr (E.vers.length - 1) v (by omega) hget (by omega) hm
   | false =>
     have hc : curOf E = some v := by simp [curOf, hv, hm]
     rw [hc]
     exact bcur_live b o vs E.vers w h2 hr (E.vers.length - 1) v (by omega) hget (by omega) hm
def nmK : Nat -> List UInt8
 | 0 => [97]
 | 1 => [98, 46, 49]
 | 2 => [65]
 | 3 => [107, 45, 50]
 | _ => [97, 95]
theorem named_any (i : Nat) (w : World) (hi : i < 5) : Calls Tryz.prog 28 #[.int .i64 i] w fun e w' => e = .returned (.string ⟨(nmK i).toArray⟩) /\ Below w.heap.size w w' := by
 have hb : ∀ o, Below w.heap.size w (w.alloc o) := fun o => (Below.refl _ _).alloc (Nat.le_refl _) _
 revert i
 refine five ?_ ?_ ?_ ?_ ?_
 all_goals go_enter Tryz.func28, Tryz.ntmps28
 all_goals go_wp2
 all_goals go_ret
 all_goals exact ⟨rfl, hb _⟩
def txtK (c : Int) : List UInt8 := List.replicate (pk c 9).toNat 120 ++ Lib.decDigits (pk c 4).toNat
theorem textK_any (c : Int) (w : World) (hT : Tab w) (hc0 : -9223372036854775808 <= c) (hc1 : c <= 9223372036854775807) : Calls Tryz.prog 42 #[.int .i64 c] w fun e w' => e = .returned (.string ⟨(txtK c).toArray⟩) /\ Below w.heap.size w w' := by
 have p9 := pk_bd c 9 (by omega)
 have p4 := pk_bd c 4 (by omega)
 obtain ⟨n, hn⟩ : ∃ n : Nat, pk c 9 = n := ⟨(pk c 9).toNat, by omega⟩
 obtain ⟨m, hm⟩ : ∃ n : Nat, pk c 4 = n := ⟨(pk c 4).toNat, by omega⟩
 have HX : Hid (txtK c = List.replicate n 120 ++ Lib.decDigits m) := by
  show _ = _
  unfold txtK
  rw [hn, hm]
  simp
 go_enter Tryz.func42, Tryz.ntmps42
 go_wp2_with (go_at_call 10; refine (pick_any _ _ _ (by omega) (by omega) (by omega) (by omega)).mono ?_; rintro e w' ⟨rfl, rfl⟩)
 go_loop [4, 5] (fun o i => ∃ k : Nat, k <= n /\ i = .int .i64 k /\ o = .string ⟨(List.replicate k 120).toArray⟩) (fun _ i => n - (intOf i).toNat)
 case atStart => exact ⟨0, Nat.zero_le _, rfl, rfl⟩
 case round =>
  obtain ⟨k, hk, rfl, rfl⟩ := hrel
  have hls : (⟨(List.replicate k (120 : UInt8)).toArray⟩ : ByteArray).size = k := by rw [Lib.size_eq]; simp
  have HA : Hid ((⟨(List.replicate k (120 : UInt8)).toArray⟩ : ByteArray) ++ ⟨#[120]⟩ = ⟨(List.replicate (k + 1) 120).toArray⟩) := by
   show _ = _
   rw [show (⟨#[120]⟩ : ByteArray) = ⟨([120] : List UInt8).toArray⟩ from rfl, mk_app, List.replicate_succ']
  obtain ⟨V, hV⟩ : ∃ V : ByteArray, V = ⟨(List.replicate k (120 : UInt8)).toArray⟩ := ⟨_, rfl⟩
  rw [<- hV] at hls HA ⊢
  have HV : Hid _ := hV
  clear hV
  by_cases hlt : k < n
  ·go_wp2
   exact ⟨⟨k + 1, by omega, by go_num, by rw [HA.out]⟩, by simp [intOf]; omega⟩
  ·have hd := dec_len10 (n := m) (k := 1) (by omega) (by omega)
   go_wp2_with (first | (go_at_call 10; refine (pick_any _ _ _ (by omega) (by omega) (by omega) (by omega)).mono ?_; rintro e w' ⟨rfl, rfl⟩) | (go_at_call 13; refine (itoa_small _ _ (by omega) (by omega)).mono ?_; rintro e w1 ⟨rfl, hb1⟩))
   go_ret
   obtain rfl : k = n := by omega
   refine ⟨?_, hb1⟩
   rw [HX.out, HV.out, mk_app]
   rfl
end Go.Proofs.YtmehkneofinmiabGreatDoor
namespace Go.Proofs.YtmehkneofinmiabGreatDoor
theorem findE_cons (a : Ent) (l : List Ent) (key : List UInt8) : findE (a::l) key = if a.key = key then a else findE l key := by
 unfold findE
 rw [List.find?_cons]
 by_cases h : a.key = key
 ·simp [h]
 ·have : (a.key == key) = false := beq_eq_false_iff_ne.2 h
  rw [this, if_neg h]
theorem findE_put {l : List Ent} (hr : RiseL l) (E : Ent) (key : List UInt8) : findE (putE l E) key = if E.key = key then E else findE l key := by
 induction l with
 | nil =>
   rw [show putE [] E = [E] from rfl, findE_cons]
 | cons a l ih =>
   have ⟨h1, h2⟩ := List.pairwise_cons.1 hr
   rw [putE_cons]
   by_cases e : a.key = E.key
   ·rw [if_pos e, findE_cons]
    by_cases hk : E.key = key
    ·rw [if_pos hk, if_pos hk]
    ·rw [if_neg hk, if_neg hk, findE_cons, if_neg (by rw [e]; exact hk)]
   ·rw [if_neg e]
    by_cases hlt : cmpB E.key a.key = -1
    ·rw [if_pos hlt, findE_cons]
    ·rw [if_neg hlt, findE_cons, ih h2]
     by_cases ha : a.key = key
     ·rw [if_pos ha, if_neg (by rw [<- ha]; exact fun h => e h.symm), findE_cons, if_pos ha]
     ·rw [if_neg ha, findE_cons, if_neg ha]
theorem condF0 (wt : Bool) (v : Option Ver) : condF wt k0 v = 0 := by
 unfold condF k0 hasD Jd.jd
 simp
theorem chg_put {σ : St} {key body : List UInt8} (h1 : ¬ 20 <= (findE σ.ents key).vers.length) (h2 : (findE σ.ents key).last ≠ 0 \/ σ.ents.length < 60) :
 chgF σ key 1 ((findE σ.ents key).last + 1) body = ((if (curOf (findE σ.ents key)).isSome then 200 else 201), some ⟨σ.time, putE σ.ents ⟨key, (findE σ.ents key).last + 1, (findE σ.ents key).vers ++ [⟨(findE σ.ents key).last + 1, σ.time, false, body⟩]⟩, σ.log ++ recF 1 σ.time key ((findE σ.ents key).last + 1) body⟩) := by
 unfold chgF
 rw [if_neg (by unfold obstF; simp; omega), if_neg (by omega)]
 unfold succF applyF
 rw [if_pos rfl, if_neg (show ¬ (1 : Nat) = 3 by decide), findE_key]
 rfl
theorem ans_of {σ : St} {l body : List UInt8} {m : Nat} {t : Tgt} {k : Cnd} (hr : readF l = .ok (m, t, k, body)) (h0 : t.kind ≠ 0) : ansF σ l = askF σ m t k body := by
 unfold ansF
 rw [hr]
 simp only
 rw [if_neg h0]
theorem ask_cond {σ : St} {m : Nat} {t : Tgt} {k : Cnd} {body : List UInt8} (h3 : t.kind ≠ 3) (hw : isW m = true) (h : condF true k (aimF (findE σ.ents t.key) t) ≠ 0) : askF σ m t k body = (⟨condF true k (aimF (findE σ.ents t.key) t), [], []⟩, σ) := by
 unfold askF
 rw [if_neg h3, hw, if_pos h]
theorem ask_no {σ : St} {m : Nat} {t : Tgt} {k : Cnd} {body : List UInt8} {told a n : Nat} {bd : List UInt8} (h3 : t.kind ≠ 3) (hw : isW m = true) (h : condF true k (aimF (findE σ.ents t.key) t) = 0) (hn : wantF (findE σ.ents t.key) m t body = (a, n, bd)) (hc : chgF σ t.key a n bd = (told, none)) : askF σ m t k body = (⟨told, [], []⟩, σ) := by
 unfold askF
 rw [if_neg h3, hw, if_neg (by simp [h]), if_pos rfl, hn]
 simp only [hc]
theorem ask_yes {σ σ' : St} {m : Nat} {t : Tgt} {k : Cnd} {body : List UInt8} {told a n : Nat} {bd : List UInt8} (h3 : t.kind ≠ 3) (hw : isW m = true) (h : condF true k (aimF (findE σ.ents t.key) t) = 0) (hn : wantF (findE σ.ents t.key) m t body = (a, n, bd)) (hc : chgF σ t.key a n bd = (told, some σ')) : askF σ m t k body = (⟨told, if m = 2 then [⟨[69, 84, 97, 103], qTag body⟩, ⟨[86, 101, 114, 115, 105, 111, 110], Lib.decDigits n⟩] else [⟨[86, 101, 114, 115, 105, 111, 110], Lib.decDigits n⟩], []⟩, σ') := by
 unfold askF
 rw [if_neg h3, hw, if_neg (by simp [h]), if_pos rfl, hn]
 simp only [hc]
theorem chg_no {σ : St} {key body : List UInt8} {k n told : Nat} (ho : obstF (findE σ.ents key) k n = told) (h : told ≠ 0) : chgF σ key k n body = (told, none) := by
 unfold chgF
 rw [ho, if_pos h]
def eTag : List UInt8 := [69, 84, 97, 103]
def versN : List UInt8 := [86, 101, 114, 115, 105, 111, 110]
theorem put_cond {σ : St} {l key body : List UInt8} {k : Cnd} (hr : readF l = .ok (2, ⟨1, key, 0⟩, k, body)) (h : condF true k (curOf (findE σ.ents key)) ≠ 0) : ansF σ l = (⟨condF true k (curOf (findE σ.ents key)), [], []⟩, σ) :=
 (ans_of hr (by simp)).trans (ask_cond (by simp) rfl h)
theorem put_full {σ : St} {l key body : List UInt8} {k : Cnd} (hr : readF l = .ok (2, ⟨1, key, 0⟩, k, body)) (h : condF true k (curOf (findE σ.ents key)) = 0) (hf : 20 <= (findE σ.ents key).vers.length) : ansF σ l = (⟨507, [], []⟩, σ) :=
 (ans_of hr (by simp)).trans (ask_no (by simp) rfl h rfl (chg_no (by unfold obstF; simp; omega) (by decide)))
theorem put_done {σ : St} {l key body : List UInt8} {k : Cnd} (hr : readF l = .ok (2, ⟨1, key, 0⟩, k, body)) (h : condF true k (curOf (findE σ.ents key)) = 0) (h1 : ¬ 20 <= (findE σ.ents key).vers.length) (h2 : (findE σ.ents key).last ≠ 0 \/ σ.ents.length < 60) :
 ansF σ l = (⟨if (curOf (findE σ.ents key)).isSome then 200 else 201, [⟨eTag, qTag body⟩, ⟨versN, Lib.decDigits ((findE σ.ents key).last + 1)⟩], []⟩,
  ⟨σ.time, putE σ.ents ⟨key, (findE σ.ents key).last + 1, (findE σ.ents key).vers ++ [⟨(findE σ.ents key).last + 1, σ.time, false, body⟩]⟩, σ.log ++ recF 1 σ.time key ((findE σ.ents key).last + 1) body⟩) :=
 (ans_of hr (by simp)).trans (ask_yes (by simp) rfl h rfl (chg_put h1 h2))
theorem mark_ans {σ : St} {l key : List UInt8} (hr : readF l = .ok (3, ⟨1, key, 0⟩, k0, [])) (h2 : (findE σ.ents key).last ≠ 0 \/ σ.ents.length < 60) :
 ansF σ l = if (curOf (findE σ.ents key)).isSome = false then (⟨404, [], []⟩, σ) else if 20 <= (findE σ.ents key).vers.length then (⟨507, [], []⟩, σ) else (⟨204, [⟨versN, Lib.decDigits ((findE σ.ents key).last + 1)⟩], []⟩,
  ⟨σ.time, putE σ.ents ⟨key, (findE σ.ents key).last + 1, (findE σ.ents key).vers ++ [⟨(findE σ.ents key).last + 1, σ.time, true, []⟩]⟩, σ.log ++ recF 2 σ.time key ((findE σ.ents key).last + 1) []⟩) := by
 rw [ans_of hr (by simp)]
 by_cases hc : (curOf (findE σ.ents key)).isSome = false
 ·rw [if_pos hc]
  exact ask_no (by simp) rfl (condF0 _ _) rfl (chg_no (by unfold obstF; simp [hc]) (by decide))
 ·rw [if_neg hc]
  by_cases h20 : 20 <= (findE σ.ents key).vers.length
  ·rw [if_pos h20]
   exact ask_no (by simp) rfl (condF0 _ _) rfl (chg_no (by unfold obstF; simp [hc, h20]) (by decide))
  ·rw [if_neg h20]
   refine ask_yes (by simp) rfl (condF0 _ _) rfl (?_ : chgF σ key 2 ((findE σ.ents key).last + 1) [] = _)
   have ho : obstF (findE σ.ents key) 2 ((findE σ.ents key).last + 1) = 0 := by unfold obstF; simp [hc, h20]
   unfold chgF
   rw [ho, if_neg (by simp), if_neg (by omega)]
   unfold succF applyF
   rw [if_neg (show ¬ (2 : Nat) = 1 by decide), if_neg (show ¬ (2 : Nat) = 3 by decide), findE_key]
   rfl
theorem vidx_filter (l : List Ver) (n : Nat) (h : l.Pairwise fun a b => a.num < b.num) : (vidx l n = none -> l.filter (fun v => v.num != n) = l) /\ ∀ i, vidx l n = some i -> l.eraseIdx i = l.filter (fun v => v.num != n) /\ (l.filter (fun v => v.num != n)).length < l.length := by
 induction l with
 | nil => simp [vidx]
 | cons a l ih =>
   have ⟨h1, h2⟩ := List.pairwise_cons.1 h
   have ih' := ih h2
   unfold vidx at ih' ⊢
   rw [List.findIdx?_cons]
   by_cases e : a.num = n
   ·have e1 : ((a.num : Int) == (n : Int)) = true := by simp [e]
    rw [e1, if_pos rfl]
    refine ⟨fun h => by simp at h, fun i hi => ?_⟩
    have : i = 0 := by simpa using hi.symm
    subst this
    have hf : l.filter (fun v => v.num != n) = l := List.filter_eq_self.2 (fun b hb => by have := h1 b hb; simp; omega)
    rw [List.filter_cons, if_neg (by simp [e]), hf]
    simp
   ·have e1 : ((a.num : Int) == (n : Int)) = false := beq_eq_false_iff_ne.2 (by omega)
    rw [e1, if_neg (by simp)]
    rw [List.filter_cons, if_pos (by simp [e])]
    refine ⟨fun h => ?_, fun i hi => ?_⟩
    ·rw [Option.map_eq_none_iff] at h
     rw [ih'.1 h]
    ·obtain ⟨j, hj, rfl⟩ := Option.map_eq_some_iff.1 hi
     have := ih'.2 j hj
     rw [List.eraseIdx_cons_succ, this.1]
     exact ⟨rfl, Nat.succ_lt_succ this.2⟩
theorem drop_ans {σ : St} {l key : List UInt8} {n : Nat} (hr : readF l = .ok (3, ⟨2, key, n⟩, k0, [])) (hs : (findE σ.ents key).vers.Pairwise fun a b => a.num < b.num) (h2 : (findE σ.ents key).last ≠ 0 \/ σ.ents.length < 60) :
 ansF σ l = if ((findE σ.ents key).vers.filter fun v => v.num != n).length = (findE σ.ents key).vers.length then (⟨404, [], []⟩, σ) else (⟨204, [⟨versN, Lib.decDigits n⟩], []⟩,
  ⟨σ.time, putE σ.ents ⟨key, (findE σ.ents key).last, (findE σ.ents key).vers.filter fun v => v.num != n⟩, σ.log ++ recF 3 σ.time key n []⟩) := by
 have hv := vidx_filter (findE σ.ents key).vers n hs
 rw [ans_of hr (by simp)]
 cases hi : vidx (findE σ.ents key).vers n with
 | none =>
   rw [hv.1 hi, if_pos rfl]
   exact ask_no (by simp) rfl (condF0 _ _) rfl (chg_no (by unfold obstF; simp [hi]) (by decide))
 | some i =>
   have h3 := hv.2 i hi
   rw [if_neg (by omega)]
   have ho : obstF (findE σ.ents key) 3 n = 0 := by unfold obstF; simp [hi]
   refine ask_yes (by simp) rfl (condF0 _ _) rfl (?_ : chgF σ key 3 n [] = _)
   unfold chgF
   rw [ho, if_neg (by simp), if_neg (by omega)]
   unfold succF applyF
   rw [if_neg (show ¬ (3 : Nat) = 1 by decide), if_pos rfl, hi, findE_key, Option.getD_some, h3.1]
end Go.Proofs.YtmehkneofinmiabGreatDoor
namespace Go.Proofs.YtmehkneofinmiabGreatDoor
open Go.RowKit
structure Env (B : Nat -> Prop) (w : World) : Prop where
 mx : MaxIs w
 tb : Tbl w
 hm : ∀ k, B k -> 1 < k
 hi : ∀ k, B k -> High k
 sz : ∀ k, w.heap.size <= k -> B k
theorem Env.high {B : Nat -> Prop} {w : World} (h : Env B w) {k : Nat} (hk : B k) : High k := h.hi k hk
theorem Env.off {B : Nat -> Prop} {w x : World} (h : Env B w) (ho : Off B w x) : Env B x := by
 refine ⟨?_, h.tb.off ho (fun k hk => h.high hk), h.hm, h.hi, fun k hk => h.sz k (Nat.le_trans ho.size hk)⟩
 obtain ⟨m, hm⟩ := h.mx
 refine ⟨m, ?_⟩
 have hlt := cell_lt hm
 simp only [World.cell?] at hm ⊢
 rw [ho.block _ hlt (fun hB => Nat.lt_irrefl _ (h.hm _ hB))]
 exact hm
theorem Env.made {w : World} (hM : MaxIs w) (hT : Tbl w) : Env (fun k => w.heap.size <= k) w := by
 obtain ⟨m, hm⟩ := hM
 exact ⟨⟨m, hm⟩, hT, fun k hk => Nat.lt_of_lt_of_le (cell_lt hm) hk, fun k hk => hT.high hk, fun k hk => hk⟩
theorem Env.below {B : Nat -> Prop} {w x : World} (h : Env B w) (hb : Below w.heap.size w x) : Env B x := h.off (Off.of_below hb)
structure Sto (B : Nat -> Prop) (w : World) (s n : Nat) (σ : St) (M : Mem) : Prop where
 env : Env B w
 st : StoreAt w s n 0 (fun _ => 0) σ M
 own : ∀ k, M.own s n k -> B k
theorem Sto.below {B : Nat -> Prop} {w x : World} {s n : Nat} {σ : St} {M : Mem} (h : Sto B w s n σ M) (hb : Below w.heap.size w x) : Sto B x s n σ M := ⟨h.env.below hb, h.st.below hb, h.own⟩
theorem text_len {a : Ans} (h : AnsOK a) : (textF a.told a.flds a.body).length <= 1000000000 := by
 obtain ⟨h1, h2, h3, h4⟩ := h
 have h5 := flatU_len a.flds fldText 2004 (fun f hf => by have := h3 f hf; simp [fldText]; omega)
 have h6 : a.flds.length * 2004 <= 1000 * 2004 := Nat.mul_le_mul_right _ (by omega)
 have h7 := dec_len10 (n := a.told) (k := 5) (by omega) (by omega)
 simp only [textF, List.length_append, List.length_cons, List.length_nil]
 omega
theorem do_sto {B : Nat -> Prop} {w : World} {s n : Nat} {σ : St} {M : Mem} (l : List UInt8) (h : Sto B w s n σ M) (hlog : σ.log.length < 140000000000000) (hl : l.length <= 9223372036854775807) {a : Ans} {σ' : St} (ha : ansF σ l = (a, σ')) :
 Calls Tryz.prog 11 #[.pointer (some ⟨s, 0, none⟩), .string ⟨l.toArray⟩] w fun e w' => e = .returned (.string ⟨(textF a.told a.flds a.body).toArray⟩) /\ (textF a.told a.flds a.body).length <= 1000000000 /\ ∃ M', Sto B w' s n σ' M' /\ Off (M.own s n) w w' /\ Off B w w' := by
 have hok := ans_ok h.st hlog l
 rw [ha] at hok
 refine (do_store l w h.st h.env.mx h.env.tb (fun k hk => h.env.high (h.own k hk)) (by omega) hl).mono ?_
 rintro e w' ⟨rfl, M', hS, hO, hW⟩
 have hd : doF σ l = (textF a.told a.flds a.body, σ') := by
  unfold doF
  rw [ha]
 rw [hd] at hS
 rw [hd]
 have hO2 : Off B w w' := hO.mono h.own
 exact ⟨rfl, text_len hok, M', ⟨h.env.off hO2, hS, fun k hk => (hW k hk).elim (h.own k) (fun h1 => h.env.sz k h1)⟩, hO, hO2⟩
theorem own_book {w : World} {s n : Nat} {rd : Int} {lk : Nat -> Int} {σ : St} {M : Mem} (h : StoreAt w s n rd lk σ M) {k : Nat} (hk : M.own s n k) {c : Array Value} {f : Nat × Nat} : w.heap[k]? ≠ some (.cells c 31 f) /\ w.heap[k]? ≠ some (.cells c 42 f) := by
 constructor
 all_goals
  intro e
  rcases hk with rfl | rfl | ⟨i, hi, hb⟩ | ⟨i, hi, hb⟩ | ⟨i, p, hi, hp, hb⟩ | hb
  ·exact ne_of_types h.blk e (by decide) rfl
  ·obtain ⟨cs, hc, _⟩ := h.row
   exact ne_of_types hc e (by decide) rfl
  ·exact own_far (h.kt i hi).k.row e (by decide) hb
  ·exact ne_of_types (h.ent i hi k hb).blk e (by decide) rfl
  ·exact own_far (h.ent i hi p hp).row e (by decide) hb
  ·exact own_far h.jrn e (by decide) hb
def enK (σ : St) (i : Nat) : Ent := findE σ.ents (nmK i)
theorem nmK_inj : ∀ i, i < 5 -> ∀ j, j < 5 -> nmK i = nmK j -> i = j := by
 refine five ?_ ?_ ?_ ?_ ?_ <;> refine five ?_ ?_ ?_ ?_ ?_ <;> decide
theorem nmK_ok : ∀ i, keyOK (nmK i) = true
 | 0 => by decide
 | 1 => by decide
 | 2 => by decide
 | 3 => by decide
 | _ + 4 => by show keyOK [97, 95] = true; decide
theorem nodup_le : ∀ {l m : List (List UInt8)}, l.Pairwise (· ≠ ·) -> (∀ x ∈ l, x ∈ m) -> l.length <= m.length
 | [], _, _, _ => Nat.zero_le _
 | a::l, m, h, hs => by
   have ⟨h1, h2⟩ := List.pairwise_cons.1 h
   have ha : a ∈ m := hs a (by simp)
   have := nodup_le (l := l) (m := m.erase a) h2 (fun x hx => (List.mem_erase_of_ne (fun e => h1 x hx e.symm)).2 (hs x (by simp [hx])))
   rw [List.length_erase_of_mem ha] at this
   have : 0 < m.length := List.length_pos_of_mem ha
   simp
   omega
structure Bk (B : Nat -> Prop) (w : World) (b s n : Nat) (σ : St) (M : Mem) (vs : Nat -> Value) (d c : Nat) : Prop where
 sto : Sto B w s n σ M
 bk : BookAt w b s (enK σ) vs σ.time d
 bB : B b
 vB : ∀ i, i < 5 -> ∀ g, (vs i).ownBlock = some g -> B g
 ks : ∀ E ∈ σ.ents, ∃ i, i < 5 /\ E.key = nmK i
 tm : σ.time <= c * 5000
 lg : σ.log.length <= c * 1000
 ls : ∀ i, (enK σ i).last <= c
 dn : d <= c
theorem Bk.many {B : Nat -> Prop} {w : World} {b s n : Nat} {σ : St} {M : Mem} {vs : Nat -> Value} {d c : Nat} (h : Bk B w b s n σ M vs d c) : σ.ents.length < 60 := by
 have hr := h.sto.st.rise
 have := nodup_le (l := σ.ents.map Ent.key) (m := [nmK 0, nmK 1, nmK 2, nmK 3, nmK 4]) (by
  rw [List.pairwise_map]
  exact List.Pairwise.imp (fun h => cmpB_ne h) hr) (fun x hx => by
   obtain ⟨E, hE, rfl⟩ := List.mem_map.1 hx
   obtain ⟨i, hi, e⟩ := h.ks E hE
   rw [e]
   revert i
   exact fun i hi _ => (five (P := fun i => nmK i ∈ [nmK 0, nmK 1, nmK 2, nmK 3, nmK 4]) (by simp) (by simp) (by simp) (by simp) (by simp)) i hi)
 simp at this
 omega
theorem Bk.below {B : Nat -> Prop} {w x : World} {b s n : Nat} {σ : St} {M : Mem} {vs : Nat -> Value} {d c : Nat} (h : Bk B w b s n σ M vs d c) (hb : Below w.heap.size w x) : Bk B x b s n σ M vs d c :=
 ⟨h.sto.below hb, h.bk.below hb, h.bB, h.vB, h.ks, h.tm, h.lg, h.ls, h.dn⟩
theorem Bk.more {B : Nat -> Prop} {w : World} {b s n : Nat} {σ : St} {M : Mem} {vs : Nat -> Value} {d c : Nat} (h : Bk B w b s n σ M vs d c) : Bk B w b s n σ M vs d (c + 1) :=
 ⟨h.sto, h.bk, h.bB, h.vB, h.ks, Nat.le_trans h.tm (Nat.mul_le_mul_right _ (Nat.le_succ _)), Nat.le_trans h.lg (Nat.mul_le_mul_right _ (Nat.le_succ _)), fun i => Nat.le_succ_of_le (h.ls i), Nat.le_succ_of_le h.dn⟩
theorem BookAt.did {w x : World} {b s n : Nat} {en : Nat -> Ent} {vs : Nat -> Value} {t d : Nat} {σ : St} {M : Mem} (h : BookAt w b s en vs t d) (hS : StoreAt w s n 0 (fun _ => 0) σ M) (ho : Off (M.own s n) w x) : BookAt x b s en vs t d :=
 h.off ho (fun hk => (own_book hS hk).1 h.blk) (fun i hi g hg hk => by
  obtain ⟨cur, hc⟩ := own_block (h.row i hi) hg
  exact (own_book hS hk).2 hc)
theorem Bk.facts {B : Nat -> Prop} {w : World} {b s n : Nat} {σ : St} {M : Mem} {vs : Nat -> Value} {d c : Nat} (h : Bk B w b s n σ M vs d c) (i : Nat) : (enK σ i).vers.length <= 20 /\ ((enK σ i).vers.Pairwise fun a b => a.num < b.num) /\ (∀ v ∈ (enK σ i).vers, v.num <= c) /\ (enK σ i).key = nmK i := by
 unfold enK
 by_cases hl : (findE σ.ents (nmK i)).last = 0
 ·have := findE_none (fun E hE => (h.sto.st.ok E hE).last) hl
  rw [this.2]
  simp
 ·have hm := findE_mem hl
  have ho := h.sto.st.ok _ hm
  exact ⟨ho.len, ho.rise, fun v hv => Nat.le_trans (ho.num v hv) (h.ls i), findE_key _ _⟩
end Go.Proofs.YtmehkneofinmiabGreatDoor
namespace Go.Proofs.YtmehkneofinmiabGreatDoor
open Go.ChangeShapes Go.WideShapes Go.ChangeAt Go.RowKit
theorem own : ownKnob Tryz.prog.godebug = none := by kernel_rfl
theorem laidOut : laidOutB Tryz.prog = true := by kernel_rfl
theorem gBru : Tryz.prog.globalNamed "math/bits.deBruijn64tab" = some 3 := by kernel_rfl
theorem gBruType : (Tryz.prog.globals[3]?).map (·.type) = some 304 := by kernel_rfl
theorem cellsBru : Tryz.prog.cellsOf 304 = 64 := by kernel_rfl
theorem cellsU8 : Tryz.prog.cellsOf 5 = 1 := by kernel_rfl
theorem gPowN : Tryz.prog.globalNamed "internal/strconv.uint64pow10" = some 0 := by kernel_rfl
theorem gPowType : (Tryz.prog.globals[0]?).map (·.type) = some 249 := by kernel_rfl
theorem cellsPow : Tryz.prog.cellsOf 249 = 20 := by kernel_rfl
theorem cellsU64 : Tryz.prog.cellsOf 194 = 1 := by kernel_rfl
def bruNs : List Int := [0, 1, 56, 2, 57, 49, 28, 3, 61, 58, 42, 50, 38, 29, 17, 4, 62, 47, 59, 36, 45, 43, 51, 22, 53, 39, 33, 30, 24, 18, 12, 5, 63, 55, 48, 27, 60, 41, 37, 16, 46, 35, 44, 21, 52, 32, 23, 11, 54, 26, 40, 15, 34, 20, 31, 10, 25, 14, 19, 9, 13, 8, 7, 6]
theorem bru_data : Rows.laid_math_bits_deBruijn64tab = (Lib.tabData .u8 bruNs : DataW Unit) := by kernel_rfl
theorem pow_data : Rows.laid_internal_strconv_uint64pow10 = (Lib.tabData .u64 Lib.pow10Tab : DataW Unit) := by kernel_rfl
theorem maxIs {W : World} (h : W.ShapedOpen Tryz.prog) : MaxIs W :=
 Go.Proofs.cell_of_shapedOpen_int (zero := #[.int .i64 0]) (t := 3) h (of_decide_eq_true (by kernel_rfl)) (by kernel_rfl) rfl (by kernel_rfl) (by kernel_rfl) Tryz.underlying3
def laids : List (String × DataW Unit) := [("math/bits.deBruijn32tab", Rows.laid_math_bits_deBruijn32tab), ("math/bits.deBruijn64tab", Rows.laid_math_bits_deBruijn64tab), ("internal/strconv.uint64pow10", Rows.laid_internal_strconv_uint64pow10), ("unicode/utf8.acceptRanges", Rows.laid_unicode_utf8_acceptRanges), ("unicode.CaseRanges", Rows.laid_unicode_CaseRanges), ("unicode/utf8.first", Rows.laid_unicode_utf8_first)]
theorem tables {W : World} (h : laidMetH Tryz.prog laids W) : Tbl W := by
 have h' : laidMet Tryz.prog laids W := h
 obtain ⟨ps, ⟨_, _, _, _, _, _, _, _, _, _, t1, _⟩, _⟩ := h'
 obtain ⟨_, _, _, _, _, _, _, _, _, _, t2, _⟩ := id t1
 obtain ⟨g', t', cs, fuel, p, q, hg', ht', hvar, hd, _, _⟩ := t1
 obtain rfl := Option.some.inj (gBru.symm.trans hg')
 obtain rfl := Option.some.inj (gBruType.symm.trans ht')
 rw [bru_data] at hd
 have tab : Lib.TabIs Tryz.prog W "math/bits.deBruijn64tab" .u8 bruNs := by
  unfold Lib.TabIs
  rw [hvar, <- Lib.cells_of_tab Tryz.underlying304 Tryz.underlying5 cellsU8 cellsBru hd]
 obtain ⟨g2, u2, cs2, fuel2, p2, q2, hg2, ht2, hvar2, hd2, _, _⟩ := t2
 obtain rfl := Option.some.inj (gPowN.symm.trans hg2)
 obtain rfl := Option.some.inj (gPowType.symm.trans ht2)
 rw [pow_data] at hd2
 have tab2 : Lib.TabIs Tryz.prog W "internal/strconv.uint64pow10" .u64 Lib.pow10Tab := by
  unfold Lib.TabIs
  rw [hvar2, <- Lib.cells_of_tab Tryz.underlying249 Tryz.underlying194 cellsU64 cellsPow hd2]
 exact ⟨tab.cell gBru 15 (by decide), ⟨tab2, World.block_lt_of_cell? _ _ (tab2.cell gPowN 0 (by decide))⟩⟩
end Go.Proofs.YtmehkneofinmiabGreatDoor
namespace Go.Proofs.YtmehkneofinmiabGreatDoor
open Go Go.Conc Go.ConcM
theorem good_of_calls {P : Program} {f : FuncId} {args : Array Value} {w : World} {R : Value -> World -> Prop} (h : Calls P f args w fun | .returned v, w' => R v w' | _, _ => False) (hi : P.inits.idxOf? f = none) :
 ∃ M last o w' t', runNT P (M + 1) (solo (G (Frame.enter P f args .normal) []) w) #[] = (.ended o w', t') /\ runN P M (solo (G (Frame.enter P f args .normal) []) w) = .next last /\ step P last = .ended o w' /\ Conc.Good P R last o w' t' := by
 obtain ⟨n, v, w', fr, hn, hend, hp⟩ := h.done_lone hi
 refine ⟨n, lone fr [] w', .done v, w', (runNT P (n + 1) (lone (Frame.enter P f args .normal) [] w) #[]).2, ?_, hn, step_of_runs hn hend, v, rfl, hp, fun said => (no_race_of_lone P n _ _ hn (by simp [lone]) rfl).2, handedOver_of_lone hn, ⟨?_, rfl⟩, ?_⟩
 ·refine Prod.ext ?_ rfl
  rw [runNT_fst]
  exact hend
 ·intro g hg
  simp [lone] at hg
 ·intro i g hg hi
  cases i with
  | zero => exact absurd rfl hi
  | succ k => simp [lone] at hg
end Go.Proofs.YtmehkneofinmiabGreatDoor

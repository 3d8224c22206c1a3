/-
 Texts of this proof, part 40.
-/
import Derived.Test.YtmehkneofinmiabGreatDoorP39
import Derived.Deep.Slices
set_option maxRecDepth 100000
set_option maxHeartbeats 2000000
namespace Go.Proofs.YtmehkneofinmiabGreatDoor
open Go.ChangeShapes Go.WideShapes Go.ChangeAt Go.RowKit
theorem cells84 : Tryz.prog.cellsOf 58 = 4 := by kernel_rfl
theorem cells3 : Tryz.prog.cellsOf 3 = 1 := by kernel_rfl
theorem open_steps {H : Type} {enc : TypeId × Value -> H} {W : World} {r : Reach} {b0 : Nat} {v : Value} {d : DataW H} {p : List MemPlace} (hv : Value.okWide Tryz.prog W r b0 38 v) (h : DataW.Trod enc Tryz.prog W 0 (fun _ => true) true 38 v d p) : ∃ l, StpAt W v l := by
 obtain ⟨o, N, cap, rfl⟩ : ∃ o N cap, v = .slice o N cap := okWide_slice Tryz.underlying38 hv
 obtain ⟨fuel, hf⟩ := h
 rcases Deep.open_slice Tryz.underlying38 hf with ⟨e, hx⟩ | ⟨a, len, cp, m, n, D, Pl, e, _, hl, hml, hm, hx, hc⟩
 ·simp [Value.cells] at e
  obtain ⟨rfl, rfl, rfl⟩ := e
  exact ⟨[], ⟨none, 0, rfl, fun h => absurd h (by simp)⟩, by simp, by simp⟩
 ·simp [Value.cells] at e hm
  obtain ⟨rfl, rfl, rfl⟩ := e
  subst hm
  have each : ∀ i, i < m -> ∃ q : Int × Int × Int × Int, (W.cell? (a.add (i * 4)) = some (.int .i64 q.1) /\ W.cell? (a.add (i * 4 + 1)) = some (.int .i64 q.2.1) /\ W.cell? (a.add (i * 4 + 2)) = some (.int .i64 q.2.2.1) /\ W.cell? (a.add (i * 4 + 3)) = some (.int .i64 q.2.2.2)) /\ I64 q.1 /\ I64 q.2.1 /\ I64 q.2.2.1 /\ I64 q.2.2.2 := by
   intro i hi
   obtain ⟨cs', h1, h2⟩ := hc i hi
   rw [cells84] at h1
   obtain ⟨_, hlen, hcell⟩ := World.cells?_some h1
   obtain ⟨xs, k, hk, hxy, _, hxl, hf⟩ := DataW.trod_struct Tryz.underlying58 h2
   have e0 := hcell 0 (by omega)
   have e1 := hcell 1 (by omega)
   have e2 := hcell 2 (by omega)
   have e3 := hcell 3 (by omega)
   rw [Deep.add_add] at e0 e1 e2 e3
   match xs, hxl, cs', hlen with
   | [y0, y1, y2, y3], _, [v0, v1, v2, v3], _ =>
     have g0 := hf 0 _ rfl
     have g1 := hf 1 _ rfl
     have g2 := hf 2 _ rfl
     have g3 := hf 3 _ rfl
     simp [cells3] at g0 g1 g2 g3
     obtain ⟨n0, q0, _, w0⟩ := DataW.trod_int Tryz.underlying3 g0
     obtain ⟨n1, q1, _, w1⟩ := DataW.trod_int Tryz.underlying3 g1
     obtain ⟨n2, q2, _, w2⟩ := DataW.trod_int Tryz.underlying3 g2
     obtain ⟨n3, q3, _, w3⟩ := DataW.trod_int Tryz.underlying3 g3
     simp only [List.cons.injEq, and_true] at q0 q1 q2 q3
     subst q0 q1 q2 q3
     exact ⟨(n0, n1, n2, n3), ⟨by simpa using e0, by simpa using e1, by simpa using e2, by simpa using e3⟩, bounds_i64 w0, bounds_i64 w1, bounds_i64 w2, bounds_i64 w3⟩
  obtain ⟨q, hq⟩ := Deep.choose_lt each
  refine ⟨(List.range N).map fun i => ⟨(q i).1, (q i).2.1, (q i).2.2.1, (q i).2.2.2⟩, ⟨some a, m, by simp, fun h0 => ?_⟩, fun x hx => ?_, ?_⟩
  ·have h0' : 0 < N := by simpa using h0
   obtain ⟨b, off, spot⟩ := a
   have hspot : spot = none := by simpa [Addr.add] using World.cell?_spot (hq 0 (by omega)).1.1
   subst hspot
   have hlt : b < W.heap.size := by
    have := (hq 0 (by omega)).1.1
    rw [add_plain] at this
    exact cell_lt this
   refine ⟨b, off, rfl, hlt, fun j x hx => ?_⟩
   have hjN : j < N := by
    have := (List.getElem?_eq_some_iff.1 hx).1
    simpa using this
   rw [List.getElem?_map, List.getElem?_range hjN] at hx
   cases hx
   have := (hq j (by omega)).1
   simp only [add_plain] at this
   exact this
  ·obtain ⟨i, hi, rfl⟩ := List.mem_map.1 hx
   exact (hq i (by have := List.mem_range.1 hi; omega)).2
  ·simp
   unfold maxLen at hml
   omega
end Go.Proofs.YtmehkneofinmiabGreatDoor
namespace Go.Proofs.YtmehkneofinmiabGreatDoor
open Go.RowKit
def bkOwn (b s n : Nat) (M : Mem) (vs : Nat -> Value) (k : Nat) : Prop := M.own s n k \/ k = b \/ ∃ i, i < 5 /\ (vs i).ownBlock = some k
theorem Bk.own_in {B : Nat -> Prop} {w : World} {b s n : Nat} {σ : St} {M : Mem} {vs : Nat -> Value} {d c : Nat} (h : Bk B w b s n σ M vs d c) {k : Nat} (hk : bkOwn b s n M vs k) : B k := by
 rcases hk with h1 | rfl | ⟨i, hi, h1⟩
 ·exact h.sto.own k h1
 ·exact h.bB
 ·exact h.vB i hi k h1
theorem Bk.own_size {B : Nat -> Prop} {w : World} {b s n : Nat} {σ : St} {M : Mem} {vs : Nat -> Value} {d c : Nat} (h : Bk B w b s n σ M vs d c) {k : Nat} (hk : bkOwn b s n M vs k) : k < w.heap.size := by
 rcases hk with h1 | rfl | ⟨i, hi, h1⟩
 ·exact own_lt h.sto.st h1
 ·exact (Array.getElem?_eq_some_iff.1 h.bk.blk).1
 ·obtain ⟨cur, hc⟩ := own_block (h.bk.row i hi) h1
  exact (Array.getElem?_eq_some_iff.1 hc).1
theorem Env.narrow {B C : Nat -> Prop} {w : World} (h : Env B w) (h1 : ∀ k, C k -> B k) (h2 : ∀ k, w.heap.size <= k -> C k) : Env C w :=
 ⟨h.mx, h.tb, fun k hk => h.hm k (h1 k hk), fun k hk => h.hi k (h1 k hk), h2⟩
theorem Bk.narrow {B C : Nat -> Prop} {w : World} {b s n : Nat} {σ : St} {M : Mem} {vs : Nat -> Value} {d c : Nat} (h : Bk B w b s n σ M vs d c) (h1 : ∀ k, C k -> B k) (h2 : ∀ k, w.heap.size <= k -> C k) (h3 : ∀ k, bkOwn b s n M vs k -> C k) : Bk C w b s n σ M vs d c :=
 ⟨⟨h.sto.env.narrow h1 h2, h.sto.st, fun k hk => h3 k (Or.inl hk)⟩, h.bk, h3 b (Or.inr (Or.inl rfl)), fun i hi g hg => h3 g (Or.inr (Or.inr ⟨i, hi, hg⟩)), h.ks, h.tm, h.lg, h.ls, h.dn⟩
theorem BookAt.offS {w x : World} {b s : Nat} {en : Nat -> Ent} {vs : Nat -> Value} {t d : Nat} {S : Nat -> Prop} (h : BookAt w b s en vs t d) (ho : Off S w x) (hb : ¬ S b) (hv : ∀ i, i < 5 -> ∀ g, (vs i).ownBlock = some g -> ¬ S g) : BookAt x b s en vs t d := by
 refine ⟨(ho.block b (Array.getElem?_eq_some_iff.1 h.blk).1 hb).trans h.blk, fun i hi => ?_, h.dvs⟩
 have hr := h.row i hi
 refine ⟨hr.1, ?_⟩
 rcases hr.2 with h0 | ⟨g, cap, cur, hv', h1, hgg, h2⟩
 ·exact Or.inl h0
 ·exact Or.inr ⟨g, cap, cur, hv', h1, (ho.block g (Array.getElem?_eq_some_iff.1 hgg).1 (hv i hi g (by rw [hv']; rfl))).trans hgg, h2⟩
theorem Bk.offS {B S : Nat -> Prop} {w x : World} {b s n : Nat} {σ : St} {M : Mem} {vs : Nat -> Value} {d c : Nat} (h : Bk B w b s n σ M vs d c) (ho : Off S w x) (hS : ∀ k, S k -> B k) (hd : ∀ k, bkOwn b s n M vs k -> ¬ S k) : Bk B x b s n σ M vs d c :=
 ⟨⟨h.sto.env.off (ho.mono hS), h.sto.st.off ho (fun k hk => hd k (Or.inl hk)), h.sto.own⟩, h.bk.offS ho (hd b (Or.inr (Or.inl rfl))) (fun i hi g hg => hd g (Or.inr (Or.inr ⟨i, hi, hg⟩))), h.bB, h.vB, h.ks, h.tm, h.lg, h.ls, h.dn⟩
def TwoB (B : Nat -> Prop) (b s n : Nat) (σ : St) (c : Nat) (b2 s2 n2 : Nat) (σ2 : St) (c2 : Nat) (w : World) : Prop :=
 ∃ M vs d M2 vs2 d2, Bk B w b s n σ M vs d c /\ Bk B w b2 s2 n2 σ2 M2 vs2 d2 c2 /\ ∀ k, bkOwn b s n M vs k -> ¬ bkOwn b2 s2 n2 M2 vs2 k
theorem TwoB.swap {B : Nat -> Prop} {b s n : Nat} {σ : St} {c b2 s2 n2 : Nat} {σ2 : St} {c2 : Nat} {w : World} (h : TwoB B b s n σ c b2 s2 n2 σ2 c2 w) : TwoB B b2 s2 n2 σ2 c2 b s n σ c w := by
 obtain ⟨M, vs, d, M2, vs2, d2, h1, h2, h3⟩ := h
 exact ⟨M2, vs2, d2, M, vs, d, h2, h1, fun k hk h => h3 k h hk⟩
theorem TwoB.step {B : Nat -> Prop} {b s n : Nat} {σ : St} {c b2 s2 n2 : Nat} {σ2 : St} {c2 : Nat} {w : World} (h : TwoB B b s n σ c b2 s2 n2 σ2 c2 w) (k a x y : Int) (hc : c < 1000) (ik : I64 k) (ia : I64 a) (ix : I64 x) (iy : I64 y) :
 Calls Tryz.prog 24 #[.pointer (some ⟨b, 0, none⟩), .agg #[.int .i64 k, .int .i64 a, .int .i64 x, .int .i64 y]] w fun e w' => e = .returned (.bool true) /\ TwoB B b s n (stepF σ k a x y) (c + 1) b2 s2 n2 σ2 c2 w' /\ Off B w w' := by
 obtain ⟨M, vs, d, M2, vs2, d2, h1, h2, h3⟩ := h
 have hN : ∀ q, (bkOwn b s n M vs q \/ w.heap.size <= q) -> B q := fun q hq => hq.elim (fun h => h1.own_in h) (h1.sto.env.sz q)
 have hk := h1.narrow (C := fun q => bkOwn b s n M vs q \/ w.heap.size <= q) hN (fun q hq => Or.inr hq) (fun q hq => Or.inl hq)
 refine (step_any k a x y w hk hc ik ia ix iy).mono ?_
 rintro e w' ⟨rfl, ⟨M', vs', d', hB'⟩, hO⟩
 have hno : ∀ q, bkOwn b2 s2 n2 M2 vs2 q -> ¬ (bkOwn b s n M vs q \/ w.heap.size <= q) := fun q hq h => by
  rcases h with h | h
  ·exact h3 q h hq
  ·have := h2.own_size hq
   omega
 refine ⟨rfl, ⟨M', vs', d', M2, vs2, d2, ?_, h2.offS hO hN hno, fun q hq hq2 => hno q hq2 (hB'.own_in hq)⟩, hO.mono hN⟩
 exact ⟨⟨h1.sto.env.off (hO.mono hN), hB'.sto.st, fun q hq => hN q (hB'.sto.own q hq)⟩, hB'.bk, hN _ hB'.bB, fun i hi g hg => hN g (hB'.vB i hi g hg), hB'.ks, hB'.tm, hB'.lg, hB'.ls, hB'.dn⟩
abbrev bookP (s : Nat) : Value := .iface 219 (.agg #[.pointer (some ⟨s, 7, none⟩)])
theorem penter_any (b : Nat) (cs : Array Value) (kc : Int) (t0 t kd n : Nat) (key body : List UInt8) (jr : Value) (J : List UInt8) (w : World)
 (hb : w.heap[b]? = some (.cells cs 99 (0, 0))) (h0 : cs[7]? = some (.int .i32 0)) (h2 : cs[9]? = some (.int .i64 t0)) (h3 : cs[10]? = some (.int .i64 kc)) (h4 : cs[11]? = some jr) (hj : Byt w 0 jr J) (hjb : jr.ownBlock ≠ some b)
 (hk : kd < 256) (ht0 : t0 <= t) (ht : t <= 253402300799) (hn : n < 9223372036854775807) (hkl : key.length < 100000) (hbl : body.length < 100000) (hJ : J.length < 140000000000000) :
 Calls Tryz.prog 305 #[.agg #[.pointer (some ⟨b, 7, none⟩)], recA kd t key n body] w fun e w' => e = .returned (.int .i64 t) /\
  ∃ jr', w'.heap[b]? = some (.cells ((cs.setIfInBounds 9 (.int .i64 t)).setIfInBounds 11 jr') 99 (0, 0)) /\ Byt w' 0 jr' (J ++ recF kd t key n body) /\ (jr'.ownBlock = jr.ownBlock \/ ∃ g, jr'.ownBlock = some g /\ w.heap.size <= g) /\ Off (fun k => k = b \/ jr.ownBlock = some k) w w' := by
 go_enter Tryz.func305, Tryz.ntmps305
 go_wp2_with fail
 obtain ⟨X, hX⟩ : ∃ X, X = (w.alloc (.cells #[.pointer (some ⟨b, 7, none⟩)] 219)).alloc (.cells #[.int .u8 kd, .int .i64 t, .string ⟨key.toArray⟩, .int .i64 n, .string ⟨body.toArray⟩] 108) := ⟨_, rfl⟩
 rw [<- hX]
 have hbl' : b < w.heap.size := (Array.getElem?_eq_some_iff.1 hb).1
 have hlow : Below w.heap.size w X := by rw [hX]; exact ((Below.refl _ _).alloc (Nat.le_refl _) _).alloc (by simp) _
 have hp0 : X.heap[w.heap.size]? = some (.cells #[.pointer (some ⟨b, 7, none⟩)] 219 (0, 0)) := by rw [hX]; exact (heap_alloc_old _ _ (by simp)).trans (heap_alloc_new _ _)
 have hr0 : X.heap[w.heap.size + 1]? = some (.cells #[.int .u8 kd, .int .i64 t, .string ⟨key.toArray⟩, .int .i64 n, .string ⟨body.toArray⟩] 108 (0, 0)) := by
  rw [hX]
  have := heap_alloc_new (w.alloc (.cells #[.pointer (some ⟨b, 7, none⟩)] 219)) (.cells #[.int .u8 kd, .int .i64 t, .string ⟨key.toArray⟩, .int .i64 n, .string ⟨body.toArray⟩] 108)
  simpa using this
 have hbX : X.heap[b]? = some (.cells cs 99 (0, 0)) := (hlow.block b hbl').trans hb
 have HJX : Hid (Byt X 0 jr J) := Byt.below (base := 0) hj hlow
 have HC : Hid (Cmn X.drew b 7 t0 kc) := cmn_of hbX h0 h2 h3
 have HBX : Hid _ := hbX
 have HP0 : Hid _ := hp0
 have HR0 : Hid _ := hr0
 have HLX : Hid _ := hlow
 have lX : w.heap.size + 1 < X.heap.size := (Array.getElem?_eq_some_iff.1 hr0).1
 have sX : X.cell? ⟨w.heap.size, 0, none⟩ = some (.pointer (some ⟨b, 7, none⟩)) /\ X.cell? ⟨w.heap.size + 1, 1, none⟩ = some (.int .i64 t) := ⟨by simp [World.cell?, hp0], by simp [World.cell?, hr0]⟩
 clear hX hlow hp0 hr0 hbX hj hb
 have hwt : IntKind.i64.wrap ((t : Int) - (t0 : Int)) = (t : Int) - (t0 : Int) := by rw [IntKind.wrap_i64]; omega
 have hwt2 : (t0 : Int) + ((t : Int) - (t0 : Int)) = (t : Int) := by omega
 go_region_held3 (fun y => y.cell? ⟨w.heap.size, 0, none⟩ = some (.pointer (some ⟨b, 7, none⟩)) /\ y.cell? ⟨w.heap.size + 1, 1, none⟩ = some (.int .i64 t)) (first | assumption | go_keep) (first
  | (go_at_call 45
     refine Calls.mono (now_any b 7 t0 kc _ HC.out) ?_
     rintro e w2 ⟨rfl, rfl⟩)
  | (go_at_call 46
     refine Calls.mono (pass_yes b 7 t0 kc _ _ HC.out (by omega) (by omega) (by omega) (by omega)) ?_
     rintro e w3 ⟨rfl, e3⟩
     have hO3 : Off (fun k => k = b) X w3 := by rw [e3]; exact (Off.refl (fun k => k = b) X).drew.set b 9 _ (Or.inl rfl)
     have hb3 : w3.heap[b]? = some (.cells (cs.setIfInBounds 9 (.int .i64 t)) 99 (0, 0)) := by rw [e3, hwt2]; exact heap_set HBX.out
     have hp3 := (hO3.block _ (by omega) (by omega)).trans HP0.out
     have hr3 := (hO3.block _ lX (by omega)).trans HR0.out
     have s3 : w3.cell? ⟨w.heap.size, 0, none⟩ = some (.pointer (some ⟨b, 7, none⟩)) /\ w3.cell? ⟨w.heap.size + 1, 1, none⟩ = some (.int .i64 t) := ⟨by simp [World.cell?, hp3], by simp [World.cell?, hr3]⟩
     clear e3))
 have HJ3 : Hid (Byt w3 0 jr J) := Byt.off (base := 0) HJX.out hO3 (fun g hg e => hjb (e ▸ hg))
 have HB3 : Hid _ := hb3
 have HO3 : Hid (Off (fun k => k = b \/ jr.ownBlock = some k) w w3) := (Off.of_below HLX.out).trans' hO3 (fun k _ h => Or.inl h)
 have h73 : (cs.setIfInBounds 9 (.int .i64 t))[7]? = some (.int .i32 0) := by rw [Array.getElem?_setIfInBounds_ne (by omega)]; exact h0
 have h93 : (cs.setIfInBounds 9 (.int .i64 t))[9]? = some (.int .i64 t) := by
  have : 9 < cs.size := (Array.getElem?_eq_some_iff.1 h2).1
  simp [this]
 have h113 : (cs.setIfInBounds 9 (.int .i64 t))[11]? = some jr := by rw [Array.getElem?_setIfInBounds_ne (by omega)]; exact h4
 have p0 := s3.1
 have r0 : w3.cell? ⟨w.heap.size + 1, 0, none⟩ = some (.int .u8 kd) := by simp [World.cell?, hr3]
 have r1 := s3.2
 have r2 : w3.cell? ⟨w.heap.size + 1, 2, none⟩ = some (.string ⟨key.toArray⟩) := by simp [World.cell?, hr3]
 have r3 : w3.cell? ⟨w.heap.size + 1, 3, none⟩ = some (.int .i64 n) := by simp [World.cell?, hr3]
 have r4 : w3.cell? ⟨w.heap.size + 1, 4, none⟩ = some (.string ⟨body.toArray⟩) := by simp [World.cell?, hr3]
 have HSZ : Hid (w.heap.size <= w3.heap.size) := Nat.le_trans HLX.out.size hO3.size
 clear hO3 hb3 hp3 hr3 s3 sX HC HBX HP0 HR0 HLX lX HJX hwt hwt2
 go_wp2_with fail
 refine (enter_any b 7 _ 99 t kd t n key body jr J _ HB3.out h73 h93 h113 HJ3.out hjb hk (by omega) hn hkl hbl hJ).mono ?_
 rintro e w4 ⟨rfl, jr', hs4, hj4, ha4, ho4⟩
 have H1 : Hid _ := hs4
 have H2 : Hid _ := hj4
 have H3 : Hid (jr'.ownBlock = jr.ownBlock \/ ∃ g, jr'.ownBlock = some g /\ w.heap.size <= g) := ha4.imp_right (fun ⟨g, h1, h2⟩ => ⟨g, h1, Nat.le_trans HSZ.out h2⟩)
 have H4 : Hid _ := HO3.out.trans ho4
 clear hs4 hj4 ha4 ho4
 go_wp2_with fail
 go_ret
 exact ⟨rfl, jr', H1.out, H2.out, H3.out, H4.out⟩
end Go.Proofs.YtmehkneofinmiabGreatDoor

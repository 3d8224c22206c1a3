/-
 Texts of this proof, part 34.
-/
import Derived.Test.YtmehkneofinmiabGreatDoorP33
import Derived.Deep.DeepHandedRow
set_option maxRecDepth 100000
set_option maxHeartbeats 8000000
namespace Go.Proofs.YtmehkneofinmiabGreatDoor
open Go Go.Conc Go.ConcM
section
variable {H : Type} {enc : TypeId × Value -> H}
theorem leaving_of_row {a : Assume} {C : Checked} {os : Os} {f : FuncId} {fn : Func} {s : ChangeSpec} {F : Stop.Interp} {conds : List PathCond} {apart fresh handsOn : Bool} {laid : List (String × DataW Unit)}
 (own : ownKnob C.prog.godebug = none) (started : os.Started) (noInit : C.prog.inits.idxOf? f = none) (hfn : C.prog.funcs[f]? = some fn)
 (witness : ∃ (w : World) (tape : Tape) (i : Input), w.os = os /\ (w.forCall tape i).Shaped C.prog /\ i.vars = [] /\ Input.okWide C.prog (w.forCall tape i) .any w.heap.size f i /\
   (OpenSpec.ofChange s).preRow enc C.prog fn conds apart laid (w.forCall tape i).memory i.args /\ a.holds C.prog (lone (Frame.enter C.prog f i.args .normal) [] (w.forCall tape i)))
 (contract : ∀ (W : World) (base : Nat) (args : Array Value) (ds gs : List (DataW H)) (before : List MemPlace),
   (∀ (j : Nat) t v, fn.params[j]? = some t -> args[j]? = some v -> Value.okWide C.prog W .any base t v) ->
   DataW.Whole enc C.prog fn.params.toList s.vars apart W args.toList ds gs before ->
   laidMetH C.prog laid W ->
   W.ShapedOpen C.prog ->
   Calls C.prog f args W fun e W' => ∃ v, e = .returned v /\ s.post enc C.prog fn apart fresh handsOn false W args v W' /\ W'.os = W.os) :
 ReturnsInLeavingWide a C os f .any ((OpenSpec.ofChange s).preRow enc C.prog fn conds apart laid) ((OpenSpec.ofChange s).postWith enc C.prog fn F (outsideKept [.timePasses]) apart fresh handsOn) := by
 refine returnsInLeavingWide_of_good own started witness ?_
 intro w tape i _ hsh _ hok hpre hholds
 obtain ⟨_, _, _, fn', hfn', _, _, _, _, hval⟩ := hok
 have e : fn' = fn := Option.some.inj (hfn'.symm.trans hfn)
 subst e
 obtain ⟨⟨hp, hl⟩, hz⟩ := hpre
 obtain ⟨ds, gs, before, hw, hc, hk⟩ := OpenSpec.pre_parts hp
 have hw' := DataW.Whole.of_heap (w' := w.forCall tape i) (by rfl) hw
 have hcall := contract (w.forCall tape i) w.heap.size i.args ds gs before hval hw' (hl.of_heap (by rfl)) hsh
 obtain ⟨M, last, o, w', t', h1, h2, h3, h4⟩ := good_of_calls (R := fun v W' => s.post enc C.prog fn' apart fresh handsOn false (w.forCall tape i) i.args v W' /\ W'.os = (w.forCall tape i).os) (hcall.mono fun e W' ⟨v, he, hp⟩ => by subst he; exact hp) noInit
 obtain ⟨v, e, hp, r1, r2, r3, r4⟩ := h4
 refine ⟨M, last, o, w', t', h1, h2, h3, v, e, postWith_blind (postWith_of_post (?_ : s.post enc C.prog fn' apart fresh handsOn false (w.forCall tape i) i.args v { w' with os := (w.forCall tape i).os }) ?_), r1, r2, r3, r4⟩
 ·have e2 : ({ w' with os := (w.forCall tape i).os } : World) = w' := by rw [<- hp.2]
  rw [e2]
  exact hp.1
 ·rw [hp.2]
  exact ⟨0, rfl⟩
end
end Go.Proofs.YtmehkneofinmiabGreatDoor
namespace Go.Proofs.YtmehkneofinmiabGreatDoor
open Go.RowKit
theorem bvOut_agg (o : Option Ver) : ∃ (a t : Int) (m : Bool) (x y : ByteArray), bvOut o = .agg #[.int .i64 a, .int .i64 t, .bool m, .string x, .string y] := by
 cases o with
 | none => exact ⟨_, _, _, _, _, rfl⟩
 | some v => exact ⟨_, _, _, _, _, rfl⟩
def putM : List UInt8 := [80, 85, 84]
theorem puts_fails {B : Nat -> Prop} {b s n : Nat} {σ : St} {M : Mem} {vs : Nat -> Value} {d c : Nat} (i : Nat) (hi : i < 5) (fields what : List UInt8) (w : World) (h : Bk B w b s n σ M vs d c) (hc : c < 1000) (hf : fields.length < 1000) (hw : what.length < 100)
 (lets : Bool) (a : Ans) (ha : ansF σ (reqB putM (47::nmK i) fields what) = (a, σ)) (hcs : (lets = false /\ a.told = 412) \/ (lets = true /\ 20 <= (enK σ i).vers.length /\ a.told = 507)) :
 Calls Tryz.prog 41 #[.pointer (some ⟨b, 0, none⟩), .int .i64 i, .string ⟨fields.toArray⟩, .string ⟨what.toArray⟩, .bool lets] w fun e w' => e = .returned (.bool true) /\ (∃ M', Bk B w' b s n σ M' vs d (c + 1)) /\ Off B w w' := by
 have ⟨k1, k2, k3⟩ := h.bk.ck i hi
 have ⟨c0, c16, c17⟩ := h.bk.c0
 have hlt := h.bk.lt
 have hbt := h.facts i
 rw [hbt.2.2.2] at k1
 have hkl := (key_no (nmK_ok i)).2.1
 obtain ⟨K, hK⟩ : ∃ K, nmK i = K := ⟨_, rfl⟩
 rw [hK] at k1 ha hkl
 have HB : Hid _ := h
 have HA : Hid _ := ha
 have hcu := bcur_any b (1 + i * 3) (vs i) (enK σ i) w k2 (h.bk.row i hi) (by have := hbt.1; omega)
 obtain ⟨q0, q1, q2, q3, q4, hq⟩ := bvOut_agg (curOf (enK σ i))
 rw [hq] at hcu
 have HQ : Hid _ := hcu
 clear h ha hbt hcu
 go_enter Tryz.func41, Tryz.ntmps41
 go_wp2_with fail
 refine Calls.mono HQ.out ?_
 rintro e w1 ⟨rfl, hb1⟩
 go_wp2_with fail
 obtain ⟨X, hX⟩ : ∃ X, X = w1.alloc (.cells #[.int .i64 q0, .int .i64 q1, .bool q2, .string q3, .string q4] 42) := ⟨_, rfl⟩
 rw [<- hX]
 have hbX : Below w.heap.size w X := by rw [hX]; exact hb1.alloc hb1.size _
 clear hX
 have HX := HB.out.below hbX
 have x1 := (HX.bk.ck i hi).1
 have x2 := HX.bk.c0.1
 rw [HX.facts i |>.2.2.2, hK] at x1
 have HDO : Hid (∀ y, Below X.heap.size X y -> Calls Tryz.prog 11 #[.pointer (some ⟨s, 0, none⟩), .string ⟨(reqB putM (47::K) fields what).toArray⟩] y fun e w' => e = .returned (.string ⟨(textF a.told a.flds a.body).toArray⟩) /\ (textF a.told a.flds a.body).length <= 1000000000 /\ ∃ M', Sto B w' s n σ M' /\ Off (M.own s n) y w' /\ Off B y w') :=
  fun y hy => do_sto _ (HX.sto.below hy) (by have := HB.out.lg; omega) (by rw [reqB_len]; simp [putM]; omega) HA.out
 have hA : ∀ w : World, (Op.stringOp .add ⟨#[47]⟩ ⟨K.toArray⟩).run Tryz.prog w = .ok (.string ⟨(47::K).toArray⟩) w := by
  have := addS ⟨#[47]⟩ ⟨K.toArray⟩ (by simp [ByteArray.size]; omega)
  rw [show (⟨#[47]⟩ : ByteArray) ++ ⟨K.toArray⟩ = ⟨(47::K).toArray⟩ from mk_app [47] K] at this
  exact this
 have HX : Hid _ := HX
 go_region_held3 (fun y => y.cell? ⟨b, 0, none⟩ = some (.pointer (some ⟨s, 0, none⟩)) /\ y.cell? ⟨b, 1 + i * 3, none⟩ = some (.string ⟨K.toArray⟩)) (first | assumption | go_keep) (first
  | (go_at_call 12
     refine (request_any putM (47::K) fields what _ (by decide) (by simp; omega) (by omega) (by omega)).mono ?_
     rintro e w2 ⟨rfl, rfl⟩)
  | (go_at_call 11
     refine Calls.mono (HDO.out _ (Below.refl _ _).drew) ?_
     rintro e w3 ⟨rfl, hl3, M3, hS3, hO3, hP3⟩
     have y3 : w3.cell? ⟨b, 0, none⟩ = some (.pointer (some ⟨s, 0, none⟩)) /\ w3.cell? ⟨b, 1 + i * 3, none⟩ = some (.string ⟨K.toArray⟩) := by
      have hb3 := (HX.out.below (Below.refl _ _).drew).bk.did (HX.out.below (Below.refl _ _).drew).sto.st hO3
      refine ⟨hb3.c0.1, ?_⟩
      rw [(hb3.ck i hi).1, (HX.out.facts i).2.2.2, hK]))
 have hb3 := (HX.out.below (Below.refl _ _).drew).bk.did (HX.out.below (Below.refl _ _).drew).sto.st hO3
 have z2 := (hb3.ck i hi).2.1
 have HF : Hid (∃ M', Bk B w3 b s n σ M' vs d (c + 1)) := ⟨M3, (⟨hS3, hb3, HB.out.bB, HB.out.vB, HB.out.ks, HB.out.tm, HB.out.lg, HB.out.ls, HB.out.dn⟩ : Bk B w3 b s n σ M3 vs d c).more⟩
 have HO : Hid (Off B w w3) := ((Off.of_below hbX).trans (Off.of_below (Below.refl _ _).drew)).trans hP3
 have hrow := hb3.row i hi
 clear hb3 hS3 hO3 hP3 HDO HX
 rcases hcs with ⟨rfl, ht⟩ | ⟨rfl, h20, ht⟩
 ·have hcode : Calls Tryz.prog 14 #[.string ⟨(textF a.told a.flds a.body).toArray⟩] w3 fun e w' => e = .returned (.int .i64 412) /\ w' = w3 :=
   (code_text a.told a.flds a.body w3 (by omega) (by omega) hl3).mono (fun e w' h => by rw [ht] at h; exact h)
  have HCO : Hid _ := hcode
  clear hcode hrow ht hl3
  generalize (textF a.told a.flds a.body) = T at HCO ⊢
  go_wp2_with (go_at_call 14; refine Calls.mono HCO.out ?_; rintro e w4 ⟨rfl, rfl⟩)
  go_ret
  exact ⟨rfl, HF.out, HO.out⟩
 ·have hcode : Calls Tryz.prog 14 #[.string ⟨(textF a.told a.flds a.body).toArray⟩] w3 fun e w' => e = .returned (.int .i64 507) /\ w' = w3 :=
   (code_text a.told a.flds a.body w3 (by omega) (by omega) hl3).mono (fun e w' h => by rw [ht] at h; exact h)
  have HCO : Hid _ := hcode
  obtain ⟨x, cp, hx⟩ : ∃ x cp, vs i = .slice x (enK σ i).vers.length cp := by
   rcases hrow.2 with ⟨e, h0⟩ | ⟨g, cap, cur, e, _⟩
   ·exact ⟨_, _, by rw [e, h0]⟩
   ·exact ⟨_, _, e⟩
  rw [hx] at z2
  have h20' : (20 : Int) <= ((enK σ i).vers.length : Int) := by omega
  clear hcode hrow ht hl3
  generalize (textF a.told a.flds a.body) = T at HCO ⊢
  go_wp2_with (go_at_call 14; refine Calls.mono HCO.out ?_; rintro e w4 ⟨rfl, rfl⟩)
  go_ret
  exact ⟨rfl, HF.out, HO.out⟩
theorem hexN_bytes (k u : Nat) : ∀ c ∈ hexN k u, ∃ d, d < 16 /\ c = hexD d := by
 induction k generalizing u with
 | zero => simp [hexN]
 | succ k ih =>
   intro c hc
   simp only [hexN, List.mem_append, List.mem_singleton] at hc
   rcases hc with hc | hc
   ·exact ih _ c hc
   ·exact ⟨u % 16, by omega, hc⟩
theorem hexD_ok : ∀ d, d < 16 -> tb (hexD d) = true /\ hexD d ≠ 13 /\ hexD d ≠ 10 /\ hexD d ≠ 34 := by decide
theorem tag_ok (b : List UInt8) : okText (hexN 16 (fnv b)) = true /\ ∀ c ∈ hexN 16 (fnv b), c ≠ 13 /\ c ≠ 10 := by
 refine ⟨List.all_eq_true.2 (fun c hc => ?_), fun c hc => ?_⟩
 all_goals
  obtain ⟨d, hd, rfl⟩ := hexN_bytes 16 _ c hc
  have := hexD_ok d hd
 ·exact this.1
 ·exact ⟨this.2.1, this.2.2.1⟩
theorem cln_tag (b : List UInt8) : Cln ⟨eTag, qTag b⟩ := by
 refine ⟨by simp [eTag], by simp [eTag], fun c hc => ?_⟩
 simp only [qTag, List.cons_append, List.mem_cons, List.mem_append, List.not_mem_nil, or_false] at hc
 rcases hc with rfl | hc | rfl
 ·decide
 ·exact ((tag_ok b).2 c hc).1
 ·decide
theorem cln_vers (n : Nat) : Cln ⟨versN, Lib.decDigits n⟩ := ⟨by simp [versN], by simp [versN], fun c hc => (dec_bytes n c hc).1⟩
theorem bookCells_last (s : Nat) (en : Nat -> Ent) (vs : Nat -> Value) (t d : Nat) (L : Nat) (x : Int) (hx : x = (L : Int)) : ∀ i, i < 5 -> (bookCells s en vs t d).setIfInBounds (1 + i * 3 + 2) (.int .i64 x) = bookCells s (fun j => if j = i then ⟨(en j).key, L, (en j).vers⟩ else en j) vs t d := by
 subst hx
 refine five ?_ ?_ ?_ ?_ ?_ <;> simp [bookCells]
theorem bookCells_vs (s : Nat) (en : Nat -> Ent) (vs : Nat -> Value) (t d : Nat) (v : Value) : ∀ i, i < 5 -> (bookCells s en vs t d).setIfInBounds (1 + i * 3 + 1) v = bookCells s en (fun j => if j = i then v else vs j) t d := by
 refine five ?_ ?_ ?_ ?_ ?_ <;> simp [bookCells]
theorem bookCells_time (s : Nat) (en : Nat -> Ent) (vs : Nat -> Value) (t d t' : Nat) (x : Int) (hx : x = (t' : Int)) : (bookCells s en vs t d).setIfInBounds 16 (.int .i64 x) = bookCells s en vs t' d := by
 subst hx
 simp [bookCells]
theorem bookCells_done (s : Nat) (en : Nat -> Ent) (vs : Nat -> Value) (t d d' : Nat) (x : Int) (hx : x = (d' : Int)) : (bookCells s en vs t d).setIfInBounds 17 (.int .i64 x) = bookCells s en vs t d' := by
 subst hx
 simp [bookCells]
theorem bookCells_ext {s : Nat} {en en' : Nat -> Ent} {vs vs' : Nat -> Value} {t d : Nat} (h : ∀ j, j < 5 -> (en j).key = (en' j).key /\ (en j).last = (en' j).last /\ vs j = vs' j) : bookCells s en vs t d = bookCells s en' vs' t d := by
 have h0 := h 0 (by omega)
 have h1 := h 1 (by omega)
 have h2 := h 2 (by omega)
 have h3 := h 3 (by omega)
 have h4 := h 4 (by omega)
 simp only [bookCells, h0, h1, h2, h3, h4]
theorem BookAt.ext {w : World} {b s : Nat} {en en' : Nat -> Ent} {vs vs' : Nat -> Value} {t d : Nat} (h : BookAt w b s en vs t d) (he : ∀ j, j < 5 -> en j = en' j /\ vs j = vs' j) : BookAt w b s en' vs' t d := by
 refine ⟨?_, fun i hi => ?_, fun i j hi hj => ?_⟩
 ·rw [h.blk, bookCells_ext (fun j hj => ?_)]
  rw [(he j hj).1, (he j hj).2]
  exact ⟨rfl, rfl, rfl⟩
 ·rw [<- (he i hi).1, <- (he i hi).2]
  exact h.row i hi
 ·rw [<- (he i hi).2, <- (he j hj).2]
  exact h.dvs i j hi hj
theorem BookAt.set {w : World} {b s : Nat} {en en' : Nat -> Ent} {vs : Nat -> Value} {t d t' d' : Nat} (h : BookAt w b s en vs t d) (j : Nat) (v : Value) (hc : (bookCells s en vs t d).setIfInBounds j v = bookCells s en' vs t' d') (hv : ∀ i, i < 5 -> (en' i).vers = (en i).vers) : BookAt (w.setCell ⟨b, j, none⟩ v) b s en' vs t' d' := by
 refine ⟨by rw [heap_set h.blk, hc], fun i hi => ?_, h.dvs⟩
 have hr := h.row i hi
 have hf := own_far hr h.blk (by decide)
 rw [hv i hi]
 refine ⟨hr.1, ?_⟩
 rcases hr.2 with h0 | ⟨g, cap, cur, hv', h1, hg, h2⟩
 ·exact Or.inl h0
 ·refine Or.inr ⟨g, cap, cur, hv', h1, ?_, h2⟩
  rw [heap_set_far (fun e => hf (by rw [hv', e]; rfl))]
  exact hg
theorem info56m : (Tryz.prog.info? 42).map (fun i => (i.zero, i.size, i.bytes)) = some (some (.agg #[.int .i64 0, .int .i64 0, .bool false, .string ⟨#[]⟩, .string ⟨#[]⟩]), 5, 56) := by kernel_rfl
theorem brow_app (Y : World) (v : Value) (l : List Ver) (x : Ver) (a1 a2 : Int) (m : Bool) (s1 s2 : ByteArray) (hx : bvCells x = [.int .i64 a1, .int .i64 a2, .bool m, .string s1, .string s2]) (hr : Y.ownsRow 0 42 5 v l.length (bRow l)) (hl : l.length < 1000000) :
 ∃ gg cap w2, AppOk Tryz.prog 26 26 (Y.alloc (.cells #[.int .i64 a1, .int .i64 a2, .bool m, .string s1, .string s2] 42)) v (.slice (some ⟨Y.heap.size, 0, none⟩) 1 1) /\
  (appR Tryz.prog 26 26 (Y.alloc (.cells #[.int .i64 a1, .int .i64 a2, .bool m, .string s1, .string s2] 42)) v (.slice (some ⟨Y.heap.size, 0, none⟩) 1 1)).1 = .slice (some ⟨gg, 0, none⟩) (l.length + 1) cap /\
  (appR Tryz.prog 26 26 (Y.alloc (.cells #[.int .i64 a1, .int .i64 a2, .bool m, .string s1, .string s2] 42)) v (.slice (some ⟨Y.heap.size, 0, none⟩) 1 1)).2 = w2 /\
  w2.ownsRow 0 42 5 (.slice (some ⟨gg, 0, none⟩) (l.length + 1) cap) (l.length + 1) (bRow (l ++ [x])) /\ (v.ownBlock = some gg \/ Y.heap.size <= gg) /\ Off (fun k => v.ownBlock = some k) Y w2 := by
 obtain ⟨i0, hi0, hz0, hz1, hz2⟩ := info_parts info56m
 obtain ⟨gg, cap, w2, hrun, hown1, hgrow, hat, hlt2⟩ := run_append_lies (P := Tryz.prog) (Y.alloc (.cells #[.int .i64 a1, .int .i64 a2, .bool m, .string s1, .string s2] 42)) 26 26 0 42 i0 _ 5 56 Tryz.underlying26 hi0 hz0 hz1 hz2 rfl (by omega) v l.length (bRow l) (World.ownsRow.alloc hr _)
  ⟨Y.heap.size, 0, none⟩ 1 1 [.int .i64 a1, .int .i64 a2, .bool m, .string s1, .string s2] (by rfl) (World.news_of_block (cs := #[.int .i64 a1, .int .i64 a2, .bool m, .string s1, .string s2]) (t := 42) (fr := (0, 0)) (heap_alloc_new Y _)) (by simp [Value.oneCell'])
  (by omega) (by simp only [maxLen]; omega) (by omega) (by simp) _ rfl
 obtain ⟨hok, hr1, hr2⟩ := app_is hrun
 refine ⟨gg, cap, w2, hok, hr1, hr2, ?_, ?_, ((Off.refl _ _).alloc _).grown hgrow (fun k hk => Or.inl hk)⟩
 ·have e1 : bRow l ++ [.int .i64 a1, .int .i64 a2, .bool m, .string s1, .string s2] = bRow (l ++ [x]) := by
   simp [bRow, hx]
  rw [<- e1]
  exact hown1
 ·rcases hat with h1 | h1
  ·exact Or.inl h1
  ·right
   have h2 : gg = Y.heap.size + 1 := by rw [h1]; simp
   omega
theorem BookAt.row_set {Y w2 : World} {b s : Nat} {en : Nat -> Ent} {vs : Nat -> Value} {t d : Nat} (h : BookAt Y b s en vs t d) (i : Nat) (hi : i < 5) (v : Value) (l : List Ver) (ho : Off (fun k => (vs i).ownBlock = some k) Y w2) (hr : w2.ownsRow 0 42 5 v l.length (bRow l)) (hg : ∀ g, v.ownBlock = some g -> (vs i).ownBlock = some g \/ Y.heap.size <= g) :
 BookAt (w2.setCell ⟨b, 1 + i * 3 + 1, none⟩ v) b s (fun j => if j = i then ⟨(en i).key, (en i).last, l⟩ else en j) (fun j => if j = i then v else vs j) t d := by
 have hfar := own_far (h.row i hi) h.blk (by decide)
 have hblk : w2.heap[b]? = some (.cells (bookCells s en vs t d) 31 (0, 0)) := (ho.block b h.lt hfar).trans h.blk
 have hold : ∀ j, j < 5 -> ∀ g, (vs j).ownBlock = some g -> g < Y.heap.size := fun j hj g hg => by
  obtain ⟨cur, hc⟩ := own_block (h.row j hj) hg
  exact (Array.getElem?_eq_some_iff.1 hc).1
 refine ⟨?_, fun j hj => ?_, fun j k hj hk hjk g => ?_⟩
 ·rw [heap_set hblk, bookCells_vs _ _ _ _ _ _ i hi]
  rw [bookCells_ext (fun j hj => ?_)]
  by_cases e : j = i
  ·subst e; simp
  ·simp [e]
 ·by_cases e : j = i
  ·subst e
   simp only [if_pos]
   refine ⟨hr.1, ?_⟩
   rcases hr.2 with h0 | ⟨g, cap, cur, hv', h1, hgb, h2⟩
   ·exact Or.inl h0
   ·refine Or.inr ⟨g, cap, cur, hv', h1, ?_, h2⟩
    rw [heap_set_far (ne_of_types hgb hblk (by decide))]
    exact hgb
  ·simp only [if_neg e]
   have hrj := h.row j hj
   refine ⟨hrj.1, ?_⟩
   rcases hrj.2 with h0 | ⟨g, cap, cur, hv', h1, hgb, h2⟩
   ·exact Or.inl h0
   ·refine Or.inr ⟨g, cap, cur, hv', h1, ?_, h2⟩
    have hgo : (vs j).ownBlock = some g := by rw [hv']; rfl
    rw [heap_set_far (ne_of_types hgb h.blk (by decide)), ho.block g (hold j hj g hgo) (fun e' => h.dvs j i hj hi e g hgo e')]
    exact hgb
 ·by_cases e1 : j = i
  ·have e2 : k ≠ i := fun e => hjk (e1.trans e.symm)
   simp only [if_pos e1, if_neg e2]
   intro h1 h2
   rcases hg g h1 with h3 | h3
   ·exact h.dvs k i hk hi e2 g h2 h3
   ·have := hold k hk g h2; omega
  ·by_cases e2 : k = i
   ·simp only [if_neg e1, if_pos e2]
    intro h1 h2
    rcases hg g h2 with h3 | h3
    ·exact h.dvs j i hj hi e1 g h1 h3
    ·have := hold j hj g h1; omega
   ·simp only [if_neg e1, if_neg e2]
    exact h.dvs j k hj hk hjk g
theorem Sto.book {B : Nat -> Prop} {w x : World} {b s n : Nat} {σ : St} {M : Mem} {en : Nat -> Ent} {vs : Nat -> Value} {t d : Nat} (hS : Sto B w s n σ M) (h : BookAt w b s en vs t d) (hb : B b) (hv : ∀ i, i < 5 -> ∀ g, (vs i).ownBlock = some g -> B g) (ho : Off (fun k => k = b \/ ∃ i, i < 5 /\ (vs i).ownBlock = some k) w x) : Sto B x s n σ M := by
 refine ⟨hS.env.off (ho.mono (fun k hk => ?_)), hS.st.off ho (fun k hk hk2 => ?_), hS.own⟩
 ·rcases hk with rfl | ⟨i, hi, hg⟩
  ·exact hb
  ·exact hv i hi k hg
 ·rcases hk2 with rfl | ⟨i, hi, hg⟩
  ·exact (own_book hS.st hk).1 h.blk
  ·obtain ⟨cur, hc⟩ := own_block (h.row i hi) hg
   exact (own_book hS.st hk).2 hc
end Go.Proofs.YtmehkneofinmiabGreatDoor
namespace Go.Proofs.YtmehkneofinmiabGreatDoor
def delM : List UInt8 := [68, 69, 76, 69, 84, 69]
def getM : List UInt8 := [71, 69, 84]
theorem key13 {key : List UInt8} (h : keyOK key = true) : ∀ c ∈ 47::key, c ≠ 13 := by
 intro c hc
 rcases List.mem_cons.1 hc with rfl | hc
 ·decide
 ·exact ((key_no h).2.2 c hc).1
theorem read_put0 {key what : List UInt8} (h : keyOK key = true) (hw : what.length < 100) : readF (reqB putM (47::key) [] what) = .ok (2, ⟨1, key, 0⟩, k0, what) :=
 rf6 (by have := (key_no h).2.1; rw [reqB_len]; simp [putM]; omega) (parse_req0 m_put.1 m_put.2 (key13 h) (target_key h)) (by simp) (by omega) rfl
theorem read_put1 {key what line : List UInt8} {k : Cnd} (h : keyOK key = true) (hw : what.length < 100) (hl : line ≠ []) (hn : line.length < 1000) (h13 : ∀ c ∈ line, c ≠ 13) (hk : lineF k0 line = some k) : readF (reqB putM (47::key) (line ++ crlf) what) = .ok (2, ⟨1, key, 0⟩, k, what) :=
 rf6 (by have := (key_no h).2.1; rw [reqB_len]; simp [putM, crlf]; omega) (parse_req1 m_put.1 m_put.2 (key13 h) (target_key h) hl h13 hk) (by simp) (by omega) rfl
theorem read_del {key : List UInt8} (h : keyOK key = true) : readF (reqB delM (47::key) [] []) = .ok (3, ⟨1, key, 0⟩, k0, []) :=
 rf6 (by have := (key_no h).2.1; rw [reqB_len]; simp [delM]; omega) (parse_req0 m_del.1 m_del.2 (key13 h) (target_key h)) (by simp) (by simp) rfl
theorem tv13 {key : List UInt8} (h : keyOK key = true) (n : Nat) : ∀ c ∈ 47::(key ++ [63] ++ ([118, 61] ++ Lib.decDigits n)), c ≠ 13 := by
 intro c hc
 simp only [List.mem_cons, List.mem_append, List.not_mem_nil, or_false] at hc
 rcases hc with rfl | (hc | rfl) | (rfl | rfl) | hc
 ·decide
 ·exact ((key_no h).2.2 c hc).1
 ·decide
 ·decide
 ·decide
 ·exact (dec_bytes n c hc).1
theorem read_delv {key : List UInt8} (h : keyOK key = true) (n : Nat) (h0 : 0 < n) (hn : n < 1000000000) : readF (reqB delM (47::(key ++ [63] ++ ([118, 61] ++ Lib.decDigits n))) [] []) = .ok (3, ⟨2, key, n⟩, k0, []) :=
 rf6 (by have := (key_no h).2.1; have := dec_len10 (n := n) (k := 9) (by omega) (by omega); rw [reqB_len]; simp [delM]; omega) (parse_req0 m_del.1 m_del.2 (tv13 h n) (target_v h n h0 hn)) (by simp) (by simp) rfl
def lineM (t : List UInt8) : List UInt8 := [73, 102, 45, 77, 97, 116, 99, 104, 58, 32] ++ (34::t ++ [34])
def lineS : List UInt8 := [73, 102, 45, 78, 111, 110, 101, 45, 77, 97, 116, 99, 104, 58, 32, 42]
theorem lineM13 {t : List UInt8} (h : ∀ c ∈ t, c ≠ 13 /\ c ≠ 10) : ∀ c ∈ lineM t, c ≠ 13 := by
 intro c hc
 simp only [lineM, List.mem_append, List.mem_cons, List.not_mem_nil, or_false] at hc
 rcases hc with (rfl | rfl | rfl | rfl | rfl | rfl | rfl | rfl | rfl | rfl) | (rfl | hc) | rfl
 all_goals first | decide | exact (h c hc).1
theorem read_star {key what : List UInt8} (h : keyOK key = true) (hw : what.length < 100) : readF (reqB putM (47::key) (lineS ++ crlf) what) = .ok (2, ⟨1, key, 0⟩, ⟨none, some (true, []), none, none⟩, what) :=
 read_put1 h hw (by decide) (by decide) (by decide) line_star
theorem read_match {key what t : List UInt8} (h : keyOK key = true) (hw : what.length < 100) (ht : okText t = true) (h2 : ∀ c ∈ t, c ≠ 13 /\ c ≠ 10) (hl : t.length < 100) : readF (reqB putM (47::key) (lineM t ++ crlf) what) = .ok (2, ⟨1, key, 0⟩, ⟨some (false, [(false, t)]), none, none, none⟩, what) :=
 read_put1 h hw (by simp [lineM]) (by simp [lineM]; omega) (lineM13 h2) (line_match ht h2)
theorem cond_star (v : Option Ver) : condF true ⟨none, some (true, []), none, none⟩ v = if v.isSome then 412 else 0 := by
 cases v <;> simp [condF, Jd.jd, anyT, hasD]
theorem cond_match (t : List UInt8) (v : Option Ver) : condF true ⟨some (false, [(false, t)]), none, none, none⟩ v = if v.isSome /\ tagOf v = t then 0 else 412 := by
 cases v with
 | none => simp [condF, Jd.jd, anyT]
 | some v =>
   by_cases h : tagOf (some v) = t
   ·simp [condF, Jd.jd, anyT, hasD, lstT, hitT, h]
   ·simp [condF, Jd.jd, anyT, hasD, lstT, hitT, h]
    rw [if_neg (fun e => h (Eq.symm e))]
    rfl
theorem enK_put {σ : St} {l : List Ent} (hr : RiseL l) (E : Ent) (i : Nat) (hi : i < 5) (he : E.key = nmK i) (σ' : St) (hs : σ'.ents = putE l E) (hl : σ.ents = l) (j : Nat) (hj : j < 5) : enK σ' j = if j = i then E else enK σ j := by
 unfold enK
 rw [hs, findE_put hr, he, hl]
 by_cases e : j = i
 ·rw [if_pos (by rw [e]), if_pos e]
 ·rw [if_neg (fun h => e (nmK_inj j hj i hi h.symm)), if_neg e]
end Go.Proofs.YtmehkneofinmiabGreatDoor

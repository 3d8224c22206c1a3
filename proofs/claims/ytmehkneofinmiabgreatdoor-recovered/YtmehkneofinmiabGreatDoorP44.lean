/-
 Texts of this proof, part 44.
-/
import Derived.Test.YtmehkneofinmiabGreatDoorP43
set_option maxRecDepth 100000
set_option maxHeartbeats 4000000
namespace Go.Proofs.YtmehkneofinmiabGreatDoor
open Go.RowKit Go.MuLone
def Redone (w w' : World) (e : Ending) (s n : Nat) (M : Mem) (b : Bool) (σ' : St) : Prop :=
 e = .returned (.bool b) /\ ∃ M', StoreAt w' s n 0 (fun _ => 0) σ' M' /\ Off (M.own s n) w w' /\ ∀ k, M'.own s n k -> M.own s n k \/ w.heap.size <= k
def redoB (σ : St) (r : Rec) : Bool := (redoF σ r).isSome
def redoS (σ : St) (r : Rec) : St := (redoF σ r).getD σ
theorem redo_end {w y : World} {s n i : Nat} {M M' : Mem} {σ' : St} {b : Bool} (hi : i < n) (hS : StoreAt y s n 0 (fun j => if j = i then 1 else 0) σ' M') (hg : M'.g = M.g) (hof : Off (M.own s n) w y) (hown : ∀ k, M'.own s n k -> M.own s n k \/ w.heap.size <= k) :
 y.cell? ⟨M.g, i * 3, none⟩ = some (.int .i32 1) /\ y.frozen? ⟨M.g, i * 3, none⟩ = false /\ Redone w (y.setCell ⟨M.g, i * 3, none⟩ (.int .i32 0)) (.returned (.bool b)) s n M b σ' := by
 obtain ⟨cs, hc, hr⟩ := hS.row
 rw [hg] at hc
 refine ⟨?_, by simp [World.frozen?, hc], rfl, M', ?_, hof.set M.g _ _ (Or.inl (Or.inr (Or.inl rfl))), hown⟩
 ·simp only [World.cell?, hc]
  simp [(hr i hi).1]
 ·have := hS.lock i hi 0
  rw [hg] at this
  have e : (fun j => if j = i then (0 : Int) else if j = i then 1 else 0) = fun _ => 0 := by
   funext j
   by_cases h : j = i <;> simp [h]
  rw [e] at this
  exact this
theorem own_typedR {w : World} {s n : Nat} {rd : Int} {lk : Nat -> Int} {σ : St} {M : Mem} (h : StoreAt w s n rd lk σ M) {k : Nat} (hk : M.own s n k) {c : Array Value} {f : Nat × Nat} : w.heap[k]? ≠ some (.cells c 108 f) := by
 intro e
 rcases hk with rfl | rfl | ⟨i, hi, hb⟩ | ⟨i, hi, hb⟩ | ⟨i, p, hi, hp, hb⟩ | hb
 ·exact ne_of_types h.blk e (by decide) rfl
 ·obtain ⟨cs, hc, _⟩ := h.row
  exact ne_of_types hc e (by decide) rfl
 ·exact own_far (h.kt i hi).k.row e (by decide) hb
 ·exact ne_of_types (h.ent i hi k hb).blk e (by decide) rfl
 ·exact own_far (h.ent i hi p hp).row e (by decide) hb
 ·exact own_far h.jrn e (by decide) hb
theorem redo_any {s n : Nat} {σ : St} {M : Mem} (r : Rec) (w : World) (h : StoreAt w s n 0 (fun _ => 0) σ M) (hr : RecOK r) (hlog : σ.log.length < 140000000000000) :
 Calls Tryz.prog 80 #[.pointer (some ⟨s, 0, none⟩), recA r.kind r.time r.key r.num r.body] w fun e w' => Redone w w' e s n M (redoB σ r) (redoS σ r) := by
 obtain ⟨kd, tm, ky, nm, bd⟩ := r
 obtain ⟨hkd, htm, hky, hnm, hbd, hnb⟩ := hr
 dsimp only at hkd htm hky hnm hbd hnb ⊢
 clear hnb
 have hkl := keyOK_le hky
 obtain ⟨rb, hrb⟩ : ∃ x, redoB σ ⟨kd, tm, ky, nm, bd⟩ = x := ⟨_, rfl⟩
 obtain ⟨rs, hrs⟩ : ∃ x, redoS σ ⟨kd, tm, ky, nm, bd⟩ = x := ⟨_, rfl⟩
 rw [hrb, hrs]
 have HRB : Hid _ := hrb
 have HRS : Hid _ := hrs
 clear hrb hrs
 obtain ⟨i, hi0⟩ : ∃ i, hashK ky % n = i := ⟨_, rfl⟩
 have hi : i < n := by rw [<- hi0]; exact Nat.mod_lt _ h.n1
 have HH : Hid _ := h
 clear h
 go_enter_defers Tryz.func80, Tryz.ntmps80
 go_wp2_with fail
 obtain ⟨X, hX⟩ : ∃ X, X = w.alloc (.cells #[.int .u8 kd, .int .i64 tm, .string ⟨ky.toArray⟩, .int .i64 nm, .string ⟨bd.toArray⟩] 108) := ⟨_, rfl⟩
 rw [<- hX]
 have hal : Below w.heap.size w X := by rw [hX]; exact (Below.refl _ _).alloc (Nat.le_refl _) _
 have hQ : X.heap[w.heap.size]? = some (.cells #[.int .u8 kd, .int .i64 tm, .string ⟨ky.toArray⟩, .int .i64 nm, .string ⟨bd.toArray⟩] 108 (0, 0)) := by rw [hX]; exact heap_alloc_new _ _
 have hXl : w.heap.size < X.heap.size := (Array.getElem?_eq_some_iff.1 hQ).1
 clear hX
 have hSX := HH.out.below hal
 have hs6 : X.cell? ⟨s, 6, none⟩ = some (.slice (some ⟨M.g, 0, none⟩) n M.cap) := by simp [World.cell?, hSX.blk, storeCells]
 have HQ : Hid _ := hQ
 have HSX : Hid _ := hSX
 have HL : Hid _ := hal
 clear hQ hSX hal
 refine (stripeOf_any s M.g n M.cap ky X hs6 HSX.out.n1 HSX.out.n8 (by omega)).mono ?_
 rintro e w1 ⟨rfl, hb1⟩
 rw [hi0]
 have hS1 := HSX.out.below hb1
 obtain ⟨cs, hc, hr⟩ := hS1.row
 have l0 : w1.cell? ⟨M.g, i * 3, none⟩ = some (.int .i32 0) := by
  simp only [World.cell?, hc]
  simp [(hr i hi).1]
 have lf : w1.frozen? ⟨M.g, i * 3, none⟩ = false := by simp [World.frozen?, hc]
 have HS1 : Hid _ := hS1
 have HB1 : Hid _ := hb1
 have hmg : M.g ≠ w.heap.size := ne_of_types hc ((hb1.block _ hXl).trans HQ.out) (by decide)
 clear hb1 hS1 hc hr hs6 cs
 go_wp2_with (go_at_call 60
              refine (lock_free Tryz.muLib ⟨M.g, i * 3, none⟩ _ l0 lf).mono ?_
              rintro e w2 ⟨rfl, hw2⟩
              have hQ2 : w2.heap[w.heap.size]? = some (.cells #[.int .u8 kd, .int .i64 tm, .string ⟨ky.toArray⟩, .int .i64 nm, .string ⟨bd.toArray⟩] 108 (0, 0)) := (by rw [hw2, heap_set_far hmg.symm]; exact (HB1.out.block _ hXl).trans HQ.out)
              have q2 : w2.cell? ⟨w.heap.size, 2, none⟩ = some (.string ⟨ky.toArray⟩) := (by simp [World.cell?, hQ2])
              have HW2 : Hid _ := hw2
              have HQ2 : Hid _ := hQ2
              clear hw2 hQ2 l0 lf)
 have hS2 : StoreAt w2 s n 0 (fun j => if j = i then 1 else 0) σ M := by rw [HW2.out]; exact HS1.out.lock i hi 1
 have hO2 : Off (M.own s n) w w2 := by
  rw [HW2.out]
  exact (Off.of_below (HL.out.trans (HB1.out.mono HL.out.size))).set M.g _ _ (Or.inl (Or.inr (Or.inl rfl)))
 have hfs := find_store ky w2 hS2
 rw [hi0] at hfs
 refine hfs.mono ?_
 rintro e w3 ⟨p, vs, rfl, hF, hb3, hpo⟩
 have hw2l : w.heap.size < w2.heap.size := (Array.getElem?_eq_some_iff.1 HQ2.out).1
 have hQ3 : w3.heap[w.heap.size]? = some (.cells #[.int .u8 kd, .int .i64 tm, .string ⟨ky.toArray⟩, .int .i64 nm, .string ⟨bd.toArray⟩] 108 (0, 0)) := (hb3.block _ hw2l).trans HQ2.out
 have hS3 := hS2.below hb3
 have HS3 : Hid _ := hS3
 have HF3 : Hid _ := hF
 have HO3 : Hid (Off (M.own s n) w w3) := hO2.trans (Off.of_below hb3)
 have HC3 : Hid (Cmn w3 s 7 σ.time σ.ents.length) := hS3.cmn
 have HQ3 : Hid _ := hQ3
 have HPO : Hid (M.own s n p \/ w.heap.size <= p) := hpo.imp_right (fun h => Nat.le_trans hO2.size h)
 have HZ3 : Hid (w.heap.size <= w3.heap.size) := HO3.out.size
 obtain ⟨r0, r1, r2, r3, r4⟩ := rec_cells hQ3
 have hll := (hS3.found hF).2.2.2.2.2
 have htime := hS3.time
 clear hQ3 hS3 hF hb3 hpo hS2 hO2 q2 HQ2 HW2 HS1 HB1 HQ HSX HL HH hfs
 have HE3 : Hid (EntAt w3 p (findE σ.ents ky) vs) := HF3.out.ent
 have HNQ : Hid (∀ q, Calls Tryz.prog 45 #[.pointer (some ⟨s, 7, none⟩)] (w3.drewN q) fun e w' => e = .returned (.int .i64 σ.time) /\ w' = w3.drewN q) := fun q => now_any s 7 σ.time σ.ents.length _ ⟨HC3.out.l, HC3.out.t, HC3.out.k, HC3.out.f⟩
 have HNX : Hid (∀ q, Calls Tryz.prog 106 #[.pointer (some ⟨p, 0, none⟩)] (w3.drewN q) fun e w' => e = .returned (.int .i64 (((findE σ.ents ky).last + 1 : Nat) : Int)) /\ w' = w3.drewN q) := fun q => next_any p (findE σ.ents ky) vs _ (HE3.out.below (below_drewN (Below.refl _ _) q)) (by omega)
 have HCH : Hid (∀ y, Below w3.heap.size w3 y -> (kd ≠ 3 -> nm = (findE σ.ents ky).last + 1) -> σ.time <= tm -> _) := fun y hy (h3 : kd ≠ 3 -> nm = (findE σ.ents ky).last + 1) (ht0 : σ.time <= tm) => pchange_store ky p vs kd tm nm bd y (HS3.out.below hy) (HF3.out.below hy) hkd h3 (by omega) hky hbd hlog ht0 htm
 have HEN : Hid (∀ y, Below w3.heap.size w3 y -> _) := fun y hy => redo_end (w := w) (y := y) (M := M) (M' := M) (σ' := σ) (b := false) hi (HS3.out.below hy) rfl (HO3.out.trans (Off.of_below hy)) (fun _ h => Or.inl h)
 have hRF : redoF σ ⟨kd, tm, ky, nm, bd⟩ = if tm < σ.time \/ (kd ≠ 3 /\ nm ≠ (findE σ.ents ky).last + 1) then none else (chgF ⟨tm, σ.ents, σ.log⟩ ky kd nm bd).2 := rfl
 have HRF : Hid _ := hRF
 obtain ⟨L, hL⟩ : ∃ x, (findE σ.ents ky).last = x := ⟨_, rfl⟩
 rw [hL] at HNX hll HCH HRF
 have hkd8 : kd < 256 := by omega
 have HN : Hid (redoF σ ⟨kd, tm, ky, nm, bd⟩ = none -> rb = false /\ rs = σ) := fun h => by
  have h1 := HRB.out
  have h2 := HRS.out
  unfold redoB at h1
  unfold redoS at h2
  rw [h] at h1 h2
  exact ⟨h1.symm, h2.symm⟩
 clear hL hRF HC3
 by_cases hA : tm < σ.time
 ·have hAI : (tm : Int) < (σ.time : Int) := by omega
  obtain ⟨rfl, rfl⟩ := HN.out (by rw [HRF.out, if_pos (Or.inl hA)])
  clear HN HCH HRF
  go_wp2_with fail
  go_quiet (first
   | (go_at_call 45; exact Calls.quiet_of_same (HNQ.out _)))
  obtain ⟨W, hW⟩ : ∃ W, W = w3.drewN nq := ⟨_, rfl⟩
  rw [<- hW]
  have HE : Hid _ := HEN.out W (by rw [hW]; exact below_drewN (Below.refl _ _) nq)
  clear hW
  go_wp2
  refine leaves_cons (f := 61) (args := #[.pointer (some ⟨M.g, i * 3, none⟩)]) (by simp) (by simp [go_sem]) ?_
  refine (unlock_deferred Tryz.muLib ⟨M.g, i * 3, none⟩ .returning _ HE.out.1 HE.out.2.1).mono ?_
  rintro e u' w'' ⟨rfl, rfl, rfl⟩
  exact ⟨_, results_tmp rfl _ _ _, And.intro rfl HE.out.2.2.2⟩
 ·have hAI : ¬ (tm : Int) < (σ.time : Int) := by omega
  by_cases hB : kd = 3
  ·have hBI : (kd : Int) = 3 := by omega
   have HBH : Hid (kd = 3) := hB
   clear hB
   go_wp2_with fail
   go_quiet (first
    | (go_at_call 45; exact Calls.quiet_of_same (HNQ.out _))
    | (go_at_call 106; exact Calls.quiet_of_same (HNX.out _)))
   obtain ⟨W, hW⟩ : ∃ W, W = w3.drewN nq := ⟨_, rfl⟩
   rw [<- hW]
   have hBW : Below w3.heap.size w3 W.drew := by rw [hW]; exact (below_drewN (Below.refl _ _) nq).drew
   have HCW : Hid _ := HCH.out W.drew hBW (fun h => absurd HBH.out h) (by omega)
   have hQW : W.heap[w.heap.size]? = some (.cells #[.int .u8 kd, .int .i64 tm, .string ⟨ky.toArray⟩, .int .i64 nm, .string ⟨bd.toArray⟩] 108 (0, 0)) := by rw [hW]; exact HQ3.out
   have sW := rec_cells hQW
   have HQW : Hid _ := hQW
   have HBW : Hid _ := hBW
   have HCF : Hid (redoF σ ⟨kd, tm, ky, nm, bd⟩ = (chgF ⟨tm, σ.ents, σ.log⟩ ky kd nm bd).2) := by
    show _ = _
    rw [HRF.out, if_neg (by have := HBH.out; omega)]
   clear hW hBW hQW r0 r1 r2 r3 r4 HCH HNQ HNX HRF hBI hAI
   rw [hi0] at HCW
   obtain ⟨cf, hcf⟩ : ∃ x, chgF ⟨tm, σ.ents, σ.log⟩ ky kd nm bd = x := ⟨_, rfl⟩
   rw [hcf] at HCW HCF
   clear hcf
   obtain ⟨told, o⟩ := cf
   cases o with
   | none =>
     obtain ⟨rfl, rfl⟩ := HN.out HCF.out
     dsimp only at HCW
     go_wp2_with fail
     go_region_held3 (fun y => y.cell? ⟨w.heap.size, 0, none⟩ = some (.int .u8 kd) /\ y.cell? ⟨w.heap.size, 1, none⟩ = some (.int .i64 tm) /\ y.cell? ⟨w.heap.size, 2, none⟩ = some (.string ⟨ky.toArray⟩) /\ y.cell? ⟨w.heap.size, 3, none⟩ = some (.int .i64 nm) /\ y.cell? ⟨w.heap.size, 4, none⟩ = some (.string ⟨bd.toArray⟩)) (first | assumption | go_keep) (
      (go_at_call 102
       refine Calls.mono HCW.out ?_
       rintro e w4 ⟨rfl, b4⟩
       have s4 := rec_cells ((b4.block _ (Array.getElem?_eq_some_iff.1 HQW.out).1).trans HQW.out)))
     have HE : Hid _ := HEN.out w4 (HBW.out.trans (b4.mono HBW.out.size))
     clear b4 s4 sW
     go_wp2
     refine leaves_cons (f := 61) (args := #[.pointer (some ⟨M.g, i * 3, none⟩)]) (by simp) (by simp [go_sem]) ?_
     refine (unlock_deferred Tryz.muLib ⟨M.g, i * 3, none⟩ .returning _ HE.out.1 HE.out.2.1).mono ?_
     rintro e u' w'' ⟨rfl, rfl, rfl⟩
     exact ⟨_, results_tmp rfl _ _ _, And.intro rfl HE.out.2.2.2⟩
   | some σ' =>
     have hY : rb = true /\ rs = σ' := by
      have h1 := HRB.out
      have h2 := HRS.out
      unfold redoB at h1
      unfold redoS at h2
      rw [HCF.out] at h1 h2
      exact ⟨h1.symm, h2.symm⟩
     obtain ⟨rfl, rfl⟩ := hY
     dsimp only at HCW
     have HSD : Hid (StoreAt W.drew s n 0 (fun j => if j = i then 1 else 0) σ M) := HS3.out.below HBW.out
     have HPB : Hid _ := (HF3.out.ent.below HBW.out).blk
     go_wp2_with fail
     go_region_held3 (fun y => y.cell? ⟨w.heap.size, 0, none⟩ = some (.int .u8 kd) /\ y.cell? ⟨w.heap.size, 1, none⟩ = some (.int .i64 tm) /\ y.cell? ⟨w.heap.size, 2, none⟩ = some (.string ⟨ky.toArray⟩) /\ y.cell? ⟨w.heap.size, 3, none⟩ = some (.int .i64 nm) /\ y.cell? ⟨w.heap.size, 4, none⟩ = some (.string ⟨bd.toArray⟩)) (first | assumption | go_keep) (
      (go_at_call 102
       refine Calls.mono HCW.out ?_
       rintro e w4 ⟨rfl, M', c4⟩
       have s4 := rec_cells ((c4.off.block _ (Array.getElem?_eq_some_iff.1 HQW.out).1 (by rintro (h | h); exact own_typedR HSD.out h HQW.out; exact ne_of_types HQW.out HPB.out (by decide) h)).trans HQW.out)))
     have HE : Hid _ := redo_end (w := w) (y := w4) (M := M) (M' := M') (σ' := rs) (b := true) hi c4.st c4.g ((HO3.out.trans (Off.of_below HBW.out)).trans' c4.off (fun k hk h => by
      rcases h with h | h
      ·exact h
      ·rcases HPO.out with h2 | h2
       ·exact h ▸ h2
       ·omega)) (fun k hk => by
      rcases c4.own k hk with h | h | h
      ·exact Or.inl h
      ·exact Or.inr (Nat.le_trans (Nat.le_trans HZ3.out HBW.out.size) h)
      ·rw [h]; exact HPO.out)
     clear c4 s4 sW
     go_wp2
     refine leaves_cons (f := 61) (args := #[.pointer (some ⟨M.g, i * 3, none⟩)]) (by simp) (by simp [go_sem]) ?_
     refine (unlock_deferred Tryz.muLib ⟨M.g, i * 3, none⟩ .returning _ HE.out.1 HE.out.2.1).mono ?_
     rintro e u' w'' ⟨rfl, rfl, rfl⟩
     exact ⟨_, results_tmp rfl _ _ _, And.intro rfl HE.out.2.2.2⟩
  ·have hBI : ¬ (kd : Int) = 3 := by omega
   have hB2 : ((kd : Int) != 3) = true := by simp; omega
   by_cases hC : nm = L + 1
   ·have hCI : (nm : Int) = ((L + 1 : Nat) : Int) := by omega
    have HCN : Hid (nm = L + 1) := hC
    clear hC
    go_wp2_with fail
    go_quiet (first
     | (go_at_call 45; exact Calls.quiet_of_same (HNQ.out _))
     | (go_at_call 106; exact Calls.quiet_of_same (HNX.out _)))
    obtain ⟨W, hW⟩ : ∃ W, W = w3.drewN nq := ⟨_, rfl⟩
    rw [<- hW]
    have hBW : Below w3.heap.size w3 W.drew := by rw [hW]; exact (below_drewN (Below.refl _ _) nq).drew
    have HCW : Hid _ := HCH.out W.drew hBW (fun _ => HCN.out) (by omega)
    have hQW : W.heap[w.heap.size]? = some (.cells #[.int .u8 kd, .int .i64 tm, .string ⟨ky.toArray⟩, .int .i64 nm, .string ⟨bd.toArray⟩] 108 (0, 0)) := by rw [hW]; exact HQ3.out
    have sW := rec_cells hQW
    have HQW : Hid _ := hQW
    have HBW : Hid _ := hBW
    have HCF : Hid (redoF σ ⟨kd, tm, ky, nm, bd⟩ = (chgF ⟨tm, σ.ents, σ.log⟩ ky kd nm bd).2) := by
     show _ = _
     rw [HRF.out, if_neg (by have := HCN.out; omega)]
    clear hW hBW hQW r0 r1 r2 r3 r4 HCH HNQ HNX HRF hBI hB2 hCI hAI
    rw [hi0] at HCW
    obtain ⟨cf, hcf⟩ : ∃ x, chgF ⟨tm, σ.ents, σ.log⟩ ky kd nm bd = x := ⟨_, rfl⟩
    rw [hcf] at HCW HCF
    clear hcf
    obtain ⟨told, o⟩ := cf
    cases o with
    | none =>
      obtain ⟨rfl, rfl⟩ := HN.out HCF.out
      dsimp only at HCW
      go_wp2_with fail
      go_region_held3 (fun y => y.cell? ⟨w.heap.size, 0, none⟩ = some (.int .u8 kd) /\ y.cell? ⟨w.heap.size, 1, none⟩ = some (.int .i64 tm) /\ y.cell? ⟨w.heap.size, 2, none⟩ = some (.string ⟨ky.toArray⟩) /\ y.cell? ⟨w.heap.size, 3, none⟩ = some (.int .i64 nm) /\ y.cell? ⟨w.heap.size, 4, none⟩ = some (.string ⟨bd.toArray⟩)) (first | assumption | go_keep) (
       (go_at_call 102
        refine Calls.mono HCW.out ?_
        rintro e w4 ⟨rfl, b4⟩
        have s4 := rec_cells ((b4.block _ (Array.getElem?_eq_some_iff.1 HQW.out).1).trans HQW.out)))
      have HE : Hid _ := HEN.out w4 (HBW.out.trans (b4.mono HBW.out.size))
      clear b4 s4 sW
      go_wp2
      refine leaves_cons (f := 61) (args := #[.pointer (some ⟨M.g, i * 3, none⟩)]) (by simp) (by simp [go_sem]) ?_
      refine (unlock_deferred Tryz.muLib ⟨M.g, i * 3, none⟩ .returning _ HE.out.1 HE.out.2.1).mono ?_
      rintro e u' w'' ⟨rfl, rfl, rfl⟩
      exact ⟨_, results_tmp rfl _ _ _, And.intro rfl HE.out.2.2.2⟩
    | some σ' =>
      have hY : rb = true /\ rs = σ' := by
       have h1 := HRB.out
       have h2 := HRS.out
       unfold redoB at h1
       unfold redoS at h2
       rw [HCF.out] at h1 h2
       exact ⟨h1.symm, h2.symm⟩
      obtain ⟨rfl, rfl⟩ := hY
      dsimp only at HCW
      have HSD : Hid (StoreAt W.drew s n 0 (fun j => if j = i then 1 else 0) σ M) := HS3.out.below HBW.out
      have HPB : Hid _ := (HF3.out.ent.below HBW.out).blk
      go_wp2_with fail
      go_region_held3 (fun y => y.cell? ⟨w.heap.size, 0, none⟩ = some (.int .u8 kd) /\ y.cell? ⟨w.heap.size, 1, none⟩ = some (.int .i64 tm) /\ y.cell? ⟨w.heap.size, 2, none⟩ = some (.string ⟨ky.toArray⟩) /\ y.cell? ⟨w.heap.size, 3, none⟩ = some (.int .i64 nm) /\ y.cell? ⟨w.heap.size, 4, none⟩ = some (.string ⟨bd.toArray⟩)) (first | assumption | go_keep) (
       (go_at_call 102
        refine Calls.mono HCW.out ?_
        rintro e w4 ⟨rfl, M', c4⟩
        have s4 := rec_cells ((c4.off.block _ (Array.getElem?_eq_some_iff.1 HQW.out).1 (by rintro (h | h); exact own_typedR HSD.out h HQW.out; exact ne_of_types HQW.out HPB.out (by decide) h)).trans HQW.out)))
      have HE : Hid _ := redo_end (w := w) (y := w4) (M := M) (M' := M') (σ' := rs) (b := true) hi c4.st c4.g ((HO3.out.trans (Off.of_below HBW.out)).trans' c4.off (fun k hk h => by
       rcases h with h | h
       ·exact h
       ·rcases HPO.out with h2 | h2
        ·exact h ▸ h2
        ·omega)) (fun k hk => by
       rcases c4.own k hk with h | h | h
       ·exact Or.inl h
       ·exact Or.inr (Nat.le_trans (Nat.le_trans HZ3.out HBW.out.size) h)
       ·rw [h]; exact HPO.out)
      clear c4 s4 sW
      go_wp2
      refine leaves_cons (f := 61) (args := #[.pointer (some ⟨M.g, i * 3, none⟩)]) (by simp) (by simp [go_sem]) ?_
      refine (unlock_deferred Tryz.muLib ⟨M.g, i * 3, none⟩ .returning _ HE.out.1 HE.out.2.1).mono ?_
      rintro e u' w'' ⟨rfl, rfl, rfl⟩
      exact ⟨_, results_tmp rfl _ _ _, And.intro rfl HE.out.2.2.2⟩
   ·have hCI : ¬ (nm : Int) = ((L + 1 : Nat) : Int) := by omega
    have hC2 : ((nm : Int) != (L : Int) + 1) = true := by simp; omega
    obtain ⟨rfl, rfl⟩ := HN.out (by rw [HRF.out, if_pos (Or.inr ⟨hB, hC⟩)])
    clear HN HCH HRF
    go_wp2_with fail
    go_quiet (first
     | (go_at_call 45; exact Calls.quiet_of_same (HNQ.out _))
     | (go_at_call 106; exact Calls.quiet_of_same (HNX.out _)))
    obtain ⟨W, hW⟩ : ∃ W, W = w3.drewN nq := ⟨_, rfl⟩
    rw [<- hW]
    have HE : Hid _ := HEN.out W (by rw [hW]; exact below_drewN (Below.refl _ _) nq)
    clear hW
    go_wp2
    refine leaves_cons (f := 61) (args := #[.pointer (some ⟨M.g, i * 3, none⟩)]) (by simp) (by simp [go_sem]) ?_
    refine (unlock_deferred Tryz.muLib ⟨M.g, i * 3, none⟩ .returning _ HE.out.1 HE.out.2.1).mono ?_
    rintro e u' w'' ⟨rfl, rfl, rfl⟩
    exact ⟨_, results_tmp rfl _ _ _, And.intro rfl HE.out.2.2.2⟩
end Go.Proofs.YtmehkneofinmiabGreatDoor
namespace Go.Proofs.YtmehkneofinmiabGreatDoor
open Go.RowKit
theorem redo_get {σ : St} {r : Rec} : (redoB σ r = true /\ redoF σ r = some (redoS σ r)) \/ (redoB σ r = false /\ redoF σ r = none /\ redoS σ r = σ) := by
 unfold redoB redoS
 cases redoF σ r with
 | none => right; exact ⟨rfl, rfl, rfl⟩
 | some σ' => left; exact ⟨rfl, rfl⟩
theorem jcut_less {t rest : List UInt8} {r : Rec} (h : cutF t = some (r, rest)) : rest.length < t.length /\ rest.length + 20 <= t.length := by
 have ⟨_, e⟩ := cut_of h
 have := congrArg List.length e
 rw [List.length_append, recF_len] at this
 omega
theorem replay_step {k : Nat} {σ σ' : St} {t rs : List UInt8} {r : Rec} (hc : cutF t = some (r, rs)) (hs : redoF σ r = some σ') : replayF (k + 1) σ t = replayF k σ' rs := by
 conv => lhs; unfold replayF
 rw [hc]
 simp only [hs]
theorem replay_stop {k : Nat} {σ : St} {t rs : List UInt8} {r : Rec} (hc : cutF t = some (r, rs)) (hs : redoF σ r = none) : replayF k σ t = (σ, t) := by
 cases k with
 | zero => rfl
 | succ k =>
   conv => lhs; unfold replayF
   rw [hc]
   simp only [hs]
structure Rpl (w : World) (s n : Nat) (M : Mem) (log : List UInt8) (rv : Value) (wr : World) : Prop where
 ex : ∃ (σ : St) (rest : List UInt8) (M1 : Mem) (d : Nat), rv = .string ⟨rest.toArray⟩ /\ StoreAt wr s n 0 (fun _ => 0) σ M1 /\ Off (M.own s n) w wr /\ (∀ k, M1.own s n k -> M.own s n k \/ w.heap.size <= k) /\ (∀ k, replayF (d + k) st0 log = replayF k σ rest) /\ d + rest.length <= log.length
def lenOf : Value -> Nat
 | .string b => b.size
 | _ => 0
theorem replay_any {s n : Nat} {M : Mem} (log : List UInt8) (w : World) (h : StoreAt w s n 0 (fun _ => 0) st0 M) (hl : log.length <= 9223372036854775807)
 (hb : ∀ σ rest, (∃ m, replayF m st0 log = (σ, rest)) -> σ.log.length < 140000000000000) :
 Calls Tryz.prog 40 #[.pointer (some ⟨s, 0, none⟩), .string ⟨log.toArray⟩] w fun e w' => ∃ σ rest M', (∀ k, log.length <= k -> replayF k st0 log = (σ, rest)) /\ e = .returned (.int .i64 ((log.length : Int) - (rest.length : Int))) /\ StoreAt w' s n 0 (fun _ => 0) σ M' /\ Off (M.own s n) w w' /\ ∀ k, M'.own s n k -> M.own s n k \/ w.heap.size <= k := by
 have HH : Hid _ := h
 have HB : Hid _ := hb
 clear h hb
 go_enter Tryz.func40, Tryz.ntmps40
 go_wp2_with fail
 go_loopw [5] (fun rv wr => Rpl w s n M log rv wr) (fun rv _ => lenOf rv)
 case atStart => exact ⟨st0, log, M, 0, rfl, HH.out, Off.refl _ _, fun _ h => Or.inl h, fun k => by rw [Nat.zero_add], by omega⟩
 case round =>
  obtain ⟨σ, rest, M1, d, rfl, hS, hO, hW, hR, hd⟩ := hrel.ex
  clear hrel
  have hlog : σ.log.length < 140000000000000 := HB.out σ rest ⟨d, hR 0⟩
  have HS : Hid _ := hS
  have HO : Hid _ := hO
  have HW : Hid _ := hW
  have HR : Hid _ := hR
  have hsl : s < wr.heap.size := (Array.getElem?_eq_some_iff.1 hS.blk).1
  clear hS hO hW hR HH HB
  cases hc : cutF rest with
  | none =>
    have HC : Hid (Calls Tryz.prog 79 #[.string ⟨rest.toArray⟩] wr fun e w' => e = .returned (.tuple #[recA 0 0 [] 0 [], .string ⟨#[]⟩, .bool false]) /\ Below wr.heap.size wr w') := by
     have := jcut_any rest wr
     rw [cutOut_no hc] at this
     exact this
    have HEND : Hid (∀ k, log.length <= k -> replayF k st0 log = (σ, rest)) := fun k hk => by
     obtain ⟨q, rfl⟩ : ∃ q, k = d + q := ⟨k - d, by omega⟩
     rw [HR.out q]
     cases q with
     | zero => rfl
     | succ q => unfold replayF; rw [hc]
    clear hc
    go_wp2_with (go_at_call 79; refine Calls.mono HC.out ?_; rintro e w1 ⟨rfl, b1⟩; have HB1 : Hid _ := b1; have hsz1 := b1.size; clear b1)
    go_ret
    have hb2 : Below wr.heap.size wr (w1.alloc (.cells #[.int .u8 0, .int .i64 0, .string ⟨#[]⟩, .int .i64 0, .string ⟨#[]⟩] 108)) := HB1.out.alloc hsz1 _
    exact ⟨σ, rest, M1, HEND.out, rfl, HS.out.below hb2, HO.out.trans (Off.of_below hb2), HW.out⟩
  | some x =>
    obtain ⟨r, rs⟩ := x
    have hrok := (cut_of hc).1
    have hcl := jcut_less hc
    have HC : Hid (Calls Tryz.prog 79 #[.string ⟨rest.toArray⟩] wr fun e w' => e = .returned (.tuple #[recA r.kind r.time r.key r.num r.body, .string ⟨rs.toArray⟩, .bool true]) /\ Below wr.heap.size wr w') := by
     have := jcut_any rest wr
     rw [cutOut_yes hc] at this
     exact this
    have HRD : Hid (∀ y, Below wr.heap.size wr y -> Calls Tryz.prog 80 #[.pointer (some ⟨s, 0, none⟩), recA r.kind r.time r.key r.num r.body] y fun e w' => Redone y w' e s n M1 (redoB σ r) (redoS σ r)) := fun y hy => redo_any r y (HS.out.below hy) hrok hlog
    rcases redo_get (σ := σ) (r := r) with ⟨hb, hs⟩ | ⟨hb, hs, hs2⟩
    ·have HST : Hid (∀ k, replayF (d + 1 + k) st0 log = replayF k (redoS σ r) rs) := fun k => by
      rw [show d + 1 + k = d + (k + 1) by omega, HR.out]
      exact replay_step hc hs
     rw [hb] at HRD
     obtain ⟨σ2, hσ2⟩ : ∃ x, redoS σ r = x := ⟨_, rfl⟩
     rw [hσ2] at HRD HST
     obtain ⟨kd, tm, ky, nm, bd⟩ := r
     clear hc hs hb hσ2 hrok
     dsimp only at HC HRD
     go_wp2_with (first
      | (go_at_call 79; refine Calls.mono HC.out ?_; rintro e w1 ⟨rfl, b1⟩; have HB1 : Hid _ := b1; have hsz1 := b1.size; clear b1)
      | (go_at_call 80; refine Calls.mono (HRD.out _ (HB1.out.alloc hsz1 _)) ?_; rintro e w2 ⟨rfl, M2, hS2, hO2, hW2⟩; have HS2 : Hid _ := hS2; have HO2 : Hid _ := hO2; have HW2 : Hid _ := hW2; clear hS2 hO2 hW2))
     have hb2 := HB1.out.alloc hsz1 (.cells #[.int .u8 kd, .int .i64 tm, .string ⟨ky.toArray⟩, .int .i64 nm, .string ⟨bd.toArray⟩] 108)
     exact ⟨⟨σ2, rs, M2, d + 1, rfl, HS2.out, (HO.out.trans (Off.of_below hb2)).trans' HO2.out (fun k hk h => (HW.out k h).elim id (fun h => by omega)), fun k hk => (HW2.out k hk).elim (HW.out k) (fun h => Or.inr (Nat.le_trans (Nat.le_trans HO.out.size hb2.size) h)), HST.out, by omega⟩, by simp [lenOf, ByteArray.size]; omega⟩
    ·have HEND : Hid (∀ k, log.length <= k -> replayF k st0 log = (σ, rest)) := fun k hk => by
      obtain ⟨q, rfl⟩ : ∃ q, k = d + q := ⟨k - d, by omega⟩
      rw [HR.out q]
      exact replay_stop hc hs
     rw [hb, hs2] at HRD
     obtain ⟨kd, tm, ky, nm, bd⟩ := r
     clear hc hs hs2 hb hrok
     dsimp only at HC HRD
     go_wp2_with (first
      | (go_at_call 79; refine Calls.mono HC.out ?_; rintro e w1 ⟨rfl, b1⟩; have HB1 : Hid _ := b1; have hsz1 := b1.size; clear b1)
      | (go_at_call 80; refine Calls.mono (HRD.out _ (HB1.out.alloc hsz1 _)) ?_; rintro e w2 ⟨rfl, M2, hS2, hO2, hW2⟩; have HS2 : Hid _ := hS2; have HO2 : Hid _ := hO2; have HW2 : Hid _ := hW2; clear hS2 hO2 hW2))
     go_ret
     have hb2 := HB1.out.alloc hsz1 (.cells #[.int .u8 kd, .int .i64 tm, .string ⟨ky.toArray⟩, .int .i64 nm, .string ⟨bd.toArray⟩] 108)
     exact ⟨σ, rest, M2, HEND.out, rfl, HS2.out, (HO.out.trans (Off.of_below hb2)).trans' HO2.out (fun k hk h => (HW.out k h).elim id (fun h => by omega)), fun k hk => (HW2.out k hk).elim (HW.out k) (fun h => Or.inr (Nat.le_trans (Nat.le_trans HO.out.size hb2.size) h))⟩
end Go.Proofs.YtmehkneofinmiabGreatDoor
namespace Go.Proofs.YtmehkneofinmiabGreatDoor
def wtE (E : Ent) : Nat := E.last * 460 + (E.last - E.vers.length) * 60
def wtL : List Ent -> Nat
 | [] => 0
 | a::l => wtE a + wtL l
theorem findE_consJ (a : Ent) (l : List Ent) (key : List UInt8) : findE (a::l) key = if a.key = key then a else findE l key := by
 unfold findE
 rw [List.find?_cons]
 by_cases h : a.key = key
 ·rw [if_pos h]
  simp [h]
 ·rw [if_neg h]
  have : (a.key == key) = false := by simpa using h
  rw [this]
theorem findE_miss {l : List Ent} {key : List UInt8} (h : ∀ E ∈ l, E.key ≠ key) : findE l key = ⟨key, 0, []⟩ := by
 induction l with
 | nil => rfl
 | cons a l ih => rw [findE_consJ, if_neg (h a List.mem_cons_self), ih (fun E hE => h E (List.mem_cons_of_mem _ hE))]
theorem wt_put {l : List Ent} (hr : RiseL l) (E : Ent) : wtL (putE l E) + wtE (findE l E.key) = wtL l + wtE E := by
 induction l with
 | nil => simp [putE, wtL, findE, wtE]
 | cons a l ih =>
   have ⟨h1, h2⟩ := List.pairwise_cons.1 hr
   have ih := ih h2
   rw [putE_cons, findE_consJ]
   by_cases e : a.key = E.key
   ·rw [if_pos e, if_pos e]
    simp only [wtL]
    omega
   ·rw [if_neg e, if_neg e]
    split
    ·rename_i hlt
     have hm : findE l E.key = ⟨E.key, 0, []⟩ := findE_miss (fun A hA he => by
      have h3 := cmpB_trans _ _ _ hlt (h1 A hA)
      exact cmpB_ne h3 he.symm)
     rw [hm]
     simp only [wtL, wtE]
     simp
     omega
    ·simp only [wtL]
     omega
structure Jb (σ : St) : Prop where
 rise : RiseL σ.ents
 ent : ∀ E ∈ σ.ents, E.vers.length <= E.last /\ E.last <= 4294967295
 many : σ.ents.length <= 60
 log : σ.log.length <= wtL σ.ents
theorem wt_le {l : List Ent} (h : ∀ E ∈ l, E.last <= 4294967295) : wtL l <= l.length * 2233382993400 := by
 induction l with
 | nil => simp [wtL]
 | cons a l ih =>
   have h1 := ih (fun E hE => h E (List.mem_cons_of_mem _ hE))
   have h2 := h a List.mem_cons_self
   have h3 : wtE a <= 2233382993400 := by unfold wtE; omega
   rw [wtL, List.length_cons, Nat.add_mul]
   omega
theorem Jb.short {σ : St} (h : Jb σ) : σ.log.length < 140000000000000 := by
 have h1 := wt_le (fun E hE => (h.ent E hE).2)
 have h2 : σ.ents.length * 2233382993400 <= 60 * 2233382993400 := Nat.mul_le_mul_right _ h.many
 have := h.log
 omega
theorem Jb.find {σ : St} (h : Jb σ) (key : List UInt8) : (findE σ.ents key).vers.length <= (findE σ.ents key).last := by
 rcases Nat.eq_zero_or_pos (findE σ.ents key).last with h0 | h0
 ·unfold findE at h0 ⊢
  cases hf : σ.ents.find? fun E => E.key == key with
  | none => simp
  | some E =>
    have := (h.ent E (List.mem_of_find?_eq_some hf)).1
    simpa using this
 ·exact (h.ent _ (findE_mem (by omega))).1
theorem putE_len_le (l : List Ent) (E : Ent) : (putE l E).length <= l.length + 1 /\ ((∃ A ∈ l, A.key = E.key) -> RiseL l -> (putE l E).length = l.length) := by
 induction l with
 | nil => simp [putE]
 | cons a l ih =>
   rw [putE_cons]
   by_cases e : a.key = E.key
   ·rw [if_pos e]; simp
   ·rw [if_neg e]
    split
    ·rename_i hlt
     refine ⟨by simp, ?_⟩
     rintro ⟨A, hA, hk⟩ hr
     have ⟨h1, _⟩ := List.pairwise_cons.1 hr
     rcases List.mem_cons.1 hA with rfl | hA
     ·exact absurd hk e
     ·exact absurd hk.symm (cmpB_ne (cmpB_trans _ _ _ hlt (h1 A hA)))
    ·refine ⟨by simp; exact ih.1, ?_⟩
     rintro ⟨A, hA, hk⟩ hr
     have ⟨_, h2⟩ := List.pairwise_cons.1 hr
     rcases List.mem_cons.1 hA with rfl | hA
     ·exact absurd hk e
     ·rw [List.length_cons, List.length_cons, ih.2 ⟨A, hA, hk⟩ h2]
theorem Jb.redo {σ σ' : St} {r : Rec} (h : Jb σ) (hr : RecOK r) (he : redoF σ r = some σ') : Jb σ' := by
 unfold redoF at he
 split at he
 ·cases he
 ·rename_i hg
  unfold chgF at he
  dsimp only at he
  split at he
  ·cases he
  ·rename_i ho
   split at he
   ·cases he
   ·rename_i hf
    injection he with he
    subst he
    have ho' : obstF (findE σ.ents r.key) r.kind r.num = 0 := by simpa using ho
    have hkl := keyOK_le hr.key
    have hfk := findE_key σ.ents r.key
    have hfl := h.find r.key
    obtain ⟨E', hE'⟩ : ∃ x, applyF (findE σ.ents r.key) r.kind r.time r.num r.body = x := ⟨_, rfl⟩
    have hk' : E'.key = r.key := by rw [<- hE', applyF_key, hfk]
    have hw := wt_put h.rise E'
    rw [hk'] at hw
    have hbl := hr.body
    have hrl := recF_len r.kind r.time r.key r.num r.body
    have hstep : E'.vers.length <= E'.last /\ E'.last <= 4294967295 /\ wtE (findE σ.ents r.key) + (20 + r.key.length + r.body.length) <= wtE E' := by
     by_cases hk3 : r.kind = 3
     ·obtain ⟨i, hi⟩ := (obst_zero ho').1 hk3
      have hb0 := hr.none (by omega)
      have hlt : i < (findE σ.ents r.key).vers.length := by
       obtain ⟨v, hv, _⟩ := vidx_get hi
       exact (List.getElem?_eq_some_iff.1 hv).1
      have e : E' = ⟨(findE σ.ents r.key).key, (findE σ.ents r.key).last, (findE σ.ents r.key).vers.eraseIdx i⟩ := by rw [<- hE']; simp [applyF, hk3, hi]
      have hlen : E'.vers.length = (findE σ.ents r.key).vers.length - 1 := by rw [e]; simp [List.length_eraseIdx, hlt]
      have hla : E'.last = (findE σ.ents r.key).last := by rw [e]
      have hle : (findE σ.ents r.key).last <= 4294967295 := (h.ent _ (findE_mem (by omega))).2
      rw [hb0]
      unfold wtE
      rw [hlen, hla]
      simp only [List.length_nil]
      omega
     ·have hn : r.num = (findE σ.ents r.key).last + 1 := by
       rcases Nat.eq_or_lt_of_le (Nat.le_refl r.num) with _ | _
       ·exact Classical.byContradiction fun hne => hg (Or.inr ⟨hk3, hne⟩)
       ·omega
      have e : E' = ⟨(findE σ.ents r.key).key, r.num, (findE σ.ents r.key).vers ++ [⟨r.num, r.time, r.kind == 2, r.body⟩]⟩ := by rw [<- hE']; simp [applyF, hk3]
      have hlen : E'.vers.length = (findE σ.ents r.key).vers.length + 1 := by rw [e]; simp
      have hla : E'.last = (findE σ.ents r.key).last + 1 := by rw [e, hn]
      have := hr.num
      unfold wtE
      rw [hlen, hla]
      omega
    refine ⟨putE_rise h.rise _, fun E hE => ?_, ?_, ?_⟩
    ·rw [hE'] at hE
     rcases putE_mem hE with rfl | hE
     ·exact ⟨hstep.1, hstep.2.1⟩
     ·exact h.ent E hE
    ·rw [hE']
     have hp := putE_len_le σ.ents E'
     by_cases hl : (findE σ.ents r.key).last = 0
     ·have : σ.ents.length < 60 := by
       rcases Nat.lt_or_ge σ.ents.length 60 with h1 | h1
       ·exact h1
       ·exact absurd ⟨hl, h1⟩ hf
      show (putE σ.ents E').length <= 60
      omega
     ·show (putE σ.ents E').length <= 60
      rw [hp.2 ⟨_, findE_mem hl, by rw [hfk, hk']⟩ h.rise]
      exact h.many
    ·show (σ.log ++ recF _ _ _ _ _).length <= wtL (putE σ.ents _)
     rw [hE', List.length_append, hrl]
     have := h.log
     omega
theorem replay_short : ∀ (m : Nat) (σ σ' : St) (t rest : List UInt8), Jb σ -> replayF m σ t = (σ', rest) -> Jb σ' := by
 intro m
 induction m with
 | zero =>
   intro σ σ' t rest h e
   injection e with e1 _
   exact e1 ▸ h
 | succ m ih =>
   intro σ σ' t rest h e
   unfold replayF at e
   cases hc : cutF t with
   | none =>
     rw [hc] at e
     injection e with e1 _
     exact e1 ▸ h
   | some x =>
     obtain ⟨r, rs⟩ := x
     rw [hc] at e
     cases hr : redoF σ r with
     | none =>
       simp only [hr] at e
       injection e with e1 _
       exact e1 ▸ h
     | some σ1 =>
       simp only [hr] at e
       exact ih σ1 σ' rs rest (h.redo (cut_of hc).1 hr) e
end Go.Proofs.YtmehkneofinmiabGreatDoor

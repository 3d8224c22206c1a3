/-
  Texts of this proof, part 46.
-/
import Derived.Test.YtmehkneofinmiabGreatDoorP43
import Derived.Test.YtmehkneofinmiabGreatDoorP45
import Derived.Test.YtmehkneofinmiabGreatDoorP01
import Derived.Test.YtmehkneofinmiabGreatDoorP14
import Derived.Test.YtmehkneofinmiabGreatDoorP40
import Derived.Test.YtmehkneofinmiabGreatDoorP41
import Derived.Deep.RegionHeld3
namespace Go.Proofs.YtmehkneofinmiabGreatDoor
def wtE (E : Ent) : Nat := E.last * 460 + (E.last - E.vers.length) * 60
def wtL : List Ent → Nat
  | [] => 0
  | a :: l => wtE a + wtL l
theorem findE_consJ (a : Ent) (l : List Ent) (key : List UInt8) : findE (a :: l) key = if a.key = key then a else findE l key := by
  unfold findE
  rw [List.find?_cons]
  by_cases h : a.key = key
  · rw [if_pos h]
    simp [h]
  · rw [if_neg h]
    have : (a.key == key) = false := by simpa using h
    rw [this]
theorem findE_miss {l : List Ent} {key : List UInt8} (h : ∀ E ∈ l, E.key ≠ key) : findE l key = ⟨key, 0, []⟩ := by
  induction l with
  | nil => rfl
  | cons a l ih => rw [findE_consJ, if_neg (h a List.mem_cons_self), ih (fun E hE => h E (List.mem_cons_of_mem _ hE))]
theorem wt_put {l : List Ent} (hr : RiseL l) (E : Ent) : wtL (putE l E) + wtE (findE l E.key) = wtL l + wtE E := by
  induction l with
  | nil => simp [putE, wtL, findE, wtE]
  | cons a l ih =>
    have ⟨h1, h2⟩ := List.pairwise_cons.1 hr
    have ih := ih h2
    rw [putE_cons, findE_consJ]
    by_cases e : a.key = E.key
    · rw [if_pos e, if_pos e]
      simp only [wtL]
      omega
    · rw [if_neg e, if_neg e]
      split
      · rename_i hlt
        have hm : findE l E.key = ⟨E.key, 0, []⟩ := findE_miss (fun A hA he => by
          have h3 := cmpB_trans _ _ _ hlt (h1 A hA)
          exact cmpB_ne h3 he.symm)
        rw [hm]
        simp only [wtL, wtE]
        simp
        omega
      · simp only [wtL]
        omega
structure Jb (σ : St) : Prop where
  rise : RiseL σ.ents
  ent : ∀ E ∈ σ.ents, E.vers.length ≤ E.last ∧ E.last ≤ 4294967295
  many : σ.ents.length ≤ 60
  log : σ.log.length ≤ wtL σ.ents
theorem wt_le {l : List Ent} (h : ∀ E ∈ l, E.last ≤ 4294967295) : wtL l ≤ l.length * 2233382993400 := by
  induction l with
  | nil => simp [wtL]
  | cons a l ih =>
    have h1 := ih (fun E hE => h E (List.mem_cons_of_mem _ hE))
    have h2 := h a List.mem_cons_self
    have h3 : wtE a ≤ 2233382993400 := by unfold wtE; omega
    rw [wtL, List.length_cons, Nat.add_mul]
    omega
theorem Jb.short {σ : St} (h : Jb σ) : σ.log.length < 140000000000000 := by
  have h1 := wt_le (fun E hE => (h.ent E hE).2)
  have h2 : σ.ents.length * 2233382993400 ≤ 60 * 2233382993400 := Nat.mul_le_mul_right _ h.many
  have := h.log
  omega
theorem Jb.find {σ : St} (h : Jb σ) (key : List UInt8) : (findE σ.ents key).vers.length ≤ (findE σ.ents key).last := by
  rcases Nat.eq_zero_or_pos (findE σ.ents key).last with h0 | h0
  · unfold findE at h0 ⊢
    cases hf : σ.ents.find? fun E => E.key == key with
    | none => simp
    | some E =>
      have := (h.ent E (List.mem_of_find?_eq_some hf)).1
      simpa using this
  · exact (h.ent _ (findE_mem (by omega))).1
theorem putE_len_le (l : List Ent) (E : Ent) : (putE l E).length ≤ l.length + 1 ∧ ((∃ A ∈ l, A.key = E.key) → RiseL l → (putE l E).length = l.length) := by
  induction l with
  | nil => simp [putE]
  | cons a l ih =>
    rw [putE_cons]
    by_cases e : a.key = E.key
    · rw [if_pos e]; simp
    · rw [if_neg e]
      split
      · rename_i hlt
        refine ⟨by simp, ?_⟩
        rintro ⟨A, hA, hk⟩ hr
        have ⟨h1, _⟩ := List.pairwise_cons.1 hr
        rcases List.mem_cons.1 hA with rfl | hA
        · exact absurd hk e
        · exact absurd hk.symm (cmpB_ne (cmpB_trans _ _ _ hlt (h1 A hA)))
      · refine ⟨by simp; exact ih.1, ?_⟩
        rintro ⟨A, hA, hk⟩ hr
        have ⟨_, h2⟩ := List.pairwise_cons.1 hr
        rcases List.mem_cons.1 hA with rfl | hA
        · exact absurd hk e
        · rw [List.length_cons, List.length_cons, ih.2 ⟨A, hA, hk⟩ h2]
theorem Jb.redo {σ σ' : St} {r : Rec} (h : Jb σ) (hr : RecOK r) (he : redoF σ r = some σ') : Jb σ' := by
  unfold redoF at he
  split at he
  · cases he
  · rename_i hg
    unfold chgF at he
    dsimp only at he
    split at he
    · cases he
    · rename_i ho
      split at he
      · cases he
      · rename_i hf
        injection he with he
        subst he
        have ho' : obstF (findE σ.ents r.key) r.kind r.num = 0 := by simpa using ho
        have hkl := keyOK_le hr.key
        have hfk := findE_key σ.ents r.key
        have hfl := h.find r.key
        obtain ⟨E', hE'⟩ : ∃ x, applyF (findE σ.ents r.key) r.kind r.time r.num r.body = x := ⟨_, rfl⟩
        have hk' : E'.key = r.key := by rw [← hE', applyF_key, hfk]
        have hw := wt_put h.rise E'
        rw [hk'] at hw
        have hbl := hr.body
        have hrl := recF_len r.kind r.time r.key r.num r.body
        have hstep : E'.vers.length ≤ E'.last ∧ E'.last ≤ 4294967295 ∧ wtE (findE σ.ents r.key) + (20 + r.key.length + r.body.length) ≤ wtE E' := by
          by_cases hk3 : r.kind = 3
          · obtain ⟨i, hi⟩ := (obst_zero ho').1 hk3
            have hb0 := hr.none (by omega)
            have hlt : i < (findE σ.ents r.key).vers.length := by
              obtain ⟨v, hv, _⟩ := vidx_get hi
              exact (List.getElem?_eq_some_iff.1 hv).1
            have e : E' = ⟨(findE σ.ents r.key).key, (findE σ.ents r.key).last, (findE σ.ents r.key).vers.eraseIdx i⟩ := by rw [← hE']; simp [applyF, hk3, hi]
            have hlen : E'.vers.length = (findE σ.ents r.key).vers.length - 1 := by rw [e]; simp [List.length_eraseIdx, hlt]
            have hla : E'.last = (findE σ.ents r.key).last := by rw [e]
            have hle : (findE σ.ents r.key).last ≤ 4294967295 := (h.ent _ (findE_mem (by omega))).2
            rw [hb0]
            unfold wtE
            rw [hlen, hla]
            simp only [List.length_nil]
            omega
          · have hn : r.num = (findE σ.ents r.key).last + 1 := by
              rcases Nat.eq_or_lt_of_le (Nat.le_refl r.num) with _ | _
              · exact Classical.byContradiction fun hne => hg (Or.inr ⟨hk3, hne⟩)
              · omega
            have e : E' = ⟨(findE σ.ents r.key).key, r.num, (findE σ.ents r.key).vers ++ [⟨r.num, r.time, r.kind == 2, r.body⟩]⟩ := by rw [← hE']; simp [applyF, hk3]
            have hlen : E'.vers.length = (findE σ.ents r.key).vers.length + 1 := by rw [e]; simp
            have hla : E'.last = (findE σ.ents r.key).last + 1 := by rw [e, hn]
            have := hr.num
            unfold wtE
            rw [hlen, hla]
            omega
        refine ⟨putE_rise h.rise _, fun E hE => ?_, ?_, ?_⟩
        · rw [hE'] at hE
          rcases putE_mem hE with rfl | hE
          · exact ⟨hstep.1, hstep.2.1⟩
          · exact h.ent E hE
        · rw [hE']
          have hp := putE_len_le σ.ents E'
          by_cases hl : (findE σ.ents r.key).last = 0
          · have : σ.ents.length < 60 := by
              rcases Nat.lt_or_ge σ.ents.length 60 with h1 | h1
              · exact h1
              · exact absurd ⟨hl, h1⟩ hf
            show (putE σ.ents E').length ≤ 60
            omega
          · show (putE σ.ents E').length ≤ 60
            rw [hp.2 ⟨_, findE_mem hl, by rw [hfk, hk']⟩ h.rise]
            exact h.many
        · show (σ.log ++ recF _ _ _ _ _).length ≤ wtL (putE σ.ents _)
          rw [hE', List.length_append, hrl]
          have := h.log
          omega
theorem replay_short : ∀ (m : Nat) (σ σ' : St) (t rest : List UInt8), Jb σ → replayF m σ t = (σ', rest) → Jb σ' := by
  intro m
  induction m with
  | zero =>
    intro σ σ' t rest h e
    injection e with e1 _
    exact e1 ▸ h
  | succ m ih =>
    intro σ σ' t rest h e
    unfold replayF at e
    cases hc : cutF t with
    | none =>
      rw [hc] at e
      injection e with e1 _
      exact e1 ▸ h
    | some x =>
      obtain ⟨r, rs⟩ := x
      rw [hc] at e
      cases hr : redoF σ r with
      | none =>
        simp only [hr] at e
        injection e with e1 _
        exact e1 ▸ h
      | some σ1 =>
        simp only [hr] at e
        exact ih σ1 σ' rs rest (h.redo (cut_of hc).1 hr) e
end Go.Proofs.YtmehkneofinmiabGreatDoor

namespace Go.Proofs.YtmehkneofinmiabGreatDoor
open Go.RowKit
noncomputable def foundF (log : List UInt8) : St × List UInt8 := replayF log.length st0 log
theorem jb0 : Jb st0 := ⟨by simp [st0, RiseL], fun E hE => by simp [st0] at hE, by simp [st0], by simp [st0]⟩
theorem found_short (log : List UInt8) : Jb (foundF log).1 := replay_short log.length st0 _ log _ jb0 rfl
theorem found_log (log : List UInt8) : log = (foundF log).1.log ++ (foundF log).2 ∧ foundF (foundF log).1.log = ((foundF log).1, []) := by
  obtain ⟨c, h1, h2, h3⟩ := replay_of log.length st0 (foundF log).1 log (foundF log).2 rfl
  have e : (foundF log).1.log = c := by rw [h2]; simp [st0]
  refine ⟨by rw [e]; exact h1, ?_⟩
  rw [e]
  exact h3 c.length (Nat.le_refl _)
set_option maxRecDepth 100000 in
set_option maxHeartbeats 2000000 in
theorem open_any (log : List UInt8) (n : Nat) (w : World) (h1 : 1 ≤ n) (h8 : n ≤ 8) (hl : log.length ≤ 9223372036854775807) :
    Calls Tryz.prog 23 #[.string ⟨log.toArray⟩, .int .i64 n] w fun e w' => ∃ s M, e = .returned (.tuple #[.pointer (some ⟨s, 0, none⟩), .int .i64 (((foundF log).1.log.length : Nat) : Int), .int .i64 0]) ∧ StoreAt w' s n 0 (fun _ => 0) (foundF log).1 M ∧ Below w.heap.size w w' ∧ ∀ k, M.own s n k → w.heap.size ≤ k := by
  have HN : Hid _ := new_yes n w h1 h8
  have hlen : ((foundF log).1.log.length : Int) = (log.length : Int) - ((foundF log).2.length : Int) := by
    have := congrArg List.length (found_log log).1
    rw [List.length_append] at this
    omega
  obtain ⟨σ0, r0, hF⟩ : ∃ σ0 r0, foundF log = (σ0, r0) := ⟨_, _, rfl⟩
  rw [hF] at hlen ⊢
  dsimp only at hlen ⊢
  have HFD : Hid _ := hF
  have HLE : Hid _ := hlen
  clear hlen hF
  go_enter Tryz.func23, Tryz.ntmps23
  go_wp2_with fail
  refine Calls.mono HN.out ?_
  rintro e w1 ⟨s, M, rfl, hS, hb, hO⟩
  have HR : Hid _ := replay_any log w1 hS hl (fun σ rest ⟨m, hm⟩ => (replay_short m st0 σ log rest jb0 hm).short)
  have HB : Hid _ := hb
  have HO : Hid _ := hO
  clear hS hb hO HN
  go_wp2_with fail
  refine Calls.mono HR.out ?_
  rintro e w2 ⟨σ, rest, M2, hk, rfl, hS2, hO2, hW2⟩
  have hf : foundF log = (σ, rest) := hk log.length (Nat.le_refl _)
  obtain ⟨rfl, rfl⟩ : σ0 = σ ∧ r0 = rest := by
    have := HFD.out.symm.trans hf
    injection this with h1 h2
    exact ⟨h1, h2⟩
  have H1 : Hid _ := hS2
  have H2 : Hid (Below w.heap.size w w2) := HB.out.trans ⟨hO2.os, hO2.tape, hO2.output, hO2.size, fun k hk => hO2.block k (Nat.lt_of_lt_of_le hk HB.out.size) (fun h => by have := HO.out k h; omega)⟩
  have H3 : Hid (∀ k, M2.own s n k → w.heap.size ≤ k) := fun k hk => (hW2 k hk).elim (HO.out k) (fun h => Nat.le_trans HB.out.size h)
  clear hk hf hS2 hO2 hW2 HR HB HO
  go_wp2_with fail
  refine bodyPost_ret (results_tmp3 Tryz.results23 _ _ _) rfl ⟨s, M2, ?_, H1.out, H2.out, H3.out⟩
  rw [HLE.out]
  rfl
end Go.Proofs.YtmehkneofinmiabGreatDoor

namespace Go.Proofs.YtmehkneofinmiabGreatDoor
open Go.RowKit
theorem addB (a b : List UInt8) (h : a.length + b.length ≤ 1000000000000000) : ∀ w : World, (Op.stringOp .add ⟨a.toArray⟩ ⟨b.toArray⟩).run Tryz.prog w = .ok (.string ⟨(a ++ b).toArray⟩) w := by
  intro w
  have := run_string_add_sum (P := Tryz.prog) w ⟨a.toArray⟩ ⟨b.toArray⟩ (by simp [ByteArray.size]; omega)
  rw [mk_app] at this
  exact this
structure Dsk (B s : Nat) (I : World → Prop) (D : List UInt8 → List UInt8 → Prop) (t : Nat) (lg : List UInt8) (KK : Nat → List UInt8) : Prop where
  bel : ∀ y z, I y → Below y.heap.size y z → I z
  asks : ∀ R T, D R T → ∀ y, I y → Calls Tryz.prog 11 #[.pointer (some ⟨s, 0, none⟩), .string ⟨R.toArray⟩] y fun e w' => e = .returned (.string ⟨T.toArray⟩) ∧ I w' ∧ Off (fun k => B ≤ k) y w'
  clk : ∀ y, I y → Calls Tryz.prog 25 #[.pointer (some ⟨s, 0, none⟩)] y fun e w' => e = .returned (.int .i64 t) ∧ w' = y
  log : ∀ y, I y → Calls Tryz.prog 22 #[.pointer (some ⟨s, 0, none⟩)] y fun e w' => e = .returned (.string ⟨lg.toArray⟩) ∧ I w' ∧ Off (fun k => B ≤ k) y w'
  itoa : ∀ y, I y → Calls Tryz.prog 13 #[.int .i64 t] y fun e w' => e = .returned (.string ⟨(Lib.decDigits t).toArray⟩) ∧ Below y.heap.size y w'
  nm : ∀ i : Nat, i < 5 → ∀ y : World, Calls Tryz.prog 28 #[.int .i64 i] y fun e w' => e = .returned (.string ⟨(KK i).toArray⟩) ∧ Below y.heap.size y w'
  kl : ∀ i, i < 5 → (KK i).length ≤ 40
def dmpF (T0 : List UInt8) (TA TH : Nat → List UInt8) : Nat → List UInt8
  | 0 => T0
  | k + 1 => dmpF T0 TA TH k ++ TA k ++ TH k
theorem dmpF_len {T0 : List UInt8} {TA TH : Nat → List UInt8} (h0 : T0.length ≤ 1000000000) (ha : ∀ i, i < 5 → (TA i).length ≤ 1000000000) (hh : ∀ i, i < 5 → (TH i).length ≤ 1000000000) (k : Nat) (hk : k ≤ 5) : (dmpF T0 TA TH k).length ≤ 1000000000 + k * 2000000000 := by
  induction k with
  | zero => simpa [dmpF] using h0
  | succ k ih =>
    have := ih (by omega)
    have := ha k (by omega)
    have := hh k (by omega)
    simp only [dmpF, List.length_append]
    omega
def versQ : List UInt8 := [63, 118, 101, 114, 115, 105, 111, 110, 115]
set_option maxRecDepth 100000 in
set_option maxHeartbeats 16000000 in
theorem dump_walk {B s : Nat} {I : World → Prop} {D : List UInt8 → List UInt8 → Prop} {t : Nat} {lg : List UInt8} {KK : Nat → List UInt8} (hs : Dsk B s I D t lg KK) (T0 : List UInt8) (TA TH : Nat → List UInt8) (w : World) (hw : I w)
    (d0 : D (reqB [71, 69, 84] [47] [] []) T0) (da : ∀ i, i < 5 → D (reqB [71, 69, 84] (47 :: KK i) [] []) (TA i)) (dh : ∀ i, i < 5 → D (reqB [71, 69, 84] (47 :: KK i ++ versQ) [] []) (TH i))
    (h0 : T0.length ≤ 1000000000) (ha : ∀ i, i < 5 → (TA i).length ≤ 1000000000) (hh : ∀ i, i < 5 → (TH i).length ≤ 1000000000) (hl : lg.length ≤ 140000000000000) (ht : (Lib.decDigits t).length ≤ 20) :
    Calls Tryz.prog 20 #[.pointer (some ⟨s, 0, none⟩)] w fun e w' => e = .returned (.string ⟨(dmpF T0 TA TH 5 ++ lg ++ Lib.decDigits t).toArray⟩) ∧ I w' ∧ Off (fun k => B ≤ k) w w' := by
  have HS : Hid _ := hs
  have HI0 : Hid _ := hw
  have HD0 : Hid _ := d0
  have HDA : Hid _ := da
  have HDH : Hid _ := dh
  have HL : Hid _ := dmpF_len h0 ha hh
  have HLA : Hid _ := ha
  have HLH : Hid _ := hh
  clear hs hw d0 da dh h0 ha hh
  have HQ1 : Hid (∀ y, Calls Tryz.prog 12 #[.string ⟨#[71, 69, 84]⟩, .string ⟨#[47]⟩, .string ⟨#[]⟩, .string ⟨#[]⟩] y fun e w' => e = .returned (.string ⟨(reqB [71, 69, 84] [47] [] []).toArray⟩) ∧ w' = y) :=
    fun y => request_any [71, 69, 84] [47] [] [] y (by decide) (by decide) (by decide) (by decide)
  obtain ⟨R0, hR0⟩ : ∃ R, reqB [71, 69, 84] [47] [] [] = R := ⟨_, rfl⟩
  rw [hR0] at HD0 HQ1
  clear hR0
  go_enter Tryz.func20, Tryz.ntmps20
  go_wp2_with (first
    | (go_at_call 12; refine Calls.mono (HQ1.out _) ?_; rintro e w2 ⟨rfl, hw2⟩; rw [hw2]; clear hw2)
    | (go_at_call 11; refine Calls.mono (HS.out.asks _ _ HD0.out _ HI0.out) ?_; rintro e w3 ⟨rfl, i3, o3⟩))
  have HI3 : Hid (I w3) := i3
  have HO3 : Hid _ := o3
  clear i3 o3 HD0 HQ1 HI0
  go_loopw [3, 4, 5, 6] (fun ou iv _ _ wr => ∃ i : Nat, i ≤ 5 ∧ iv = .int .i64 i ∧ ou = .string ⟨(dmpF T0 TA TH i).toArray⟩ ∧ I wr ∧ Off (fun k => B ≤ k) w wr) (fun _ iv _ _ _ => 5 - (intOf iv).toNat)
  case atStart => exact ⟨0, by omega, rfl, rfl, HI3.out, HO3.out⟩
  case round =>
    obtain ⟨i, hi, rfl, rfl, hIr, hOr⟩ := hrel
    have HIR : Hid _ := hIr
    have HOR : Hid _ := hOr
    clear hIr hOr
    have hdl := HL.out i hi
    by_cases hi5 : i < 5
    · have hiI : (i : Int) < 5 := by omega
      have hkl := HS.out.kl i hi5
      have hda := HDA.out i hi5
      have hdh := HDH.out i hi5
      have hla := HLA.out i hi5
      have hlh := HLH.out i hi5
      have HNM : Hid _ := HS.out.nm i hi5
      have HST : Hid (dmpF T0 TA TH (i + 1) = dmpF T0 TA TH i ++ TA i ++ TH i) := rfl
      obtain ⟨K, hK⟩ : ∃ K, KK i = K := ⟨_, rfl⟩
      obtain ⟨A, hA⟩ : ∃ A, TA i = A := ⟨_, rfl⟩
      obtain ⟨H, hH⟩ : ∃ A, TH i = A := ⟨_, rfl⟩
      obtain ⟨O, hO⟩ : ∃ A, dmpF T0 TA TH i = A := ⟨_, rfl⟩
      rw [hK] at hkl hda hdh HNM
      rw [hA] at hda hla HST
      rw [hH] at hdh hlh HST
      rw [hO] at hdl HST ⊢
      have a1 : ∀ w : World, (Op.stringOp .add ⟨#[47]⟩ ⟨K.toArray⟩).run Tryz.prog w = .ok (.string ⟨(47 :: K).toArray⟩) w := addB [47] K (by simp; omega)
      have a2 : ∀ w : World, (Op.stringOp .add ⟨(47 :: K).toArray⟩ ⟨#[63, 118, 101, 114, 115, 105, 111, 110, 115]⟩).run Tryz.prog w = .ok (.string ⟨(47 :: K ++ versQ).toArray⟩) w := addB (47 :: K) versQ (by simp [versQ]; omega)
      have a3 : ∀ w : World, (Op.stringOp .add ⟨O.toArray⟩ ⟨A.toArray⟩).run Tryz.prog w = .ok (.string ⟨(O ++ A).toArray⟩) w := addB O A (by omega)
      have a4 : ∀ w : World, (Op.stringOp .add ⟨(O ++ A).toArray⟩ ⟨H.toArray⟩).run Tryz.prog w = .ok (.string ⟨(O ++ A ++ H).toArray⟩) w := addB (O ++ A) H (by rw [List.length_append]; omega)
      have HQ2 : Hid (∀ T, T = 47 :: K ∨ T = 47 :: K ++ versQ → ∀ y, Calls Tryz.prog 12 #[.string ⟨#[71, 69, 84]⟩, .string ⟨T.toArray⟩, .string ⟨#[]⟩, .string ⟨#[]⟩] y fun e w' => e = .returned (.string ⟨(reqB [71, 69, 84] T [] []).toArray⟩) ∧ w' = y) := by
        rintro T hT y
        have : T.length < 1000 := by rcases hT with rfl | rfl <;> simp [versQ] <;> omega
        exact request_any [71, 69, 84] T [] [] y (by decide) (by omega) (by decide) (by decide)
      obtain ⟨U2, hU2⟩ : ∃ x, 47 :: K ++ versQ = x := ⟨_, rfl⟩
      obtain ⟨U1, hU1⟩ : ∃ x, 47 :: K = x := ⟨_, rfl⟩
      rw [hU2] at a2 HQ2 hdh
      rw [hU1] at a1 a2 HQ2 hda
      obtain ⟨Z2, hZ2⟩ : ∃ x, O ++ A ++ H = x := ⟨_, rfl⟩
      obtain ⟨Z1, hZ1⟩ : ∃ x, O ++ A = x := ⟨_, rfl⟩
      rw [hZ2] at a4 HST
      rw [hZ1] at a3 a4
      have HDD : Hid (∀ T, T = U1 ∨ T = U2 → ∀ y, I y → ∃ Q, (T = U1 → Q = A) ∧ (T = U2 → U1 ≠ U2 → Q = H) ∧ D (reqB [71, 69, 84] T [] []) Q) := by
        rintro T hT y hy
        by_cases e : T = U1
        · exact ⟨A, fun _ => rfl, fun h1 h2 => absurd (e.symm.trans h1) h2, by rw [e]; exact hda⟩
        · exact ⟨H, fun h => absurd h e, fun _ _ => rfl, by rw [hT.resolve_left e]; exact hdh⟩
      clear HDD
      have HD1 : Hid _ := hda
      have HD2 : Hid _ := hdh
      clear hda hdh hK hA hH hO hU1 hU2 hZ1 hZ2 hdl
      obtain ⟨R1, hR1⟩ : ∃ R, reqB [71, 69, 84] U1 [] [] = R := ⟨_, rfl⟩
      obtain ⟨R2, hR2⟩ : ∃ R, reqB [71, 69, 84] U2 [] [] = R := ⟨_, rfl⟩
      have HQA : Hid (∀ y, Calls Tryz.prog 12 #[.string ⟨#[71, 69, 84]⟩, .string ⟨U1.toArray⟩, .string ⟨#[]⟩, .string ⟨#[]⟩] y fun e w' => e = .returned (.string ⟨R1.toArray⟩) ∧ w' = y) := by rw [← hR1]; exact HQ2.out U1 (Or.inl rfl)
      have HQB : Hid (∀ y, Calls Tryz.prog 12 #[.string ⟨#[71, 69, 84]⟩, .string ⟨U2.toArray⟩, .string ⟨#[]⟩, .string ⟨#[]⟩] y fun e w' => e = .returned (.string ⟨R2.toArray⟩) ∧ w' = y) := by rw [← hR2]; exact HQ2.out U2 (Or.inr rfl)
      rw [hR1] at HD1
      rw [hR2] at HD2
      clear hR1 hR2 HQ2
      go_wp2_with fail
      refine Calls.mono (HNM.out _) ?_
      rintro e w4 ⟨rfl, b4⟩
      have HI4 : Hid (I w4) := HS.out.bel _ _ HIR.out b4
      have HO4 : Hid (Off (fun k => B ≤ k) w w4) := HOR.out.trans (Off.of_below b4)
      clear b4
      go_wp2_with fail
      refine Calls.mono (HQA.out _) ?_
      rintro e w5 ⟨rfl, rfl⟩
      go_wp2_with fail
      refine Calls.mono (HS.out.asks _ _ HD1.out _ HI4.out) ?_
      rintro e w6 ⟨rfl, i6, o6⟩
      have HI6 : Hid (I w6) := i6
      have HO6 : Hid (Off (fun k => B ≤ k) w w6) := HO4.out.trans o6
      clear i6 o6 HI4 HO4
      go_wp2_with fail
      refine Calls.mono (HNM.out _) ?_
      rintro e w7 ⟨rfl, b7⟩
      have HI7 : Hid (I w7) := HS.out.bel _ _ HI6.out b7
      have HO7 : Hid (Off (fun k => B ≤ k) w w7) := HO6.out.trans (Off.of_below b7)
      clear b7
      go_wp2_with fail
      refine Calls.mono (HQB.out _) ?_
      rintro e w8 ⟨rfl, rfl⟩
      go_wp2_with fail
      refine Calls.mono (HS.out.asks _ _ HD2.out _ HI7.out) ?_
      rintro e w9 ⟨rfl, i9, o9⟩
      have HI9 : Hid (I w9) := i9
      have HO9 : Hid (Off (fun k => B ≤ k) w w9) := HO7.out.trans o9
      clear i9 o9 HI7 HO7
      go_wp2_with fail
      exact ⟨⟨i + 1, by omega, by go_num, by rw [HST.out], HI9.out, HO9.out⟩, by simp [intOf]; omega⟩
    · obtain rfl : i = 5 := by omega
      obtain ⟨O, hO⟩ : ∃ A, dmpF T0 TA TH 5 = A := ⟨_, rfl⟩
      obtain ⟨Dt, hDt⟩ : ∃ A, Lib.decDigits t = A := ⟨_, rfl⟩
      have HIT := HS.out.itoa
      rw [hDt] at HIT ht
      rw [hO] at hdl ⊢
      have a1 : ∀ w : World, (Op.stringOp .add ⟨O.toArray⟩ ⟨lg.toArray⟩).run Tryz.prog w = .ok (.string ⟨(O ++ lg).toArray⟩) w := addB O lg (by omega)
      have a2 : ∀ w : World, (Op.stringOp .add ⟨(O ++ lg).toArray⟩ ⟨Dt.toArray⟩).run Tryz.prog w = .ok (.string ⟨(O ++ lg ++ Dt).toArray⟩) w := addB (O ++ lg) Dt (by rw [List.length_append]; omega)
      obtain ⟨Z2, hZ2⟩ : ∃ x, O ++ lg ++ Dt = x := ⟨_, rfl⟩
      obtain ⟨Z1, hZ1⟩ : ∃ x, O ++ lg = x := ⟨_, rfl⟩
      rw [hZ2] at a2
      rw [hZ1] at a1 a2
      have HZ : Hid (dmpF T0 TA TH 5 ++ lg ++ Lib.decDigits t = Z2) := by show _ = _; rw [hO, hDt, hZ2]
      have HIT : Hid _ := HIT
      clear hO hDt hZ1 hZ2 hdl
      go_wp2_with fail
      refine Calls.mono (HS.out.clk _ HIR.out) ?_
      rintro e w4 ⟨rfl, rfl⟩
      go_wp2_with fail
      refine Calls.mono (HS.out.log _ HIR.out) ?_
      rintro e w6 ⟨rfl, i6, o6⟩
      have HI6 : Hid (I w6) := i6
      have HO6 : Hid (Off (fun k => B ≤ k) w w6) := HOR.out.trans o6
      clear i6 o6
      go_wp2_with fail
      refine Calls.mono (HIT.out _ HI6.out) ?_
      rintro e w7 ⟨rfl, b7⟩
      have HI7 : Hid (I w7) := HS.out.bel _ _ HI6.out b7
      have HO7 : Hid (Off (fun k => B ≤ k) w w7) := HO6.out.trans (Off.of_below b7)
      go_wp2
      go_ret
      exact ⟨by rw [HZ.out]; rfl, HI7.out, HO7.out⟩
end Go.Proofs.YtmehkneofinmiabGreatDoor

namespace Go.Proofs.YtmehkneofinmiabGreatDoor
open Go.RowKit
def AskR (s B : Nat) (R T : List UInt8) (I I' : World → Prop) : Prop := ∀ y, I y → Calls Tryz.prog 11 #[.pointer (some ⟨s, 0, none⟩), .string ⟨R.toArray⟩] y fun e w' => e = .returned (.string ⟨T.toArray⟩) ∧ I' w' ∧ Off (fun k => B ≤ k) y w'
def DumpR (s B : Nat) (Z : List UInt8) (I : World → Prop) : Prop := ∀ y, I y → Calls Tryz.prog 20 #[.pointer (some ⟨s, 0, none⟩)] y fun e w' => e = .returned (.string ⟨Z.toArray⟩) ∧ I w' ∧ Off (fun k => B ≤ k) y w'
end Go.Proofs.YtmehkneofinmiabGreatDoor

namespace Go.Proofs.YtmehkneofinmiabGreatDoor
def NoBr (l : List UInt8) : Prop := ∀ c ∈ l, c ≠ 13 ∧ c ≠ 10
theorem NoBr.app {a b : List UInt8} (h : NoBr a) (h' : NoBr b) : NoBr (a ++ b) := fun c hc => (List.mem_append.1 hc).elim (h c) (h' c)
theorem ask_r {σ : St} {m : Nat} {t : Tgt} {k : Cnd} {body : List UInt8} (h3 : t.kind ≠ 3) (hw : isW m = false) : askF σ m t k body = (if condF false k (aimF (findE σ.ents t.key) t) ≠ 0 then ⟨condF false k (aimF (findE σ.ents t.key) t), [], []⟩ else
    match aimF (findE σ.ents t.key) t with
    | none => ⟨404, [], []⟩
    | some v => ⟨200, verFlds v (stampL v.time), if m = 0 then v.body else []⟩, σ) := by
  unfold askF
  rw [if_neg h3, hw]
  by_cases h : condF false k (aimF (findE σ.ents t.key) t) ≠ 0
  · rw [if_pos h, if_pos h]
  · rw [if_neg h, if_neg h]
    simp only [Bool.false_eq_true, if_false]
    cases aimF (findE σ.ents t.key) t <;> rfl
theorem get_none {σ : St} {l key : List UInt8} {m : Nat} (hr : readF l = .ok (m, ⟨1, key, 0⟩, k0, [])) (hw : isW m = false) (h : curOf (findE σ.ents key) = none) : ansF σ l = (⟨404, [], []⟩, σ) := by
  rw [ans_of hr (by simp), ask_r (by simp) hw]
  have e : aimF (findE σ.ents key) ⟨1, key, 0⟩ = none := h
  simp only [e, condF0]
  rfl
theorem get_some {σ : St} {l key : List UInt8} {m : Nat} {k : Cnd} {v : Ver} (hr : readF l = .ok (m, ⟨1, key, 0⟩, k, [])) (hw : isW m = false) (h : curOf (findE σ.ents key) = some v) (hc : condF false k (some v) = 0) : ansF σ l = (⟨200, verFlds v (stampL v.time), if m = 0 then v.body else []⟩, σ) := by
  rw [ans_of hr (by simp), ask_r (by simp) hw]
  have e : aimF (findE σ.ents key) ⟨1, key, 0⟩ = some v := h
  simp only [e, hc]
  rfl
theorem read_key0 {mt key : List UInt8} {m : Nat} (hm : methF mt = some m ∧ ∀ c ∈ mt, c ≠ 32 ∧ c ≠ 13) (hl : mt.length < 10) (hf : fitsF m 1 = true) (h : keyOK key = true) : readF (reqB mt (47 :: key) [] []) = .ok (m, ⟨1, key, 0⟩, k0, []) :=
  rf6 (by have := (key_no h).2.1; rw [reqB_len]; simp; omega) (parse_req0 hm.1 hm.2 (key13 h) (target_key h)) (by simp) (by simp) hf
end Go.Proofs.YtmehkneofinmiabGreatDoor

namespace Go.Proofs.YtmehkneofinmiabGreatDoor
open Go.RowKit
theorem asks {B : Nat} {b s n : Nat} {σ : St} {M : Mem} {vs : Nat → Value} {d c : Nat} (R : List UInt8) (a : Ans) (y : World) (h : Bk B y b s n σ M vs d c) (hR : ansF σ R = (a, σ)) (hl : R.length < 3000) (hc : c ≤ 400) :
    Calls Tryz.prog 11 #[.pointer (some ⟨s, 0, none⟩), .string ⟨R.toArray⟩] y fun e w' => e = .returned (.string ⟨(textF a.told a.flds a.body).toArray⟩) ∧ (∃ M', Bk B w' b s n σ M' vs d c) ∧ Off (fun k => B ≤ k) y w' ∧ (∀ (k : Nat) (cs : Array Value) (f : Nat × Nat), y.heap[k]? = some (.cells cs 42 f) → w'.heap[k]? = some (.cells cs 42 f)) := by
  refine (do_sto R h.sto (by have := h.lg; omega) (by omega) hR).mono ?_
  rintro e w' ⟨rfl, _, M2, hS2, hO2, hP2⟩
  refine ⟨rfl, ⟨M2, ⟨hS2, h.bk.did h.sto.st hO2, h.bB, h.vB, h.ks, h.tm, h.lg, h.ls, h.dn⟩⟩, hP2, fun k cs f hk => ?_⟩
  rw [hO2.block k (Array.getElem?_eq_some_iff.1 hk).1 (fun ho => (own_book h.sto.st ho).2 hk)]
  exact hk
variable {σ : St} {key : List UInt8} {v : Ver}
theorem hd_get (hk : keyOK key = true) (hc : curOf (findE σ.ents key) = some v) : ansF σ (reqB getM (47 :: key) [] []) = (⟨200, verFlds v (stampL v.time), v.body⟩, σ) :=
  get_some (read_key0 m_get (by decide) rfl hk) rfl hc (condF0 _ _)
theorem hd_get0 (hk : keyOK key = true) (hc : curOf (findE σ.ents key) = none) : ansF σ (reqB getM (47 :: key) [] []) = (⟨404, [], []⟩, σ) :=
  get_none (read_key0 m_get (by decide) rfl hk) rfl hc
end Go.Proofs.YtmehkneofinmiabGreatDoor

namespace Go.Proofs.YtmehkneofinmiabGreatDoor
structure Good (σ : St) (c : Nat) : Prop where
  t : σ.time ≤ c * 5000
  e : ∀ E ∈ σ.ents, E.last ≤ c ∧ ∀ v ∈ E.vers, 0 < v.num ∧ v.num ≤ c ∧ v.time ≤ σ.time ∧ v.body.length ≤ 400
theorem Good.more {σ : St} {c : Nat} (h : Good σ c) : Good σ (c + 1) :=
  ⟨Nat.le_trans h.t (Nat.mul_le_mul_right _ (Nat.le_succ _)), fun E hE => ⟨by have := (h.e E hE).1; omega, fun v hv => by have := (h.e E hE).2 v hv; exact ⟨this.1, by omega, this.2.2⟩⟩⟩
theorem findE_or (l : List Ent) (key : List UInt8) : findE l key ∈ l ∨ findE l key = ⟨key, 0, []⟩ := by
  unfold findE
  cases hf : l.find? (fun E => E.key == key) with
  | none => exact Or.inr rfl
  | some E => exact Or.inl (List.mem_of_find?_eq_some hf)
theorem Good.find {σ : St} {c : Nat} (h : Good σ c) (key : List UInt8) : (findE σ.ents key).last ≤ c ∧ ∀ v ∈ (findE σ.ents key).vers, 0 < v.num ∧ v.num ≤ c ∧ v.time ≤ σ.time ∧ v.body.length ≤ 400 := by
  rcases findE_or σ.ents key with hm | hm
  · exact h.e _ hm
  · rw [hm]
    exact ⟨Nat.zero_le _, fun v hv => by cases hv⟩
theorem Good.chg {σ σ' : St} {key body : List UInt8} {k n told c : Nat} (h : Good σ c) (hn : k ≠ 3 → n = (findE σ.ents key).last + 1 ∧ body.length ≤ 400) (hc : chgF σ key k n body = (told, some σ')) : Good σ' (c + 1) := by
  unfold chgF at hc
  split at hc
  · simp at hc
  · split at hc
    · simp at hc
    · simp only [Prod.mk.injEq, Option.some.injEq] at hc
      rw [← hc.2]
      have hf := h.find key
      refine ⟨h.more.t, fun E hE => ?_⟩
      rcases putE_mem hE with rfl | hE
      · unfold applyF
        split
        · exact ⟨Nat.le_succ_of_le hf.1, fun v hv => by
            have := hf.2 v (List.mem_of_mem_eraseIdx hv)
            exact ⟨this.1, by omega, this.2.2⟩⟩
        · rename_i h3
          have hn' := hn h3
          refine ⟨by show n ≤ c + 1; omega, fun v hv => ?_⟩
          rcases List.mem_append.1 hv with hv | hv
          · have := hf.2 v hv
            exact ⟨this.1, by omega, this.2.2⟩
          · rw [List.mem_singleton] at hv
            rw [hv]
            exact ⟨by show 0 < n; omega, by show n ≤ c + 1; omega, Nat.le_refl _, hn'.2⟩
      · exact h.more.e E hE
theorem want_is (E : Ent) (m : Nat) (t : Tgt) (body : List UInt8) (hb : body.length ≤ 400) : (wantF E m t body).1 ≠ 3 → (wantF E m t body).2.1 = E.last + 1 ∧ (wantF E m t body).2.2.length ≤ 400 := by
  unfold wantF
  repeat' split
  all_goals simp [hb]
theorem read_body {l body : List UInt8} {m : Nat} {t : Tgt} {k : Cnd} (h : readF l = .ok (m, t, k, body)) : body.length ≤ 400 := by
  unfold readF at h
  split at h
  · cases h
  · split at h
    · cases h
    · split at h
      · cases h
      · split at h
        · cases h
        · split at h
          · rename_i h4 _
            cases h
            omega
          · cases h
theorem Good.ans {σ : St} {c : Nat} (h : Good σ c) (l : List UInt8) : Good (ansF σ l).2 (c + 1) := by
  unfold ansF
  split
  · exact h.more
  · rename_i m t k body hrd
    have hbd := read_body hrd
    split
    · exact h.more
    · unfold askF
      split
      · exact h.more
      · split
        · exact h.more
        · split
          · split
            · exact h.more
            · rename_i hc
              exact h.chg (want_is _ _ _ _ hbd) hc
          · split
            · exact h.more
            · exact h.more
theorem Good.step {σ : St} {c : Nat} (h : Good σ c) (k a b d : Int) : Good (stepF σ k a b d) (c + 1) := by
  unfold stepF
  split
  · exact h.ans _
  · split
    · exact h.ans _
    · split
      · exact h.ans _
      · split
        · exact h.ans _
        · split
          · exact h.ans _
          · have hp := pk_bd b 5000 (by omega)
            refine ⟨by have := h.t; rw [Nat.add_mul]; show σ.time + (pk b 5000).toNat ≤ _; omega, fun E hE => ⟨(h.more.e E hE).1, fun v hv => ?_⟩⟩
            have := (h.more.e E hE).2 v hv
            exact ⟨this.1, this.2.1, by show v.time ≤ σ.time + (pk b 5000).toNat; omega, this.2.2.2⟩
end Go.Proofs.YtmehkneofinmiabGreatDoor

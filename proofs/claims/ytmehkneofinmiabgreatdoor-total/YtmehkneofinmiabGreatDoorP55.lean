/-
  Texts of this proof, part 55.
-/
import Derived.Test.YtmehkneofinmiabGreatDoorP54
import Derived.Test.YtmehkneofinmiabGreatDoorP51
namespace Go.Proofs.YtmehkneofinmiabGreatDoor
open Go.RowKit
theorem redo_get {σ : St} {r : Rec} : (redoB σ r = true ∧ redoF σ r = some (redoS σ r)) ∨ (redoB σ r = false ∧ redoF σ r = none ∧ redoS σ r = σ) := by
  unfold redoB redoS
  cases redoF σ r with
  | none => right; exact ⟨rfl, rfl, rfl⟩
  | some σ' => left; exact ⟨rfl, rfl⟩
theorem jcut_less {t rest : List UInt8} {r : Rec} (h : cutF t = some (r, rest)) : rest.length < t.length ∧ rest.length + 20 ≤ t.length := by
  have ⟨_, e⟩ := cut_of h
  have := congrArg List.length e
  rw [List.length_append, recF_len] at this
  omega
theorem replay_step {k : Nat} {σ σ' : St} {t rs : List UInt8} {r : Rec} (hc : cutF t = some (r, rs)) (hs : redoF σ r = some σ') : replayF (k + 1) σ t = replayF k σ' rs := by
  conv => lhs; unfold replayF
  rw [hc]
  simp only [hs]
theorem replay_stop {k : Nat} {σ : St} {t rs : List UInt8} {r : Rec} (hc : cutF t = some (r, rs)) (hs : redoF σ r = none) : replayF k σ t = (σ, t) := by
  cases k with
  | zero => rfl
  | succ k =>
    conv => lhs; unfold replayF
    rw [hc]
    simp only [hs]
structure Rpl (w : World) (s n : Nat) (M : Mem) (log : List UInt8) (rv : Value) (wr : World) : Prop where
  ex : ∃ (σ : St) (rest : List UInt8) (M1 : Mem) (d : Nat), rv = .string ⟨rest.toArray⟩ ∧ StoreAt wr s n 0 (fun _ => 0) σ M1 ∧ Off (M.own s n) w wr ∧ (∀ k, M1.own s n k → M.own s n k ∨ w.heap.size ≤ k) ∧ (∀ k, replayF (d + k) st0 log = replayF k σ rest) ∧ d + rest.length ≤ log.length
def lenOf : Value → Nat
  | .string b => b.size
  | _ => 0
set_option maxRecDepth 100000 in
set_option maxHeartbeats 4000000 in
theorem replay_any {s n : Nat} {M : Mem} (log : List UInt8) (w : World) (h : StoreAt w s n 0 (fun _ => 0) st0 M) (hl : log.length ≤ 9223372036854775807)
    (hb : ∀ σ rest, (∃ m, replayF m st0 log = (σ, rest)) → σ.log.length < 140000000000000) :
    Calls Tryz.prog 40 #[.pointer (some ⟨s, 0, none⟩), .string ⟨log.toArray⟩] w fun e w' => ∃ σ rest M', (∀ k, log.length ≤ k → replayF k st0 log = (σ, rest)) ∧ e = .returned (.int .i64 ((log.length : Int) - (rest.length : Int))) ∧ StoreAt w' s n 0 (fun _ => 0) σ M' ∧ Off (M.own s n) w w' ∧ ∀ k, M'.own s n k → M.own s n k ∨ w.heap.size ≤ k := by
  have HH : Hid _ := h
  have HB : Hid _ := hb
  clear h hb
  go_enter Tryz.func40, Tryz.ntmps40
  go_wp2_with fail
  go_loopw [5] (fun rv wr => Rpl w s n M log rv wr) (fun rv _ => lenOf rv)
  case atStart => exact ⟨st0, log, M, 0, rfl, HH.out, Off.refl _ _, fun _ h => Or.inl h, fun k => by rw [Nat.zero_add], by omega⟩
  case round =>
    obtain ⟨σ, rest, M1, d, rfl, hS, hO, hW, hR, hd⟩ := hrel.ex
    clear hrel
    have hlog : σ.log.length < 140000000000000 := HB.out σ rest ⟨d, hR 0⟩
    have HS : Hid _ := hS
    have HO : Hid _ := hO
    have HW : Hid _ := hW
    have HR : Hid _ := hR
    have hsl : s < wr.heap.size := (Array.getElem?_eq_some_iff.1 hS.blk).1
    clear hS hO hW hR HH HB
    cases hc : cutF rest with
    | none =>
      have HC : Hid (Calls Tryz.prog 79 #[.string ⟨rest.toArray⟩] wr fun e w' => e = .returned (.tuple #[recA 0 0 [] 0 [], .string ⟨#[]⟩, .bool false]) ∧ Below wr.heap.size wr w') := by
        have := jcut_any rest wr
        rw [cutOut_no hc] at this
        exact this
      have HEND : Hid (∀ k, log.length ≤ k → replayF k st0 log = (σ, rest)) := fun k hk => by
        obtain ⟨q, rfl⟩ : ∃ q, k = d + q := ⟨k - d, by omega⟩
        rw [HR.out q]
        cases q with
        | zero => rfl
        | succ q => unfold replayF; rw [hc]
      clear hc
      go_wp2_with (go_at_call 79; refine Calls.mono HC.out ?_; rintro e w1 ⟨rfl, b1⟩; have HB1 : Hid _ := b1; have hsz1 := b1.size; clear b1)
      go_ret
      have hb2 : Below wr.heap.size wr (w1.alloc (.cells #[.int .u8 0, .int .i64 0, .string ⟨#[]⟩, .int .i64 0, .string ⟨#[]⟩] 108)) := HB1.out.alloc hsz1 _
      exact ⟨σ, rest, M1, HEND.out, rfl, HS.out.below hb2, HO.out.trans (Off.of_below hb2), HW.out⟩
    | some x =>
      obtain ⟨r, rs⟩ := x
      have hrok := (cut_of hc).1
      have hcl := jcut_less hc
      have HC : Hid (Calls Tryz.prog 79 #[.string ⟨rest.toArray⟩] wr fun e w' => e = .returned (.tuple #[recA r.kind r.time r.key r.num r.body, .string ⟨rs.toArray⟩, .bool true]) ∧ Below wr.heap.size wr w') := by
        have := jcut_any rest wr
        rw [cutOut_yes hc] at this
        exact this
      have HRD : Hid (∀ y, Below wr.heap.size wr y → Calls Tryz.prog 80 #[.pointer (some ⟨s, 0, none⟩), recA r.kind r.time r.key r.num r.body] y fun e w' => Redone y w' e s n M1 (redoB σ r) (redoS σ r)) := fun y hy => redo_any r y (HS.out.below hy) hrok hlog
      rcases redo_get (σ := σ) (r := r) with ⟨hb, hs⟩ | ⟨hb, hs, hs2⟩
      · have HST : Hid (∀ k, replayF (d + 1 + k) st0 log = replayF k (redoS σ r) rs) := fun k => by
          rw [show d + 1 + k = d + (k + 1) by omega, HR.out]
          exact replay_step hc hs
        rw [hb] at HRD
        obtain ⟨σ2, hσ2⟩ : ∃ x, redoS σ r = x := ⟨_, rfl⟩
        rw [hσ2] at HRD HST
        obtain ⟨kd, tm, ky, nm, bd⟩ := r
        clear hc hs hb hσ2 hrok
        dsimp only at HC HRD
        go_wp2_with (first
          | (go_at_call 79; refine Calls.mono HC.out ?_; rintro e w1 ⟨rfl, b1⟩; have HB1 : Hid _ := b1; have hsz1 := b1.size; clear b1)
          | (go_at_call 80; refine Calls.mono (HRD.out _ (HB1.out.alloc hsz1 _)) ?_; rintro e w2 ⟨rfl, M2, hS2, hO2, hW2⟩; have HS2 : Hid _ := hS2; have HO2 : Hid _ := hO2; have HW2 : Hid _ := hW2; clear hS2 hO2 hW2))
        have hb2 := HB1.out.alloc hsz1 (.cells #[.int .u8 kd, .int .i64 tm, .string ⟨ky.toArray⟩, .int .i64 nm, .string ⟨bd.toArray⟩] 108)
        exact ⟨⟨σ2, rs, M2, d + 1, rfl, HS2.out, (HO.out.trans (Off.of_below hb2)).trans' HO2.out (fun k hk h => (HW.out k h).elim id (fun h => by omega)), fun k hk => (HW2.out k hk).elim (HW.out k) (fun h => Or.inr (Nat.le_trans (Nat.le_trans HO.out.size hb2.size) h)), HST.out, by omega⟩, by simp [lenOf, ByteArray.size]; omega⟩
      · have HEND : Hid (∀ k, log.length ≤ k → replayF k st0 log = (σ, rest)) := fun k hk => by
          obtain ⟨q, rfl⟩ : ∃ q, k = d + q := ⟨k - d, by omega⟩
          rw [HR.out q]
          exact replay_stop hc hs
        rw [hb, hs2] at HRD
        obtain ⟨kd, tm, ky, nm, bd⟩ := r
        clear hc hs hs2 hb hrok
        dsimp only at HC HRD
        go_wp2_with (first
          | (go_at_call 79; refine Calls.mono HC.out ?_; rintro e w1 ⟨rfl, b1⟩; have HB1 : Hid _ := b1; have hsz1 := b1.size; clear b1)
          | (go_at_call 80; refine Calls.mono (HRD.out _ (HB1.out.alloc hsz1 _)) ?_; rintro e w2 ⟨rfl, M2, hS2, hO2, hW2⟩; have HS2 : Hid _ := hS2; have HO2 : Hid _ := hO2; have HW2 : Hid _ := hW2; clear hS2 hO2 hW2))
        go_ret
        have hb2 := HB1.out.alloc hsz1 (.cells #[.int .u8 kd, .int .i64 tm, .string ⟨ky.toArray⟩, .int .i64 nm, .string ⟨bd.toArray⟩] 108)
        exact ⟨σ, rest, M2, HEND.out, rfl, HS2.out, (HO.out.trans (Off.of_below hb2)).trans' HO2.out (fun k hk h => (HW.out k h).elim id (fun h => by omega)), fun k hk => (HW2.out k hk).elim (HW.out k) (fun h => Or.inr (Nat.le_trans (Nat.le_trans HO.out.size hb2.size) h))⟩
end Go.Proofs.YtmehkneofinmiabGreatDoor

namespace Go.Proofs.YtmehkneofinmiabGreatDoor
def wtE (E : Ent) : Nat := E.last * 460 + (E.last - E.vers.length) * 60
def wtL : List Ent → Nat
  | [] => 0
  | a :: l => wtE a + wtL l
theorem findE_cons (a : Ent) (l : List Ent) (key : List UInt8) : findE (a :: l) key = if a.key = key then a else findE l key := by
  unfold findE
  rw [List.find?_cons]
  by_cases h : a.key = key
  · rw [if_pos h]
    simp [h]
  · rw [if_neg h]
    have : (a.key == key) = false := by simpa using h
    rw [this]
theorem findE_miss {l : List Ent} {key : List UInt8} (h : ∀ E ∈ l, E.key ≠ key) : findE l key = ⟨key, 0, []⟩ := by
  induction l with
  | nil => rfl
  | cons a l ih => rw [findE_cons, if_neg (h a List.mem_cons_self), ih (fun E hE => h E (List.mem_cons_of_mem _ hE))]
theorem wt_put {l : List Ent} (hr : RiseL l) (E : Ent) : wtL (putE l E) + wtE (findE l E.key) = wtL l + wtE E := by
  induction l with
  | nil => simp [putE, wtL, findE, wtE]
  | cons a l ih =>
    have ⟨h1, h2⟩ := List.pairwise_cons.1 hr
    have ih := ih h2
    rw [putE_cons, findE_cons]
    by_cases e : a.key = E.key
    · rw [if_pos e, if_pos e]
      simp only [wtL]
      omega
    · rw [if_neg e, if_neg e]
      split
      · rename_i hlt
        have hm : findE l E.key = ⟨E.key, 0, []⟩ := findE_miss (fun A hA he => by
          have h3 := cmpB_trans _ _ _ hlt (h1 A hA)
          exact cmpB_ne h3 he.symm)
        rw [hm]
        simp only [wtL, wtE]
        simp
        omega
      · simp only [wtL]
        omega
structure Jb (σ : St) : Prop where
  rise : RiseL σ.ents
  ent : ∀ E ∈ σ.ents, E.vers.length ≤ E.last ∧ E.last ≤ 4294967295
  many : σ.ents.length ≤ 60
  log : σ.log.length ≤ wtL σ.ents
theorem wt_le {l : List Ent} (h : ∀ E ∈ l, E.last ≤ 4294967295) : wtL l ≤ l.length * 2233382993400 := by
  induction l with
  | nil => simp [wtL]
  | cons a l ih =>
    have h1 := ih (fun E hE => h E (List.mem_cons_of_mem _ hE))
    have h2 := h a List.mem_cons_self
    have h3 : wtE a ≤ 2233382993400 := by unfold wtE; omega
    rw [wtL, List.length_cons, Nat.add_mul]
    omega
theorem Jb.short {σ : St} (h : Jb σ) : σ.log.length < 140000000000000 := by
  have h1 := wt_le (fun E hE => (h.ent E hE).2)
  have h2 : σ.ents.length * 2233382993400 ≤ 60 * 2233382993400 := Nat.mul_le_mul_right _ h.many
  have := h.log
  omega
theorem Jb.find {σ : St} (h : Jb σ) (key : List UInt8) : (findE σ.ents key).vers.length ≤ (findE σ.ents key).last := by
  rcases Nat.eq_zero_or_pos (findE σ.ents key).last with h0 | h0
  · unfold findE at h0 ⊢
    cases hf : σ.ents.find? fun E => E.key == key with
    | none => simp
    | some E =>
      have := (h.ent E (List.mem_of_find?_eq_some hf)).1
      simpa using this
  · exact (h.ent _ (findE_mem (by omega))).1
theorem putE_len_le (l : List Ent) (E : Ent) : (putE l E).length ≤ l.length + 1 ∧ ((∃ A ∈ l, A.key = E.key) → RiseL l → (putE l E).length = l.length) := by
  induction l with
  | nil => simp [putE]
  | cons a l ih =>
    rw [putE_cons]
    by_cases e : a.key = E.key
    · rw [if_pos e]; simp
    · rw [if_neg e]
      split
      · rename_i hlt
        refine ⟨by simp, ?_⟩
        rintro ⟨A, hA, hk⟩ hr
        have ⟨h1, _⟩ := List.pairwise_cons.1 hr
        rcases List.mem_cons.1 hA with rfl | hA
        · exact absurd hk e
        · exact absurd hk.symm (cmpB_ne (cmpB_trans _ _ _ hlt (h1 A hA)))
      · refine ⟨by simp; exact ih.1, ?_⟩
        rintro ⟨A, hA, hk⟩ hr
        have ⟨_, h2⟩ := List.pairwise_cons.1 hr
        rcases List.mem_cons.1 hA with rfl | hA
        · exact absurd hk e
        · rw [List.length_cons, List.length_cons, ih.2 ⟨A, hA, hk⟩ h2]
theorem Jb.redo {σ σ' : St} {r : Rec} (h : Jb σ) (hr : RecOK r) (he : redoF σ r = some σ') : Jb σ' := by
  unfold redoF at he
  split at he
  · cases he
  · rename_i hg
    unfold chgF at he
    dsimp only at he
    split at he
    · cases he
    · rename_i ho
      split at he
      · cases he
      · rename_i hf
        injection he with he
        subst he
        have ho' : obstF (findE σ.ents r.key) r.kind r.num = 0 := by simpa using ho
        have hkl := keyOK_le hr.key
        have hfk := findE_key σ.ents r.key
        have hfl := h.find r.key
        obtain ⟨E', hE'⟩ : ∃ x, applyF (findE σ.ents r.key) r.kind r.time r.num r.body = x := ⟨_, rfl⟩
        have hk' : E'.key = r.key := by rw [← hE', applyF_key, hfk]
        have hw := wt_put h.rise E'
        rw [hk'] at hw
        have hbl := hr.body
        have hrl := recF_len r.kind r.time r.key r.num r.body
        have hstep : E'.vers.length ≤ E'.last ∧ E'.last ≤ 4294967295 ∧ wtE (findE σ.ents r.key) + (20 + r.key.length + r.body.length) ≤ wtE E' := by
          by_cases hk3 : r.kind = 3
          · obtain ⟨i, hi⟩ := (obst_zero ho').1 hk3
            have hb0 := hr.none (by omega)
            have hlt : i < (findE σ.ents r.key).vers.length := by
              obtain ⟨v, hv, _⟩ := vidx_get hi
              exact (List.getElem?_eq_some_iff.1 hv).1
            have e : E' = ⟨(findE σ.ents r.key).key, (findE σ.ents r.key).last, (findE σ.ents r.key).vers.eraseIdx i⟩ := by rw [← hE']; simp [applyF, hk3, hi]
            have hlen : E'.vers.length = (findE σ.ents r.key).vers.length - 1 := by rw [e]; simp [List.length_eraseIdx, hlt]
            have hla : E'.last = (findE σ.ents r.key).last := by rw [e]
            have hle : (findE σ.ents r.key).last ≤ 4294967295 := (h.ent _ (findE_mem (by omega))).2
            rw [hb0]
            unfold wtE
            rw [hlen, hla]
            simp only [List.length_nil]
            omega
          · have hn : r.num = (findE σ.ents r.key).last + 1 := by
              rcases Nat.eq_or_lt_of_le (Nat.le_refl r.num) with _ | _
              · exact Classical.byContradiction fun hne => hg (Or.inr ⟨hk3, hne⟩)
              · omega
            have e : E' = ⟨(findE σ.ents r.key).key, r.num, (findE σ.ents r.key).vers ++ [⟨r.num, r.time, r.kind == 2, r.body⟩]⟩ := by rw [← hE']; simp [applyF, hk3]
            have hlen : E'.vers.length = (findE σ.ents r.key).vers.length + 1 := by rw [e]; simp
            have hla : E'.last = (findE σ.ents r.key).last + 1 := by rw [e, hn]
            have := hr.num
            unfold wtE
            rw [hlen, hla]
            omega
        refine ⟨putE_rise h.rise _, fun E hE => ?_, ?_, ?_⟩
        · rw [hE'] at hE
          rcases putE_mem hE with rfl | hE
          · exact ⟨hstep.1, hstep.2.1⟩
          · exact h.ent E hE
        · rw [hE']
          have hp := putE_len_le σ.ents E'
          by_cases hl : (findE σ.ents r.key).last = 0
          · have : σ.ents.length < 60 := by
              rcases Nat.lt_or_ge σ.ents.length 60 with h1 | h1
              · exact h1
              · exact absurd ⟨hl, h1⟩ hf
            show (putE σ.ents E').length ≤ 60
            omega
          · show (putE σ.ents E').length ≤ 60
            rw [hp.2 ⟨_, findE_mem hl, by rw [hfk, hk']⟩ h.rise]
            exact h.many
        · show (σ.log ++ recF _ _ _ _ _).length ≤ wtL (putE σ.ents _)
          rw [hE', List.length_append, hrl]
          have := h.log
          omega
theorem replay_short : ∀ (m : Nat) (σ σ' : St) (t rest : List UInt8), Jb σ → replayF m σ t = (σ', rest) → Jb σ' := by
  intro m
  induction m with
  | zero =>
    intro σ σ' t rest h e
    injection e with e1 _
    exact e1 ▸ h
  | succ m ih =>
    intro σ σ' t rest h e
    unfold replayF at e
    cases hc : cutF t with
    | none =>
      rw [hc] at e
      injection e with e1 _
      exact e1 ▸ h
    | some x =>
      obtain ⟨r, rs⟩ := x
      rw [hc] at e
      cases hr : redoF σ r with
      | none =>
        simp only [hr] at e
        injection e with e1 _
        exact e1 ▸ h
      | some σ1 =>
        simp only [hr] at e
        exact ih σ1 σ' rs rest (h.redo (cut_of hc).1 hr) e
end Go.Proofs.YtmehkneofinmiabGreatDoor

namespace Go.Proofs.YtmehkneofinmiabGreatDoor
open Go.RowKit
noncomputable def foundF (log : List UInt8) : St × List UInt8 := replayF log.length st0 log
theorem jb0 : Jb st0 := ⟨by simp [st0, RiseL], fun E hE => by simp [st0] at hE, by simp [st0], by simp [st0]⟩
theorem found_short (log : List UInt8) : Jb (foundF log).1 := replay_short log.length st0 _ log _ jb0 rfl
theorem found_log (log : List UInt8) : log = (foundF log).1.log ++ (foundF log).2 ∧ foundF (foundF log).1.log = ((foundF log).1, []) := by
  obtain ⟨c, h1, h2, h3⟩ := replay_of log.length st0 (foundF log).1 log (foundF log).2 rfl
  have e : (foundF log).1.log = c := by rw [h2]; simp [st0]
  refine ⟨by rw [e]; exact h1, ?_⟩
  rw [e]
  exact h3 c.length (Nat.le_refl _)
set_option maxRecDepth 100000 in
set_option maxHeartbeats 2000000 in
theorem open_any (log : List UInt8) (n : Nat) (w : World) (h1 : 1 ≤ n) (h8 : n ≤ 8) (hl : log.length ≤ 9223372036854775807) :
    Calls Tryz.prog 23 #[.string ⟨log.toArray⟩, .int .i64 n] w fun e w' => ∃ s M, e = .returned (.tuple #[.pointer (some ⟨s, 0, none⟩), .int .i64 (((foundF log).1.log.length : Nat) : Int), .int .i64 0]) ∧ StoreAt w' s n 0 (fun _ => 0) (foundF log).1 M ∧ Below w.heap.size w w' ∧ ∀ k, M.own s n k → w.heap.size ≤ k := by
  have HN : Hid _ := new_yes n w h1 h8
  have hlen : ((foundF log).1.log.length : Int) = (log.length : Int) - ((foundF log).2.length : Int) := by
    have := congrArg List.length (found_log log).1
    rw [List.length_append] at this
    omega
  obtain ⟨σ0, r0, hF⟩ : ∃ σ0 r0, foundF log = (σ0, r0) := ⟨_, _, rfl⟩
  rw [hF] at hlen ⊢
  dsimp only at hlen ⊢
  have HFD : Hid _ := hF
  have HLE : Hid _ := hlen
  clear hlen hF
  go_enter Tryz.func23, Tryz.ntmps23
  go_wp2_with fail
  refine Calls.mono HN.out ?_
  rintro e w1 ⟨s, M, rfl, hS, hb, hO⟩
  have HR : Hid _ := replay_any log w1 hS hl (fun σ rest ⟨m, hm⟩ => (replay_short m st0 σ log rest jb0 hm).short)
  have HB : Hid _ := hb
  have HO : Hid _ := hO
  clear hS hb hO HN
  go_wp2_with fail
  refine Calls.mono HR.out ?_
  rintro e w2 ⟨σ, rest, M2, hk, rfl, hS2, hO2, hW2⟩
  have hf : foundF log = (σ, rest) := hk log.length (Nat.le_refl _)
  obtain ⟨rfl, rfl⟩ : σ0 = σ ∧ r0 = rest := by
    have := HFD.out.symm.trans hf
    injection this with h1 h2
    exact ⟨h1, h2⟩
  have H1 : Hid _ := hS2
  have H2 : Hid (Below w.heap.size w w2) := HB.out.trans ⟨hO2.os, hO2.tape, hO2.output, hO2.size, fun k hk => hO2.block k (Nat.lt_of_lt_of_le hk HB.out.size) (fun h => by have := HO.out k h; omega)⟩
  have H3 : Hid (∀ k, M2.own s n k → w.heap.size ≤ k) := fun k hk => (hW2 k hk).elim (HO.out k) (fun h => Nat.le_trans HB.out.size h)
  clear hk hf hS2 hO2 hW2 HR HB HO
  go_wp2_with fail
  refine bodyPost_ret (results_tmp3 Tryz.results23 _ _ _) rfl ⟨s, M2, ?_, H1.out, H2.out, H3.out⟩
  rw [HLE.out]
  rfl
end Go.Proofs.YtmehkneofinmiabGreatDoor

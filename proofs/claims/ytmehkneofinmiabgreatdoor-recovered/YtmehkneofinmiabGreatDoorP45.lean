/-
 Texts of this proof, part 45.
-/
import Derived.Test.YtmehkneofinmiabGreatDoorP44
set_option maxRecDepth 100000
set_option maxHeartbeats 2000000
namespace Go.Proofs.YtmehkneofinmiabGreatDoor
open Go.RowKit
noncomputable def foundF (log : List UInt8) : St × List UInt8 := replayF log.length st0 log
theorem jb0 : Jb st0 := ⟨by simp [st0, RiseL], fun E hE => by simp [st0] at hE, by simp [st0], by simp [st0]⟩
theorem found_log (log : List UInt8) : log = (foundF log).1.log ++ (foundF log).2 /\ foundF (foundF log).1.log = ((foundF log).1, []) := by
 obtain ⟨c, h1, h2, h3⟩ := replay_of log.length st0 (foundF log).1 log (foundF log).2 rfl
 have e : (foundF log).1.log = c := by rw [h2]; simp [st0]
 refine ⟨by rw [e]; exact h1, ?_⟩
 rw [e]
 exact h3 c.length (Nat.le_refl _)
theorem open_any (log : List UInt8) (n : Nat) (w : World) (h1 : 1 <= n) (h8 : n <= 8) (hl : log.length <= 9223372036854775807) :
 Calls Tryz.prog 23 #[.string ⟨log.toArray⟩, .int .i64 n] w fun e w' => ∃ s M, e = .returned (.tuple #[.pointer (some ⟨s, 0, none⟩), .int .i64 (((foundF log).1.log.length : Nat) : Int), .int .i64 0]) /\ StoreAt w' s n 0 (fun _ => 0) (foundF log).1 M /\ Below w.heap.size w w' /\ ∀ k, M.own s n k -> w.heap.size <= k := by
 have HN : Hid _ := new_yes n w h1 h8
 have hlen : ((foundF log).1.log.length : Int) = (log.length : Int) - ((foundF log).2.length : Int) := by
  have := congrArg List.length (found_log log).1
  rw [List.length_append] at this
  omega
 obtain ⟨σ0, r0, hF⟩ : ∃ σ0 r0, foundF log = (σ0, r0) := ⟨_, _, rfl⟩
 rw [hF] at hlen ⊢
 dsimp only at hlen ⊢
 have HFD : Hid _ := hF
 have HLE : Hid _ := hlen
 clear hlen hF
 go_enter Tryz.func23, Tryz.ntmps23
 go_wp2_with fail
 refine Calls.mono HN.out ?_
 rintro e w1 ⟨s, M, rfl, hS, hb, hO⟩
 have HR : Hid _ := replay_any log w1 hS hl (fun σ rest ⟨m, hm⟩ => (replay_short m st0 σ log rest jb0 hm).short)
 have HB : Hid _ := hb
 have HO : Hid _ := hO
 clear hS hb hO HN
 go_wp2_with fail
 refine Calls.mono HR.out ?_
 rintro e w2 ⟨σ, rest, M2, hk, rfl, hS2, hO2, hW2⟩
 have hf : foundF log = (σ, rest) := hk log.length (Nat.le_refl _)
 obtain ⟨rfl, rfl⟩ : σ0 = σ /\ r0 = rest := by
  have := HFD.out.symm.trans hf
  injection this with h1 h2
  exact ⟨h1, h2⟩
 have H1 : Hid _ := hS2
 have H2 : Hid (Below w.heap.size w w2) := HB.out.trans ⟨hO2.os, hO2.tape, hO2.output, hO2.size, fun k hk => hO2.block k (Nat.lt_of_lt_of_le hk HB.out.size) (fun h => by have := HO.out k h; omega)⟩
 have H3 : Hid (∀ k, M2.own s n k -> w.heap.size <= k) := fun k hk => (hW2 k hk).elim (HO.out k) (fun h => Nat.le_trans HB.out.size h)
 clear hk hf hS2 hO2 hW2 HR HB HO
 go_wp2_with fail
 refine bodyPost_ret (results_tmp3 Tryz.results23 _ _ _) rfl ⟨s, M2, ?_, H1.out, H2.out, H3.out⟩
 rw [HLE.out]
 rfl
end Go.Proofs.YtmehkneofinmiabGreatDoor
namespace Go.Proofs.YtmehkneofinmiabGreatDoor
theorem cut_front {r : Rec} (hr : RecOK r) {j : Nat} (hj : j < (recF r.kind r.time r.key r.num r.body).length) : cutF ((recF r.kind r.time r.key r.num r.body).take j) = none := by
 cases hc : cutF ((recF r.kind r.time r.key r.num r.body).take j) with
 | none => rfl
 | some x =>
   exfalso
   obtain ⟨r', rest⟩ := x
   have ⟨hr', e⟩ := cut_of hc
   have hl := congrArg List.length e
   have hl1 := recF_len r.kind r.time r.key r.num r.body
   have hl2 := recF_len r'.kind r'.time r'.key r'.num r'.body
   rw [List.length_take, List.length_append, hl2, hl1] at hl
   have hp1 := payF_len r.kind r.time r.key r.num r.body
   have hp2 := payF_len r'.kind r'.time r'.key r'.num r'.body
   have hk1 := keyOK_le hr.key
   have hk2 := keyOK_le hr'.key
   have hb1 := hr.body
   have hb2 := hr'.body
   have h2 : (recF r.kind r.time r.key r.num r.body).take 2 = (recF r'.kind r'.time r'.key r'.num r'.body).take 2 := by
    have h3 := congrArg (List.take 2) e
    rw [List.take_take, Nat.min_eq_left (by omega), List.take_append_of_le_length (by omega)] at h3
    exact h3
   unfold recF at h2
   rw [List.take_left' (by rw [be_len]), List.take_left' (by rw [be_len])] at h2
   have h4 := congrArg unbe h2
   rw [unbe_be, unbe_be, hp1, hp2, Nat.mod_eq_of_lt (by omega), Nat.mod_eq_of_lt (by omega)] at h4
   omega
theorem chg_rec {σ σ' : St} {key body : List UInt8} {k n told : Nat} (h : chgF σ key k n body = (told, some σ')) (hk : k = 1 \/ k = 2 \/ k = 3) (hkey : keyOK key = true) (hn : n < 4294967296) (hnx : k ≠ 3 -> n = (findE σ.ents key).last + 1) (hb : body.length <= 400) (hb1 : k ≠ 1 -> body = []) (ht : σ.time <= 253402300799) :
 ∃ r, RecOK r /\ r.time = σ.time /\ σ'.time = σ.time /\ ∀ t0, t0 <= σ.time -> redoF ⟨t0, σ.ents, σ.log⟩ r = some σ' := by
 have ht' : σ'.time = σ.time := by
  unfold chgF at h
  split at h
  ·injection h with _ h2; cases h2
  ·split at h
   ·injection h with _ h2; cases h2
   ·injection h with _ h2
    injection h2 with h2
    rw [<- h2]
 refine ⟨⟨k, σ.time, key, n, body⟩, ⟨hk, ht, hkey, hn, hb, hb1⟩, rfl, ht', fun t0 h0 => ?_⟩
 unfold redoF
 rw [if_neg (by
  rintro (h1 | ⟨h1, h2⟩)
  ·exact absurd h1 (Nat.not_lt.2 h0)
  ·exact h2 (hnx h1))]
 show (chgF ⟨σ.time, σ.ents, σ.log⟩ key k n body).2 = _
 rw [show (⟨σ.time, σ.ents, σ.log⟩ : St) = σ from rfl, h]
theorem ans_rec {σ : St} (R : List UInt8) (hl : ∀ key, (findE σ.ents key).last < 4294967295) (ht : σ.time <= 253402300799) :
 (ansF σ R).2 = σ \/ ∃ r, RecOK r /\ r.time = σ.time /\ (ansF σ R).2.time = σ.time /\ ∀ t0, t0 <= σ.time -> redoF ⟨t0, σ.ents, σ.log⟩ r = some (ansF σ R).2 := by
 cases hr : readF R with
 | error n => left; simp [ansF, hr]
 | ok x =>
   obtain ⟨m, t, k, body⟩ := x
   by_cases h0 : t.kind = 0
   ·left; simp [ansF, hr, h0]
   ·have ⟨r1, _, r3, r4⟩ := read_ok hr
    have hkey := r1 h0
    have ea : ansF σ R = askF σ m t k body := by simp [ansF, hr, h0]
    rw [ea]
    unfold askF
    split
    ·left; rfl
    ·split
     ·left; rfl
     ·split
      ·cases hc : chgF σ t.key (wantF (findE σ.ents t.key) m t body).1 (wantF (findE σ.ents t.key) m t body).2.1 (wantF (findE σ.ents t.key) m t body).2.2 with
       | mk told o =>
         cases o with
         | none => left; rfl
         | some σ' =>
           right
           have hlt := hl t.key
           refine chg_rec hc ?_ hkey ?_ ?_ ?_ ?_ ht
           all_goals unfold wantF
           ·split
            ·left; rfl
            ·split
             ·right; right; rfl
             ·right; left; rfl
           ·split
            ·show (findE σ.ents t.key).last + 1 < 4294967296; omega
            ·split
             ·show t.num < 4294967296; omega
             ·show (findE σ.ents t.key).last + 1 < 4294967296; omega
           ·split
            ·intro _; rfl
            ·split
             ·intro h; exact absurd rfl h
             ·intro _; rfl
           ·split
            ·exact r4
            ·split <;> simp
           ·split
            ·intro h; exact absurd rfl h
            ·split <;> (intro _; rfl)
      ·split <;> (left; rfl)
def Reads (σ : St) : Prop := ∃ t m, t <= σ.time /\ m <= σ.log.length /\ ∀ K tail, replayF (m + K) st0 (σ.log ++ tail) = replayF K ⟨t, σ.ents, σ.log⟩ tail
theorem Reads.zero : Reads st0 := ⟨0, 0, Nat.le_refl _, Nat.le_refl _, fun K tail => by rw [Nat.zero_add]; rfl⟩
theorem Reads.more {σ σ' : St} {r : Rec} (h : Reads σ) (hr : RecOK r) (hd : ∀ t0, t0 <= σ.time -> redoF ⟨t0, σ.ents, σ.log⟩ r = some σ') :
 σ'.log = σ.log ++ recF r.kind r.time r.key r.num r.body /\ ∃ m, m <= σ'.log.length /\ ∀ K tail, replayF (m + K) st0 (σ'.log ++ tail) = replayF K σ' tail := by
 obtain ⟨t, m, h1, h2, h3⟩ := h
 have hs := hd t h1
 have hlog : σ'.log = σ.log ++ recF r.kind r.time r.key r.num r.body := redo_log (σ := ⟨t, σ.ents, σ.log⟩) hs
 refine ⟨hlog, m + 1, ?_, fun K tail => ?_⟩
 ·rw [hlog, List.length_append, recF_len]
  omega
 ·rw [hlog, List.append_assoc, show m + 1 + K = m + (K + 1) by omega, h3]
  exact replay_step (of_cut hr tail) hs
structure Good (σ : St) (c : Nat) : Prop where
 t : σ.time <= c * 5000
 e : ∀ E ∈ σ.ents, E.last <= c /\ ∀ v ∈ E.vers, 0 < v.num /\ v.num <= c /\ v.time <= σ.time /\ v.body.length <= 400
theorem Good.more {σ : St} {c : Nat} (h : Good σ c) : Good σ (c + 1) :=
 ⟨Nat.le_trans h.t (Nat.mul_le_mul_right _ (Nat.le_succ _)), fun E hE => ⟨by have := (h.e E hE).1; omega, fun v hv => by have := (h.e E hE).2 v hv; exact ⟨this.1, by omega, this.2.2⟩⟩⟩
theorem findE_or (l : List Ent) (key : List UInt8) : findE l key ∈ l \/ findE l key = ⟨key, 0, []⟩ := by
 unfold findE
 cases hf : l.find? (fun E => E.key == key) with
 | none => exact Or.inr rfl
 | some E => exact Or.inl (List.mem_of_find?_eq_some hf)
theorem Good.find {σ : St} {c : Nat} (h : Good σ c) (key : List UInt8) : (findE σ.ents key).last <= c /\ ∀ v ∈ (findE σ.ents key).vers, 0 < v.num /\ v.num <= c /\ v.time <= σ.time /\ v.body.length <= 400 := by
 rcases findE_or σ.ents key with hm | hm
 ·exact h.e _ hm
 ·rw [hm]
  exact ⟨Nat.zero_le _, fun v hv => by cases hv⟩
theorem Good.chg {σ σ' : St} {key body : List UInt8} {k n told c : Nat} (h : Good σ c) (hn : k ≠ 3 -> n = (findE σ.ents key).last + 1 /\ body.length <= 400) (hc : chgF σ key k n body = (told, some σ')) : Good σ' (c + 1) := by
 unfold chgF at hc
 split at hc
 ·simp at hc
 ·split at hc
  ·simp at hc
  ·simp only [Prod.mk.injEq, Option.some.injEq] at hc
   rw [<- hc.2]
   have hf := h.find key
   refine ⟨h.more.t, fun E hE => ?_⟩
   rcases putE_mem hE with rfl | hE
   ·unfold applyF
    split
    ·exact ⟨Nat.le_succ_of_le hf.1, fun v hv => by
      have := hf.2 v (List.mem_of_mem_eraseIdx hv)
      exact ⟨this.1, by omega, this.2.2⟩⟩
    ·rename_i h3
     have hn' := hn h3
     refine ⟨by show n <= c + 1; omega, fun v hv => ?_⟩
     rcases List.mem_append.1 hv with hv | hv
     ·have := hf.2 v hv
      exact ⟨this.1, by omega, this.2.2⟩
     ·rw [List.mem_singleton] at hv
      rw [hv]
      exact ⟨by show 0 < n; omega, by show n <= c + 1; omega, Nat.le_refl _, hn'.2⟩
   ·exact h.more.e E hE
theorem want_is (E : Ent) (m : Nat) (t : Tgt) (body : List UInt8) (hb : body.length <= 400) : (wantF E m t body).1 ≠ 3 -> (wantF E m t body).2.1 = E.last + 1 /\ (wantF E m t body).2.2.length <= 400 := by
 unfold wantF
 repeat' split
 all_goals simp [hb]
theorem read_body {l body : List UInt8} {m : Nat} {t : Tgt} {k : Cnd} (h : readF l = .ok (m, t, k, body)) : body.length <= 400 := by
 unfold readF at h
 split at h
 ·cases h
 ·split at h
  ·cases h
  ·split at h
   ·cases h
   ·split at h
    ·cases h
    ·split at h
     ·rename_i h4 _
      cases h
      omega
     ·cases h
theorem Good.ans {σ : St} {c : Nat} (h : Good σ c) (l : List UInt8) : Good (ansF σ l).2 (c + 1) := by
 unfold ansF
 split
 ·exact h.more
 ·rename_i m t k body hrd
  have hbd := read_body hrd
  split
  ·exact h.more
  ·unfold askF
   split
   ·exact h.more
   ·split
    ·exact h.more
    ·split
     ·split
      ·exact h.more
      ·rename_i hc
       exact h.chg (want_is _ _ _ _ hbd) hc
     ·split
      ·exact h.more
      ·exact h.more
theorem Good.step {σ : St} {c : Nat} (h : Good σ c) (k a b d : Int) : Good (stepF σ k a b d) (c + 1) := by
 unfold stepF
 split
 ·exact h.ans _
 ·split
  ·exact h.ans _
  ·split
   ·exact h.ans _
   ·split
    ·exact h.ans _
    ·split
     ·exact h.ans _
     ·have hp := pk_bd b 5000 (by omega)
      refine ⟨by have := h.t; rw [Nat.add_mul]; show σ.time + (pk b 5000).toNat <= _; omega, fun E hE => ⟨(h.more.e E hE).1, fun v hv => ?_⟩⟩
      have := (h.more.e E hE).2 v hv
      exact ⟨this.1, this.2.1, by show v.time <= σ.time + (pk b 5000).toNat; omega, this.2.2.2⟩
theorem good_play (l : List Stp) : ∀ σ c, Good σ c -> Good (playF σ l) (c + l.length) := by
 induction l with
 | nil => exact fun σ c h => h
 | cons o l ih =>
   intro σ c h
   have := ih _ _ (h.step o.k o.a o.b o.c)
   rw [show c + (o::l).length = c + 1 + l.length by simp; omega]
   exact this
theorem step_rec {σ : St} (o : Stp) {c : Nat} (hg : Good σ c) (hc : c <= 1000) :
 ((stepF σ o.k o.a o.b o.c).log = σ.log /\ (stepF σ o.k o.a o.b o.c).ents = σ.ents /\ σ.time <= (stepF σ o.k o.a o.b o.c).time) \/
 ∃ r, RecOK r /\ r.time = σ.time /\ (stepF σ o.k o.a o.b o.c).time = σ.time /\ ∀ t0, t0 <= σ.time -> redoF ⟨t0, σ.ents, σ.log⟩ r = some (stepF σ o.k o.a o.b o.c) := by
 have hl : ∀ key, (findE σ.ents key).last < 4294967295 := fun key => by
  rcases findE_or σ.ents key with h | h
  ·have := (hg.e _ h).1
   omega
  ·rw [h]
   show 0 < 4294967295
   omega
 have ht : σ.time <= 253402300799 := by
  have := hg.t
  have h2 : c * 5000 <= 1000 * 5000 := Nat.mul_le_mul_right _ hc
  omega
 have key : ∀ R, ((ansF σ R).2.log = σ.log /\ (ansF σ R).2.ents = σ.ents /\ σ.time <= (ansF σ R).2.time) \/ ∃ r, RecOK r /\ r.time = σ.time /\ (ansF σ R).2.time = σ.time /\ ∀ t0, t0 <= σ.time -> redoF ⟨t0, σ.ents, σ.log⟩ r = some (ansF σ R).2 := fun R => by
  rcases ans_rec R hl ht with h | h
  ·left
   rw [h]
   exact ⟨rfl, rfl, Nat.le_refl _⟩
  ·exact Or.inr h
 unfold stepF
 split
 ·exact key _
 ·split
  ·exact key _
  ·split
   ·exact key _
   ·split
    ·exact key _
    ·split
     ·exact key _
     ·exact Or.inl ⟨rfl, rfl, Nat.le_add_right _ _⟩
structure Parts (S : Nat -> St) (i : Nat) : Prop where
 mono : ∀ q, q <= i -> (S q).log.length <= (S i).log.length
 rd : Reads (S i)
 all : ∃ j, j <= i /\ foundF (S i).log = (S j, []) /\ (S j).log = (S i).log /\ (∀ q, q < j -> (S q).log.length < (S j).log.length)
 part : ∀ n, n <= (S i).log.length -> ∃ j rest, j <= i /\ foundF ((S i).log.take n) = (S j, rest) /\ (S j).log = (S i).log.take (S j).log.length /\ (S j).log.length <= n /\ (∀ q, q < j -> (S q).log.length < (S j).log.length) /\
  ((S j).log.length < n -> ∃ r : Rec, RecOK r /\ (recF r.kind r.time r.key r.num r.body).length + (S j).log.length > n /\ (recF r.kind r.time r.key r.num r.body).take (n - (S j).log.length) = ((S i).log.take n).drop (S j).log.length)
theorem Reads.found {σ : St} (h : Reads σ) {τ : St} (hf : foundF σ.log = (τ, [])) (tail : List UInt8) (hc : cutF tail = none) : foundF (σ.log ++ tail) = (τ, tail) := by
 obtain ⟨t, m, h1, h2, h3⟩ := h
 have e0 : foundF σ.log = (⟨t, σ.ents, σ.log⟩, []) := by
  have := h3 (σ.log.length - m) []
  rw [List.append_nil, show m + (σ.log.length - m) = σ.log.length by omega] at this
  show replayF σ.log.length st0 σ.log = _
  rw [this]
  cases σ.log.length - m with
  | zero => rfl
  | succ k => unfold replayF; rw [cut_nil]
 have e1 : τ = ⟨t, σ.ents, σ.log⟩ := by
  have := hf.symm.trans e0
  injection this
 have := h3 ((σ.log ++ tail).length - m) tail
 rw [show m + ((σ.log ++ tail).length - m) = (σ.log ++ tail).length by rw [List.length_append]; omega] at this
 show replayF (σ.log ++ tail).length st0 (σ.log ++ tail) = _
 rw [this, e1]
 cases (σ.log ++ tail).length - m with
 | zero => rfl
 | succ k => unfold replayF; rw [hc]
theorem Parts.zero (S : Nat -> St) (h : S 0 = st0) : Parts S 0 := by
 have e : foundF [] = (S 0, []) := by rw [h]; rfl
 refine ⟨fun q hq => by rw [show q = 0 by omega]; exact Nat.le_refl _, by rw [h]; exact Reads.zero, ⟨0, Nat.le_refl _, by rw [show (S 0).log = [] by rw [h]; rfl]; exact e, rfl, fun q hq => by omega⟩, fun n hn => ⟨0, [], Nat.le_refl _, ?_, ?_, by rw [h]; exact Nat.zero_le _, fun q hq => by omega, fun hlt => ?_⟩⟩
 ·rw [show (S 0).log = [] by rw [h]; rfl, List.take_nil]
  exact e
 ·rw [show (S 0).log = [] by rw [h]; rfl]
  rfl
 ·omega
theorem Parts.same {S : Nat -> St} {i : Nat} (h : Parts S i) (hl : (S (i + 1)).log = (S i).log) (he : (S (i + 1)).ents = (S i).ents) (ht : (S i).time <= (S (i + 1)).time) : Parts S (i + 1) := by
 refine ⟨fun q hq => ?_, ?_, ?_, fun n hn => ?_⟩
 ·rcases Nat.lt_or_ge i q with h1 | h1
  ·rw [show q = i + 1 by omega]
   exact Nat.le_refl _
  ·rw [hl]
   exact h.mono q h1
 ·obtain ⟨t, m, h1, h2, h3⟩ := h.rd
  refine ⟨t, m, Nat.le_trans h1 ht, by rw [hl]; exact h2, ?_⟩
  rw [hl, he]
  exact h3
 ·obtain ⟨j, h1, h2, h3, h4⟩ := h.all
  exact ⟨j, by omega, by rw [hl]; exact h2, by rw [hl]; exact h3, h4⟩
 ·rw [hl] at hn ⊢
  obtain ⟨j, rest, h1, h2⟩ := h.part n hn
  exact ⟨j, rest, by omega, h2⟩
theorem Parts.more {S : Nat -> St} {i : Nat} (h : Parts S i) {r : Rec} (hr : RecOK r) (hd : ∀ t0, t0 <= (S i).time -> redoF ⟨t0, (S i).ents, (S i).log⟩ r = some (S (i + 1))) : Parts S (i + 1) := by
 obtain ⟨hlog, m, hm, hR⟩ := h.rd.more hr hd
 have hrl := recF_len r.kind r.time r.key r.num r.body
 obtain ⟨R, hRe⟩ : ∃ R, recF r.kind r.time r.key r.num r.body = R := ⟨_, rfl⟩
 have hlt : (S i).log.length < (S (i + 1)).log.length := by rw [hlog, List.length_append, hrl]; omega
 have hall : foundF (S (i + 1)).log = (S (i + 1), []) := by
  have := hR ((S (i + 1)).log.length - m) []
  rw [List.append_nil, show m + ((S (i + 1)).log.length - m) = (S (i + 1)).log.length by omega] at this
  show replayF (S (i + 1)).log.length st0 (S (i + 1)).log = _
  rw [this]
  cases (S (i + 1)).log.length - m with
  | zero => rfl
  | succ k => unfold replayF; rw [cut_nil]
 have hmin : ∀ q, q < i + 1 -> (S q).log.length < (S (i + 1)).log.length := fun q hq => Nat.lt_of_le_of_lt (h.mono q (by omega)) hlt
 refine ⟨fun q hq => ?_, ⟨(S (i + 1)).time, m, Nat.le_refl _, hm, hR⟩, ⟨i + 1, Nat.le_refl _, hall, rfl, hmin⟩, fun n hn => ?_⟩
 ·rcases Nat.eq_or_lt_of_le hq with h1 | h1
  ·rw [h1]; exact Nat.le_refl _
  ·exact Nat.le_of_lt (hmin q h1)
 ·rcases Nat.lt_or_ge (S i).log.length n with h1 | h1
  ·rcases Nat.lt_or_ge n (S (i + 1)).log.length with h2 | h2
   ·obtain ⟨j, j1, j2, j3, j4⟩ := h.all
    have hfr := cut_front hr (j := n - (S i).log.length) (by rw [hlog, List.length_append] at h2; omega)
    rw [hRe] at hfr hlog hrl
    have htk : (S (i + 1)).log.take n = (S i).log ++ R.take (n - (S i).log.length) := by
     rw [hlog, List.take_append, List.take_of_length_le (by omega)]
    have hjl : (S j).log.length = (S i).log.length := by rw [j3]
    refine ⟨j, R.take (n - (S i).log.length), by omega, ?_, ?_, by omega, j4, fun _ => ⟨r, hr, ?_, ?_⟩⟩
    ·rw [htk]
     exact h.rd.found j2 _ hfr
    ·rw [hjl, hlog, List.take_left, j3]
    ·rw [hRe, hjl]
     rw [hlog, List.length_append] at h2
     omega
    ·rw [hRe, htk, hjl, List.drop_left]
   ·have hn' : n = (S (i + 1)).log.length := by omega
    refine ⟨i + 1, [], Nat.le_refl _, ?_, ?_, by omega, hmin, fun h => by omega⟩
    ·rw [hn', List.take_length]
     exact hall
    ·rw [List.take_length]
  ·obtain ⟨j, rest, p1, p2, p3, p4, p5, p6⟩ := h.part n h1
   have htk : (S (i + 1)).log.take n = (S i).log.take n := by rw [hlog, List.take_append_of_le_length h1]
   refine ⟨j, rest, by omega, by rw [htk]; exact p2, ?_, p4, p5, ?_⟩
   ·rw [hlog, List.take_append_of_le_length (by omega)]
    exact p3
   ·rw [htk]
    exact p6
theorem good_take (l : List Stp) (i : Nat) : Good (playF st0 (l.take i)) (l.take i).length := by
 have h0 : Good st0 0 := ⟨by decide, fun E hE => by cases hE⟩
 have h1 := good_play (l.take i) _ _ h0
 rw [Nat.zero_add] at h1
 exact h1
theorem parts_play (l : List Stp) (hl : l.length <= 1000) : ∀ i, i <= l.length -> Parts (fun i => playF st0 (l.take i)) i
 | 0, _ => Parts.zero _ rfl
 | i + 1, hi => by
   have h := parts_play l hl i (by omega)
   obtain ⟨o, ho⟩ : ∃ o, l[i]? = some o := ⟨_, List.getElem?_eq_getElem (by omega)⟩
   have e : playF st0 (l.take (i + 1)) = stepF (playF st0 (l.take i)) o.k o.a o.b o.c := by rw [List.take_add_one, ho, Option.toList_some, playF_snoc]
   have hg := good_take l i
   rcases step_rec o hg (by rw [List.length_take]; omega) with ⟨h1, h2, h3⟩ | ⟨r, h1, _, _, h4⟩
   ·exact h.same (by show (playF st0 (l.take (i + 1))).log = _; rw [e]; exact h1) (by show (playF st0 (l.take (i + 1))).ents = _; rw [e]; exact h2) (by show _ <= (playF st0 (l.take (i + 1))).time; rw [e]; exact h3)
   ·exact h.more h1 (fun t0 ht => by show _ = some (playF st0 (l.take (i + 1))); rw [e]; exact h4 t0 ht)
end Go.Proofs.YtmehkneofinmiabGreatDoor
namespace Go.Proofs.YtmehkneofinmiabGreatDoor
open Go.RowKit
theorem rec_size (r : Rec) (hr : RecOK r) : ∃ a b tl, recF r.kind r.time r.key r.num r.body = a::b::tl /\ 6 + 256 * a.toNat + b.toNat = (recF r.kind r.time r.key r.num r.body).length := by
 have hk := keyOK_le hr.key
 have hb := hr.body
 have hp := payF_len r.kind r.time r.key r.num r.body
 have hl := recF_len r.kind r.time r.key r.num r.body
 obtain ⟨L, hL⟩ : ∃ L, (payF r.kind r.time r.key r.num r.body).length = L := ⟨_, rfl⟩
 refine ⟨UInt8.ofNat (L / 256 ^ 1 % 256), UInt8.ofNat (L / 256 ^ 0 % 256), payF r.kind r.time r.key r.num r.body ++ be (chkF (payF r.kind r.time r.key r.num r.body)) 4, ?_, ?_⟩
 ·unfold recF
  rw [hL]
  rfl
 ·rw [hl, UInt8.toNat_ofNat', UInt8.toNat_ofNat']
  omega
theorem size_at {J : List UInt8} {n u : Nat} {r : Rec} (hr : RecOK r) (h1 : (recF r.kind r.time r.key r.num r.body).length + u > n) (h2 : (recF r.kind r.time r.key r.num r.body).take (n - u) = (J.take n).drop u) (h3 : u + 2 <= n) :
 ∃ a b : UInt8, J[u]? = some a /\ J[u + 1]? = some b /\ n < u + (6 + 256 * a.toNat + b.toNat) := by
 obtain ⟨a, b, tl, e, hs⟩ := rec_size r hr
 rw [<- hs] at h1
 rw [e] at h2
 have g0 := congrArg (fun l => l[0]?) h2
 have g1 := congrArg (fun l => l[1]?) h2
 rw [List.getElem?_drop, List.getElem?_take, List.getElem?_take, if_pos (by omega), if_pos (by omega)] at g0 g1
 exact ⟨a, b, by rw [<- Nat.add_zero u]; exact g0.symm, g1.symm, by omega⟩
def BS (B : Nat -> Prop) (b s n : Nat) (σ : St) (c s2 n2 : Nat) (σ2 : St) (w : World) : Prop :=
 ∃ M vs d M2, Bk B w b s n σ M vs d c /\ StoreAt w s2 n2 0 (fun _ => 0) σ2 M2 /\ (∀ k, bkOwn b s n M vs k -> ¬ M2.own s2 n2 k) /\ ∀ k, M2.own s2 n2 k -> B k
theorem Bk.log {B : Nat -> Prop} {w w' : World} {b s n : Nat} {σ : St} {M : Mem} {vs : Nat -> Value} {d c : Nat} (h : Bk B w b s n σ M vs d c) (hS : StoreAt w' s n 0 (fun _ => 0) σ M) (hO : Off (fun k => k = s) w w') : Bk B w' b s n σ M vs d c :=
 ⟨⟨h.sto.env.off (hO.mono (fun k hk => by rw [hk]; exact h.sto.own s (Or.inl rfl))), hS, h.sto.own⟩, h.bk.did h.sto.st (hO.mono (fun k hk => Or.inl hk)), h.bB, h.vB, h.ks, h.tm, h.lg, h.ls, h.dn⟩
theorem BS.bel {B : Nat -> Prop} {b s n : Nat} {σ : St} {c s2 n2 : Nat} {σ2 : St} {w x : World} (h : BS B b s n σ c s2 n2 σ2 w) (hb : Below w.heap.size w x) : BS B b s n σ c s2 n2 σ2 x := by
 obtain ⟨M, vs, d, M2, h1, h2, h3, h4⟩ := h
 exact ⟨M, vs, d, M2, h1.below hb, h2.below hb, h3, h4⟩
theorem BS.log {B : Nat -> Prop} {b s n : Nat} {σ : St} {c s2 n2 : Nat} {σ2 : St} {w : World} (h : BS B b s n σ c s2 n2 σ2 w) :
 Calls Tryz.prog 22 #[.pointer (some ⟨s, 0, none⟩)] w fun e w' => e = .returned (.string ⟨σ.log.toArray⟩) /\ BS B b s n σ c s2 n2 σ2 w' /\ Off B w w' := by
 obtain ⟨M, vs, d, M2, h1, h2, h3, h4⟩ := h
 refine (log_store w h1.sto.st).mono ?_
 rintro e w' ⟨rfl, hS, hO⟩
 exact ⟨rfl, ⟨M, vs, d, M2, h1.log hS hO, h2.off hO (fun k hk e => h3 k (Or.inl (Or.inl e)) hk), h3, h4⟩, hO.mono (fun k hk => by rw [hk]; exact h1.sto.own s (Or.inl rfl))⟩
theorem BS.step {B : Nat -> Prop} {b s n : Nat} {σ : St} {c s2 n2 : Nat} {σ2 : St} {w : World} (h : BS B b s n σ c s2 n2 σ2 w) (k a x y : Int) (hc : c < 1000) (ik : I64 k) (ia : I64 a) (ix : I64 x) (iy : I64 y) :
 Calls Tryz.prog 24 #[.pointer (some ⟨b, 0, none⟩), .agg #[.int .i64 k, .int .i64 a, .int .i64 x, .int .i64 y]] w fun e w' => e = .returned (.bool true) /\ BS B b s n (stepF σ k a x y) (c + 1) s2 n2 σ2 w' /\ Off B w w' := by
 obtain ⟨M, vs, d, M2, h1, h2, h3, h4⟩ := h
 have hN : ∀ q, (bkOwn b s n M vs q \/ w.heap.size <= q) -> B q := fun q hq => hq.elim (fun h => h1.own_in h) (h1.sto.env.sz q)
 have hk := h1.narrow (C := fun q => bkOwn b s n M vs q \/ w.heap.size <= q) hN (fun q hq => Or.inr hq) (fun q hq => Or.inl hq)
 refine (step_any k a x y w hk hc ik ia ix iy).mono ?_
 rintro e w' ⟨rfl, ⟨M', vs', d', hB'⟩, hO⟩
 have hno : ∀ q, M2.own s2 n2 q -> ¬ (bkOwn b s n M vs q \/ w.heap.size <= q) := fun q hq h => by
  rcases h with h | h
  ·exact h3 q h hq
  ·have := h2.own_lt hq
   omega
 refine ⟨rfl, ⟨M', vs', d', M2, ?_, h2.off hO (fun q hq h => hno q hq h), fun q hq hq2 => hno q hq2 (hB'.own_in hq), h4⟩, hO.mono hN⟩
 exact ⟨⟨h1.sto.env.off (hO.mono hN), hB'.sto.st, fun q hq => hN q (hB'.sto.own q hq)⟩, hB'.bk, hN _ hB'.bB, fun i hi g hg => hN g (hB'.vB i hi g hg), hB'.ks, hB'.tm, hB'.lg, hB'.ls, hB'.dn⟩
theorem BS.clock {B : Nat -> Prop} {b s n : Nat} {σ : St} {c s2 n2 : Nat} {σ2 : St} {w : World} (h : BS B b s n σ c s2 n2 σ2 w) :
 Calls Tryz.prog 25 #[.pointer (some ⟨s2, 0, none⟩)] w fun e w' => e = .returned (.int .i64 σ2.time) /\ w' = w := by
 obtain ⟨M, vs, d, M2, h1, h2, h3, h4⟩ := h
 exact clock_any w h2
theorem BS.tick {B : Nat -> Prop} {b s n : Nat} {σ : St} {c s2 n2 : Nat} {σ2 : St} {w : World} (h : BS B b s n σ c s2 n2 σ2 w) (z : Int) (hz : z = 0) :
 Calls Tryz.prog 26 #[.pointer (some ⟨s2, 0, none⟩), .int .i64 z] w fun e w' => e = .returned (.int .i64 0) /\ BS B b s n σ c s2 n2 σ2 w' /\ Off B w w' := by
 obtain ⟨M, vs, d, M2, h1, h2, h3, h4⟩ := h
 subst hz
 have := tick_yes 0 w h2 (by have := h2.time; omega)
 refine this.mono ?_
 rintro e w' ⟨rfl, hS, hO⟩
 have hB : ∀ k, k = s2 -> B k := fun k hk => by rw [hk]; exact h4 s2 (Or.inl rfl)
 exact ⟨rfl, ⟨M, vs, d, M2, h1.offS hO hB (fun k hk e => h3 k hk (by rw [e]; exact Or.inl rfl)), hS, h3, h4⟩, hO.mono hB⟩
theorem BS.cells {B : Nat -> Prop} {b s n : Nat} {σ : St} {c s2 n2 : Nat} {σ2 : St} {w : World} (h : BS B b s n σ c s2 n2 σ2 w) : w.cell? ⟨b, 0, none⟩ = some (.pointer (some ⟨s, 0, none⟩)) /\ w.cell? ⟨b, 16, none⟩ = some (.int .i64 σ.time) /\ b < w.heap.size := by
 obtain ⟨M, vs, d, M2, h1, h2, h3, h4⟩ := h
 refine ⟨?_, ?_, h1.bk.lt⟩ <;> simp [World.cell?, h1.bk.blk, bookCells]
theorem TwoB.cells {B : Nat -> Prop} {b s n : Nat} {σ : St} {c b2 s2 n2 : Nat} {σ2 : St} {c2 : Nat} {w : World} (h : TwoB B b s n σ c b2 s2 n2 σ2 c2 w) : w.cell? ⟨b, 0, none⟩ = some (.pointer (some ⟨s, 0, none⟩)) := by
 obtain ⟨M, vs, d, M2, vs2, d2, h1, h2, h3⟩ := h
 simp [World.cell?, h1.bk.blk, bookCells]
def cutAt (n : Nat) : Code -> Option Code
 | .seq (.region id ops d) b => if id = n then some (.seq (.region id ops d) b) else cutAt n b
 | .seq a b => match cutAt n a with
   | some c => some c
   | none => cutAt n b
 | .loop c => cutAt n c
 | .block _ c => cutAt n c
 | .scope c => cutAt n c
 | .cond _ a b => match cutAt n a with
   | some c => some c
   | none => cutAt n b
 | _ => none
theorem seq_hid {P : Program} {x y : Code} {Q : Exit -> Act -> World -> Prop} {a : Act} {w : World} (h : ∀ K : Act -> World -> Prop, Hid (∀ a w, y.wp P Q a w -> K a w) -> x.wp P (Exit.then K Q) a w) : (Code.seq x y).wp P Q a w := wp_seq_k h
end Go.Proofs.YtmehkneofinmiabGreatDoor

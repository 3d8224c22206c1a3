/-
  Texts of this proof, part 51.
-/
import Derived.Test.YtmehkneofinmiabGreatDoorP49
import Derived.Test.YtmehkneofinmiabGreatDoorP50
import Derived.Test.YtmehkneofinmiabGreatDoorP48
import Derived.Test.YtmehkneofinmiabGreatDoorP42
namespace Go.Proofs.YtmehkneofinmiabGreatDoor
structure Good (σ : St) (c : Nat) : Prop where
  t : σ.time ≤ c * 5000
  e : ∀ E ∈ σ.ents, E.last ≤ c ∧ ∀ v ∈ E.vers, 0 < v.num ∧ v.num ≤ c ∧ v.time ≤ σ.time ∧ v.body.length ≤ 400
theorem Good.more {σ : St} {c : Nat} (h : Good σ c) : Good σ (c + 1) :=
  ⟨Nat.le_trans h.t (Nat.mul_le_mul_right _ (Nat.le_succ _)), fun E hE => ⟨by have := (h.e E hE).1; omega, fun v hv => by have := (h.e E hE).2 v hv; exact ⟨this.1, by omega, this.2.2⟩⟩⟩
theorem findE_or (l : List Ent) (key : List UInt8) : findE l key ∈ l ∨ findE l key = ⟨key, 0, []⟩ := by
  unfold findE
  cases hf : l.find? (fun E => E.key == key) with
  | none => exact Or.inr rfl
  | some E => exact Or.inl (List.mem_of_find?_eq_some hf)
theorem Good.find {σ : St} {c : Nat} (h : Good σ c) (key : List UInt8) : (findE σ.ents key).last ≤ c ∧ ∀ v ∈ (findE σ.ents key).vers, 0 < v.num ∧ v.num ≤ c ∧ v.time ≤ σ.time ∧ v.body.length ≤ 400 := by
  rcases findE_or σ.ents key with hm | hm
  · exact h.e _ hm
  · rw [hm]
    exact ⟨Nat.zero_le _, fun v hv => by cases hv⟩
theorem Good.chg {σ σ' : St} {key body : List UInt8} {k n told c : Nat} (h : Good σ c) (hn : k ≠ 3 → n = (findE σ.ents key).last + 1 ∧ body.length ≤ 400) (hc : chgF σ key k n body = (told, some σ')) : Good σ' (c + 1) := by
  unfold chgF at hc
  split at hc
  · simp at hc
  · split at hc
    · simp at hc
    · simp only [Prod.mk.injEq, Option.some.injEq] at hc
      rw [← hc.2]
      have hf := h.find key
      refine ⟨h.more.t, fun E hE => ?_⟩
      rcases putE_mem hE with rfl | hE
      · unfold applyF
        split
        · exact ⟨Nat.le_succ_of_le hf.1, fun v hv => by
            have := hf.2 v (List.mem_of_mem_eraseIdx hv)
            exact ⟨this.1, by omega, this.2.2⟩⟩
        · rename_i h3
          have hn' := hn h3
          refine ⟨by show n ≤ c + 1; omega, fun v hv => ?_⟩
          rcases List.mem_append.1 hv with hv | hv
          · have := hf.2 v hv
            exact ⟨this.1, by omega, this.2.2⟩
          · rw [List.mem_singleton] at hv
            rw [hv]
            exact ⟨by show 0 < n; omega, by show n ≤ c + 1; omega, Nat.le_refl _, hn'.2⟩
      · exact h.more.e E hE
theorem want_is (E : Ent) (m : Nat) (t : Tgt) (body : List UInt8) (hb : body.length ≤ 400) : (wantF E m t body).1 ≠ 3 → (wantF E m t body).2.1 = E.last + 1 ∧ (wantF E m t body).2.2.length ≤ 400 := by
  unfold wantF
  repeat' split
  all_goals simp [hb]
theorem read_body {l body : List UInt8} {m : Nat} {t : Tgt} {k : Cnd} (h : readF l = .ok (m, t, k, body)) : body.length ≤ 400 := by
  unfold readF at h
  split at h
  · cases h
  · split at h
    · cases h
    · split at h
      · cases h
      · split at h
        · cases h
        · split at h
          · rename_i h4 _
            cases h
            omega
          · cases h
theorem Good.ans {σ : St} {c : Nat} (h : Good σ c) (l : List UInt8) : Good (ansF σ l).2 (c + 1) := by
  unfold ansF
  split
  · exact h.more
  · rename_i m t k body hrd
    have hbd := read_body hrd
    split
    · exact h.more
    · unfold askF
      split
      · exact h.more
      · split
        · exact h.more
        · split
          · split
            · exact h.more
            · rename_i hc
              exact h.chg (want_is _ _ _ _ hbd) hc
          · split
            · exact h.more
            · exact h.more
theorem Good.step {σ : St} {c : Nat} (h : Good σ c) (k a b d : Int) : Good (stepF σ k a b d) (c + 1) := by
  unfold stepF
  split
  · exact h.ans _
  · split
    · exact h.ans _
    · split
      · exact h.ans _
      · split
        · exact h.ans _
        · split
          · exact h.ans _
          · have hp := pk_bd b 5000 (by omega)
            refine ⟨by have := h.t; rw [Nat.add_mul]; show σ.time + (pk b 5000).toNat ≤ _; omega, fun E hE => ⟨(h.more.e E hE).1, fun v hv => ?_⟩⟩
            have := (h.more.e E hE).2 v hv
            exact ⟨this.1, this.2.1, by show v.time ≤ σ.time + (pk b 5000).toNat; omega, this.2.2.2⟩
end Go.Proofs.YtmehkneofinmiabGreatDoor

namespace Go.Proofs.YtmehkneofinmiabGreatDoor
theorem read_list {σ : St} : ansF σ (reqB getM [47] [] []) = (listA σ [], σ) := by
  have hr : readF (reqB getM [47] [] []) = .ok (0, ⟨0, [], 0⟩, k0, []) := rf6 (by decide) (parse_req0 m_get.1 m_get.2 (by decide) target_list) (by simp) (by simp) rfl
  unfold ansF
  rw [hr]
  rfl
theorem read_after {σ : St} {key : List UInt8} (h : keyOK key = true) : ansF σ (reqB getM (47 :: (afterW ++ key)) [] []) = (listA σ key, σ) := by
  have hr : readF (reqB getM (47 :: (afterW ++ key)) [] []) = .ok (0, ⟨0, key, 0⟩, k0, []) := rf6 (by have := (key_no h).2.1; rw [reqB_len]; simp [getM, afterW]; omega) (parse_req0 m_get.1 m_get.2 (fun c hc => by
    simp only [List.mem_cons, List.mem_append, afterW, List.not_mem_nil, or_false] at hc
    rcases hc with rfl | (rfl | rfl | rfl | rfl | rfl | rfl | rfl) | hc
    all_goals first | decide | exact ((key_no h).2.2 c hc).1) (target_after h)) (by simp) (by simp) rfl
  unfold ansF
  rw [hr]
  rfl
end Go.Proofs.YtmehkneofinmiabGreatDoor

namespace Go.Proofs.YtmehkneofinmiabGreatDoor
theorem cln_key {k : List UInt8} (h : keyOK k = true) : Cln (moreF k) := ⟨by simp [moreF], (by decide : ∀ c ∈ ([77, 111, 114, 101] : List UInt8), c ≠ 13), fun c hc => ((key_no h).2.2 c hc).1⟩
end Go.Proofs.YtmehkneofinmiabGreatDoor

namespace Go.Proofs.YtmehkneofinmiabGreatDoor
def pgK (j : Nat) : List UInt8 := Lib.decDigits (1000 + (j * 37) % 60)
theorem mod_inj : ∀ i, i < 60 → ∀ j, j < 60 → (i * 37) % 60 = (j * 37) % 60 → i = j := by decide +kernel
theorem pgK_inj {i j : Nat} (hi : i < 60) (hj : j < 60) (h : pgK i = pgK j) : i = j := by
  have h1 := (dec_num (1000 + (i * 37) % 60)).2.1
  have h2 := (dec_num (1000 + (j * 37) % 60)).2.1
  unfold pgK at h
  rw [h, h2] at h1
  exact mod_inj i hi j hj (by omega)
theorem dig_key {c : UInt8} (h : digB c = true) : keyB c = true := by
  unfold digB at h
  unfold keyB keyI nameI
  rw [h]
  simp
theorem dec_keyOK {n : Nat} (h : n < 100000) : keyOK (Lib.decDigits n) = true := by
  have h1 := dec_num n
  have h2 := dec_len10 (n := n) (k := 5) (by omega) (by omega)
  unfold keyOK
  simp only [Bool.and_eq_true, decide_eq_true_eq, List.all_eq_true, Bool.not_eq_true']
  refine ⟨by simpa using h1.2.2, by omega, fun c hc => dig_key (List.all_eq_true.1 h1.1 c hc)⟩
theorem pgK_ok (j : Nat) : keyOK (pgK j) = true := dec_keyOK (by have := Nat.mod_lt (j * 37) (show 0 < 60 by omega); omega)
theorem pgK_len (j : Nat) : (pgK j).length = 4 := by
  have := Nat.mod_lt (j * 37) (show 0 < 60 by omega)
  unfold pgK
  rw [Lib.decDigits_length]
  exact Lib.nDigits_unique 3 _ (by omega) (by omega)
structure Once (σ : St) (n : Nat) : Prop where
  rise : RiseL σ.ents
  len : σ.ents.length = n
  one : ∀ E ∈ σ.ents, E.last = 1 ∧ E.vers = [⟨1, 0, false, []⟩] ∧ keyOK E.key = true
  time : σ.time = 0
  log : σ.log.length ≤ n * 1000
theorem putE_count {l : List Ent} {E : Ent} (hn : ∀ A ∈ l, A.key ≠ E.key) : (putE l E).length = l.length + 1 := by
  induction l with
  | nil => rfl
  | cons a l ih =>
    rw [putE_cons, if_neg (hn a List.mem_cons_self)]
    split
    · rfl
    · rw [List.length_cons, ih (fun A hA => hn A (List.mem_cons_of_mem _ hA)), List.length_cons]
theorem Once.put {σ : St} {n : Nat} {key : List UInt8} (h : Once σ n) (hk : keyOK key = true) (hn : n < 60) (hf : ∀ E ∈ σ.ents, E.key ≠ key) :
    ∃ a σ', ansF σ (reqB putM (47 :: key) [] []) = (a, σ') ∧ a.told = 201 ∧ Once σ' (n + 1) ∧ ∀ E ∈ σ'.ents, E.key = key ∨ ∃ F ∈ σ.ents, F.key = E.key := by
  have hfe : findE σ.ents key = ⟨key, 0, []⟩ := by
    rcases findE_or σ.ents key with hm | hm
    · exact absurd (findE_key σ.ents key) (hf _ hm)
    · exact hm
  have hd := put_done (σ := σ) (read_put0 (what := []) hk (by decide)) (condF0 _ _) (by rw [hfe]; simp) (by rw [hfe]; right; rw [h.len]; exact hn)
  rw [hfe] at hd
  refine ⟨_, _, hd, rfl, ⟨putE_rise h.rise _, ?_, ?_, h.time, ?_⟩, ?_⟩
  · have := putE_count (l := σ.ents) (E := ⟨key, 0 + 1, [] ++ [⟨0 + 1, σ.time, false, []⟩]⟩) hf
    rw [this, h.len]
  · intro E hE
    rcases putE_mem hE with rfl | hE
    · refine ⟨rfl, ?_, hk⟩
      rw [h.time]
      rfl
    · exact h.one E hE
  · show (σ.log ++ recF _ _ _ _ _).length ≤ _
    have := h.log
    have := (key_no hk).2.1
    rw [List.length_append, recF_len]
    simp
    omega
  · intro E hE
    rcases putE_mem hE with rfl | hE
    · exact Or.inl rfl
    · exact Or.inr ⟨E, hE, rfl⟩
end Go.Proofs.YtmehkneofinmiabGreatDoor

namespace Go.Proofs.YtmehkneofinmiabGreatDoor
end Go.Proofs.YtmehkneofinmiabGreatDoor

namespace Go.Proofs.YtmehkneofinmiabGreatDoor
end Go.Proofs.YtmehkneofinmiabGreatDoor

namespace Go.Proofs.YtmehkneofinmiabGreatDoor
open Go.RowKit
def Std (B b s n : Nat) (σ : St) (bc : Array Value) (y : World) : Prop := ∃ M, Sto B y s n σ M ∧ y.heap[b]? = some (.cells bc 31 (0, 0))
theorem Std.bel {B b s n : Nat} {σ : St} {bc : Array Value} {y z : World} (h : Std B b s n σ bc y) (hb : Below y.heap.size y z) : Std B b s n σ bc z := by
  obtain ⟨M, h1, h2⟩ := h
  exact ⟨M, h1.below hb, (hb.block b (Array.getElem?_eq_some_iff.1 h2).1).trans h2⟩
theorem Std.ask {B b s n : Nat} {σ σ' : St} {bc : Array Value} (R : List UInt8) (a : Ans) (hR : ansF σ R = (a, σ')) (hl : R.length ≤ 9223372036854775807) (hlog : σ.log.length < 1000000000) : AskR s B R (textF a.told a.flds a.body) (Std B b s n σ bc) (Std B b s n σ' bc) := by
  rintro y ⟨M, h1, h2⟩
  refine (do_sto R h1 (by omega) hl hR).mono ?_
  rintro e w' ⟨rfl, _, M2, hS2, hO2, hP2⟩
  exact ⟨rfl, ⟨M2, hS2, (hO2.block b (Array.getElem?_eq_some_iff.1 h2).1 (fun ho => (own_book h1.st ho).1 h2)).trans h2⟩, hP2⟩
theorem Std.len {B b s n : Nat} {σ : St} {bc : Array Value} {y : World} (h : Std B b s n σ bc y) (hlog : σ.log.length < 1000000000) (R : List UInt8) : (textF (ansF σ R).1.told (ansF σ R).1.flds (ansF σ R).1.body).length ≤ 1000000000 := by
  obtain ⟨M, h1, h2⟩ := h
  exact text_len (ans_ok h1.st (by omega) R)
theorem code_r (told : Nat) (h1 : 100 ≤ told) (h2 : told < 1000) : CodeR (textF told [] []) told := fun y =>
  code_text told [] [] y h1 h2 (by have := dec_len10 (n := told) (k := 5) (by omega) (by omega); simp [textF]; omega)
end Go.Proofs.YtmehkneofinmiabGreatDoor

namespace Go.Proofs.YtmehkneofinmiabGreatDoor
open Go.RowKit
set_option maxHeartbeats 1000000 in
theorem field_short (s : ByteArray) (name : List UInt8) (w : World) (hs : s.size ≤ 1000000000) (hn : name.length ≤ 1000) (k : Nat) (h : HeadAt s k) (hk : k + 2 < name.length + 4) :
    Calls Tryz.prog 16 #[.string s, .string ⟨name.toArray⟩] w fun e w' => e = .returned (.string ⟨#[]⟩) ∧ w' = w := by
  have hkl := h.le
  have HH : Hid _ := h
  clear h
  go_enter Tryz.func16, Tryz.ntmps16
  go_wp2_with (go_at_call 21; refine (head_s s _ hs k HH.out.le HH.out.hit HH.out.no).mono ?_; rintro e w' ⟨rfl, rfl⟩)
  have hWs : (({ data := #[13, 10] } ++ { data := name.toArray } ++ { data := #[58, 32] } : ByteArray)).size = name.length + 4 := by simp [ByteArray.size]
  generalize ({ data := #[13, 10] } ++ { data := name.toArray } ++ { data := #[58, 32] } : ByteArray) = V at hWs ⊢
  generalize ({ data := #[13, 10] } ++ { data := name.toArray } : ByteArray) = V1
  obtain ⟨m, hm⟩ : ∃ m, name.length + 4 = m := ⟨_, rfl⟩
  rw [hm] at hWs hk
  have hm2 : m ≤ 1004 := by omega
  clear hm
  go_loop [7] (fun x => x = .int .i64 0) (fun x => 0)
  case atStart => rfl
  case round =>
    obtain rfl := hrel
    go_wp2
    go_ret
    exact ⟨rfl, rfl⟩
def onceA : Ans := ⟨201, [⟨eTag, qTag []⟩, ⟨versN, Lib.decDigits 1⟩], []⟩
theorem Once.put2 {σ : St} {n : Nat} {key : List UInt8} (h : Once σ n) (hk : keyOK key = true) (hn : n < 60) (hf : ∀ E ∈ σ.ents, E.key ≠ key) :
    ∃ σ', ansF σ (reqB putM (47 :: key) [] []) = (onceA, σ') ∧ Once σ' (n + 1) ∧ ∀ E ∈ σ'.ents, E.key = key ∨ ∃ F ∈ σ.ents, F.key = E.key := by
  obtain ⟨a, σ', h1, _, h3, h4⟩ := h.put hk hn hf
  refine ⟨σ', ?_, h3, h4⟩
  have hfe : findE σ.ents key = ⟨key, 0, []⟩ := by
    rcases findE_or σ.ents key with hm | hm
    · exact absurd (findE_key σ.ents key) (hf _ hm)
    · exact hm
  have hd := put_done (σ := σ) (read_put0 (what := []) hk (by decide)) (condF0 _ _) (by rw [hfe]; simp) (by rw [hfe]; right; rw [h.len]; exact hn)
  rw [h1] at hd
  injection hd with hd1 hd2
  rw [h1, hd1, hfe]
  rfl
noncomputable def stP : Nat → St
  | 0 => st0
  | k + 1 => (ansF (stP k) (reqB putM (47 :: pgK k) [] [])).2
theorem stP_once : ∀ k, k ≤ 60 → Once (stP k) k ∧ ∀ E ∈ (stP k).ents, ∃ j, j < k ∧ E.key = pgK j
  | 0, _ => ⟨⟨by simp [stP, st0, RiseL], rfl, fun E hE => by simp [stP, st0] at hE, rfl, by simp [stP, st0]⟩, fun E hE => by simp [stP, st0] at hE⟩
  | k + 1, hk => by
    obtain ⟨h1, h2⟩ := stP_once k (by omega)
    obtain ⟨σ', e, h3, h4⟩ := h1.put2 (pgK_ok k) (by omega) (fun E hE h => by
      obtain ⟨j, hj, he⟩ := h2 E hE
      have := pgK_inj (i := j) (j := k) (by omega) (by omega) (he.symm.trans h)
      omega)
    have es : stP (k + 1) = σ' := by show (ansF _ _).2 = _; rw [e]
    rw [es]
    refine ⟨h3, fun E hE => ?_⟩
    rcases h4 E hE with h | ⟨F, hF, h⟩
    · exact ⟨k, by omega, h⟩
    · obtain ⟨j, hj, he⟩ := h2 F hF
      exact ⟨j, by omega, by rw [← h]; exact he⟩
theorem stP_ans {k : Nat} (hk : k < 60) : ansF (stP k) (reqB putM (47 :: pgK k) [] []) = (onceA, stP (k + 1)) := by
  obtain ⟨h1, h2⟩ := stP_once k (by omega)
  obtain ⟨σ', e, _, _⟩ := h1.put2 (pgK_ok k) (by omega) (fun E hE h => by
    obtain ⟨j, hj, he⟩ := h2 E hE
    have := pgK_inj (i := j) (j := k) (by omega) (by omega) (he.symm.trans h)
    omega)
  have es : stP (k + 1) = σ' := by show (ansF _ _).2 = _; rw [e]
  rw [e, es]
theorem chg_full {σ : St} {key body : List UInt8} {k n : Nat} (hf : findE σ.ents key = ⟨key, 0, []⟩) (h60 : σ.ents.length = 60) (hk : k = 1) : chgF σ key k n body = (507, none) := by
  subst hk
  unfold chgF
  rw [hf, if_neg (by simp [obstF]), if_pos ⟨rfl, by omega⟩]
def oneK : List UInt8 := [111, 110, 101, 45, 109, 111, 114, 101]
theorem one_ans {n : Nat} (hn : n ≤ 60) : ∃ a σ', ansF (stP n) (reqB putM (47 :: oneK) [] []) = (a, σ') ∧ ((n = 60 ∧ a = ⟨507, [], []⟩ ∧ Once σ' 60) ∨ (n < 60 ∧ a = onceA ∧ Once σ' (n + 1))) := by
  obtain ⟨h1, h2⟩ := stP_once n hn
  have hf : ∀ E ∈ (stP n).ents, E.key ≠ oneK := fun E hE h => by
    obtain ⟨j, _, he⟩ := h2 E hE
    have := pgK_len j
    rw [← he, h] at this
    exact absurd this (by decide)
  rcases Nat.lt_or_ge n 60 with h | h
  · obtain ⟨σ', e, h3, _⟩ := h1.put2 (key := oneK) (by decide) h hf
    exact ⟨_, _, e, Or.inr ⟨h, rfl, h3⟩⟩
  · obtain rfl : n = 60 := by omega
    have hfe : findE (stP 60).ents oneK = ⟨oneK, 0, []⟩ := by
      rcases findE_or (stP 60).ents oneK with hm | hm
      · exact absurd (findE_key (stP 60).ents oneK) (hf _ hm)
      · exact hm
    refine ⟨_, _, (ans_of (read_put0 (key := oneK) (what := []) (by decide) (by decide)) (by simp)).trans (ask_no (by simp) rfl (condF0 _ _) rfl (chg_full hfe h1.len rfl)), Or.inl ⟨rfl, rfl, h1⟩⟩
end Go.Proofs.YtmehkneofinmiabGreatDoor

namespace Go.Proofs.YtmehkneofinmiabGreatDoor
open Go.RowKit
def tP : List UInt8 := 32 :: qTag []
theorem tP_len : tP.length = 19 := by unfold tP; rw [List.length_cons, qTag_len]
theorem tP_no : ∀ c ∈ tP, c ≠ 10 := by decide +kernel
theorem rise_drop {ks : List (List UInt8)} (h : ks.Pairwise fun a b => cmpB a b = -1) {j : Nat} {a : List UInt8} (ha : ks[j]? = some a) : ks.filter (fun k => cmpB k a == 1) = ks.drop (j + 1) := by
  induction ks generalizing j with
  | nil => simp at ha
  | cons b ks ih =>
    have ⟨h1, h2⟩ := List.pairwise_cons.1 h
    cases j with
    | zero =>
      simp at ha
      subst ha
      rw [List.filter_cons_of_neg (by rw [cmpB_refl]; decide), List.filter_eq_self.2 (fun x hx => by rw [cmpB_swap, h1 x hx]; decide)]
      rfl
    | succ j =>
      have ha' : ks[j]? = some a := by simpa using ha
      have hlt := h1 a (List.mem_of_getElem? ha')
      rw [List.filter_cons_of_neg (by rw [hlt]; decide), ih h2 ha']
      rfl
theorem once_list {σ : St} {N : Nat} (h : Once σ N) (after : List UInt8) : listC σ after = ((σ.ents.map Ent.key).filter fun k => cmpB k after == 1).map fun k => (k, []) := by
  unfold listC
  have h1 := h.one
  generalize σ.ents = l at h1
  induction l with
  | nil => rfl
  | cons E l ih =>
    have ih := ih (fun E hE => h1 E (List.mem_cons_of_mem _ hE))
    have hE := (h1 E List.mem_cons_self).2.1
    have hc : curOf E = some ⟨1, 0, false, []⟩ := by simp [curOf, hE]
    by_cases hb : (cmpB E.key after == 1) = true
    · rw [List.filter_cons, if_pos hb, List.map_cons, List.filter_cons, if_pos hb, List.map_cons, List.filterMap_cons, hc, ← ih]
      rfl
    · rw [List.filter_cons, if_neg hb, List.map_cons, List.filter_cons, if_neg hb, ih]
theorem once_all {σ : St} {N : Nat} (h : Once σ N) : (σ.ents.map Ent.key).filter (fun k => cmpB k [] == 1) = σ.ents.map Ent.key := by
  refine List.filter_eq_self.2 (fun k hk => ?_)
  obtain ⟨E, hE, rfl⟩ := List.mem_map.1 hk
  have := (h.one E hE).2.2
  cases hq : E.key with
  | nil => rw [hq] at this; simp [keyOK] at this
  | cons a r => rfl
theorem lines_body (l : List (List UInt8)) : linesK (l.map fun k => (k, [])) = bodyP tP l := by
  unfold linesK bodyP
  rw [List.flatMap_map]
  congr 1
  funext k
  simp [lineK, lnP, tP]
theorem last_map (l : List (List UInt8)) : lastK (l.map fun k => (k, ([] : List UInt8))) = lastP [] l l.length := by
  unfold lastK
  rw [List.getLast?_map]
  cases l with
  | nil => rfl
  | cons a l =>
    rw [List.getLast?_eq_getElem?]
    simp [lastP]
def fldP (kl : List (List UInt8)) : List Fld := if 50 < kl.length then [moreF (lastP [] (kl.take 50) (kl.take 50).length)] else []
theorem page_ans {σ : St} {N : Nat} (h : Once σ N) (after : List UInt8) (kl : List (List UInt8)) (hkl : (σ.ents.map Ent.key).filter (fun k => cmpB k after == 1) = kl) : listA σ after = ⟨200, fldP kl, bodyP tP (kl.take 50)⟩ := by
  unfold listA fldP
  rw [once_list h, hkl, ← List.map_take, lines_body, last_map, List.length_map]
structure PageIs (T : List UInt8) (L : List (List UInt8)) (m : List UInt8) : Prop where
  code : CodeR T 200
  body : BodyR T (bodyP tP L)
  more : MoreR T m
theorem page_is {L : List (List UInt8)} (hL : L.length ≤ 50) (hk : ∀ k ∈ L, k.length ≤ 40) (fs : List Fld) (m : List UInt8) (hf : (fs = [] ∧ m = []) ∨ (fs = [moreF m] ∧ keyOK m = true)) : PageIs (textF 200 fs (bodyP tP L)) L m := by
  have hb : (bodyP tP L).length ≤ 3000 := by
    have h1 := bodyP_len tP L hk
    rw [tP_len] at h1
    have h2 : L.length * 60 ≤ 50 * 60 := Nat.mul_le_mul_right _ hL
    omega
  have hd : (Lib.decDigits 200).length = 3 := by kernel_rfl
  have hc : ∀ f ∈ fs, Cln f := by
    rcases hf with ⟨rfl, _⟩ | ⟨rfl, hm⟩
    · simp
    · intro f hf
      rw [List.mem_singleton.1 hf]
      exact cln_key hm
  have hl : (textF 200 fs (bodyP tP L)).length ≤ 1000000000 := by
    rcases hf with ⟨rfl, _⟩ | ⟨rfl, hm⟩
    · simp [textF, hd]
      omega
    · have := keyOK_len hm
      simp [textF, hd, fldText, moreF]
      omega
  refine ⟨fun y => code_text 200 fs _ y (by omega) (by omega) hl, fun y => body_t 200 fs _ y hc hl, fun y => ?_⟩
  rcases hf with ⟨rfl, rfl⟩ | ⟨rfl, hm⟩
  · have hh := (head_text 200 [] (bodyP tP L) (by simp)).head
    have hs : (⟨(textF 200 [] (bodyP tP L)).toArray⟩ : ByteArray).size ≤ 1000000000 := by rw [Lib.size_eq]; exact hl
    exact field_short _ [77, 111, 114, 101] y hs (by decide) _ hh (by rw [hd]; decide)
  · exact field_t 200 [] [] [77, 111, 114, 101] m _ y (by simpa [moreF] using hc) (by simp) (by decide) hl
end Go.Proofs.YtmehkneofinmiabGreatDoor

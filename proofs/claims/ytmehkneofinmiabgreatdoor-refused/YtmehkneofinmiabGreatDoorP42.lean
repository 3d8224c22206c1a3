/-
  Texts of this proof, part 42.
-/
import Derived.Test.YtmehkneofinmiabGreatDoorP41
import Derived.Test.YtmehkneofinmiabGreatDoorP33
import Derived.Test.YtmehkneofinmiabGreatDoorP28
import Derived.Test.YtmehkneofinmiabGreatDoorP40
namespace Go.Proofs.YtmehkneofinmiabGreatDoor

theorem cond_vals (wt : Bool) (k : Cnd) (v : Option Ver) : condF wt k v = 0 ∨ condF wt k v = 304 ∨ condF wt k v = 412 := by
  unfold condF Jd.jd
  repeat' split
  all_goals simp
theorem read_errs {l : List UInt8} {n : Nat} (h : readF l = .error n) : n = 400 ∨ n = 413 ∨ n = 405 := by
  unfold readF at h
  repeat' split at h
  all_goals (cases h)
  all_goals simp
theorem obst_vals (E : Ent) (k n : Nat) : obstF E k n = 0 ∨ obstF E k n = 404 ∨ obstF E k n = 507 := by
  unfold obstF
  repeat' split
  all_goals simp
theorem chg_vals {σ : St} {key body : List UInt8} {k n told : Nat} {o : Option St} (h : chgF σ key k n body = (told, o)) : (o = none ∧ (told = 404 ∨ told = 507)) ∨ (told = 200 ∨ told = 201 ∨ told = 204) := by
  unfold chgF at h
  split at h
  · rename_i h0
    left
    cases h
    refine ⟨rfl, ?_⟩
    rcases obst_vals (findE σ.ents key) k n with h1 | h1 | h1
    · exact absurd h1 h0
    · exact Or.inl h1
    · exact Or.inr h1
  · split at h
    · left
      cases h
      exact ⟨rfl, Or.inr rfl⟩
    · right
      cases h
      unfold succF
      repeat' split
      all_goals simp
/-- what is told: three digits; nothing changes, and no field is told, unless it is 200, 201 or 204 -/
theorem ans_codes (σ : St) (l : List UInt8) : (100 ≤ (ansF σ l).1.told ∧ (ansF σ l).1.told < 1000) ∧ ((ansF σ l).1.told = 200 ∨ (ansF σ l).1.told = 201 ∨ (ansF σ l).1.told = 204 ∨ ((ansF σ l).2 = σ ∧ (ansF σ l).1.flds = [])) := by
  unfold ansF
  split
  · rename_i nn hr
    refine ⟨?_, Or.inr (Or.inr (Or.inr ⟨rfl, rfl⟩))⟩
    have h := read_errs hr
    show 100 ≤ nn ∧ nn < 1000
    omega
  · rename_i m t k body hrd
    split
    · exact ⟨⟨by show 100 ≤ 200; decide, by show 200 < 1000; decide⟩, Or.inl rfl⟩
    · unfold askF
      split
      · split
        · exact ⟨⟨by show 100 ≤ 404; decide, by show 404 < 1000; decide⟩, Or.inr (Or.inr (Or.inr ⟨rfl, rfl⟩))⟩
        · exact ⟨⟨by show 100 ≤ 200; decide, by show 200 < 1000; decide⟩, Or.inl rfl⟩
      · split
        · rename_i h0
          refine ⟨?_, Or.inr (Or.inr (Or.inr ⟨rfl, rfl⟩))⟩
          rcases cond_vals (isW m) k (aimF (findE σ.ents t.key) t) with h | h | h
          · exact absurd h h0
          · show 100 ≤ condF _ _ _ ∧ condF _ _ _ < 1000; rw [h]; exact ⟨by decide, by decide⟩
          · show 100 ≤ condF _ _ _ ∧ condF _ _ _ < 1000; rw [h]; exact ⟨by decide, by decide⟩
        · split
          · split
            · rename_i told hc
              rcases chg_vals hc with ⟨_, h⟩ | h
              · refine ⟨?_, Or.inr (Or.inr (Or.inr ⟨rfl, rfl⟩))⟩
                rcases h with h | h <;> (show 100 ≤ told ∧ told < 1000; omega)
              · refine ⟨?_, Or.inr (Or.inr (Or.inr ⟨rfl, rfl⟩))⟩
                show 100 ≤ told ∧ told < 1000
                omega
            · rename_i told σ' hc
              rcases chg_vals hc with ⟨h, _⟩ | h
              · cases h
              · refine ⟨by show 100 ≤ told ∧ told < 1000; omega, ?_⟩
                rcases h with h | h | h
                · exact Or.inl h
                · exact Or.inr (Or.inl h)
                · exact Or.inr (Or.inr (Or.inl h))
          · split
            · exact ⟨⟨by show 100 ≤ 404; decide, by show 404 < 1000; decide⟩, Or.inr (Or.inr (Or.inr ⟨rfl, rfl⟩))⟩
            · exact ⟨⟨by show 100 ≤ 200; decide, by show 200 < 1000; decide⟩, Or.inl rfl⟩
/-- the journal grows by at most one record -/
theorem ans_log (σ : St) (l : List UInt8) : (ansF σ l).2.log.length ≤ σ.log.length + 1000 := by
  unfold ansF
  split
  · show σ.log.length ≤ _; omega
  · rename_i m t k body hrd
    have hr := read_ok hrd
    split
    · show σ.log.length ≤ _; omega
    · unfold askF
      split
      · show σ.log.length ≤ _; omega
      · split
        · show σ.log.length ≤ _; omega
        · split
          · split
            · show σ.log.length ≤ _; omega
            · rename_i told σ' hc
              show σ'.log.length ≤ _
              unfold chgF at hc
              split at hc
              · cases hc
              · split at hc
                · cases hc
                · cases hc
                  show (σ.log ++ recF _ _ _ _ _).length ≤ _
                  have hw : (wantF (findE σ.ents t.key) m t body).2.2.length ≤ 400 := by
                    unfold wantF
                    repeat' split
                    all_goals simp [hr.2.2.2]
                  rw [List.length_append, recF_len]
                  omega
          · split
            · show σ.log.length ≤ _; omega
            · show σ.log.length ≤ _; omega
/-- fields are clean -/
theorem cln_key {k : List UInt8} (h : keyOK k = true) : Cln (moreF k) := ⟨by simp [moreF], (by decide : ∀ c ∈ ([77, 111, 114, 101] : List UInt8), c ≠ 13), fun c hc => ((key_no h).2.2 c hc).1⟩
theorem cln_ans {σ : St} (hg : Good σ 400) (hk : ∀ E ∈ σ.ents, keyOK E.key = true) (l : List UInt8) : ∀ f ∈ (ansF σ l).1.flds, Cln f := by
  have ct : ∀ b : List UInt8, Cln ⟨[69, 84, 97, 103], qTag b⟩ := fun b => ⟨by simp, (by decide : ∀ c ∈ ([69, 84, 97, 103] : List UInt8), c ≠ 13), no13 (quo_no (tag_ok b).2)⟩
  have cv : ∀ n : Nat, Cln ⟨[86, 101, 114, 115, 105, 111, 110], Lib.decDigits n⟩ := fun n => ⟨by simp, (by decide : ∀ c ∈ ([86, 101, 114, 115, 105, 111, 110] : List UInt8), c ≠ 13), dec13 n⟩
  intro f hf
  unfold ansF at hf
  split at hf
  · cases hf
  · rename_i m t k body hrd
    split at hf
    · have hf' : f ∈ (listA σ t.key).flds := hf
      unfold listA at hf'
      simp only at hf'
      split at hf'
      · rename_i h50
        rw [List.mem_singleton] at hf'
        rw [hf']
        refine cln_key ?_
        unfold lastK
        cases hl : ((listC σ t.key).take 50).getLast? with
        | none =>
          have h0 := List.getLast?_eq_none_iff.1 hl
          have := congrArg List.length h0
          rw [List.length_take, List.length_nil] at this
          omega
        | some x =>
          have hx := List.mem_of_mem_take (List.mem_of_getLast? hl)
          unfold listC at hx
          obtain ⟨E, hE, hx⟩ := List.mem_filterMap.1 hx
          obtain ⟨v, _, e⟩ := Option.map_eq_some_iff.1 hx
          rw [← e]
          exact hk E (List.mem_filter.1 hE).1
      · cases hf'
    · unfold askF at hf
      split at hf
      · split at hf <;> cases hf
      · split at hf
        · cases hf
        · split at hf
          · split at hf
            · cases hf
            · simp only at hf
              split at hf
              · simp only [List.mem_cons, List.not_mem_nil, or_false] at hf
                rcases hf with rfl | rfl
                · exact ct _
                · exact cv _
              · simp only [List.mem_cons, List.not_mem_nil, or_false] at hf
                rw [hf]
                exact cv _
          · split at hf
            · cases hf
            · rename_i v hv
              have hv' := (hg.find t.key).2 v (aim_mem hv)
              have := hg.t
              exact cln_flds v (by omega) f hf
/-- three requests that are refused -/
theorem bad_read : readF [80, 85, 84, 32, 47, 97, 13, 10, 13, 13, 10, 120] = .error 400 := by
  refine rf2 (by decide) (pf5 (line := [80, 85, 84, 32, 47, 97]) (rest := [13, 13, 10, 120]) (mt := [80, 85, 84]) (tt := [47, 97]) (m := 2) (t := ⟨1, [97], 0⟩) (by decide) (by decide) (by decide) (target_key (by decide)) ?_)
  unfold fieldsF
  rw [if_pos (by decide), if_neg (by decide), show lineF k0 (Lib.cut [13, 13, 10, 120] [13, 10]).1 = none by unfold lineF; rw [if_neg (by decide)]]
theorem non_read : readF (reqB getM [47, 97] [73, 102, 45, 77, 97, 116, 99, 104, 58, 32, 120, 13, 10] []) = .error 400 := by
  refine rf2 (by decide) (pf5 (line := [71, 69, 84, 32, 47, 97]) (rest := [73, 102, 45, 77, 97, 116, 99, 104, 58, 32, 120, 13, 10, 13, 10]) (mt := [71, 69, 84]) (tt := [47, 97]) (m := 0) (t := ⟨1, [97], 0⟩) (by decide) (by decide) (by decide) (target_key (by decide)) ?_)
  unfold fieldsF
  rw [if_pos (by decide), if_neg (by decide)]
  have h1 : (Lib.cut [73, 102, 45, 77, 97, 116, 99, 104, 58, 32, 120, 13, 10, 13, 10] [13, 10]).1 = [73, 102, 45, 77, 97, 116, 99, 104, 58, 32, 120] := by decide
  have h2 : lineF k0 [73, 102, 45, 77, 97, 116, 99, 104, 58, 32, 120] = none := by
    unfold lineF
    rw [if_pos (by decide)]
    unfold fieldF
    rw [if_pos (by decide), if_neg (by decide)]
  rw [h1, h2]
theorem for_read : readF (reqB delM [47] [] []) = .error 405 :=
  rf5 (by decide) (parse_req0 m_del.1 m_del.2 (by decide) target_list) (by simp) (by simp) rfl
theorem ans_err {σ : St} {l : List UInt8} {n : Nat} (h : readF l = .error n) : ansF σ l = (⟨n, [], []⟩, σ) := by
  unfold ansF
  rw [h]
end Go.Proofs.YtmehkneofinmiabGreatDoor

namespace Go.Proofs.YtmehkneofinmiabGreatDoor

def versW : List UInt8 := [118, 101, 114, 115, 105, 111, 110, 115]
def fndV (l : List Ver) (n : Nat) : Option Ver := l.find? fun v => v.num == n
def optL (o : Option Ver) : List Ver := match o with | none => [] | some v => [v]
theorem filt_step {l : List Ver} (hr : l.Pairwise fun a b => a.num < b.num) (n : Nat) : (l.filter fun v => decide (n < v.num)) = optL (fndV l (n + 1)) ++ l.filter fun v => decide (n + 1 < v.num) := by
  induction l with
  | nil => rfl
  | cons a l ih =>
    have ⟨h1, h2⟩ := List.pairwise_cons.1 hr
    have ih := ih h2
    by_cases e : a.num = n + 1
    · have f1 : (l.filter fun v => decide (n < v.num)) = l := List.filter_eq_self.2 (fun b hb => by have := h1 b hb; simp; omega)
      have f2 : (l.filter fun v => decide (n + 1 < v.num)) = l := List.filter_eq_self.2 (fun b hb => by have := h1 b hb; simp; omega)
      have f3 : fndV (a :: l) (n + 1) = some a := by simp [fndV, e]
      rw [f3, List.filter_cons_of_pos (by simp; omega), List.filter_cons_of_neg (by simp; omega), f1, f2]
      rfl
    · have f3 : fndV (a :: l) (n + 1) = fndV l (n + 1) := by simp [fndV, e]
      rw [f3]
      by_cases e2 : a.num ≤ n
      · rw [List.filter_cons_of_neg (by simp; omega), List.filter_cons_of_neg (by simp; omega)]
        exact ih
      · have f4 : fndV l (n + 1) = none := by
          simp [fndV]
          intro b hb
          have := h1 b hb
          omega
        rw [f4] at ih ⊢
        rw [List.filter_cons_of_pos (by simp; omega), List.filter_cons_of_pos (by simp; omega), ih]
        rfl
def lnsF (l : List Ver) (m : Nat) : List UInt8 := ((l.filter fun v => decide (m < v.num)).reverse).flatMap lineF2
def lineV (o : Option Ver) : List UInt8 := match o with | none => [] | some v => lineF2 v
theorem lns_step {l : List Ver} (hr : l.Pairwise fun a b => a.num < b.num) (n : Nat) : lnsF l n = lnsF l (n + 1) ++ lineV (fndV l (n + 1)) := by
  unfold lnsF
  rw [filt_step hr, List.reverse_append, List.flatMap_append]
  congr 1
  cases fndV l (n + 1) <;> simp [optL, lineV]
theorem lns_0 {l : List Ver} (h : ∀ v ∈ l, 0 < v.num) : lnsF l 0 = l.reverse.flatMap lineF2 := by
  unfold lnsF
  rw [List.filter_eq_self.2 (fun v hv => by simpa using h v hv)]
theorem lns_top {l : List Ver} {m : Nat} (h : ∀ v ∈ l, v.num ≤ m) : lnsF l m = [] := by
  unfold lnsF
  rw [List.filter_eq_nil_iff.2 (fun v hv => by have := h v hv; simp; omega)]
  rfl
theorem line2_len {v : Ver} (h1 : v.num < 1000000000000) (h2 : v.time < 1000000000000) : (lineF2 v).length ≤ 60 := by
  have a := dec_len10 (n := v.num) (k := 12) (by omega) (by omega)
  have b := dec_len10 (n := v.time) (k := 12) (by omega) (by omega)
  have c : (if v.mark then [103, 111, 110, 101] else qTag v.body : List UInt8).length ≤ 18 := by split <;> simp [qTag_len]
  simp only [lineF2, List.length_append, List.length_cons, List.length_nil]
  omega
theorem flatV_len {l : List Ver} (h : ∀ v ∈ l, v.num < 1000000000000 ∧ v.time < 1000000000000) : (l.flatMap lineF2).length ≤ l.length * 60 := by
  induction l with
  | nil => simp
  | cons a l ih =>
    have := ih (fun v hv => h v (List.mem_cons_of_mem _ hv))
    have h1 := h a List.mem_cons_self
    have := line2_len h1.1 h1.2
    simp only [List.flatMap_cons, List.length_append, List.length_cons]
    omega
theorem lns_len {l : List Ver} (h : ∀ v ∈ l, v.num < 1000000000000 ∧ v.time < 1000000000000) (hl : l.length ≤ 20) (m : Nat) : (lnsF l m).length ≤ 1200 := by
  unfold lnsF
  have h1 := flatV_len (l := (l.filter fun v => decide (m < v.num)).reverse) (fun v hv => h v ((List.mem_filter.1 (List.mem_reverse.1 hv)).1))
  have h2 : (l.filter fun v => decide (m < v.num)).length ≤ l.length := List.length_filter_le _ _
  rw [List.length_reverse] at h1
  omega
/-- what must be answered -/
noncomputable def wantV (o : Option Ver) : List UInt8 := match o with | none => [] | some v => if v.mark then [] else textF 200 (verFlds v (stampL v.time)) v.body
noncomputable def answV (o : Option Ver) : List UInt8 := match o with | none => textF 404 [] [] | some v => if v.mark then textF 404 [] [] else textF 200 (verFlds v (stampL v.time)) v.body
theorem fnd_take {l : List Ver} (hr : l.Pairwise fun a b => a.num < b.num) {k : Nat} {v : Ver} (hk : l[k]? = some v) (n : Nat) :
    (v.num = n → fndV (l.take k) n = none ∧ fndV (l.take (k + 1)) n = some v) ∧ (v.num ≠ n → fndV (l.take (k + 1)) n = fndV (l.take k) n) := by
  have ht : l.take (k + 1) = l.take k ++ [v] := by rw [List.take_add_one, hk]; rfl
  have hlt : ∀ a ∈ l.take k, a.num < v.num := by
    intro a ha
    have hr' := hr
    rw [← List.take_append_drop k l, List.pairwise_append] at hr'
    refine hr'.2.2 a ha v ?_
    have : (l.drop k)[0]? = some v := by rw [List.getElem?_drop]; simpa using hk
    exact List.mem_of_getElem? this
  constructor
  · intro e
    have h0 : fndV (l.take k) n = none := by
      unfold fndV
      rw [List.find?_eq_none]
      intro a ha
      have := hlt a ha
      simp
      omega
    refine ⟨h0, ?_⟩
    unfold fndV at h0 ⊢
    rw [ht, List.find?_append, h0]
    simp [e]
  · intro e
    unfold fndV
    rw [ht, List.find?_append]
    cases (l.take k).find? (fun v => v.num == n) <;> simp [e]
end Go.Proofs.YtmehkneofinmiabGreatDoor

namespace Go.Proofs.YtmehkneofinmiabGreatDoor

/-- the requests -/
theorem read_getv {key : List UInt8} (h : keyOK key = true) (n : Nat) (h0 : 0 < n) (hn : n < 1000000000) : readF (reqB getM (47 :: (key ++ [63] ++ ([118, 61] ++ Lib.decDigits n))) [] []) = .ok (0, ⟨2, key, n⟩, k0, []) :=
  rf6 (by have := (key_no h).2.1; have := dec_len10 (n := n) (k := 9) (by omega) (by omega); rw [reqB_len]; simp [getM]; omega) (parse_req0 m_get.1 m_get.2 (tv13 h n) (target_v h n h0 hn)) (by simp) (by simp) rfl
theorem read_vers {key : List UInt8} (h : keyOK key = true) : readF (reqB getM (47 :: (key ++ [63] ++ versW)) [] []) = .ok (0, ⟨3, key, 0⟩, k0, []) := by
  refine rf6 (by have := (key_no h).2.1; rw [reqB_len]; simp [getM, versW]; omega) (parse_req0 m_get.1 m_get.2 ?_ (target_versions h)) (by simp) (by simp) rfl
  intro c hc
  rcases List.mem_cons.1 hc with rfl | hc
  · decide
  · rcases List.mem_append.1 hc with hc | hc
    · rcases List.mem_append.1 hc with hc | hc
      · exact ((key_no h).2.2 c hc).1
      · rw [List.mem_singleton.1 hc]; decide
    · exact (by decide : ∀ c ∈ versW, c ≠ 13) c hc
theorem kp_v {σ : St} {key : List UInt8} (h : keyOK key = true) (n : Nat) (h0 : 0 < n) (hn : n < 1000000000) : ∃ a, ansF σ (reqB getM (47 :: (key ++ [63] ++ ([118, 61] ++ Lib.decDigits n))) [] []) = (a, σ) ∧ textF a.told a.flds a.body = answV (fndV (findE σ.ents key).vers n) := by
  rw [ans_of (read_getv h n h0 hn) (by simp), ask_r (by simp) rfl]
  have e : aimF (findE σ.ents key) ⟨2, key, n⟩ = numOf (findE σ.ents key) n := rfl
  simp only [e, condF0]
  refine ⟨_, rfl, ?_⟩
  unfold numOf answV fndV
  cases (findE σ.ents key).vers.find? (fun v => v.num == n) with
  | none => rfl
  | some v => cases hm : v.mark <;> simp [hm]
theorem kp_all {σ : St} {key : List UInt8} (h : keyOK key = true) : ansF σ (reqB getM (47 :: (key ++ [63] ++ versW)) [] []) = (if (findE σ.ents key).vers = [] then ⟨404, [], []⟩ else ⟨200, [], (findE σ.ents key).vers.reverse.flatMap lineF2⟩, σ) := by
  rw [ans_of (read_vers h) (by simp)]
  unfold askF
  rw [if_pos rfl]
end Go.Proofs.YtmehkneofinmiabGreatDoor

namespace Go.Proofs.YtmehkneofinmiabGreatDoor
open Go.RowKit

/-- a store, and a block beside it -/
def Std (B b s n : Nat) (σ : St) (bc : Array Value) (y : World) : Prop := ∃ M, Sto B y s n σ M ∧ y.heap[b]? = some (.cells bc 31 (0, 0))
theorem Std.bel {B b s n : Nat} {σ : St} {bc : Array Value} {y z : World} (h : Std B b s n σ bc y) (hb : Below y.heap.size y z) : Std B b s n σ bc z := by
  obtain ⟨M, h1, h2⟩ := h
  exact ⟨M, h1.below hb, (hb.block b (Array.getElem?_eq_some_iff.1 h2).1).trans h2⟩
theorem Std.ask {B b s n : Nat} {σ σ' : St} {bc : Array Value} (R : List UInt8) (a : Ans) (hR : ansF σ R = (a, σ')) (hl : R.length ≤ 9223372036854775807) (hlog : σ.log.length < 1000000000) : AskR s B R (textF a.told a.flds a.body) (Std B b s n σ bc) (Std B b s n σ' bc) := by
  rintro y ⟨M, h1, h2⟩
  refine (do_sto R h1 (by omega) hl hR).mono ?_
  rintro e w' ⟨rfl, _, M2, hS2, hO2, hP2⟩
  exact ⟨rfl, ⟨M2, hS2, (hO2.block b (Array.getElem?_eq_some_iff.1 h2).1 (fun ho => (own_book h1.st ho).1 h2)).trans h2⟩, hP2⟩
theorem Std.len {B b s n : Nat} {σ : St} {bc : Array Value} {y : World} (h : Std B b s n σ bc y) (hlog : σ.log.length < 1000000000) (R : List UInt8) : (textF (ansF σ R).1.told (ansF σ R).1.flds (ansF σ R).1.body).length ≤ 1000000000 := by
  obtain ⟨M, h1, h2⟩ := h
  exact text_len (ans_ok h1.st (by omega) R)
noncomputable def txtR (σ : St) (R : List UInt8) : List UInt8 := textF (ansF σ R).1.told (ansF σ R).1.flds (ansF σ R).1.body
noncomputable def dumpF (σ : St) : List UInt8 := dmpF (txtR σ (reqB [71, 69, 84] [47] [] [])) (fun i => txtR σ (reqB [71, 69, 84] (47 :: nmK i) [] [])) (fun i => txtR σ (reqB [71, 69, 84] (47 :: nmK i ++ versQ) [] [])) 5 ++ σ.log ++ Lib.decDigits σ.time
theorem same_get (σ : St) (i : Nat) : (ansF σ (reqB [71, 69, 84] (47 :: nmK i) [] [])).2 = σ := by
  cases hc : curOf (findE σ.ents (nmK i)) with
  | none => exact congrArg Prod.snd (hd_get0 (nmK_ok i) hc)
  | some v => exact congrArg Prod.snd (hd_get (nmK_ok i) hc)
theorem same_vers (σ : St) (i : Nat) : (ansF σ (reqB [71, 69, 84] (47 :: nmK i ++ versQ) [] [])).2 = σ := by
  have h := kp_all (σ := σ) (nmK_ok i)
  have e : (47 :: (nmK i ++ [63] ++ versW) : List UInt8) = 47 :: nmK i ++ versQ := by simp [versW, versQ]
  rw [e] at h
  exact congrArg Prod.snd h
theorem Std.dump {B b s n : Nat} {σ : St} {bc : Array Value} (hlog : σ.log.length < 1000000000) : DumpR s B (dumpF σ) (Std B b s n σ bc) := by
  intro w hw
  have hd : Dsk B s (Std B b s n σ bc) (fun R T => (ansF σ R).2 = σ ∧ T = txtR σ R ∧ R.length < 3000) σ.time σ.log nmK := by
    refine ⟨fun y z h hb => h.bel hb, ?_, ?_, ?_, ?_, fun i hi y => named_any i y hi, fun i _ => (key_no (nmK_ok i)).2.1⟩
    · rintro R T ⟨h1, rfl, h3⟩ y hy
      have hR : ansF σ R = ((ansF σ R).1, σ) := Prod.ext rfl h1
      exact Std.ask R (ansF σ R).1 hR (by omega) hlog y hy
    · rintro y ⟨M, h1, h2⟩
      exact clock_any y h1.st
    · rintro y ⟨M, h1, h2⟩
      refine (log_store y h1.st).mono ?_
      rintro e w' ⟨rfl, hS, hO⟩
      have hB : B ≤ s := h1.own s (Or.inl rfl)
      have hO2 : Off (fun k => B ≤ k) y w' := hO.mono (fun k hk => by rw [hk]; exact hB)
      exact ⟨rfl, ⟨M, ⟨h1.env.off hO2, hS, h1.own⟩, (hO.block b (Array.getElem?_eq_some_iff.1 h2).1 (fun e => (own_book h1.st (k := b) (Or.inl e)).1 h2)).trans h2⟩, hO2⟩
    · rintro y ⟨M, h1, h2⟩
      have := h1.st.time
      exact itoaN σ.time y (by omega) h1.env.tb.b
  have hsm := (Std.len hw hlog)
  have htm : σ.time ≤ 253402300799 := by obtain ⟨M, h1, _⟩ := hw; exact h1.st.time
  refine dump_walk hd _ _ _ w hw ⟨congrArg Prod.snd (read_list (σ := σ)), rfl, by decide⟩ (fun i _ => ⟨same_get σ i, rfl, ?_⟩) (fun i _ => ⟨same_vers σ i, rfl, ?_⟩) (hsm _) (fun i _ => hsm _) (fun i _ => hsm _) (by omega) (dec_len10 (by omega) (by omega))
  · have := (key_no (nmK_ok i)).2.1
    rw [reqB_len]
    simp
    omega
  · have := (key_no (nmK_ok i)).2.1
    rw [reqB_len]
    simp [versQ]
    omega
theorem dec_three {n : Nat} (h1 : 100 ≤ n) (h2 : n < 1000) : (Lib.decDigits n).length = 3 := by
  rw [Lib.decDigits_length]
  exact Lib.nDigits_unique 2 n h1 h2
theorem code_r (told : Nat) (h1 : 100 ≤ told) (h2 : told < 1000) : CodeR (textF told [] []) told := fun y =>
  code_text told [] [] y h1 h2 (by have := dec_len10 (n := told) (k := 5) (by omega) (by omega); simp [textF]; omega)
theorem refused_walk (x : Int) (v : Value) (any : List UInt8) (l : List Stp) (w : World) (hM : MaxIs w) (hT : Tbl w) (ix0 : -9223372036854775808 ≤ x) (ix1 : x ≤ 9223372036854775807) (hv : StpAt w v l) (hany : any.length ≤ 9223372036854775807) :
    Calls Tryz.prog 5 #[.int .i64 x, v, .string ⟨any.toArray⟩] w fun e w' => e = .returned (.bool true) ∧ Off (fun k => w.heap.size ≤ k) w w' := by
  have hsl : ∃ a n m, v = .slice a n m := by
    obtain ⟨o, cap, e, _⟩ := hv.lie
    exact ⟨_, _, _, e⟩
  have HP := played_any x v l w hM hT ix0 ix1 hv
  have hg := good_played l
  obtain ⟨σ, hσ⟩ : ∃ σ, playF st0 (l.take 400) = σ := ⟨_, rfl⟩
  rw [hσ] at HP hg
  obtain ⟨a, σ', ha⟩ : ∃ a σ', ansF σ any = (a, σ') := ⟨_, _, (Prod.eta _).symm⟩
  have hcd := ans_codes σ any
  have hlg := ans_log σ any
  rw [ha] at hcd hlg
  have h4 : Lib.decDigits 400 = [52, 48, 48] := by kernel_rfl
  have h5 : Lib.decDigits 405 = [52, 48, 53] := by kernel_rfl
  have hne : ¬ textF 400 [] [] = textF 405 [] [] := by unfold textF; rw [h4, h5]; simp
  refine refused_core x v any w (dumpF σ) (dumpF σ') (textF a.told a.flds a.body) (textF 400 [] []) (textF 400 [] []) (textF 405 [] []) a.told ((Lib.decDigits a.told).length + (a.flds.flatMap fldText).length + 4) hne hne ?_ ?_ (HP.mono ?_) hsl
  · rcases hcd.2 with h | h | h | ⟨_, h⟩
    · right; left; exact congrArg Int.ofNat h
    · right; right; left; exact congrArg Int.ofNat h
    · right; right; right; exact congrArg Int.ofNat h
    · left
      have hd : (Lib.decDigits a.told).length = 3 := dec_three hcd.1.1 hcd.1.2
      have h' : a.flds = [] := h
      rw [h', hd]
      rfl
  · rcases hcd.2 with h | h | h | ⟨h, _⟩
    · left; exact congrArg Int.ofNat h
    · right; left; exact congrArg Int.ofNat h
    · right; right; left; exact congrArg Int.ofNat h
    · right; right; right
      have h' : σ' = σ := h
      rw [h']
  · rintro e w' ⟨b, s, n, M, vs, d, c, rfl, hn, hc4, hB, hO⟩
    have hl1 : σ.log.length < 1000000000 := by have := hB.lg; omega
    have hl2 : σ'.log.length < 1000000000 := by have := hB.lg; have h' : σ'.log.length ≤ σ.log.length + 1000 := hlg; omega
    have hS1 : Std w.heap.size b s n σ (bookCells s (enK σ) vs σ.time d) w' := ⟨M, hB.sto, hB.bk.blk⟩
    have hk : ∀ E ∈ σ.ents, keyOK E.key = true := fun E hE => (hB.sto.st.ok E hE).key
    have hcl := cln_ans hg hk any
    have hlen := Std.len hS1 hl1 any
    rw [ha] at hcl hlen
    have cell : ∀ (τ : St) (y : World), Std w.heap.size b s n τ (bookCells s (enK σ) vs σ.time d) y → y.cell? ⟨b, 0, none⟩ = some (.pointer (some ⟨s, 0, none⟩)) := by
      rintro τ y ⟨_, _, h2⟩
      simp [World.cell?, h2, bookCells]
    have size : ∀ (τ : St) (y : World), Std w.heap.size b s n τ (bookCells s (enK σ) vs σ.time d) y → b < y.heap.size := by
      rintro τ y ⟨_, _, h2⟩
      exact (Array.getElem?_eq_some_iff.1 h2).1
    exact ⟨b, s, Std w.heap.size b s n σ (bookCells s (enK σ) vs σ.time d), Std w.heap.size b s n σ' (bookCells s (enK σ) vs σ.time d), rfl,
      ⟨fun y => code_text a.told a.flds a.body y hcd.1.1 hcd.1.2 hlen, fun y => head_t a.told a.flds a.body y hcl hlen, code_r 400 (by omega) (by omega), code_r 400 (by omega) (by omega), code_r 405 (by omega) (by omega),
        fun y z h hb => h.bel hb, fun y z h hb => h.bel hb, size σ, size σ', cell σ, cell σ', Std.dump hl1, Std.dump hl2, Std.ask any a ha hany hl1,
        Std.ask _ ⟨400, [], []⟩ (ans_err bad_read) (by decide) hl2, Std.ask _ ⟨400, [], []⟩ (ans_err non_read) (by decide) hl2, Std.ask _ ⟨405, [], []⟩ (ans_err for_read) (by decide) hl2⟩, hS1, hO⟩
end Go.Proofs.YtmehkneofinmiabGreatDoor

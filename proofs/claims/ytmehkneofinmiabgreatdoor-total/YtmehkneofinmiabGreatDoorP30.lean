/-
  Texts of this proof, part 30.
-/
import Derived.Test.YtmehkneofinmiabGreatDoorP29
import Derived.Test.YtmehkneofinmiabGreatDoorP14
import Derived.Test.YtmehkneofinmiabGreatDoorP22
namespace Go.Proofs.YtmehkneofinmiabGreatDoor
open Go.RowKit
def numOf (E : Ent) (n : Nat) : Option Ver := match E.vers.find? (fun v => v.num == n) with
  | none => none
  | some v => if v.mark then none else some v
def aimF (E : Ent) (t : Tgt) : Option Ver := if t.kind = 2 then numOf E t.num else curOf E
theorem vidx_find (l : List Ver) (n : Nat) : (match vidx l n with | some i => l[i]? | none => none) = l.find? (fun v => v.num == n) := by
  induction l with
  | nil => rfl
  | cons a l ih =>
    unfold vidx at ih ⊢
    rw [List.findIdx?_cons, List.find?_cons]
    by_cases h : a.num = n
    · simp [h]
    · have h1 : ((a.num : Int) == (n : Int)) = false := beq_eq_false_iff_ne.2 (by omega)
      have h2 : (a.num == n) = false := beq_eq_false_iff_ne.2 h
      rw [h1, h2, if_neg (by simp)]
      rw [← ih]
      cases List.findIdx? (fun v : Ver => (v.num : Int) == (n : Int)) l <;> rfl
theorem numbered_any (p : Nat) (E : Ent) (vs : Value) (n : Nat) (w : World) (h : EntAt w p E vs) (hl : E.vers.length < 1000) :
    Calls Tryz.prog 99 #[.pointer (some ⟨p, 0, none⟩), .int .i64 n] w fun e w' => (∃ v : Ver, e = .returned (.tuple #[verAgg v, .bool (numOf E n).isSome]) ∧ (∀ u, numOf E n = some u → v = u)) ∧ Below w.heap.size w w' := by
  have hf := vidx_find E.vers n
  cases hv : vidx E.vers n with
  | none =>
    rw [hv] at hf
    refine (numbered_none p E vs n w h (by omega) hv).mono ?_
    rintro e w' ⟨rfl, hb⟩
    refine ⟨⟨⟨0, 0, false, []⟩, ?_, fun u hu => ?_⟩, hb⟩
    · simp only [numOf, ← hf]
      rfl
    · simp [numOf, ← hf] at hu
  | some i =>
    obtain ⟨v, hget, _⟩ := vidx_get hv
    rw [hv] at hf
    simp only [hget] at hf
    refine (numbered_some p E vs n w h (by omega) i v hv hget).mono ?_
    rintro e w' ⟨rfl, hb⟩
    refine ⟨⟨v, ?_, fun u hu => ?_⟩, hb⟩
    · cases hm : v.mark <;> simp [numOf, ← hf, hm]
    · cases hm : v.mark <;> simp [numOf, ← hf, hm] at hu
      exact hu
set_option maxRecDepth 100000 in
set_option maxHeartbeats 2000000 in
theorem aim_any (p : Nat) (E : Ent) (vs : Value) (t : Tgt) (w : World) (h : EntAt w p E vs) (hl : E.vers.length < 1000) :
    Calls Tryz.prog 67 #[.pointer (some ⟨p, 0, none⟩), tgV t] w fun e w' => (∃ v : Ver, e = .returned (.tuple #[verAgg v, .bool (aimF E t).isSome]) ∧ (∀ u, aimF E t = some u → v = u)) ∧ Below w.heap.size w w' := by
  have HE : Hid _ := h
  clear h
  unfold tgV
  by_cases hk : t.kind = 2
  · have hki : ((t.kind : Int) == 2) = true := by rw [hk]; rfl
    have ha : aimF E t = numOf E t.num := by simp [aimF, hk]
    rw [ha]
    clear ha
    go_enter Tryz.func67, Tryz.ntmps67
    go_wp2_with fail
    have hal : Below w.heap.size w ((w.alloc (.cells #[.int .i64 2, .string ⟨t.key.toArray⟩, .int .i64 (t.num : Int)] 68)).alloc (.cells #[.int .i64 0, .int .i64 0, .bool false, .string ⟨#[]⟩] 147)) := ((Below.refl _ _).alloc (Nat.le_refl _) _).alloc (by simp) _
    refine (numbered_any p E vs t.num _ (HE.out.below hal) hl).mono ?_
    rintro e w1 ⟨⟨v, rfl, hv⟩, hb1⟩
    have hz : w1.heap[w.heap.size + 1]? = some (.cells #[.int .i64 0, .int .i64 0, .bool false, .string ⟨#[]⟩] 147 (0, 0)) := by
      refine (hb1.block _ (by simp)).trans ?_
      have := heap_alloc_new (w.alloc (.cells #[.int .i64 2, .string ⟨t.key.toArray⟩, .int .i64 (t.num : Int)] 68)) (.cells #[.int .i64 0, .int .i64 0, .bool false, .string ⟨#[]⟩] 147)
      simpa using this
    have HB : Hid (Below w.heap.size w w1) := hal.trans (hb1.mono (by simp; omega))
    have HV : Hid _ := hv
    have HZ : Hid _ := hz
    obtain ⟨cc, hcc⟩ : ∃ x, (numOf E t.num).isSome = x := ⟨_, rfl⟩
    have HCC : Hid _ := hcc
    rw [hcc]
    clear hb1 hal hv hz hcc
    unfold verAgg
    go_wp2_with (refine wpList_store_row rfl 147 (.tmp 4) (.tmp 13) rfl (w.heap.size + 1) #[.int .i64 v.num, .int .i64 v.time, .bool v.mark, .string ⟨v.body.toArray⟩] rfl rfl 147 #[.int .i64 0, .int .i64 0, .bool false, .string ⟨#[]⟩] HZ.out hi154 rfl (by simp [Value.oneCell']) ?_)
    refine bodyPost_ret (v := .tuple #[verAgg v, .bool cc]) (results_row_tmp Tryz.results67 _ _ (w.heap.size + 1) _ _ _ _ rfl (setRow_heap _ _ _ _ _ _ HZ.out) Tryz.underlying147 rfl hi154) rfl ⟨⟨v, by rw [HCC.out], HV.out⟩, below_setRow HB.out (by omega) _⟩
  · have hki : ((t.kind : Int) == 2) = false := beq_eq_false_iff_ne.2 (by omega)
    have ha : aimF E t = curOf E := by simp [aimF, hk]
    rw [ha]
    clear ha
    go_enter Tryz.func67, Tryz.ntmps67
    go_wp2_with fail
    have hal : Below w.heap.size w ((w.alloc (.cells #[.int .i64 (t.kind : Int), .string ⟨t.key.toArray⟩, .int .i64 (t.num : Int)] 68)).alloc (.cells #[.int .i64 0, .int .i64 0, .bool false, .string ⟨#[]⟩] 147)) := ((Below.refl _ _).alloc (Nat.le_refl _) _).alloc (by simp) _
    refine (current_any p E vs _ (HE.out.below hal) hl).mono ?_
    rintro e w1 ⟨⟨v, rfl, hv⟩, hb1⟩
    have hz : w1.heap[w.heap.size + 1]? = some (.cells #[.int .i64 0, .int .i64 0, .bool false, .string ⟨#[]⟩] 147 (0, 0)) := by
      refine (hb1.block _ (by simp)).trans ?_
      have := heap_alloc_new (w.alloc (.cells #[.int .i64 (t.kind : Int), .string ⟨t.key.toArray⟩, .int .i64 (t.num : Int)] 68)) (.cells #[.int .i64 0, .int .i64 0, .bool false, .string ⟨#[]⟩] 147)
      simpa using this
    have HB : Hid (Below w.heap.size w w1) := hal.trans (hb1.mono (by simp; omega))
    have HV : Hid _ := hv
    have HZ : Hid _ := hz
    obtain ⟨cc, hcc⟩ : ∃ x, (curOf E).isSome = x := ⟨_, rfl⟩
    have HCC : Hid _ := hcc
    rw [hcc]
    clear hb1 hal hv hz hcc
    unfold verAgg
    go_wp2_with (refine wpList_store_row rfl 147 (.tmp 4) (.tmp 17) rfl (w.heap.size + 1) #[.int .i64 v.num, .int .i64 v.time, .bool v.mark, .string ⟨v.body.toArray⟩] rfl rfl 147 #[.int .i64 0, .int .i64 0, .bool false, .string ⟨#[]⟩] HZ.out hi154 rfl (by simp [Value.oneCell']) ?_)
    refine bodyPost_ret (v := .tuple #[verAgg v, .bool cc]) (results_row_tmp Tryz.results67 _ _ (w.heap.size + 1) _ _ _ _ rfl (setRow_heap _ _ _ _ _ _ HZ.out) Tryz.underlying147 rfl hi154) rfl ⟨⟨v, by rw [HCC.out], HV.out⟩, below_setRow HB.out (by omega) _⟩
end Go.Proofs.YtmehkneofinmiabGreatDoor

namespace Go.Proofs.YtmehkneofinmiabGreatDoor
structure St where
  time : Nat
  ents : List Ent
  log : List UInt8
def RiseL (l : List Ent) : Prop := l.Pairwise fun a b => cmpB a.key b.key = -1
structure EntOK (E : Ent) : Prop where
  key : keyOK E.key = true
  last : 0 < E.last
  len : E.vers.length ≤ 20
  num : ∀ v ∈ E.vers, v.num ≤ E.last
  rise : E.vers.Pairwise fun a b => a.num < b.num
  time : ∀ v ∈ E.vers, v.time ≤ 253402300799
  body : ∀ v ∈ E.vers, v.body.length ≤ 400
def findE (l : List Ent) (key : List UInt8) : Ent := (l.find? fun E => E.key == key).getD ⟨key, 0, []⟩
def putE : List Ent → Ent → List Ent
  | [], E => [E]
  | a :: l, E => if a.key = E.key then E :: l else if cmpB E.key a.key = -1 then E :: a :: l else a :: putE l E
def applyF (E : Ent) (k t n : Nat) (body : List UInt8) : Ent :=
  if k = 3 then ⟨E.key, E.last, E.vers.eraseIdx ((vidx E.vers n).getD 0)⟩ else ⟨E.key, n, E.vers ++ [⟨n, t, k == 2, body⟩]⟩
def chgF (σ : St) (key : List UInt8) (k n : Nat) (body : List UInt8) : Nat × Option St :=
  if obstF (findE σ.ents key) k n ≠ 0 then (obstF (findE σ.ents key) k n, none)
  else if (findE σ.ents key).last = 0 ∧ 60 ≤ σ.ents.length then (507, none)
  else (succF (findE σ.ents key) k, some ⟨σ.time, putE σ.ents (applyF (findE σ.ents key) k σ.time n body), σ.log ++ recF k σ.time key n body⟩)
theorem findE_key (l : List Ent) (key : List UInt8) : (findE l key).key = key := by
  unfold findE
  cases h : l.find? fun E => E.key == key with
  | none => rfl
  | some E =>
    have := List.find?_some h
    simpa using this
theorem applyF_key (E : Ent) (k t n : Nat) (body : List UInt8) : (applyF E k t n body).key = E.key := by
  unfold applyF
  split <;> rfl
theorem findE_mem {l : List Ent} {key : List UInt8} (h : (findE l key).last ≠ 0) : findE l key ∈ l := by
  unfold findE at h ⊢
  cases h' : l.find? fun E => E.key == key with
  | none => rw [h'] at h; exact absurd rfl h
  | some E => exact List.mem_of_find?_eq_some h'
theorem findE_none {l : List Ent} {key : List UInt8} (hok : ∀ E ∈ l, 0 < E.last) (h : (findE l key).last = 0) : (∀ E ∈ l, E.key ≠ key) ∧ findE l key = ⟨key, 0, []⟩ := by
  unfold findE at h ⊢
  cases h' : l.find? fun E => E.key == key with
  | none =>
    refine ⟨fun E hE e => ?_, rfl⟩
    have := List.find?_eq_none.1 h' E hE
    simp [e] at this
  | some E =>
    rw [h'] at h
    have := hok E (List.mem_of_find?_eq_some h')
    simp at h
    omega
theorem putE_mem {l : List Ent} {E A : Ent} (h : A ∈ putE l E) : A = E ∨ A ∈ l := by
  induction l with
  | nil => simpa [putE] using h
  | cons a l ih =>
    unfold putE at h
    split at h
    · rcases List.mem_cons.1 h with h | h
      · exact Or.inl h
      · exact Or.inr (List.mem_cons_of_mem _ h)
    · split at h
      · rcases List.mem_cons.1 h with h | h
        · exact Or.inl h
        · exact Or.inr h
      · rcases List.mem_cons.1 h with h | h
        · exact Or.inr (by rw [h]; exact List.mem_cons_self)
        · exact (ih h).imp_right (List.mem_cons_of_mem _)
theorem putE_rise {l : List Ent} (h : RiseL l) (E : Ent) : RiseL (putE l E) := by
  induction l with
  | nil => simp [putE, RiseL]
  | cons a l ih =>
    have ⟨h1, h2⟩ := List.pairwise_cons.1 h
    unfold putE
    split
    · rename_i e
      exact List.pairwise_cons.2 ⟨fun b hb => by rw [← e]; exact h1 b hb, h2⟩
    · split
      · rename_i e
        refine List.pairwise_cons.2 ⟨fun b hb => ?_, h⟩
        rcases List.mem_cons.1 hb with rfl | hb
        · exact e
        · exact cmpB_trans _ _ _ e (h1 b hb)
      · rename_i e1 e2
        refine List.pairwise_cons.2 ⟨fun b hb => ?_, ih h2⟩
        rcases putE_mem hb with h0 | hb
        · rw [h0]
          rcases cmpB_range E.key a.key with h | h | h
          · exact absurd h e2
          · exact absurd (cmpB_eq _ _ h).symm e1
          · rw [cmpB_swap, h]
        · exact h1 b hb
theorem cmpB_ne {a b : List UInt8} (h : cmpB a b = -1) : a ≠ b := by
  intro e
  rw [e, cmpB_refl] at h
  cases h
theorem putE_at {l : List Ent} {E A : Ent} {i : Nat} (hr : RiseL l) (h : l[i]? = some A) (hk : A.key = E.key) : putE l E = l.set i E := by
  induction l generalizing i with
  | nil => simp at h
  | cons a l ih =>
    have ⟨h1, h2⟩ := List.pairwise_cons.1 hr
    unfold putE
    cases i with
    | zero =>
      simp at h
      rw [h, if_pos hk]
      rfl
    | succ i =>
      have hA : l[i]? = some A := by simpa using h
      have hlt := h1 A (List.mem_of_getElem? hA)
      rw [if_neg (by rw [← hk]; exact cmpB_ne hlt), if_neg (by rw [← hk, cmpB_swap, hlt]; decide), ih h2 hA]
      rfl
theorem putE_new {l : List Ent} {E : Ent} {i : Nat} (hr : RiseL l) (hp : IsPos (l.map Ent.key) E.key i) (hn : ∀ A ∈ l, A.key ≠ E.key) : putE l E = l.take i ++ E :: l.drop i := by
  induction l generalizing i with
  | nil => simp [putE]
  | cons a l ih =>
    have ⟨h1, h2⟩ := List.pairwise_cons.1 hr
    unfold putE
    rw [if_neg (hn a List.mem_cons_self)]
    cases i with
    | zero =>
      have h0 := hp.hi 0 a.key (Nat.le_refl _) (by simp)
      have : cmpB E.key a.key = -1 := by
        rcases cmpB_range E.key a.key with h | h | h
        · exact h
        · exact absurd (cmpB_eq _ _ h).symm (hn a List.mem_cons_self)
        · rw [cmpB_swap, h] at h0
          omega
      rw [if_pos this]
      rfl
    | succ i =>
      have h0 := hp.lo 0 a.key (by omega) (by simp)
      rw [if_neg (by rw [cmpB_swap, h0]; decide)]
      rw [ih h2 (i := i) ⟨by have := hp.le; simp at this ⊢; omega, fun j b hj hb => hp.lo (j + 1) b (by omega) (by simpa using hb), fun j b hj hb => hp.hi (j + 1) b (by omega) (by simpa using hb)⟩ (fun A hA => hn A (List.mem_cons_of_mem _ hA))]
      rfl
theorem isPos_ex {l : List Ent} (hr : RiseL l) (t : List UInt8) : ∃ i, IsPos (l.map Ent.key) t i := by
  induction l with
  | nil => exact ⟨0, by simp, fun j a hj => by omega, fun j a _ h => by simp at h⟩
  | cons a l ih =>
    have ⟨h1, h2⟩ := List.pairwise_cons.1 hr
    by_cases ha : cmpB a.key t = -1
    · obtain ⟨i, hi⟩ := ih h2
      refine ⟨i + 1, by have := hi.le; simp at this ⊢; omega, fun j b hj hb => ?_, fun j b hj hb => ?_⟩
      · cases j with
        | zero => simp at hb; rw [← hb]; exact ha
        | succ j => exact hi.lo j b (by omega) (by simpa using hb)
      · cases j with
        | zero => omega
        | succ j => exact hi.hi j b (by omega) (by simpa using hb)
    · refine ⟨0, by simp, fun j b hj => by omega, fun j b _ hb => ?_⟩
      have hge : 0 ≤ cmpB a.key t := by rcases cmpB_range a.key t with h | h | h <;> omega
      cases j with
      | zero => simp at hb; rw [← hb]; exact hge
      | succ j =>
        have hb' : (l.map Ent.key)[j]? = some b := by simpa using hb
        obtain ⟨B, hB, rfl⟩ := List.mem_map.1 (List.mem_of_getElem? hb')
        have hlt := h1 B hB
        rcases cmpB_range B.key t with h | h | h
        · have := cmpB_trans _ _ _ hlt h
          omega
        · omega
        · omega
theorem RiseL.rising {l : List Ent} (h : RiseL l) : Rising (l.map Ent.key) := by
  intro i j a b hij ha hb
  rw [List.getElem?_map] at ha hb
  obtain ⟨A, hA, rfl⟩ := Option.map_eq_some_iff.1 ha
  obtain ⟨B, hB, rfl⟩ := Option.map_eq_some_iff.1 hb
  obtain ⟨hi, rfl⟩ := List.getElem?_eq_some_iff.1 hA
  obtain ⟨hj, rfl⟩ := List.getElem?_eq_some_iff.1 hB
  exact List.pairwise_iff_getElem.1 h i j hi hj hij
theorem RiseL.filter {l : List Ent} (h : RiseL l) (P : Ent → Bool) : RiseL (l.filter P) := List.Pairwise.filter _ h
theorem putE_cons (a : Ent) (l : List Ent) (E : Ent) : putE (a :: l) E = if a.key = E.key then E :: l else if cmpB E.key a.key = -1 then E :: a :: l else a :: putE l E := rfl
theorem putE_filter_yes {l : List Ent} (hr : RiseL l) (E : Ent) (P : List UInt8 → Bool) (hp : P E.key = true) : (putE l E).filter (fun A => P A.key) = putE (l.filter fun A => P A.key) E := by
  induction l with
  | nil => simp [putE, hp]
  | cons a l ih =>
    have ⟨h1, h2⟩ := List.pairwise_cons.1 hr
    rw [putE_cons]
    by_cases e : a.key = E.key
    · rw [if_pos e, List.filter_cons, if_pos hp, List.filter_cons, if_pos (by rw [e]; exact hp), ]
      simp [putE_cons, e]
    · rw [if_neg e]
      by_cases hlt : cmpB E.key a.key = -1
      · rw [if_pos hlt, List.filter_cons, if_pos hp]
        by_cases ha : P a.key = true
        · rw [List.filter_cons, if_pos ha]
          simp [putE_cons, e, hlt]
        · rw [List.filter_cons, if_neg ha]
          cases hf : l.filter fun A => P A.key with
          | nil => rfl
          | cons b r =>
            have hb : b ∈ l := (List.mem_filter.1 (by rw [hf]; exact List.mem_cons_self : b ∈ l.filter fun A => P A.key)).1
            have hlt2 := cmpB_trans _ _ _ hlt (h1 b hb)
            simp [putE_cons, hlt2, (cmpB_ne hlt2).symm]
      · rw [if_neg hlt, List.filter_cons]
        by_cases ha : P a.key = true
        · rw [if_pos ha, ih h2, List.filter_cons, if_pos ha]
          simp [putE_cons, e, hlt]
        · rw [if_neg ha, ih h2, List.filter_cons, if_neg ha]
theorem putE_filter_no {l : List Ent} (E : Ent) (P : List UInt8 → Bool) (hp : P E.key = false) : (putE l E).filter (fun A => P A.key) = l.filter fun A => P A.key := by
  induction l with
  | nil => simp [putE, hp]
  | cons a l ih =>
    rw [putE_cons]
    by_cases e : a.key = E.key
    · rw [if_pos e, List.filter_cons, List.filter_cons, e, hp]
      simp
    · rw [if_neg e]
      by_cases hlt : cmpB E.key a.key = -1
      · rw [if_pos hlt, List.filter_cons, hp]
        simp
      · rw [if_neg hlt, List.filter_cons, ih, List.filter_cons]
theorem obst_zero {E : Ent} {k n : Nat} (h : obstF E k n = 0) : (k = 3 → ∃ i, vidx E.vers n = some i) ∧ (k ≠ 3 → E.vers.length < 20) := by
  unfold obstF at h
  refine ⟨fun hk => ?_, fun hk => ?_⟩
  · rw [if_pos hk] at h
    cases hv : vidx E.vers n with
    | none => rw [hv] at h; simp at h
    | some i => exact ⟨i, rfl⟩
  · rw [if_neg hk] at h
    split at h
    · omega
    · split at h
      · omega
      · omega
theorem applyF_ok {E : Ent} {k t n : Nat} {body : List UInt8} (hkey : keyOK E.key = true) (hnum : ∀ v ∈ E.vers, v.num ≤ E.last) (hrise : E.vers.Pairwise fun a b => a.num < b.num) (htime : ∀ v ∈ E.vers, v.time ≤ 253402300799) (hbody : ∀ v ∈ E.vers, v.body.length ≤ 400) (hlen : E.vers.length ≤ 20)
    (ho : obstF E k n = 0) (h3 : k = 3 → 0 < E.last) (hn : k ≠ 3 → n = E.last + 1) (ht : t ≤ 253402300799) (hb : body.length ≤ 400) : EntOK (applyF E k t n body) := by
  have ⟨o1, o2⟩ := obst_zero ho
  unfold applyF
  split
  · rename_i hk
    have hsub : ∀ v ∈ E.vers.eraseIdx ((vidx E.vers n).getD 0), v ∈ E.vers := fun v hv => List.mem_of_mem_eraseIdx hv
    refine ⟨hkey, h3 hk, ?_, fun v hv => hnum v (hsub v hv), ?_, fun v hv => htime v (hsub v hv), fun v hv => hbody v (hsub v hv)⟩
    · exact Nat.le_trans (List.length_eraseIdx_le _ _) hlen
    · exact hrise.sublist (List.eraseIdx_sublist _ _)
  · rename_i hk
    have hn' := hn hk
    have hl := o2 hk
    refine ⟨hkey, by show 0 < n; omega, by show (E.vers ++ _).length ≤ 20; simp; omega, fun v hv => ?_, ?_, fun v hv => ?_, fun v hv => ?_⟩
    · rcases List.mem_append.1 hv with hv | hv
      · have := hnum v hv
        show v.num ≤ n
        omega
      · simp at hv
        rw [hv]
        exact Nat.le_refl _
    · refine List.pairwise_append.2 ⟨hrise, by simp, fun a ha b hb => ?_⟩
      simp at hb
      rw [hb]
      have := hnum a ha
      show a.num < n
      omega
    · rcases List.mem_append.1 hv with hv | hv
      · exact htime v hv
      · simp at hv
        rw [hv]
        exact ht
    · rcases List.mem_append.1 hv with hv | hv
      · exact hbody v hv
      · simp at hv
        rw [hv]
        exact hb
theorem applyF_last {E : Ent} {k t n : Nat} {body : List UInt8} (hn : k ≠ 3 → n = E.last + 1) : (applyF E k t n body).last ≤ E.last + 1 := by
  unfold applyF
  split
  · exact Nat.le_succ _
  · rename_i hk
    rw [hn hk]
    exact Nat.le_refl _
end Go.Proofs.YtmehkneofinmiabGreatDoor

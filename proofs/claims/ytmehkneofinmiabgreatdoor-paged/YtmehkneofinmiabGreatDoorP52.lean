/-
  Texts of this proof, part 52.
-/
import Derived.Test.YtmehkneofinmiabGreatDoorP51
namespace Go.Proofs.YtmehkneofinmiabGreatDoor
open Go.RowKit
theorem std_cell {B b s n : Nat} {σ : St} {en : Nat → Ent} {vs : Nat → Value} {t d : Nat} {y : World} (h : Std B b s n σ (bookCells s en vs t d) y) : b < y.heap.size ∧ y.cell? ⟨b, 0, none⟩ = some (.pointer (some ⟨s, 0, none⟩)) := by
  obtain ⟨M, h1, h2⟩ := h
  exact ⟨(Array.getElem?_eq_some_iff.1 h2).1, by simp [World.cell?, h2, bookCells]⟩
theorem reqG_len (u : List UInt8) : (reqB getM u [] []).length = u.length + 8 := by
  rw [reqB_len]
  simp [getM]
  omega
theorem pg_ord {A : List (List UInt8)} (hA : A.Pairwise fun a b => cmpB a b = -1) (la : List UInt8) (hla : ∀ k ∈ A, cmpB la k = -1) {j : Nat} {k : List UInt8} (h : A[j]? = some k) : Op.bytesLess k (lastP la A j) = false ∧ (k == lastP la A j) = false := by
  have hlt : cmpB (lastP la A j) k = -1 := by
    cases j with
    | zero => exact hla k (List.mem_of_getElem? h)
    | succ j =>
      have hj : j + 1 < A.length := (List.getElem?_eq_some_iff.1 h).1
      have hjj : A[j]? = some A[j] := List.getElem?_eq_getElem (by omega)
      show cmpB (A.getD j []) k = -1
      rw [List.getD_eq_getElem?_getD, hjj]
      have := List.pairwise_iff_getElem.1 hA j (j + 1) (by omega) hj (by omega)
      rw [(List.getElem?_eq_some_iff.1 h).2] at this
      exact this
  refine ⟨by rw [less_cmp, cmpB_swap, hlt]; rfl, ?_⟩
  rw [beq_eq_false_iff_ne]
  intro e
  rw [← e, cmpB_refl] at hlt
  cases hlt
theorem nil_lt {k : List UInt8} (h : keyOK k = true) : cmpB [] k = -1 := by
  cases k with
  | nil => simp [keyOK] at h
  | cons a r => rfl
theorem key_10 {k : List UInt8} (h : keyOK k = true) : 1 ≤ k.length ∧ k.length ≤ 40 ∧ ∀ c ∈ k, c ≠ 10 := by
  refine ⟨?_, (key_no h).2.1, fun c hc => ((key_no h).2.2 c hc).2.2.2.2⟩
  cases k with
  | nil => simp [keyOK] at h
  | cons a r => simp
set_option maxHeartbeats 1000000 in
theorem pages_of {N : Nat} {σ : St} (h : Once σ N) (h1 : 1 ≤ N) (h60 : N ≤ 60) :
    ∃ np tg sn la ks G mo, ∀ (B b s m : Nat) (bc : Array Value), Pgs s B N tP (Std B b s m σ bc) np tg sn la ks G mo := by
  obtain ⟨A, hA⟩ : ∃ A, σ.ents.map Ent.key = A := ⟨_, rfl⟩
  have hAl : A.length = N := by rw [← hA, List.length_map, h.len]
  have hAk : ∀ k ∈ A, keyOK k = true := fun k hk => by
    rw [← hA] at hk
    obtain ⟨E, hE, rfl⟩ := List.mem_map.1 hk
    exact (h.one E hE).2.2
  have hAr : A.Pairwise fun a b => cmpB a b = -1 := by
    rw [← hA, List.pairwise_map]
    exact h.rise
  have hall := once_all h
  rw [hA] at hall
  have hp0 := page_ans h [] A (by rw [hA]; exact hall)
  have hlog : σ.log.length < 1000000000 := by have := h.log; omega
  have hask : ∀ (B b s m : Nat) (bc : Array Value) (u : List UInt8) (a : Ans), u.length ≤ 100 → ansF σ (reqB getM u [] []) = (a, σ) → AskR s B (reqB [71, 69, 84] u [] []) (textF a.told a.flds a.body) (Std B b s m σ bc) (Std B b s m σ bc) := fun B b s m bc u a hu ha => Std.ask (reqB getM u [] []) a ha (by rw [reqG_len]; omega) hlog
  have hks : ∀ l : List (List UInt8), (∀ k ∈ l, k ∈ A) → ∀ k ∈ l, 1 ≤ k.length ∧ k.length ≤ 40 ∧ ∀ c ∈ k, c ≠ 10 := fun l hl k hk => key_10 (hAk k (hl k hk))
  rcases Nat.lt_or_ge 50 N with h50 | h50
  · obtain ⟨q, hq⟩ : ∃ q, A[49]? = some q := ⟨_, List.getElem?_eq_getElem (by omega)⟩
    have hqk := hAk q (List.mem_of_getElem? hq)
    have hlast : lastP [] (A.take 50) (A.take 50).length = q := by
      rw [List.length_take, Nat.min_eq_left (by omega)]
      show (A.take 50).getD 49 [] = q
      rw [List.getD_eq_getElem?_getD, List.getElem?_take_of_lt (by omega), hq]
      rfl
    have hdr : (σ.ents.map Ent.key).filter (fun k => cmpB k q == 1) = A.drop 50 := by rw [hA]; exact rise_drop hAr hq
    have hp1 := page_ans h q (A.drop 50) hdr
    have hf0 : fldP A = [moreF q] := by unfold fldP; rw [if_pos (by omega), hlast]
    have hf1 : fldP (A.drop 50) = [] := by unfold fldP; rw [if_neg (by simp; omega)]
    have ht1 : (A.drop 50).take 50 = A.drop 50 := List.take_of_length_le (by simp; omega)
    rw [hf0] at hp0
    rw [hf1, ht1] at hp1
    have i0 := page_is (L := A.take 50) (by simp; omega) (fun k hk => (hks _ (fun k hk => List.mem_of_mem_take hk) k hk).2.1) [moreF q] q (Or.inr ⟨rfl, hqk⟩)
    have i1 := page_is (L := A.drop 50) (by simp; omega) (fun k hk => (hks _ (fun k hk => List.mem_of_mem_drop hk) k hk).2.1) [] [] (Or.inl ⟨rfl, rfl⟩)
    have a0 := fun B b s m bc => hask B b s m bc [47] _ (by decide) ((read_list (σ := σ)).trans (by rw [hp0]))
    have hql := (key_no hqk).2.1
    have a1 := fun B b s m bc => hask B b s m bc (47 :: (afterW ++ q)) _ (by simp [afterW]; omega) ((read_after (σ := σ) hqk).trans (by rw [hp1]))
    have two : ∀ {P : Nat → Prop}, P 0 → P 1 → ∀ p, p < 2 → P p := fun h0 h1 p hp => by
      rcases (by omega : p = 0 ∨ p = 1) with rfl | rfl
      · exact h0
      · exact h1
    have hqd : ∀ k ∈ A.drop 50, cmpB q k = -1 := fun k hk => by
      obtain ⟨j, hj, he⟩ := List.mem_iff_getElem.1 hk
      rw [List.getElem_drop] at he
      have h49 : 49 < A.length := by omega
      have := List.pairwise_iff_getElem.1 hAr 49 (50 + j) h49 (by simp at hj; omega) (by omega)
      rw [(List.getElem?_eq_some_iff.1 hq).2, he] at this
      exact this
    refine ⟨2, fun p => if p = 0 then [47] else 47 :: (afterW ++ q), fun p => if p = 0 then 0 else 50, fun p => if p = 0 then [] else q, fun p => if p = 0 then A.take 50 else A.drop 50, fun p => if p = 0 then textF 200 [moreF q] (bodyP tP (A.take 50)) else textF 200 [] (bodyP tP (A.drop 50)), fun p => if p = 0 then q else [], fun B b s m bc => ?_⟩
    refine ⟨by omega, by omega, rfl, rfl, rfl, two (by simp) (by simp [afterW]; omega), two (by decide) (by decide), two (a0 B b s m bc) (a1 B b s m bc), two i0.body i1.body, two i0.code i1.code, two i0.more i1.more, two (by simp; omega) (by simp; omega), two (hks _ (fun k hk => List.mem_of_mem_take hk)) (hks _ (fun k hk => List.mem_of_mem_drop hk)), two ?_ ?_, ?_, ?_, tP_no, tP_len⟩
    · intro j k hjk
      exact pg_ord (hAr.sublist (List.take_sublist _ _)) [] (fun k hk => nil_lt (hAk k (List.mem_of_mem_take hk))) hjk
    · intro j k hjk
      exact pg_ord (hAr.sublist (List.drop_sublist _ _)) q hqd hjk
    · intro p hp
      obtain rfl : p = 0 := by omega
      exact ⟨hlast.symm, fun e => by have e' : q = [] := e; rw [e'] at hqk; simp [keyOK] at hqk, by simp; omega, rfl, by simp; omega, rfl, rfl, hql⟩
    · intro p hp
      obtain rfl : p = 1 := by omega
      exact ⟨rfl, by simp; omega⟩
  · have hf0 : fldP A = [] := by unfold fldP; rw [if_neg (by omega)]
    have ht0 : A.take 50 = A := List.take_of_length_le (by omega)
    rw [hf0, ht0] at hp0
    have i0 := page_is (L := A) (by omega) (fun k hk => (hks _ (fun k hk => hk) k hk).2.1) [] [] (Or.inl ⟨rfl, rfl⟩)
    have a0 := fun B b s m bc => hask B b s m bc [47] _ (by decide) ((read_list (σ := σ)).trans (by rw [hp0]))
    have one : ∀ {P : Nat → Prop}, P 0 → ∀ p, p < 1 → P p := fun h0 p hp => by
      obtain rfl : p = 0 := by omega
      exact h0
    refine ⟨1, fun _ => [47], fun _ => 0, fun _ => [], fun _ => A, fun _ => textF 200 [] (bodyP tP A), fun _ => [], fun B b s m bc => ?_⟩
    refine ⟨by omega, by omega, rfl, rfl, rfl, one (by decide), one (by decide), one (a0 B b s m bc), one i0.body, one i0.code, one i0.more, one (by omega), one (hks _ (fun k hk => hk)), one ?_, fun p hp => by omega, fun p hp => ⟨rfl, by simp; omega⟩, tP_no, tP_len⟩
    intro j k hjk
    exact pg_ord hAr [] (fun k hk => nil_lt (hAk k hk)) hjk
theorem paged_walk (x z : Int) (w : World) (hM : MaxIs w) (hT : Tbl w) (ix0 : -9223372036854775808 ≤ x) (ix1 : x ≤ 9223372036854775807) (iz0 : -9223372036854775808 ≤ z) (iz1 : z ≤ 9223372036854775807) :
    Calls Tryz.prog 3 #[.int .i64 x, .int .i64 z] w fun e w' => e = .returned (.bool true) ∧ Off (fun k => w.heap.size ≤ k) w w' := by
  have p61 := pk_bd z 61 (by omega)
  obtain ⟨n, hn⟩ : ∃ n : Nat, pk z 61 = n := ⟨(pk z 61).toNat, by omega⟩
  have hn60 : n ≤ 60 := by omega
  obtain ⟨a, σN, ha, hcase⟩ := one_ans hn60
  obtain ⟨N, hN⟩ : ∃ N, (if n = 60 then 60 else n + 1) = N := ⟨_, rfl⟩
  have hON : Once σN N := by
    rcases hcase with ⟨h1, _, h3⟩ | ⟨h1, _, h3⟩
    · rw [← hN, if_pos h1]; exact h3
    · rw [← hN, if_neg (by omega)]; exact h3
  have hNb : 1 ≤ N ∧ N ≤ 60 := by rw [← hN]; split <;> omega
  obtain ⟨np, tg, sn, la, ks, G, mo, hP⟩ := pages_of hON hNb.1 hNb.2
  refine paged_core x z w n N hn hn60 iz0 iz1 tP pgK (fun _ => textF onceA.told onceA.flds onceA.body) (textF a.told a.flds a.body) np tg sn la ks G mo ?_
  refine (opened_any x w hM hT ix0 ix1).mono ?_
  rintro e w' ⟨b, s, m, M, vs, rfl, _, hB, hb⟩
  refine ⟨b, s, fun k => Std w.heap.size b s m (stP k) (bookCells s (enK st0) vs st0.time 0), Std w.heap.size b s m σN (bookCells s (enK st0) vs st0.time 0), rfl, ?_, hP _ _ _ _ _, ⟨M, hB.sto, hB.bk.blk⟩, Off.of_below hb⟩
  have hol : (textF onceA.told onceA.flds onceA.body).length ≤ 1000000000 := by
    have h1 : (Lib.decDigits 201).length = 3 := by kernel_rfl
    have h2 : (Lib.decDigits 1).length = 1 := by kernel_rfl
    simp [textF, onceA, fldText, eTag, versN, qTag_len, h1, h2]
  refine ⟨fun k y z h hb => h.bel hb, fun k y h => (std_cell h).1, fun k y h => (std_cell h).2, fun y z h hb => h.bel hb, fun y h => (std_cell h).1, fun y h => (std_cell h).2, fun k _ => by rw [pgK_len]; omega, fun k hk y h => ?_, fun k hk => ?_, fun k hk y => code_text 201 onceA.flds [] y (by omega) (by omega) hol, ?_, ?_⟩
  · obtain ⟨M, h1, _⟩ := h
    exact itoaN (1000 + (k * 37) % 60) y (by omega) h1.env.tb.b
  · have := (stP_once k (by omega)).1.log
    exact Std.ask (reqB putM (47 :: pgK k) [] []) onceA (stP_ans (by omega)) (by rw [reqB_len]; simp [putM, pgK_len]) (by omega)
  · have := (stP_once n hn60).1.log
    exact Std.ask (reqB putM (47 :: oneK) [] []) a ha (by rw [reqB_len]; simp [putM, oneK]) (by omega)
  · rcases hcase with ⟨h1, rfl, _⟩ | ⟨h1, rfl, _⟩
    · exact Or.inl ⟨h1, code_r 507 (by omega) (by omega), by rw [← hN, if_pos h1]⟩
    · exact Or.inr ⟨h1, fun y => code_text 201 onceA.flds [] y (by omega) (by omega) hol, by rw [← hN, if_neg (by omega)]⟩
end Go.Proofs.YtmehkneofinmiabGreatDoor

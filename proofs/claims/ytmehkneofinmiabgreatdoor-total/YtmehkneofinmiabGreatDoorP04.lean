/-
  Texts of this proof, part 4.
-/
import Derived.Test.YtmehkneofinmiabGreatDoorP01
import Derived.Test.YtmehkneofinmiabGreatDoorP03
namespace Go.Proofs.YtmehkneofinmiabGreatDoor
open Go.RowKit
structure Tgt where
  kind : Nat
  key : List UInt8
  num : Nat
def tgV (t : Tgt) : Value := .agg #[.int .i64 (t.kind : Int), .string ⟨t.key.toArray⟩, .int .i64 (t.num : Int)]
def queryF (key query : List UInt8) : Option Tgt :=
  if query = [118, 101, 114, 115, 105, 111, 110, 115] then some ⟨3, key, 0⟩
  else if Lib.hasPrefix query [118, 61] then (numF (Lib.trimPrefix query [118, 61])).map (fun n => ⟨2, key, n⟩) else none
def afterW : List UInt8 := [63, 97, 102, 116, 101, 114, 61]
def pathF (p : List UInt8) : Option Tgt :=
  if p = [] then some ⟨0, [], 0⟩
  else if Lib.hasPrefix p afterW then (if keyOK (Lib.trimPrefix p afterW) then some ⟨0, Lib.trimPrefix p afterW, 0⟩ else none)
  else if keyOK (Lib.cut p [63]).1 then (if (Lib.cut p [63]).2.2 then queryF (Lib.cut p [63]).1 (Lib.cut p [63]).2.1 else some ⟨1, (Lib.cut p [63]).1, 0⟩) else none
def targetF (l : List UInt8) : Option Tgt := if Lib.hasPrefix l [47] then pathF (Lib.trimPrefix l [47]) else none
def TgtPost (o : Option Tgt) (w : World) (e : Ending) (w' : World) : Prop :=
  Below w.heap.size w w' ∧ ((∃ t, o = some t ∧ e = .returned (.tuple #[tgV t, .bool true])) ∨ (o = none ∧ ∃ (k n : Int) (s : ByteArray), e = .returned (.tuple #[.agg #[.int .i64 k, .string s, .int .i64 n], .bool false])))
theorem tgtP_some {o : Option Tgt} {w w' : World} (t : Tgt) (hb : Below w.heap.size w w') (h : o = some t) : TgtPost o w (.returned (.tuple #[.agg #[.int .i64 (t.kind : Int), .string ⟨t.key.toArray⟩, .int .i64 (t.num : Int)], .bool true])) w' := ⟨hb, Or.inl ⟨t, h, rfl⟩⟩
theorem tgtP_none {o : Option Tgt} {w w' : World} (k n : Int) (s : ByteArray) (hb : Below w.heap.size w w') (h : o = none) : TgtPost o w (.returned (.tuple #[.agg #[.int .i64 k, .string s, .int .i64 n], .bool false])) w' := ⟨hb, Or.inr ⟨h, k, n, s, rfl⟩⟩
set_option maxHeartbeats 1000000 in
theorem readQuery_any (key query : List UInt8) (w : World) (hq : query.length ≤ 9223372036854775807) : Calls Tryz.prog 131 #[.string ⟨key.toArray⟩, .string ⟨query.toArray⟩] w (TgtPost (queryF key query) w) := by
  by_cases h1 : query = [118, 101, 114, 115, 105, 111, 110, 115]
  · subst h1
    go_enter Tryz.func131, Tryz.ntmps131
    go_wp2
    exact bodyPost_ret (v := .tuple #[.agg #[.int .i64 3, .string ⟨key.toArray⟩, .int .i64 0], .bool true]) (by simp [results, Tryz.results131, go_sem]) rfl (tgtP_some ⟨3, key, 0⟩ (by repeat (first | exact Below.refl _ _ | refine Below.setCell ?_ (by simp) _ | refine Below.alloc ?_ (by simp) _)) rfl)
  · have b1 : (query == [118, 101, 114, 115, 105, 111, 110, 115]) = false := by simpa using h1
    have HQ : Hid (queryF key query = if Lib.hasPrefix query [118, 61] then (numF (Lib.trimPrefix query [118, 61])).map (fun n => ⟨2, key, n⟩) else none) := by
      show _ = _
      unfold queryF
      rw [if_neg h1]
    have hl := Lib.trimPrefix_le query [118, 61]
    clear h1
    go_enter Tryz.func131, Tryz.ntmps131
    go_wp2_with fail
    refine (Tryz.strings_CutPrefix _ _ _).mono ?_
    rintro e w1 ⟨rfl, rfl⟩
    cases hp : Lib.hasPrefix query [118, 61] with
    | false =>
      have HN : Hid (queryF key query = none) := by show _ = _; rw [HQ.out, hp]; rfl
      clear HQ
      go_wp2
      exact bodyPost_ret (v := .tuple #[.agg #[.int .i64 0, .string ⟨#[]⟩, .int .i64 0], .bool false]) (by simp [results, Tryz.results131, go_sem]) rfl (tgtP_none 0 0 ⟨#[]⟩ (by repeat (first | exact Below.refl _ _ | refine Below.setCell ?_ (by simp) _ | refine Below.alloc ?_ (by simp) _)) HN.out)
    | true =>
      have HY : Hid (queryF key query = (numF (Lib.trimPrefix query [118, 61])).map (fun n => ⟨2, key, n⟩)) := by show _ = _; rw [HQ.out, hp]; rfl
      obtain ⟨ds, hds⟩ : ∃ ds, Lib.trimPrefix query [118, 61] = ds := ⟨_, rfl⟩
      rw [hds] at hl HY ⊢
      clear HQ hp hds
      go_wp2_with fail
      refine (wireNumber_any ⟨ds.toArray⟩ _ (by rw [Lib.size_eq]; simp; omega)).mono ?_
      rintro e w2 ⟨rfl, rfl⟩
      have e0 : (⟨ds.toArray⟩ : ByteArray).data.toList = ds := by simp
      rw [e0]
      cases hn : numF ds with
      | none =>
        rw [hn] at HY
        simp only [numOut]
        go_wp2
        exact bodyPost_ret (v := .tuple #[.agg #[.int .i64 2, .string ⟨key.toArray⟩, .int .i64 0], .bool false]) (by simp [results, Tryz.results131, go_sem]) rfl (tgtP_none 2 0 ⟨key.toArray⟩ (by repeat (first | exact Below.refl _ _ | refine Below.setCell ?_ (by simp) _ | refine Below.alloc ?_ (by simp) _)) HY.out)
      | some n =>
        rw [hn] at HY
        simp only [numOut]
        go_wp2
        exact bodyPost_ret (v := .tuple #[.agg #[.int .i64 2, .string ⟨key.toArray⟩, .int .i64 (n : Int)], .bool true]) (by simp [results, Tryz.results131, go_sem]) rfl (tgtP_some ⟨2, key, n⟩ (by repeat (first | exact Below.refl _ _ | refine Below.setCell ?_ (by simp) _ | refine Below.alloc ?_ (by simp) _)) HY.out)
theorem cut_any (s sep : List UInt8) (w : World) (hM : MaxIs w) (hs : s.length < 4294967281) :
    Calls Tryz.prog 81 #[.string ⟨s.toArray⟩, .string ⟨sep.toArray⟩] w fun e w' => e = .returned (.tuple #[.string ⟨(Lib.cut s sep).1.toArray⟩, .string ⟨(Lib.cut s sep).2.1.toArray⟩, .bool (Lib.cut s sep).2.2]) ∧ Below w.heap.size w w' := by
  obtain ⟨m, hm⟩ := hM
  have := Tryz.strings_Cut ⟨s.toArray⟩ ⟨sep.toArray⟩ m w (by rw [Lib.size_eq]; simpa using hs) hm
  refine this.mono ?_
  rintro e w' ⟨rfl, n, rfl⟩
  exact ⟨rfl, below_drewN (Below.refl _ _) n⟩
theorem prefix_any (s p : List UInt8) (w : World) :
    Calls Tryz.prog 129 #[.string ⟨s.toArray⟩, .string ⟨p.toArray⟩] w fun e w' => e = .returned (.tuple #[.string ⟨(Lib.trimPrefix s p).toArray⟩, .bool (Lib.hasPrefix s p)]) ∧ w' = w := Tryz.strings_CutPrefix ⟨s.toArray⟩ ⟨p.toArray⟩ w
theorem key_any (s : List UInt8) (w : World) (hs : s.length ≤ 9223372036854775807) : Calls Tryz.prog 130 #[.string ⟨s.toArray⟩] w fun e w' => e = .returned (.bool (keyOK s)) ∧ w' = w :=
  isKey_any ⟨s.toArray⟩ w (by rw [Lib.size_eq]; simpa using hs)
theorem cut_le (l p : List UInt8) : (Lib.cut l p).1.length ≤ l.length ∧ (Lib.cut l p).2.1.length ≤ l.length := by
  unfold Lib.cut
  split
  · simp; omega
  · simp
structure Tb (w x : World) : Prop where
  b : Below w.heap.size w x
  c0 : x.cell? ⟨w.heap.size, 0, none⟩ = some (.int .i64 0)
  c1 : x.cell? ⟨w.heap.size, 1, none⟩ = some (.string ⟨#[]⟩)
  c2 : x.cell? ⟨w.heap.size, 2, none⟩ = some (.int .i64 0)
  f0 : x.frozen? ⟨w.heap.size, 0, none⟩ = false
  f1 : x.frozen? ⟨w.heap.size, 1, none⟩ = false
  f2 : x.frozen? ⟨w.heap.size, 2, none⟩ = false
  lt : w.heap.size < x.heap.size
theorem Tb.made (w : World) : Tb w (w.alloc (.cells #[.int .i64 0, .string ⟨#[]⟩, .int .i64 0] 68)) :=
  ⟨(Below.refl _ _).alloc (Nat.le_refl _) _, by simp, by simp, by simp, by simp, by simp, by simp, by simp⟩
theorem Tb.below {w x y : World} (h : Tb w x) (hb : Below x.heap.size x y) : Tb w y := by
  have lt := h.lt
  have k := hb.size
  exact ⟨h.b.trans (hb.mono (by omega)), (hb.cell (p := ⟨_, 0, none⟩) lt).trans h.c0, (hb.cell (p := ⟨_, 1, none⟩) lt).trans h.c1, (hb.cell (p := ⟨_, 2, none⟩) lt).trans h.c2, (hb.frozen (p := ⟨_, 0, none⟩) lt).trans h.f0, (hb.frozen (p := ⟨_, 1, none⟩) lt).trans h.f1, (hb.frozen (p := ⟨_, 2, none⟩) lt).trans h.f2, by omega⟩
set_option maxHeartbeats 1000000 in
theorem readTarget_any (l : List UInt8) (w : World) (hM : MaxIs w) (hl : l.length ≤ 4000000000) : Calls Tryz.prog 83 #[.string ⟨l.toArray⟩] w (TgtPost (targetF l) w) := by
  have tb := Tb.made w
  have hl1 := Lib.trimPrefix_le l [47]
  go_enter Tryz.func83, Tryz.ntmps83
  go_wp2_with fail
  refine (prefix_any l [47] _).mono ?_
  rintro e w1 ⟨rfl, hw1⟩
  rw [← hw1] at tb
  clear hw1
  cases hp : Lib.hasPrefix l [47] with
  | false =>
    have HN : Hid (targetF l = none) := by show _ = _; unfold targetF; rw [hp]; rfl
    obtain ⟨q1, q2, q3, q4, q5, q6, q7, q8⟩ := tb
    clear hp
    go_wp2
    exact bodyPost_ret (v := .tuple #[.agg #[.int .i64 0, .string ⟨#[]⟩, .int .i64 0], .bool false]) (by simp [results, Tryz.results83, go_sem, q2, q3, q4]) rfl (tgtP_none 0 0 ⟨#[]⟩ (((q1.setCell (Nat.le_refl _) _).setCell (Nat.le_refl _) _).setCell (Nat.le_refl _) _) HN.out)
  | true =>
    have HT : Hid (targetF l = pathF (Lib.trimPrefix l [47])) := by show _ = _; unfold targetF; rw [hp]; rfl
    obtain ⟨p, hpp⟩ : ∃ p, Lib.trimPrefix l [47] = p := ⟨_, rfl⟩
    rw [hpp] at hl1 HT ⊢
    clear hp hpp
    by_cases hp0 : p = []
    · subst hp0
      obtain ⟨q1, q2, q3, q4, q5, q6, q7, q8⟩ := tb
      go_wp2
      exact bodyPost_ret (v := .tuple #[.agg #[.int .i64 0, .string ⟨#[]⟩, .int .i64 0], .bool true]) (by simp [results, Tryz.results83, go_sem, q2, q3, q4]) rfl (tgtP_some ⟨0, [], 0⟩ (((q1.setCell (Nat.le_refl _) _).setCell (Nat.le_refl _) _).setCell (Nat.le_refl _) _) (HT.out.trans rfl))
    · have hp0' : (p == []) = false := by simpa using hp0
      have HT2 : Hid (targetF l = if Lib.hasPrefix p afterW then (if keyOK (Lib.trimPrefix p afterW) then some ⟨0, Lib.trimPrefix p afterW, 0⟩ else none) else if keyOK (Lib.cut p [63]).1 then (if (Lib.cut p [63]).2.2 then queryF (Lib.cut p [63]).1 (Lib.cut p [63]).2.1 else some ⟨1, (Lib.cut p [63]).1, 0⟩) else none) := by
        show _ = _
        rw [HT.out, pathF, if_neg hp0]
      clear hp0 HT
      go_wp2_with fail
      refine (prefix_any p afterW _).mono ?_
      rintro e w2 ⟨rfl, rfl⟩
      have hl2 := Lib.trimPrefix_le p afterW
      cases ha : Lib.hasPrefix p afterW with
      | true =>
        rw [ha, if_pos rfl] at HT2
        obtain ⟨k, hk⟩ : ∃ k, Lib.trimPrefix p afterW = k := ⟨_, rfl⟩
        rw [hk] at hl2 HT2 ⊢
        clear ha hk
        go_wp2_with fail
        refine (key_any k _ (by omega)).mono ?_
        rintro e w3 ⟨rfl, rfl⟩
        obtain ⟨q1, q2, q3, q4, q5, q6, q7, q8⟩ := tb
        cases hok : keyOK k with
        | true =>
          rw [hok, if_pos rfl] at HT2
          clear hok
          go_wp2
          exact bodyPost_ret (v := .tuple #[.agg #[.int .i64 0, .string ⟨k.toArray⟩, .int .i64 0], .bool true]) (by simp [results, Tryz.results83, go_sem, q2, q3, q4]) rfl (tgtP_some ⟨0, k, 0⟩ (((q1.setCell (Nat.le_refl _) _).setCell (Nat.le_refl _) _).setCell (Nat.le_refl _) _) HT2.out)
        | false =>
          rw [hok, if_neg (by decide)] at HT2
          clear hok
          go_wp2
          exact bodyPost_ret (v := .tuple #[.agg #[.int .i64 0, .string ⟨k.toArray⟩, .int .i64 0], .bool false]) (by simp [results, Tryz.results83, go_sem, q2, q3, q4]) rfl (tgtP_none 0 0 ⟨k.toArray⟩ (((q1.setCell (Nat.le_refl _) _).setCell (Nat.le_refl _) _).setCell (Nat.le_refl _) _) HT2.out)
      | false =>
        rw [ha, if_neg (by decide)] at HT2
        have hcl := cut_le p [63]
        clear ha hl2
        go_wp2_with fail
        refine (cut_any p [63] _ (hM.below tb.b) (by omega)).mono ?_
        rintro e w3 ⟨rfl, hb3⟩
        have tb3 := tb.below hb3
        obtain ⟨c, hc⟩ : ∃ c, Lib.cut p [63] = c := ⟨_, rfl⟩
        rw [hc] at hcl HT2 ⊢
        obtain ⟨k, q, b⟩ := c
        simp only at hcl HT2 ⊢
        clear hb3 tb hc
        go_wp2_with fail
        refine (key_any k _ (by omega)).mono ?_
        rintro e w4 ⟨rfl, rfl⟩
        cases hok : keyOK k with
        | false =>
          rw [hok, if_neg (by decide)] at HT2
          obtain ⟨q1, q2, q3, q4, q5, q6, q7, q8⟩ := tb3
          clear hok
          go_wp2
          exact bodyPost_ret (v := .tuple #[.agg #[.int .i64 0, .string ⟨#[]⟩, .int .i64 0], .bool false]) (by simp [results, Tryz.results83, go_sem, q2, q3, q4]) rfl (tgtP_none 0 0 ⟨#[]⟩ (((q1.setCell (Nat.le_refl _) _).setCell (Nat.le_refl _) _).setCell (Nat.le_refl _) _) HT2.out)
        | true =>
          rw [hok, if_pos rfl] at HT2
          clear hok
          cases b with
          | false =>
            rw [if_neg (by decide)] at HT2
            obtain ⟨q1, q2, q3, q4, q5, q6, q7, q8⟩ := tb3
            go_wp2
            exact bodyPost_ret (v := .tuple #[.agg #[.int .i64 1, .string ⟨k.toArray⟩, .int .i64 0], .bool true]) (by simp [results, Tryz.results83, go_sem, q2, q3, q4]) rfl (tgtP_some ⟨1, k, 0⟩ (((q1.setCell (Nat.le_refl _) _).setCell (Nat.le_refl _) _).setCell (Nat.le_refl _) _) HT2.out)
          | true =>
            rw [if_pos rfl] at HT2
            go_wp2_with fail
            refine (readQuery_any k q _ (by omega)).mono ?_
            rintro e w5 ⟨hb5, ⟨t, ht, rfl⟩ | ⟨hn, k5, n5, s5, rfl⟩⟩
            · obtain ⟨q1, q2, q3, q4, q5, q6, q7, q8⟩ := tb3.below hb5
              rw [ht] at HT2
              obtain ⟨tk, tkey, tn⟩ := t
              simp only [tgV]
              clear ht hb5 tb3
              go_wp2
              exact bodyPost_ret (v := .tuple #[.agg #[.int .i64 (tk : Int), .string ⟨tkey.toArray⟩, .int .i64 (tn : Int)], .bool true]) (by simp [results, Tryz.results83, go_sem, q2, q3, q4]) rfl (tgtP_some ⟨tk, tkey, tn⟩ (((q1.setCell (Nat.le_refl _) _).setCell (Nat.le_refl _) _).setCell (Nat.le_refl _) _) HT2.out)
            · obtain ⟨q1, q2, q3, q4, q5, q6, q7, q8⟩ := tb3.below hb5
              rw [hn] at HT2
              clear hn hb5 tb3
              go_wp2
              exact bodyPost_ret (v := .tuple #[.agg #[.int .i64 k5, .string s5, .int .i64 n5], .bool false]) (by simp [results, Tryz.results83, go_sem, q2, q3, q4]) rfl (tgtP_none k5 n5 s5 (((q1.setCell (Nat.le_refl _) _).setCell (Nat.le_refl _) _).setCell (Nat.le_refl _) _) HT2.out)
end Go.Proofs.YtmehkneofinmiabGreatDoor

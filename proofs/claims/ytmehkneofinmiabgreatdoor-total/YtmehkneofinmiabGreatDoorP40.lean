/-
  Texts of this proof, part 40.
-/
import Derived.Test.YtmehkneofinmiabGreatDoorP39
import Derived.Test.YtmehkneofinmiabGreatDoorP36
import Derived.Test.YtmehkneofinmiabGreatDoorP30
namespace Go.Proofs.YtmehkneofinmiabGreatDoor
open Go.RowKit
def hitT (t : TagL) (tag : List UInt8) (strong : Bool) : Bool := t.any fun x => decide (x.2 = tag) && !(strong && x.1)
def tagW (t : TagL) (i : Nat) : Bool := (t.getD i (false, [])).1
def tagT (t : TagL) (i : Nat) : ByteArray := ⟨(t.getD i (false, [])).2.toArray⟩
theorem hits_take (t : TagL) (tag : List UInt8) (strong : Bool) (n : Nat) (h : n ≤ t.length) : Jd.hits (tagW t) (tagT t) ⟨tag.toArray⟩ strong n = hitT (t.take n) tag strong := by
  induction n with
  | zero => rfl
  | succ n ih =>
    have hlt : n < t.length := h
    rw [Jd.hits, ih (by omega), List.take_succ_eq_append_getElem hlt]
    simp only [hitT, List.any_append, List.any_cons, List.any_nil, Bool.or_false]
    congr 1
    simp only [Jd.hit, tagW, tagT, List.getD_eq_getElem?_getD, List.getElem?_eq_getElem hlt, Option.getD_some]
    congr 1
    rw [ByteArray.toList_eq, ByteArray.toList_eq]
theorem hits_all (t : TagL) (tag : List UInt8) (strong : Bool) : Jd.hits (tagW t) (tagT t) ⟨tag.toArray⟩ strong t.length = hitT t tag strong := by
  rw [hits_take t tag strong t.length (Nat.le_refl _), List.take_length]
theorem cellsT_get (t : TagL) (i : Nat) (h : i < t.length) : (cellsT t)[i * 2]? = some (.bool (tagW t i)) ∧ (cellsT t)[i * 2 + 1]? = some (.string (tagT t i)) := by
  induction t generalizing i with
  | nil => simp at h
  | cons x t ih =>
    have e : cellsT (x :: t) = .bool x.1 :: .string ⟨x.2.toArray⟩ :: cellsT t := by simp [cellsT]
    rw [e]
    cases i with
    | zero => simp [tagW, tagT]
    | succ i =>
      have h2 := ih i (by simpa using h)
      rw [show (i + 1) * 2 = i * 2 + 1 + 1 by omega]
      simp only [List.getElem?_cons_succ]
      simpa [tagW, tagT] using h2
theorem listAt_row {w : World} {base : Nat} {v : Value} {t : TagL} (h : w.ownsRow base 273 2 v t.length (cellsT t)) : Jd.ListAt w v t.length (tagW t) (tagT t) := by
  rcases h.2 with ⟨rfl, h0⟩ | ⟨g, cap, cur, rfl, _, hg, hn, hm, hs, htk⟩
  · exact ⟨by omega, Or.inl ⟨_, _, rfl, h0⟩⟩
  · refine ⟨by omega, Or.inr ⟨g, 0, cap, rfl, fun i hi => ?_, fun i hi => ?_⟩⟩
    · have h1 := (cellsT_get t i hi).1
      rw [← htk, List.getElem?_take_of_lt (by omega)] at h1
      simpa [World.cell?, hg] using h1
    · have h1 := (cellsT_get t i hi).2
      rw [← htk, List.getElem?_take_of_lt (by omega)] at h1
      simpa [World.cell?, hg] using h1
def anyT : Option (Bool × TagL) → Bool
  | none => false
  | some x => x.1
def lstT : Option (Bool × TagL) → TagL
  | none => []
  | some x => x.2
def hasD : Option (Int × Bool) → Bool
  | none => false
  | some x => x.2
def valD : Option (Int × Bool) → Int
  | none => 0
  | some x => x.1
def tagOf (v : Option Ver) : List UInt8 := match v with | none => [] | some v => hexN 16 (fnv v.body)
def timeOf (v : Option Ver) : Nat := match v with | none => 0 | some v => v.time
def condF (wt : Bool) (k : Cnd) (v : Option Ver) : Nat :=
  (Jd.jd wt k.m.isSome (v.isSome && (anyT k.m || hitT (lstT k.m) (tagOf v) true)) k.n.isSome (v.isSome && (anyT k.n || hitT (lstT k.n) (tagOf v) false)) (hasD k.s) (valD k.s) (hasD k.u) (valD k.u) v.isSome (timeOf v : Int)).toNat
theorem jd_nat (wt hm m hn x hs : Bool) (since : Int) (hu : Bool) (unl : Int) (th : Bool) (tm : Int) : ((Jd.jd wt hm m hn x hs since hu unl th tm).toNat : Int) = Jd.jd wt hm m hn x hs since hu unl th tm := by
  unfold Jd.jd
  repeat' split
  all_goals rfl
theorem Rl.list {x : World} {g : Nat} {h a : Bool} {l : Value} {s : Bool} {o : Option (Bool × TagL)} (r : Rl x g h a l s o) : h = o.isSome ∧ a = anyT o ∧ Jd.ListAt x l (lstT o).length (tagW (lstT o)) (tagT (lstT o)) ∧ ∃ a n m, l = .slice a n m := by
  obtain ⟨_, r2, r3⟩ := r
  cases o with
  | none =>
    obtain ⟨ra, rfl⟩ := r3
    exact ⟨r2, ra, ⟨by simp [lstT], Or.inl ⟨_, _, rfl, rfl⟩⟩, _, _, _, rfl⟩
  | some p =>
    refine ⟨r2, r3.1, listAt_row r3.2, ?_⟩
    rcases r3.2.2 with ⟨e, _⟩ | ⟨g, cap, cur, e, _⟩
    · exact ⟨_, _, _, e⟩
    · exact ⟨_, _, _, e⟩
theorem Rd2.val {h : Bool} {n : Int} {s : Bool} {o : Option (Int × Bool)} (r : Rd2 h n s o) : h = hasD o ∧ n = valD o := by
  obtain ⟨_, r⟩ := r
  cases o with
  | none => exact r
  | some p => exact r
theorem weigh_any (wt : Bool) (c : Cst) (k : Cnd) (g : Nat) (v : Ver) (o : Option Ver) (w : World) (hR : Rq w g c k) (hv : ∀ u, o = some u → v = u) (hT : Tz w) (hb : ∀ u, o = some u → u.body.length ≤ 400) :
    Calls Tryz.prog 68 #[.agg (askA wt c), verAgg v, .bool o.isSome] w fun e w' => e = .returned (.int .i64 (condF wt k o : Nat)) ∧ Below w.heap.size w w' := by
  obtain ⟨m1, m2, m3, m4⟩ := hR.m.list
  obtain ⟨n1, n2, n3, n4⟩ := hR.n.list
  obtain ⟨s1, s2⟩ := hR.s.val
  obtain ⟨u1, u2⟩ := hR.u.val
  cases o with
  | none =>
    refine (weigh_no wt c v _ _ _ _ _ _ w m3 n3 m4 n4).mono ?_
    rintro e w' ⟨rfl, hb⟩
    refine ⟨?_, hb⟩
    simp only [condF, jd_nat, Jd.mB, Option.isSome_none, Bool.false_and, timeOf, m1, n1, s1, s2, u1, u2]
    rfl
  | some u =>
    obtain rfl := hv u rfl
    refine (weigh_yes wt c v _ _ _ _ _ _ w m3 n3 m4 n4 hT (by have := hb v rfl; omega)).mono ?_
    rintro e w' ⟨rfl, hb⟩
    refine ⟨?_, hb⟩
    simp only [condF, jd_nat, Jd.mB, Option.isSome_some, Bool.true_and, timeOf, tagOf, hits_all, m1, m2, n1, n2, s1, s2, u1, u2]
end Go.Proofs.YtmehkneofinmiabGreatDoor

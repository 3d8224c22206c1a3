/-
  Quoted: what its walk needs: rows, texts, and what Tags gives of the texts that it writes.
-/
import Derived.Test.YtmehkneofinmiaaDoorQ3
import Derived.Lib.ConvBytes
import Derived.Laws.IdiomStrings
namespace Go.Proofs.YtmehkneofinmiaaDoor
open Go.RowKit

def wantL (a : Items) : List Value := a.map fun x => .string ⟨x.2.1.toArray⟩
/-- What stays while Quoted goes on: what was there, and the row of what it wants. -/
structure Qs (w x : World) (want : Value) (a : Items) : Prop where
  b : Below w.heap.size w x
  o : x.ownsRow w.heap.size 9 1 want a.length (wantL a)
theorem Qs.below {w x y : World} {v : Value} {a : Items} (h : Qs w x v a) (hb : Below x.heap.size x y) : Qs w y v a :=
  ⟨h.b.trans (hb.mono h.b.size), owns_below h.o hb⟩

theorem info9m : (Tryd.prog.info? 9).map (fun i => (i.size, i.bytes, i.zero)) = some (1, 16, some (.string ⟨#[]⟩)) := by kernel_rfl
theorem info9 : ∃ i, Tryd.prog.info? 9 = some i ∧ i.size = 1 ∧ i.bytes = 16 ∧ i.zero = some (.string ⟨#[]⟩) := by
  have h := info9m
  cases hq : Tryd.prog.info? 9 with
  | none => rw [hq] at h; cases h
  | some i =>
    rw [hq] at h
    simp only [Option.map_some, Option.some.injEq, Prod.mk.injEq] at h
    exact ⟨i, rfl, h.1, h.2.1, h.2.2⟩

theorem byte_str (x : World) (c : UInt8) : (convert 37 9 (.slice (some ⟨x.heap.size, 0, none⟩) 1 1)).run Tryd.prog (x.alloc (.cells #[.int .u8 (c.toNat : Int)] 5)) = .ok (.string ⟨#[c]⟩) (x.alloc (.cells #[.int .u8 (c.toNat : Int)] 5)) := by
  have := run_convert_bytes_back (P := Tryd.prog) (x.alloc (.cells #[.int .u8 (c.toNat : Int)] 5)) 37 9 5 ⟨x.heap.size, 0, none⟩ 1 [c] Tryd.underlying37 Tryd.underlying5 Tryd.underlying9 (fun j hj => by
    obtain rfl : j = 0 := by simpa using hj
    rw [Go.WideShapes.add_plain]
    simp)
  simpa using this

theorem tb_iff (c : UInt8) : tb c = true ↔ 33 ≤ (c.toNat : Int) ∧ ¬ (c.toNat : Int) = 127 ∧ ¬ (c.toNat : Int) = 34 := by
  unfold tb tbI
  simp
  omega
theorem keep_yes (s : ByteArray) (m : Nat) (h : m < s.size) (ht : tb s[m] = true) : (s.data.toList.take (m + 1)).filter tb = (s.data.toList.take m).filter tb ++ [s[m]] := by
  rw [take_snoc s m h, List.filter_append]
  simp [ht]
theorem keep_no (s : ByteArray) (m : Nat) (h : m < s.size) (ht : tb s[m] = false) : (s.data.toList.take (m + 1)).filter tb = (s.data.toList.take m).filter tb := by
  rw [take_snoc s m h, List.filter_append]
  simp [ht]
theorem str_app (a b : List UInt8) : (⟨a.toArray⟩ : ByteArray) ++ ⟨b.toArray⟩ = ⟨(a ++ b).toArray⟩ := by
  apply ByteArray.ext
  simp [ByteArray.data_append]
theorem wrap_bd (x : Int) : -9223372036854775808 ≤ wrap64 x ∧ wrap64 x ≤ 9223372036854775807 := by
  unfold wrap64
  omega
theorem gap_cell (x : World) (j : Nat) (h : j < 4) : (x.alloc (.cells #[.string ⟨#[]⟩, .string ⟨#[32]⟩, .string ⟨#[9]⟩, .string ⟨#[32, 32]⟩] 9)).cell? ⟨x.heap.size, j, none⟩ = some (.string ⟨(gapOf j).toArray⟩) := by
  rcases (by omega : j = 0 ∨ j = 1 ∨ j = 2 ∨ j = 3) with rfl | rfl | rfl | rfl <;> simp [gapOf]

theorem one_new (x : World) (v : Value) (t : TypeId) : ∀ j u, ([v] : List Value)[j]? = some u → (x.alloc (.cells #[v] t)).cell? ((⟨x.heap.size, 0, none⟩ : Addr).add j) = some u := by
  intro j u h
  cases j with
  | zero =>
    rw [Go.WideShapes.add_plain]
    simp at h ⊢
    exact h
  | succ j => simp at h
theorem wantL_snoc (a : Items) (x : Bool × List UInt8 × List UInt8) : wantL (a ++ [x]) = wantL a ++ [.string ⟨x.2.1.toArray⟩] := by simp [wantL]
/-- One tag more in the row of what is wanted. -/
theorem Qs.grow {w x y z : World} {v v' : Value} {a : Items} {i : Bool × List UInt8 × List UInt8} (h : Qs w x v a) (hb : Below x.heap.size x y) (hg : y.grownBy z v.ownBlock) (ho : z.ownsRow w.heap.size 9 1 v' (a.length + 1) (wantL a ++ [.string ⟨i.2.1.toArray⟩])) : Qs w z v' (a ++ [i]) := by
  refine ⟨(h.b.trans (hb.mono h.b.size)).grown hg (Nat.le_trans h.b.size hb.size) (owns_block h.o), ?_⟩
  rw [List.length_append, List.length_singleton, wantL_snoc]
  exact ho

theorem owns_mono {w : World} {base base' : Nat} {e : TypeId} {size : Nat} {v : Value} {n : Nat} {xs : List Value} (h : w.ownsRow base e size v n xs) (hb : base' ≤ base) : w.ownsRow base' e size v n xs :=
  ⟨h.1, h.2.imp id fun ⟨g, cap, cur, hv, hg, r⟩ => ⟨g, cap, cur, hv, Nat.le_trans hb hg, r⟩⟩
theorem trimS_le (l : List UInt8) : (Lib.trimS l [32, 9]).length ≤ l.length := by
  unfold Lib.trimS Lib.trimLeftS Lib.trimRightS
  have h1 := (List.dropWhile_suffix (fun c => [32, 9].contains c) (l := (l.reverse.dropWhile fun c => [32, 9].contains c).reverse)).length_le
  have h2 := (List.dropWhile_suffix (fun c => [32, 9].contains c) (l := l.reverse)).length_le
  rw [List.length_reverse] at h1 h2
  omega
theorem items_pos {a : Items} (h : a ≠ []) : decide (0 < a.length) = true := by
  cases a with
  | nil => exact absurd rfl h
  | cons x a => simp
theorem tagsOf_len (a : Items) : (tagsOf a).length = a.length := by simp [tagsOf]

/-- Tags of a built list: the tags, in a row of its own. -/
theorem tags_built (a : Items) (w : World) (hM : MaxIs w) (ha : a.all okItem = true) (hz : (outOf a).length ≤ 60000000) :
    Calls Tryd.prog 12 #[.string ⟨(outOf a).toArray⟩] w fun e w' => Below w.heap.size w w' ∧ ∃ v, e = .returned (.tuple #[.agg #[.bool false, v], .bool (decide (0 < a.length))]) ∧ w'.ownsRow w.heap.size 33 2 v a.length (cellsT (tagsOf a)) := by
  have hs : (⟨(outOf a).toArray⟩ : ByteArray).size = (outOf a).length := by rw [Lib.size_eq]
  by_cases hne : a = []
  · subst hne
    refine (tags_any ⟨(outOf []).toArray⟩ [] w hM parse_none.1.1 (by rw [hs]; omega) (Nat.zero_le _)).mono ?_
    rintro e w' ⟨hb, ⟨h, _⟩ | ⟨_, ⟨_, rfl⟩ | ⟨b, v, h, _⟩⟩⟩
    · cases h
    · exact ⟨hb, _, rfl, rfl, Or.inl ⟨rfl, rfl⟩⟩
    · rw [show ([] : List UInt8).length + 1 = 1 from rfl, parse_none.1.2] at h
      cases h
  · obtain ⟨p1, p2, p3⟩ := parse_out a hne ha
    have hl : (body a []).length ≤ (outOf a).length := by
      unfold outOf
      rw [body_app (lastGap a) a hne]
      simp
      omega
    refine (tags_any ⟨(outOf a).toArray⟩ (body a []) w hM p1 (by rw [hs]; omega) (by rw [hs]; exact hl)).mono ?_
    rintro e w' ⟨hb, ⟨h, _⟩ | ⟨_, ⟨h, _⟩ | ⟨b, v, h, rfl, ho⟩⟩⟩
    · exact absurd h p2
    · rw [p3] at h
      cases h
    · rw [p3] at h
      cases h
      rw [tagsOf_len] at ho
      exact ⟨hb, v, by rw [items_pos hne], owns_mono ho (by omega)⟩

/-- Tags of a text that is no list. -/
theorem tags_not (L : List UInt8) (w : World) (hM : MaxIs w) (hz : L.length ≤ 60000010) (h : ∃ l, Lib.trimS L [32, 9] = l ∧ l ≠ [42] ∧ tagsF (l.length + 1) l = none) :
    Calls Tryd.prog 12 #[.string ⟨L.toArray⟩] w fun e w' => Below w.heap.size w w' ∧ e = .returned (.tuple #[.agg #[.bool false, .slice none 0 0], .bool false]) := by
  obtain ⟨l, h1, h2, h3⟩ := h
  have hs : (⟨L.toArray⟩ : ByteArray).size = L.length := by rw [Lib.size_eq]
  refine (tags_any ⟨L.toArray⟩ l w hM h1 (by rw [hs]; omega) ?_).mono ?_
  · rw [hs, ← h1]
    exact trimS_le _
  · rintro e w' ⟨hb, ⟨h, _⟩ | ⟨_, ⟨_, rfl⟩ | ⟨b, v, h, _⟩⟩⟩
    · exact absurd h h2
    · exact ⟨hb, rfl⟩
    · rw [h3] at h
      cases h
theorem bad_comma (a : Items) (ha : a.all okItem = true) : ∃ l, Lib.trimS (outOf a ++ [44]) [32, 9] = l ∧ l ≠ [42] ∧ tagsF (l.length + 1) l = none := by
  by_cases hne : a = []
  · subst hne
    exact ⟨[44], parse_none.2.1.1, by decide, parse_none.2.1.2⟩
  · exact parse_comma a hne ha
theorem bad_a (a : Items) (ha : a.all okItem = true) : ∃ l, Lib.trimS (outOf a ++ [32, 97]) [32, 9] = l ∧ l ≠ [42] ∧ tagsF (l.length + 1) l = none := by
  by_cases hne : a = []
  · subst hne
    exact ⟨[97], parse_none.2.2.1.1, by decide, parse_none.2.2.1.2⟩
  · exact parse_a a hne ha
theorem tags_star (w : World) (hM : MaxIs w) :
    Calls Tryd.prog 12 #[.string ⟨#[32, 42]⟩] w fun e w' => Below w.heap.size w w' ∧ e = .returned (.tuple #[.agg #[.bool true, .slice none 0 0], .bool true]) := by
  refine (tags_any ⟨#[32, 42]⟩ [42] w hM parse_none.2.2.2 (by decide) (by decide)).mono ?_
  rintro e w' ⟨hb, ⟨_, rfl⟩ | ⟨h, _⟩⟩
  · exact ⟨hb, rfl⟩
  · exact absurd rfl h

/-- What stays behind the first call of Tags: the struct that it gave, and its row. -/
structure Xs (w x : World) (want : Value) (a : Items) (g : Nat) (v : Value) : Prop where
  q : Qs w x want a
  c0 : x.cell? ⟨g, 0, none⟩ = some (.bool false)
  c1 : x.cell? ⟨g, 1, none⟩ = some v
  o : x.ownsRow w.heap.size 33 2 v a.length (cellsT (tagsOf a))
  lt : g < x.heap.size
theorem Xs.below {w x y : World} {want v : Value} {a : Items} {g : Nat} (h : Xs w x want a g v) (hb : Below x.heap.size x y) : Xs w y want a g v :=
  ⟨h.q.below hb, (hb.cell (p := ⟨g, 0, none⟩) h.lt).trans h.c0, (hb.cell (p := ⟨g, 1, none⟩) h.lt).trans h.c1, owns_below h.o hb, Nat.lt_of_lt_of_le h.lt hb.size⟩

theorem cellsT_at (a : TagL) (j : Nat) (x : Bool × List UInt8) (h : a[j]? = some x) : (cellsT a)[j * 2]? = some (.bool x.1) ∧ (cellsT a)[j * 2 + 1]? = some (.string ⟨x.2.toArray⟩) := by
  induction a generalizing j with
  | nil => simp at h
  | cons y a ih =>
    cases j with
    | zero =>
      simp at h
      subst h
      simp [cellsT]
    | succ j =>
      have := ih j (by simpa using h)
      simp only [cellsT, List.flatMap_cons] at this ⊢
      rw [show (j + 1) * 2 = j * 2 + 2 by omega]
      simpa using this
end Go.Proofs.YtmehkneofinmiaaDoor

/-
  Plainly: what stands behind a tag, place by place.
-/
import Derived.Test.YtmehkneofinmiaaDoorU3
namespace Go.Proofs.YtmehkneofinmiaaDoor
open Go.RowKit

/-- the last byte, if there is one, is no blank -/
def Tight (l : List UInt8) : Prop := ∀ x c, l = x ++ [c] → blank c = false
theorem trimR_tight (l : List UInt8) : Tight (Lib.trimRightS l [32, 9]) := by
  intro x c h
  unfold Lib.trimRightS at h
  have h2 : l.reverse.dropWhile (fun c => [32, 9].contains c) = c :: x.reverse := by
    have := congrArg List.reverse h
    simpa using this
  have := List.head?_dropWhile_not (p := fun c : UInt8 => [32, 9].contains c) l.reverse
  rw [h2] at this
  simpa [blank] using this
theorem tight_drop {l : List UInt8} (h : Tight l) (k : Nat) : Tight (l.drop k) := by
  intro x c e
  apply h (l.take k ++ x) c
  rw [List.append_assoc, ← e, List.take_append_drop]
theorem trim_tight (l : List UInt8) : Tight (Lib.trimS l [32, 9]) := by
  intro x c e
  unfold Lib.trimS Lib.trimLeftS at e
  obtain ⟨y, hy⟩ := List.dropWhile_suffix (fun c : UInt8 => [32, 9].contains c) (l := Lib.trimRightS l [32, 9])
  apply trimR_tight l (y ++ x) c
  rw [List.append_assoc, ← e, hy]
theorem dropW_nil (p : UInt8 → Bool) : ∀ l : List UInt8, l.dropWhile p = [] → ∀ c ∈ l, p c = true
  | [], _, c, hc => by cases hc
  | a :: l, h, c, hc => by
    rw [List.dropWhile_cons] at h
    split at h
    · rename_i ha
      rcases List.mem_cons.1 hc with rfl | hm
      · exact ha
      · exact dropW_nil p l h c hm
    · cases h
theorem tight_strip {l : List UInt8} (h : Tight l) (hn : l ≠ []) : strip l ≠ [] := by
  intro e
  have hb : blank (l.getLast hn) = false := h l.dropLast _ (List.dropLast_concat_getLast hn).symm
  have ha : ∀ c ∈ l, [32, 9].contains c = true := by
    unfold strip Lib.trimLeftS at e
    exact dropW_nil _ l e
  have := ha _ (List.getLast_mem hn)
  unfold blank at hb
  rw [this] at hb
  cases hb

/-- how far blanks have been passed -/
def Sk (s : ByteArray) (f m : Nat) : Prop := strip (s.data.toList.drop f) = strip (s.data.toList.drop m)
theorem Sk.go {s : ByteArray} {f m : Nat} (h : Sk s f m) (hm : m < s.size) (hc : (s[m].toNat : Int) = 32 ∨ (s[m].toNat : Int) = 9) : Sk s f (m + 1) := by
  unfold Sk at h ⊢
  rw [h, drop_cons s m hm]
  exact strip_gap [s[m]] _ (by simpa using (blank_iff s[m]).2 hc)
theorem Sk.stop {s : ByteArray} {f m : Nat} (h : Sk s f m) (hc : ∀ hm : m < s.size, ¬ ((s[m].toNat : Int) = 32 ∨ (s[m].toNat : Int) = 9)) : strip (s.data.toList.drop f) = s.data.toList.drop m := by
  unfold Sk at h
  rw [h]
  by_cases hm : m < s.size
  · rw [drop_cons s m hm]
    exact strip_head _ _ (by rw [Bool.eq_false_iff, Ne, blank_iff]; exact hc hm)
  · rw [List.drop_of_length_le (by rw [← Lib.size_eq]; omega)]
    rfl
theorem drop_nil_iff (s : ByteArray) (m : Nat) : s.data.toList.drop m = [] ↔ s.size ≤ m := by
  rw [List.drop_eq_nil_iff, ← Lib.size_eq]

/-- The list is read to its end. -/
theorem ref_end {s : ByteArray} {a n m k : Nat} {wk : Bool} {nm : List UInt8} (ht : Tight s.data.toList) (hk : (s.data.toList.drop a).length < k) (hf : tagF (s.data.toList.drop a) = some (wk, nm, s.data.toList.drop n)) (hs : strip (s.data.toList.drop n) = s.data.toList.drop m) (hm : s.size ≤ m) :
    tagsF k (s.data.toList.drop a) = some [(wk, nm)] := by
  have hn : s.data.toList.drop n = [] := by
    apply Classical.byContradiction
    intro hc
    exact tight_strip (tight_drop ht n) hc (by rw [hs, drop_nil_iff]; exact hm)
  rw [hn] at hf
  exact tagsF_end hk hf
theorem ref_bad {s : ByteArray} {a n m k : Nat} {wk : Bool} {nm : List UInt8} (hf : tagF (s.data.toList.drop a) = some (wk, nm, s.data.toList.drop n)) (hs : strip (s.data.toList.drop n) = s.data.toList.drop m) (hn : n ≤ m) (hm : m < s.size) (hc : ¬ (s[m].toNat : Int) = 44) :
    tagsF k (s.data.toList.drop a) = none := by
  refine tagsF_bad hf (by rw [Ne, drop_nil_iff]; omega) ?_
  rw [hs, drop_cons s m hm]
  have := byte_ne (n := 44) (by decide) hc
  cases h : Lib.hasPrefix (s[m] :: s.data.toList.drop (m + 1)) [44] with
  | false => rfl
  | true =>
    simp [Lib.hasPrefix] at h
    exact absurd h.symm this
theorem ref_on {s : ByteArray} {a n m p k : Nat} {wk : Bool} {nm : List UInt8} (hf : tagF (s.data.toList.drop a) = some (wk, nm, s.data.toList.drop n)) (hs : strip (s.data.toList.drop n) = s.data.toList.drop m) (hn : n ≤ m) (hm : m < s.size) (hc : (s[m].toNat : Int) = 44)
    (hp : strip (s.data.toList.drop (m + 1)) = s.data.toList.drop p) : tagsF (k + 1) (s.data.toList.drop a) = (tagsF k (s.data.toList.drop p)).map ((wk, nm) :: ·) := by
  have e : s[m] = 44 := byte_eq (n := 44) (by decide) hc
  rw [tagsF_on hf (by rw [Ne, drop_nil_iff]; omega) (by rw [hs, drop_cons s m hm, e]; simp [Lib.hasPrefix]), hs, drop_cons s m hm, e, show Lib.trimPrefix (44 :: s.data.toList.drop (m + 1)) [44] = s.data.toList.drop (m + 1) by simp [Lib.trimPrefix, Lib.hasPrefix], hp]

/-- What the call of the document's Tags holds: the cell of its result, its list, and the list's row. -/
structure Ou (w x : World) (g : Nat) (v : Value) (acc : TagL) : Prop where
  b : Below w.heap.size w x
  r0 : x.cell? ⟨w.heap.size, 0, none⟩ = some (.bool false)
  r1 : x.cell? ⟨w.heap.size, 1, none⟩ = some (.slice none 0 0)
  rf0 : x.frozen? ⟨w.heap.size, 0, none⟩ = false
  rf1 : x.frozen? ⟨w.heap.size, 1, none⟩ = false
  o0 : x.cell? ⟨g, 0, none⟩ = some (.bool false)
  o1 : x.cell? ⟨g, 1, none⟩ = some v
  of1 : x.frozen? ⟨g, 1, none⟩ = false
  own : x.ownsRow (g + 1) 33 2 v acc.length (cellsT acc)
  gl : w.heap.size < g
  lt : g < x.heap.size
theorem Ou.below {w x y : World} {g : Nat} {v : Value} {acc : TagL} (h : Ou w x g v acc) (hb : Below x.heap.size x y) : Ou w y g v acc := by
  have lt := h.lt
  have gl := h.gl
  have hw : w.heap.size < x.heap.size := by omega
  exact ⟨h.b.trans (hb.mono h.b.size), (hb.cell (p := ⟨_, 0, none⟩) hw).trans h.r0, (hb.cell (p := ⟨_, 1, none⟩) hw).trans h.r1, (hb.frozen (p := ⟨_, 0, none⟩) hw).trans h.rf0, (hb.frozen (p := ⟨_, 1, none⟩) hw).trans h.rf1,
    (hb.cell (p := ⟨g, 0, none⟩) lt).trans h.o0, (hb.cell (p := ⟨g, 1, none⟩) lt).trans h.o1, (hb.frozen (p := ⟨g, 1, none⟩) lt).trans h.of1, owns_below h.own hb, gl, by have := hb.size; omega⟩
/-- One tag more. -/
theorem Ou.next {w x y : World} {g : Nat} {v v' : Value} {acc : TagL} {t : Bool × List UInt8} (h : Ou w x g v acc) (hb : Below (g + 1) x y) (ho : y.ownsRow (g + 1) 33 2 v' (acc.length + 1) (cellsT acc ++ [.bool t.1, .string ⟨t.2.toArray⟩])) :
    Ou w (y.setCell ⟨g, 1, none⟩ v') g v' (acc ++ [t]) := by
  have lt := h.lt
  have gl := h.gl
  have c1 := (hb.cell (p := ⟨g, 1, none⟩) (Nat.lt_succ_self g)).trans h.o1
  have ne : ∀ (b o : Nat), (b = w.heap.size ∨ o = 0) → (⟨g, 1, none⟩ : Addr) ≠ ⟨b, o, none⟩ := by
    intro b o hh e
    injection e
    omega
  refine ⟨(h.b.trans (hb.mono (by omega))).setCell (by show w.heap.size ≤ g; omega) _, ?_, ?_, ?_, ?_, ?_, ?_, ?_, ?_, gl, ?_⟩
  · rw [World.cell?_setCell_other _ _ _ _ (ne _ _ (Or.inl rfl))]
    exact (hb.cell (p := ⟨_, 0, none⟩) (show w.heap.size < g + 1 by omega)).trans h.r0
  · rw [World.cell?_setCell_other _ _ _ _ (ne _ _ (Or.inl rfl))]
    exact (hb.cell (p := ⟨_, 1, none⟩) (show w.heap.size < g + 1 by omega)).trans h.r1
  · rw [World.frozen?_setCell]
    exact (hb.frozen (p := ⟨_, 0, none⟩) (show w.heap.size < g + 1 by omega)).trans h.rf0
  · rw [World.frozen?_setCell]
    exact (hb.frozen (p := ⟨_, 1, none⟩) (show w.heap.size < g + 1 by omega)).trans h.rf1
  · rw [World.cell?_setCell_other _ _ _ _ (ne _ _ (Or.inr rfl))]
    exact (hb.cell (p := ⟨g, 0, none⟩) (Nat.lt_succ_self g)).trans h.o0
  · exact World.cell?_setCell_same _ _ _ c1
  · rw [World.frozen?_setCell]
    exact (hb.frozen (p := ⟨g, 1, none⟩) (Nat.lt_succ_self g)).trans h.of1
  · rw [List.length_append, List.length_singleton, cellsT_snoc]
    exact owns_set ho (by show g < g + 1; omega)
  · have := World.block_lt_of_cell? _ _ c1
    simpa [World.setCell] using this
theorem owns_form {x : World} {base : Nat} {e : TypeId} {size : Nat} {v : Value} {n : Nat} {xs : List Value} (h : x.ownsRow base e size v n xs) : ∃ bo cp, v = .slice bo n cp := by
  rcases h.2 with ⟨rfl, h0⟩ | ⟨g, cap, cur, rfl, _⟩
  · rw [h0]; exact ⟨_, _, rfl⟩
  · exact ⟨_, _, rfl⟩
end Go.Proofs.YtmehkneofinmiaaDoor

/-
 Texts of this proof, part 13.
-/
import Derived.Test.YtmehkneofinmiabGreatDoorP12
set_option maxHeartbeats 2000000
namespace Go.Proofs.YtmehkneofinmiabGreatDoor
open Go.RowKit
def qTag (body : List UInt8) : List UInt8 := 34::hexN 16 (fnv body) ++ [34]
theorem quotedTag_any (body : List UInt8) (w : World) (hb : body.length < 1000000) (h : Tz w) :
 Calls Tryz.prog 95 #[.string ⟨body.toArray⟩] w fun e w' => e = .returned (.string ⟨(qTag body).toArray⟩) /\ Below w.heap.size w w' := by
 go_enter Tryz.func95, Tryz.ntmps95
 go_wp2_with fail
 refine (progTag ⟨body.toArray⟩ _ (by rw [Lib.size_eq]; simp; omega) h).mono ?_
 rintro e w1 ⟨rfl, hb1⟩
 obtain ⟨H, hH⟩ : ∃ H, hexN 16 (fnv body) = H := ⟨_, rfl⟩
 have hHl : H.length = 16 := by rw [<- hH]; exact hexN_len 16 _
 have HH : Hid _ := hH
 rw [show (ByteArray.mk body.toArray).data.toList = body from rfl, hH]
 have hs : (⟨H.toArray⟩ : ByteArray).size = 16 := by rw [Lib.size_eq]; exact hHl
 clear hH hHl
 go_wp2
 go_ret
 refine ⟨ret_str ?_, hb1⟩
 unfold qTag
 rw [HH.out]
 apply ByteArray.ext
 simp [ByteArray.data_append]
theorem itoaN (n : Nat) (w : World) (h : n < 1000000000000000) (hT : Tab w) :
 Calls Tryz.prog 13 #[.int .i64 n] w fun e w' => e = .returned (.string ⟨(Lib.decDigits n).toArray⟩) /\ Below w.heap.size w w' := by
 refine (Tryz.strconv_Itoa n (by omega) (by omega) w hT.tab).mono ?_
 rintro e w' ⟨rfl, k, os, rfl⟩
 refine ⟨ret_str ?_, Lib.below_grow _ _ (Nat.le_refl _) _ _⟩
 unfold Lib.itoa
 rw [if_neg (by omega)]
 rfl
theorem dec_len_pow (k : Nat) : ∀ n : Nat, n < 10 ^ (k + 1) -> (Lib.decDigits n).length <= k + 1 := by
 induction k with
 | zero =>
   intro n h
   rw [Lib.decDigits_one (by omega)]
   simp
 | succ k ih =>
   intro n h
   rw [Lib.decDigits]
   split
   ·simp
   ·rw [List.length_append]
    have := ih (n / 10) (by rw [Nat.pow_succ] at h; omega)
    simp only [List.length_singleton]
    omega
def lineF2 (v : Ver) : List UInt8 := Lib.decDigits v.num ++ [32] ++ Lib.decDigits v.time ++ [32] ++ (if v.mark then [103, 111, 110, 101] else qTag v.body) ++ [10]
theorem qTag_len (b : List UInt8) : (qTag b).length = 18 := by simp [qTag, hexN_len]
theorem addS (a b : ByteArray) (h : a.size + b.size <= 1000000) : ∀ w : World, (Op.stringOp .add a b).run Tryz.prog w = .ok (.string (a ++ b)) w := fun w => run_string_add_sum w a b (by omega)
theorem line_any (v : Ver) (w : World) (hn : v.num < 1000000000000000) (ht : v.time < 1000000000000000) (hb : v.body.length < 1000000) (h : Tz w) (hT : Tab w) :
 Calls Tryz.prog 98 #[verAgg v] w fun e w' => e = .returned (.string ⟨(lineF2 v).toArray⟩) /\ Below w.heap.size w w' := by
 have hl1 := dec_len_pow 14 v.num (by omega)
 have hl2 := dec_len_pow 14 v.time (by omega)
 obtain ⟨D1, hD1⟩ : ∃ D, Lib.decDigits v.num = D := ⟨_, rfl⟩
 obtain ⟨D2, hD2⟩ : ∃ D, Lib.decDigits v.time = D := ⟨_, rfl⟩
 have HI1 : Hid (∀ w, Tab w -> Calls Tryz.prog 13 #[.int .i64 v.num] w fun e w' => e = .returned (.string ⟨D1.toArray⟩) /\ Below w.heap.size w w') := by rw [<- hD1]; exact fun w h => itoaN v.num w hn h
 have HI2 : Hid (∀ w, Tab w -> Calls Tryz.prog 13 #[.int .i64 v.time] w fun e w' => e = .returned (.string ⟨D2.toArray⟩) /\ Below w.heap.size w w') := by rw [<- hD2]; exact fun w h => itoaN v.time w ht h
 have HL : Hid (lineF2 v = D1 ++ [32] ++ D2 ++ [32] ++ (if v.mark then [103, 111, 110, 101] else qTag v.body) ++ [10]) := by rw [<- hD1, <- hD2]; rfl
 rw [hD1] at hl1
 rw [hD2] at hl2
 have hs1 : (⟨D1.toArray⟩ : ByteArray).size <= 15 := by rw [Lib.size_eq]; exact hl1
 have hs2 : (⟨D2.toArray⟩ : ByteArray).size <= 15 := by rw [Lib.size_eq]; exact hl2
 have hq := qTag_len v.body
 obtain ⟨q, hqq⟩ : ∃ q, qTag v.body = q := ⟨_, rfl⟩
 have hs3 : (⟨q.toArray⟩ : ByteArray).size = 18 := by rw [Lib.size_eq, <- hqq]; exact hq
 have hal : Below w.heap.size w (w.alloc (.cells #[.int .i64 v.num, .int .i64 v.time, .bool v.mark, .string ⟨v.body.toArray⟩] 147)) := (Below.refl _ _).alloc (Nat.le_refl _) _
 have HA : Hid _ := hal
 have hTz : Tz (w.alloc (.cells #[.int .i64 v.num, .int .i64 v.time, .bool v.mark, .string ⟨v.body.toArray⟩] 147)) := h.below hal
 have hTb : Tab (w.alloc (.cells #[.int .i64 v.num, .int .i64 v.time, .bool v.mark, .string ⟨v.body.toArray⟩] 147)) := hT.below hal
 have HQ : Hid (∀ w, Tz w -> Calls Tryz.prog 95 #[.string ⟨v.body.toArray⟩] w fun e w' => e = .returned (.string ⟨q.toArray⟩) /\ Below w.heap.size w w') := by rw [<- hqq]; exact fun w h => quotedTag_any v.body w hb h
 rw [hqq] at HL
 clear hl1 hl2 hq hqq hD1 hD2 hal h hT
 unfold verAgg
 obtain ⟨vn, hvn⟩ : ∃ x : Nat, v.num = x := ⟨_, rfl⟩
 obtain ⟨vt, hvt⟩ : ∃ x : Nat, v.time = x := ⟨_, rfl⟩
 rw [hvn] at HI1 HA hTz hTb hn ⊢
 rw [hvt] at HI2 HA hTz hTb ht ⊢
 clear hvn hvt
 cases hm : v.mark with
 | true =>
   rw [hm] at HL HA hTz hTb
   go_enter Tryz.func98, Tryz.ntmps98
   go_wp2_with fail
   obtain ⟨W, hW⟩ : ∃ W, W = (w.alloc (.cells #[.int .i64 vn, .int .i64 vt, .bool true, .string ⟨v.body.toArray⟩] 147)) := ⟨_, rfl⟩
   have B0 : W.cell? ⟨w.heap.size, 0, none⟩ = some (.int .i64 vn) := by rw [hW]; simp
   have B1 : W.cell? ⟨w.heap.size, 1, none⟩ = some (.int .i64 vt) := by rw [hW]; simp
   have z3 : (⟨#[103, 111, 110, 101]⟩ : ByteArray).size = 4 := rfl
   rw [<- hW] at HA hTb ⊢
   clear hW hTz
   have b0 : ∀ d os, (Sort.grow (redrawn W d) os).cell? ⟨w.heap.size, 0, none⟩ = some (.int .i64 vn) := fun d os => cell_regrown B0 d os
   have b1 : ∀ d os, (Sort.grow (redrawn W d) os).cell? ⟨w.heap.size, 1, none⟩ = some (.int .i64 vt) := fun d os => cell_regrown B1 d os
   have HC1 : Hid (∀ (d : Nat) (os : Array Obj), _) := fun d os => Calls.regrown_of (HI1.out (Sort.grow (redrawn W d) os) (hTb.below (below_regrown W d os)))
   have HC2 : Hid (∀ (d : Nat) (os : Array Obj), _) := fun d os => Calls.regrown_of (HI2.out (Sort.grow (redrawn W d) os) (hTb.below (below_regrown W d os)))
   have z1 : (⟨#[32]⟩ : ByteArray).size = 1 := rfl
   have z2 : (⟨#[10]⟩ : ByteArray).size = 1 := rfl
   have a1 := addS ⟨D1.toArray⟩ ⟨#[32]⟩ (by omega)
   have a2 := addS (⟨D1.toArray⟩ ++ ⟨#[32]⟩) ⟨D2.toArray⟩ (by rw [ByteArray.size_append]; omega)
   have a3 := addS (⟨D1.toArray⟩ ++ ⟨#[32]⟩ ++ ⟨D2.toArray⟩) ⟨#[32]⟩ (by rw [ByteArray.size_append, ByteArray.size_append]; omega)
   have a4 := addS (⟨D1.toArray⟩ ++ ⟨#[32]⟩ ++ ⟨D2.toArray⟩ ++ ⟨#[32]⟩) ⟨#[103, 111, 110, 101]⟩ (by rw [ByteArray.size_append, ByteArray.size_append, ByteArray.size_append]; omega)
   have a5 := addS (⟨D1.toArray⟩ ++ ⟨#[32]⟩ ++ ⟨D2.toArray⟩ ++ ⟨#[32]⟩ ++ ⟨#[103, 111, 110, 101]⟩) ⟨#[10]⟩ (by rw [ByteArray.size_append, ByteArray.size_append, ByteArray.size_append, ByteArray.size_append]; omega)
   clear hTb HI1 HI2 HQ B0 B1 hs3
   refine wp_region_quiet_below (by kernel_rfl) (by kernel_rfl) ?_
   repeat (first | go_big_quiet_step (first | (go_at_call_of 13 (Value.int IntKind.i64 vn); exact HC1.out _ _) | (go_at_call_of 13 (Value.int IntKind.i64 vt); exact HC2.out _ _)) | quiet_step (first | (go_at_call_of 13 (Value.int IntKind.i64 vn); exact HC1.out _ _) | (go_at_call_of 13 (Value.int IntKind.i64 vt); exact HC2.out _ _)))
   refine wpQuiet_nil ?_
   intro w2 hw'
   have hB2 : Below W.heap.size W w2 := by
    obtain ⟨⟨dq, osq⟩, hw''⟩ := hw'
    rw [hw'']
    exact below_regrown W dq osq
   clear hw'
   go_wp2
   go_ret
   refine ⟨ret_str ?_, HA.out.trans (hB2.mono HA.out.size)⟩
   rw [HL.out]
   apply ByteArray.ext
   simp [ByteArray.data_append]
 | false =>
   rw [hm] at HL HA hTz hTb
   go_enter Tryz.func98, Tryz.ntmps98
   go_wp2_with fail
   refine (HQ.out _ hTz).mono ?_
   rintro e W ⟨rfl, hbW⟩
   have B0 : W.cell? ⟨w.heap.size, 0, none⟩ = some (.int .i64 vn) := (hbW.cell (p := ⟨w.heap.size, 0, none⟩) (by simp)).trans (by simp)
   have B1 : W.cell? ⟨w.heap.size, 1, none⟩ = some (.int .i64 vt) := (hbW.cell (p := ⟨w.heap.size, 1, none⟩) (by simp)).trans (by simp)
   replace hTb := hTb.below hbW
   have HA : Hid (Below w.heap.size w W) := HA.out.trans (hbW.mono HA.out.size)
   clear hbW hTz
   go_wp2_with fail
   have b0 : ∀ d os, (Sort.grow (redrawn W d) os).cell? ⟨w.heap.size, 0, none⟩ = some (.int .i64 vn) := fun d os => cell_regrown B0 d os
   have b1 : ∀ d os, (Sort.grow (redrawn W d) os).cell? ⟨w.heap.size, 1, none⟩ = some (.int .i64 vt) := fun d os => cell_regrown B1 d os
   have HC1 : Hid (∀ (d : Nat) (os : Array Obj), _) := fun d os => Calls.regrown_of (HI1.out (Sort.grow (redrawn W d) os) (hTb.below (below_regrown W d os)))
   have HC2 : Hid (∀ (d : Nat) (os : Array Obj), _) := fun d os => Calls.regrown_of (HI2.out (Sort.grow (redrawn W d) os) (hTb.below (below_regrown W d os)))
   have z1 : (⟨#[32]⟩ : ByteArray).size = 1 := rfl
   have z2 : (⟨#[10]⟩ : ByteArray).size = 1 := rfl
   have a1 := addS ⟨D1.toArray⟩ ⟨#[32]⟩ (by omega)
   have a2 := addS (⟨D1.toArray⟩ ++ ⟨#[32]⟩) ⟨D2.toArray⟩ (by rw [ByteArray.size_append]; omega)
   have a3 := addS (⟨D1.toArray⟩ ++ ⟨#[32]⟩ ++ ⟨D2.toArray⟩) ⟨#[32]⟩ (by rw [ByteArray.size_append, ByteArray.size_append]; omega)
   have a4 := addS (⟨D1.toArray⟩ ++ ⟨#[32]⟩ ++ ⟨D2.toArray⟩ ++ ⟨#[32]⟩) ⟨q.toArray⟩ (by rw [ByteArray.size_append, ByteArray.size_append, ByteArray.size_append]; omega)
   have a5 := addS (⟨D1.toArray⟩ ++ ⟨#[32]⟩ ++ ⟨D2.toArray⟩ ++ ⟨#[32]⟩ ++ ⟨q.toArray⟩) ⟨#[10]⟩ (by rw [ByteArray.size_append, ByteArray.size_append, ByteArray.size_append, ByteArray.size_append]; omega)
   clear hTb HI1 HI2 HQ B0 B1 hs3
   refine wp_region_quiet_below (by kernel_rfl) (by kernel_rfl) ?_
   repeat (first | go_big_quiet_step (first | (go_at_call_of 13 (Value.int IntKind.i64 vn); exact HC1.out _ _) | (go_at_call_of 13 (Value.int IntKind.i64 vt); exact HC2.out _ _)) | quiet_step (first | (go_at_call_of 13 (Value.int IntKind.i64 vn); exact HC1.out _ _) | (go_at_call_of 13 (Value.int IntKind.i64 vt); exact HC2.out _ _)))
   refine wpQuiet_nil ?_
   intro w2 hw'
   have hB2 : Below W.heap.size W w2 := by
    obtain ⟨⟨dq, osq⟩, hw''⟩ := hw'
    rw [hw'']
    exact below_regrown W dq osq
   clear hw'
   go_wp2
   go_ret
   refine ⟨ret_str ?_, HA.out.trans (hB2.mono HA.out.size)⟩
   rw [HL.out]
   apply ByteArray.ext
   simp [ByteArray.data_append]
structure Fld where
 name : List UInt8
 value : List UInt8
def fldCells (f : Fld) : List Value := [.string ⟨f.name.toArray⟩, .string ⟨f.value.toArray⟩]
def fldRow (l : List Fld) : List Value := l.flatMap fldCells
def fldText (f : Fld) : List UInt8 := f.name ++ [58, 32] ++ f.value ++ [13, 10]
def textF (told : Nat) (fs : List Fld) (body : List UInt8) : List UInt8 := Lib.decDigits told ++ [13, 10] ++ fs.flatMap fldText ++ [13, 10] ++ body
theorem fldRow_get (l : List Fld) (i : Nat) (v : Fld) (h : l[i]? = some v) (j : Nat) (hj : j < 2) : (fldRow l)[i * 2 + j]? = (fldCells v)[j]? := by
 induction l generalizing i with
 | nil => simp at h
 | cons a l ih =>
   simp only [fldRow, List.flatMap_cons]
   cases i with
   | zero =>
     simp at h; subst h
     rw [List.getElem?_append_left (by simp [fldCells]; omega)]
     simp
   | succ i =>
     rw [List.getElem?_append_right (by simp [fldCells]; omega)]
     have e : (i + 1) * 2 + j - (fldCells a).length = i * 2 + j := by simp [fldCells]; omega
     rw [e]
     exact ih i (by simpa using h)
theorem fld_cells {w : World} {vs : Value} {l : List Fld} (h : w.ownsRow 0 124 2 vs l.length (fldRow l)) (i : Nat) (v : Fld) (hi : l[i]? = some v) :
 ∃ g cap, vs = .slice (some ⟨g, 0, none⟩) l.length cap /\ l.length <= cap /\ cap <= maxLen /\ g < w.heap.size /\ (∀ j, w.frozen? ⟨g, j, none⟩ = false) /\
  w.cell? ⟨g, i * 2, none⟩ = some (.string ⟨v.name.toArray⟩) /\ w.cell? ⟨g, i * 2 + 1, none⟩ = some (.string ⟨v.value.toArray⟩) := by
 have hlt : i < l.length := (List.getElem?_eq_some_iff.1 hi).1
 rcases h.2 with ⟨_, h0⟩ | ⟨g, cap, cur, hv, _, hg, hn, hm, hs, htk⟩
 ·omega
 ·refine ⟨g, cap, hv, hn, hm, (Array.getElem?_eq_some_iff.1 hg).1, fun j => by simp [World.frozen?, hg], ?_⟩
  have key : ∀ j, j < 2 -> w.cell? ⟨g, i * 2 + j, none⟩ = (fldCells v)[j]? := by
   intro j hj
   rw [<- fldRow_get l i v hi j hj, <- htk, List.getElem?_take_of_lt (by omega)]
   simp [World.cell?, hg]
  exact ⟨key 0 (by omega), key 1 (by omega)⟩
theorem strCells_mk (l : List UInt8) : Lib.strCells ⟨l.toArray⟩ = Lib.byteCells l := by simp [Lib.strCells, Lib.byteCells]
theorem byteCells_append (a b : List UInt8) : Lib.byteCells (a ++ b) = Lib.byteCells a ++ Lib.byteCells b := by simp [Lib.byteCells]
structure Tx (w0 : World) (a b : Nat) (told : Nat) (fs : Value) (body : List UInt8) (t : List UInt8) (w : World) : Prop where
 low : Below w0.heap.size w0 w
 h0 : w0.heap.size <= a
 ab : a < b
 blk : w.heap[a]? = some (.cells #[.int .i64 told, fs, .string ⟨body.toArray⟩] 80 (0, 0))
 bld : Lib.IsBuilder 118 5 b b (Lib.byteCells t) w
 sz : b < w.heap.size
theorem builder_below {T e B b : Nat} {bs : List Value} {w x : World} (h : Lib.IsBuilder T e B b bs w) (hb : Below w.heap.size w x) : Lib.IsBuilder T e B b bs x := by
 rcases h with ⟨h0, v, h1, h2, h3⟩ | ⟨h0, v, h1, h2, h3⟩
 ·exact Or.inl ⟨h0, v, (hb.block _ (Array.getElem?_eq_some_iff.1 h1).1).trans h1, row_below h2 hb, h3⟩
 ·exact Or.inr ⟨h0, v, (hb.block _ (Array.getElem?_eq_some_iff.1 h1).1).trans h1, row_below h2 hb, h3⟩
theorem Tx.below {w0 : World} {a b told : Nat} {fs : Value} {body t : List UInt8} {w x : World} (h : Tx w0 a b told fs body t w) (hb : Below w.heap.size w x) : Tx w0 a b told fs body t x :=
 ⟨h.low.trans (hb.mono h.low.size), h.h0, h.ab, (hb.block a (by have := h.ab; have := h.sz; omega)).trans h.blk, builder_below h.bld hb, Nat.lt_of_lt_of_le h.sz hb.size⟩
theorem flat_len (l : List Fld) (hf : ∀ f ∈ l, f.name.length < 1000 /\ f.value.length < 1000) : (l.flatMap fldText).length <= l.length * 2004 := by
 induction l with
 | nil => simp
 | cons a l ih =>
   have h1 := hf a (by simp)
   have h2 := ih (fun f h => hf f (by simp [h]))
   simp only [List.flatMap_cons, List.length_append, List.length_cons, fldText, List.length_nil]
   omega
theorem Tx.write {w0 : World} {a b told : Nat} {fs : Value} {body t : List UInt8} {w : World} (h : Tx w0 a b told fs body t w) (s : List UInt8) (hl : t.length + s.length <= 140737488355328) :
 Calls Tryz.prog 50 #[.pointer (some ⟨b, 0, none⟩), .string ⟨s.toArray⟩] w fun e w' => (∃ v, e = .returned v) /\ Tx w0 a b told fs body (t ++ s) w' := by
 refine (Tryz.Builder_WriteString b b (Lib.byteCells t) ⟨s.toArray⟩ w h.bld (by rw [Lib.byteCells_length, Lib.size_eq]; simpa using hl) (Nat.le_of_lt h.sz)).mono ?_
 rintro e w' ⟨rfl, hB, hb⟩
 refine ⟨⟨_, rfl⟩, ⟨h.low.trans (hb.mono (by have := h.h0; have := h.ab; omega)), h.h0, h.ab, (hb.block a h.ab).trans h.blk, ?_, Nat.lt_of_lt_of_le h.sz hb.size⟩⟩
 rw [strCells_mk, <- byteCells_append] at hB
 exact Or.inr hB
theorem dec_len (n : Nat) (h : n < 100000) : (Lib.decDigits n).length <= 5 := dec_len_pow 4 n h
theorem text_any (told : Nat) (fs : Value) (l : List Fld) (body : List UInt8) (w : World) (hT : Tab w) (ht : told < 100000)
 (hF : w.ownsRow 0 124 2 fs l.length (fldRow l)) (hl : l.length < 1000) (hf : ∀ f ∈ l, f.name.length < 1000 /\ f.value.length < 1000) (hb : body.length < 1000000) :
 Calls Tryz.prog 31 #[.agg #[.int .i64 told, fs, .string ⟨body.toArray⟩]] w fun e w' => e = .returned (.string ⟨(textF told l body).toArray⟩) /\ Below w.heap.size w w' := by
 have hlen : ∃ a c, fs = .slice a l.length c := by
  rcases hF.2 with ⟨rfl, h0⟩ | ⟨g, cap, cur, rfl, _⟩
  ·rw [h0]; exact ⟨_, _, rfl⟩
  ·exact ⟨_, _, rfl⟩
 have HF : Hid (w.ownsRow 0 124 2 fs l.length (fldRow l)) := hF
 clear hF
 obtain ⟨fa, fc, hfs⟩ := hlen
 subst hfs
 go_enter Tryz.func31, Tryz.ntmps31
 go_wp2_with fail
 have hb0 : Below w.heap.size w ((w.alloc (.cells #[.int .i64 told, .slice fa l.length fc, .string ⟨body.toArray⟩] 80)).alloc (.cells #[.pointer none, .slice none 0 0] 118)) := ((Below.refl _ _).alloc (Nat.le_refl _) _).alloc (by simp) _
 refine (itoa_any told _ (by omega) (by omega) (hT.below hb0)).mono ?_
 rintro e w1 ⟨rfl, hb1⟩
 have X1 : Tx w w.heap.size (w.heap.size + 1) told (.slice fa l.length fc) body [] w1 := by
  have hs := hb1.size
  simp at hs
  refine ⟨hb0.trans (hb1.mono (by simp; try omega)), Nat.le_refl _, by omega, ?_, Or.inl ⟨Nat.le_refl _, .slice none 0 0, ?_, ⟨rfl, Or.inl ⟨rfl, rfl⟩⟩, by simp [Value.ownBlock]⟩, by omega⟩
  ·rw [hb1.block _ (by simp; try omega)]
   rw [heap_alloc_old _ _ (by simp)]
   exact heap_alloc_new _ _
  ·rw [hb1.block _ (by simp; try omega)]
   have := heap_alloc_new (w.alloc (.cells #[.int .i64 told, .slice fa l.length fc, .string ⟨body.toArray⟩] 80)) (.cells #[.pointer none, .slice none 0 0] 118)
   simpa using this
 rw [Int.toNat_natCast]
 obtain ⟨D, hD⟩ : ∃ D, Lib.decDigits told = D := ⟨_, rfl⟩
 have hDl : D.length <= 5 := by rw [<- hD]; exact dec_len told ht
 rw [hD]
 have HW : Hid (textF told l body = D ++ [13, 10] ++ l.flatMap fldText ++ [13, 10] ++ body) := by rw [<- hD]; rfl
 have HF1 : Hid _ := HF
 clear hb0 hb1 hD HF1
 go_wp2_with fail
 refine (X1.write D (by simp; omega)).mono ?_
 rintro e w2 ⟨⟨v, rfl⟩, X2⟩
 clear X1
 go_wp2_with fail
 refine (X2.write [13, 10] (by simp; omega)).mono ?_
 rintro e w3 ⟨⟨v, rfl⟩, X3⟩
 clear X2
 have c1 : w3.cell? ⟨w.heap.size, 1, none⟩ = some (.slice fa l.length fc) := by simp [World.cell?, X3.blk]
 have X : Hid _ := X3
 clear X3 c1
 have c1 : w3.cell? ⟨w.heap.size, 1, none⟩ = some (.slice fa l.length fc) := by simp [World.cell?, X.out.blk]
 go_wp2
 go_loopw [14] (fun x wx => ∃ i : Nat, i <= l.length /\ x = .int .i64 i /\ Hid (Tx w w.heap.size (w.heap.size + 1) told (.slice fa l.length fc) body (D ++ [13, 10] ++ (l.take i).flatMap fldText) wx)) (fun x _ => l.length - (intOf x).toNat)
 case atStart => exact ⟨0, by omega, rfl, by simpa using X⟩
 case round =>
  obtain ⟨i, hi, rfl, X⟩ := hrel
  by_cases hlt2 : i < l.length
  ·obtain ⟨v, hv⟩ : ∃ v, l[i]? = some v := ⟨l[i], List.getElem?_eq_getElem hlt2⟩
   obtain ⟨hn1, hn2⟩ := hf v (List.mem_of_getElem? hv)
   obtain ⟨g, cap, e1, hn, hm, hg, hfz, c0, c1⟩ := fld_cells (row_below HF.out (X.out.low.mono (Nat.le_refl _))) i v hv
   cases e1
   have HV : Hid (l[i]? = some v) := hv
   have hltI : (i : Int) < (l.length : Int) := by omega
   have hsz : (⟨v.name.toArray⟩ : ByteArray).size < 1000 := by rw [Lib.size_eq]; simpa using hn1
   have hsz2 : (⟨v.value.toArray⟩ : ByteArray).size < 1000 := by rw [Lib.size_eq]; simpa using hn2
   clear hv
   go_wp2_with fail
   have et : (⟨v.name.toArray⟩ ++ ⟨#[58, 32]⟩ ++ ⟨v.value.toArray⟩ ++ ⟨#[13, 10]⟩ : ByteArray) = ⟨(fldText v).toArray⟩ := by
    apply ByteArray.ext
    simp [ByteArray.data_append, fldText]
   rw [et]
   have hfl := flat_len (l.take i) (fun f h => hf f (List.mem_of_mem_take h))
   have htl : (l.take i).length <= 1000 := by rw [List.length_take]; omega
   have hvl : (fldText v).length <= 2004 := by simp only [fldText, List.length_append, List.length_cons, List.length_nil]; omega
   refine ((X.out.below ((Below.refl _ _).alloc (Nat.le_refl _) _)).write (fldText v) (by simp only [List.length_append, List.length_cons, List.length_nil]; omega)).mono ?_
   rintro e w4 ⟨⟨v', rfl⟩, X4⟩
   have X5 : Hid (Tx w w.heap.size (w.heap.size + 1) told (.slice (some ⟨g, 0, none⟩) l.length fc) body (D ++ [13, 10] ++ (l.take (i + 1)).flatMap fldText) w4) := by
    have e2 : (l.take (i + 1)).flatMap fldText = (l.take i).flatMap fldText ++ fldText v := by
     rw [List.take_add_one, HV.out]
     simp
    rw [e2, <- List.append_assoc]
    exact X4
   clear X4 X et hfl
   go_wp2
   refine ⟨⟨i + 1, by omega, rfl, X5⟩, ?_⟩
   simp [intOf]
   omega
  ·obtain rfl : i = l.length := by omega
   clear hlt2
   rw [List.take_length] at X
   have hfl := flat_len l hf
   go_wp2_with fail
   refine (X.out.write [13, 10] (by simp only [List.length_append, List.length_cons, List.length_nil]; omega)).mono ?_
   rintro e w5 ⟨⟨v5, rfl⟩, X5⟩
   have c2 : w5.cell? ⟨w.heap.size, 2, none⟩ = some (.string ⟨body.toArray⟩) := by simp [World.cell?, X5.blk]
   have X6 : Hid _ := X5
   clear X X5
   go_wp2_with fail
   refine (X6.out.write body (by simp only [List.length_append, List.length_cons, List.length_nil]; omega)).mono ?_
   rintro e w7 ⟨⟨v7, rfl⟩, X7⟩
   clear X6 c2
   rw [<- HW.out] at X7
   go_wp2_with fail
   refine (Tryz.Builder_String_any (w.heap.size + 1) (w.heap.size + 1) _ _ X7.bld (Nat.le_of_lt X7.sz)).mono ?_
   rintro e w8 ⟨rfl, hb8⟩
   go_wp2
   go_ret
   exact ⟨rfl, X7.low.trans (hb8.mono (by omega))⟩
def FirstM (p L : List UInt8) (k : Nat) : Prop := p.isPrefixOf (L.drop k) = true /\ ∀ j, j < k -> p.isPrefixOf (L.drop j) = false
theorem FirstM.base (p L : List UInt8) : FirstM p (p ++ L) 0 := ⟨by simp, fun j h => absurd h (Nat.not_lt_zero _)⟩
theorem FirstM.step {p L : List UInt8} {k : Nat} {a : UInt8} (h : FirstM p L k) (hn : p.isPrefixOf (a::L) = false) : FirstM p (a::L) (k + 1) := by
 refine ⟨by simpa using h.1, fun j hj => ?_⟩
 cases j with
 | zero => exact hn
 | succ j => simpa using h.2 j (by omega)
theorem FirstM.skip {p L : List UInt8} {k : Nat} {c : List UInt8} (h : FirstM (13::p) L k) (hc : ∀ x ∈ c, x ≠ 13) : FirstM (13::p) (c ++ L) (c.length + k) := by
 induction c with
 | nil => simpa using h
 | cons a c ih =>
   have := (ih (fun x hx => hc x (by simp [hx]))).step (a := a) (by
    have : ((13 : UInt8) == a) = false := by simp; exact fun e => hc a (by simp) e.symm
    simp [List.isPrefixOf, this])
   rw [show (a::c).length + k = c.length + k + 1 by simp; omega]
   exact this
theorem ext_take (L : List UInt8) (j m : Nat) : ((⟨L.toArray⟩ : ByteArray).extract j (j + m)).toList = (L.drop j).take m := by
 rw [ByteArray.toList_eq, Lib.extract_data]
 simp
theorem pre_take {p L : List UInt8} : p.isPrefixOf L = true ↔ L.take p.length = p := by
 rw [List.isPrefixOf_iff_prefix, List.prefix_iff_eq_take]
 exact eq_comm
theorem ext_pre (L p : List UInt8) (j m : Nat) (hm : m = p.length) : ((⟨L.toArray⟩ : ByteArray).extract j (j + m)).toList = p ↔ p.isPrefixOf (L.drop j) = true := by
 rw [ext_take, hm, pre_take]
theorem FirstM.head {L : List UInt8} {k : Nat} (h : FirstM [13, 10, 13, 10] L k) : HeadAt ⟨L.toArray⟩ k := by
 refine ⟨?_, (ext_pre L [13, 10, 13, 10] k 4 rfl).2 h.1, fun j hj e => ?_⟩
 ·have := congrArg List.length (pre_take.1 h.1)
  rw [Lib.size_eq]
  simp at this
  simp
  omega
 ·have := (ext_pre L [13, 10, 13, 10] j 4 rfl).1 e
  rw [h.2 j hj] at this
  cases this
def Cln (f : Fld) : Prop := f.name ≠ [] /\ (∀ c ∈ f.name, c ≠ 13) /\ ∀ c ∈ f.value, c ≠ 13
theorem head_flds (fs : List Fld) (body : List UInt8) (h : ∀ f ∈ fs, Cln f) : FirstM [13, 10, 13, 10] ([13, 10] ++ fs.flatMap fldText ++ [13, 10] ++ body) (fs.flatMap fldText).length := by
 induction fs with
 | nil => exact FirstM.base _ _
 | cons f fs ih =>
   have hf := h f (by simp)
   have i1 := ih (fun g hg => h g (by simp [hg]))
   have i2 := i1.skip (c := f.name ++ [58, 32] ++ f.value) (by
    intro x hx
    simp only [List.mem_append] at hx
    rcases hx with (hx | hx) | hx
    ·exact hf.2.1 x hx
    ·revert hx; revert x; decide
    ·exact hf.2.2 x hx)
   have i3 := i2.step (a := 10) rfl
   have i4 := i3.step (a := 13) (by
    obtain ⟨a, l, e⟩ : ∃ a l, f.name = a::l := by
     cases hh : f.name with
     | nil => exact absurd hh hf.1
     | cons a l => exact ⟨a, l, rfl⟩
    have ha : ((13 : UInt8) == a) = false := by simp; exact fun e' => hf.2.1 a (by rw [e]; simp) e'.symm
    rw [e]
    simp [List.isPrefixOf, ha])
   have e1 : ([13, 10] ++ (f::fs).flatMap fldText ++ [13, 10] ++ body) = 13::10::(f.name ++ [58, 32] ++ f.value ++ ([13, 10] ++ fs.flatMap fldText ++ [13, 10] ++ body)) := by simp [fldText]
   have e2 : ((f::fs).flatMap fldText).length = (f.name ++ [58, 32] ++ f.value).length + (fs.flatMap fldText).length + 1 + 1 := by simp [fldText]; omega
   rw [e1, e2]
   exact i4
theorem dec13 (n : Nat) : ∀ x ∈ Lib.decDigits n, x ≠ 13 := fun x hx => (dec_bytes n x hx).1
theorem head_text (told : Nat) (fs : List Fld) (body : List UInt8) (h : ∀ f ∈ fs, Cln f) : FirstM [13, 10, 13, 10] (textF told fs body) ((Lib.decDigits told).length + (fs.flatMap fldText).length) := by
 have := (head_flds fs body h).skip (c := Lib.decDigits told) (dec13 told)
 unfold textF
 simpa using this
theorem field_pos (pre : List Fld) (name value tail : List UInt8) (h : ∀ f ∈ pre, Cln f /\ f.name.head? ≠ name.head?) (hn : name ≠ []) : FirstM (13::10::(name ++ [58, 32])) ([13, 10] ++ pre.flatMap fldText ++ (name ++ [58, 32] ++ value ++ tail)) (pre.flatMap fldText).length := by
 induction pre with
 | nil =>
   have := FirstM.base (13::10::(name ++ [58, 32])) (value ++ tail)
   simpa using this
 | cons f pre ih =>
   have ⟨hf, hh⟩ := h f (by simp)
   have i1 := ih (fun g hg => h g (by simp [hg]))
   have i2 := i1.skip (c := f.name ++ [58, 32] ++ f.value) (by
    intro x hx
    simp only [List.mem_append] at hx
    rcases hx with (hx | hx) | hx
    ·exact hf.2.1 x hx
    ·revert hx; revert x; decide
    ·exact hf.2.2 x hx)
   have i3 := i2.step (a := 10) rfl
   have i4 := i3.step (a := 13) (by
    obtain ⟨a, l, e⟩ : ∃ a l, f.name = a::l := by
     cases hh : f.name with
     | nil => exact absurd hh hf.1
     | cons a l => exact ⟨a, l, rfl⟩
    obtain ⟨b, r, e'⟩ : ∃ a l, name = a::l := by
     cases hh : name with
     | nil => exact absurd hh hn
     | cons a l => exact ⟨a, l, rfl⟩
    have ha : (b == a) = false := by simp; intro e''; rw [e, e', e''] at hh; exact hh rfl
    rw [e, e']
    simp [List.isPrefixOf, ha])
   have e1 : ([13, 10] ++ (f::pre).flatMap fldText ++ (name ++ [58, 32] ++ value ++ tail)) = 13::10::(f.name ++ [58, 32] ++ f.value ++ ([13, 10] ++ pre.flatMap fldText ++ (name ++ [58, 32] ++ value ++ tail))) := by simp [fldText]
   have e2 : ((f::pre).flatMap fldText).length = (f.name ++ [58, 32] ++ f.value).length + (pre.flatMap fldText).length + 1 + 1 := by simp [fldText]; omega
   rw [e1, e2]
   exact i4
theorem at_list (L : List UInt8) (j : Nat) (h : j < (⟨L.toArray⟩ : ByteArray).size) : (⟨L.toArray⟩ : ByteArray)[j] = L[j]'(by rw [Lib.size_eq] at h; simpa using h) := by
 simp [ByteArray.getElem_eq_getElem_data]
theorem ext_mid (A v R : List UInt8) : (⟨(A ++ v ++ R).toArray⟩ : ByteArray).extract A.length (A.length + v.length) = ⟨v.toArray⟩ := by
 apply ByteArray.ext
 apply Array.toList_inj.1
 rw [Lib.extract_data]
 simp
theorem code_text (told : Nat) (fs : List Fld) (body : List UInt8) (w : World) (h1 : 100 <= told) (h2 : told < 1000) (hs : (textF told fs body).length <= 1000000000) :
 Calls Tryz.prog 14 #[.string ⟨(textF told fs body).toArray⟩] w fun e w' => e = .returned (.int .i64 (told : Nat)) /\ w' = w := by
 have hl : (Lib.decDigits told).length = 3 := by
  rw [Lib.decDigits_length]
  exact Lib.nDigits_unique 2 told h1 h2
 have hd := dec_num told
 have ht : (textF told fs body).take 3 = Lib.decDigits told := by
  unfold textF
  rw [List.append_assoc, List.append_assoc, List.append_assoc, <- hl]
  simp
 have hx : ((⟨(textF told fs body).toArray⟩ : ByteArray).extract 3 5).toList = [13, 10] := by
  rw [show (5 : Nat) = 3 + 2 from rfl, ext_take]
  unfold textF
  rw [List.append_assoc, List.append_assoc, List.append_assoc, List.drop_append, hl, List.drop_of_length_le (by omega)]
  simp
 have hz : (⟨(textF told fs body).toArray⟩ : ByteArray).size = (textF told fs body).length := by rw [Lib.size_eq]
 have := code_s ⟨(textF told fs body).toArray⟩ w (by rw [hz]; unfold textF; simp; omega) (by rw [hz]; omega) hx (by show ((textF told fs body).take 3).all digB = true; rw [ht]; exact hd.1)
 refine this.mono ?_
 rintro e w' ⟨rfl, rfl⟩
 refine ⟨?_, rfl⟩
 show Ending.returned (.int .i64 ((numV ((textF told fs body).take 3) : Nat) : Int)) = _
 rw [ht, hd.2.1]
theorem field_t (told : Nat) (pre post : List Fld) (name value body : List UInt8) (w : World) (h : ∀ f ∈ pre ++ ⟨name, value⟩::post, Cln f) (hp : ∀ f ∈ pre, f.name.head? ≠ name.head?) (hn : name.length <= 1000) (hs : (textF told (pre ++ ⟨name, value⟩::post) body).length <= 1000000000) :
 Calls Tryz.prog 16 #[.string ⟨(textF told (pre ++ ⟨name, value⟩::post) body).toArray⟩, .string ⟨name.toArray⟩] w fun e w' => e = .returned (.string ⟨value.toArray⟩) /\ w' = w := by
 have hh := (head_text told (pre ++ ⟨name, value⟩::post) body h).head
 have hc := h ⟨name, value⟩ (by simp)
 obtain ⟨A, hA⟩ : ∃ A, A = Lib.decDigits told ++ [13, 10] ++ pre.flatMap fldText ++ name ++ [58, 32] := ⟨_, rfl⟩
 obtain ⟨R, hR⟩ : ∃ R, R = [10] ++ post.flatMap fldText ++ [13, 10] ++ body := ⟨_, rfl⟩
 have hT : textF told (pre ++ ⟨name, value⟩::post) body = A ++ value ++ 13::R := by rw [hA, hR]; simp [textF, fldText]
 have hAl : A.length = (Lib.decDigits told).length + (pre.flatMap fldText).length + (name.length + 4) := by rw [hA]; simp; omega
 have hF : FirstM (13::10::(name ++ [58, 32])) (A ++ value ++ 13::R) ((Lib.decDigits told).length + (pre.flatMap fldText).length) := by
  have := (field_pos pre name value (13::R) (fun f hf => ⟨h f (by simp [hf]), hp f hf⟩) hc.1).skip (c := Lib.decDigits told) (dec13 told)
  rw [hA]
  simpa using this
 have hfl : ((pre ++ ⟨name, value⟩::post).flatMap fldText).length = (pre.flatMap fldText).length + (name.length + value.length + 4) + (post.flatMap fldText).length := by simp [fldText]; omega
 rw [hfl] at hh
 rw [hT] at hs hh ⊢
 have hsz : (⟨(A ++ value ++ 13::R).toArray⟩ : ByteArray).size = A.length + value.length + 1 + R.length := by rw [Lib.size_eq]; simp; omega
 have := field_s ⟨(A ++ value ++ 13::R).toArray⟩ name w (by rw [Lib.size_eq]; simpa using hs) hn (name.length + 4) rfl _ hh ((Lib.decDigits told).length + (pre.flatMap fldText).length) (by omega)
  ((ext_pre _ ([13, 10] ++ name ++ [58, 32]) _ _ (by simp)).2 (by simpa using hF.1)) (fun j hj e => by
    have := (ext_pre _ ([13, 10] ++ name ++ [58, 32]) _ _ (by simp)).1 e
    have h0 := hF.2 j hj
    simp only [List.cons_append, List.nil_append] at this h0
    rw [h0] at this
    cases this) (A.length + value.length) (by omega) (by omega)
  (fun j hj h1 h2 => by
    rw [at_list]
    rw [List.getElem_append_left (by simp; omega), List.getElem_append_right (by omega)]
    exact hc.2.2 _ (List.getElem_mem _))
  (fun hj => by
    rw [at_list]
    rw [List.getElem_append_right (by simp)]
    simp)
 refine this.mono ?_
 rintro e w' ⟨rfl, rfl⟩
 refine ⟨?_, rfl⟩
 rw [<- hAl, ext_mid]
end Go.Proofs.YtmehkneofinmiabGreatDoor

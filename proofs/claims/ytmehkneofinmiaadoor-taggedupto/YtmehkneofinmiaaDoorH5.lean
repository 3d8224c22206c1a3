/-
  The walk of the document's Tag.
-/
import Derived.Test.YtmehkneofinmiaaDoorH4
import Derived.Laws.IdiomStrings
import Derived.RegionTactic
import Derived.BigRegion
namespace Go.Proofs.YtmehkneofinmiaaDoor
open Go.RowKit

/-- the four parts, and the factor's, as they lie -/
structure Hv (w x : World) (h : Nat → Nat) : Prop where
  b : Below w.heap.size w x
  hc : ∀ i, i < 4 → x.cell? ⟨w.heap.size, i, none⟩ = some (.int .i64 (h i : Int))
  hf : ∀ i, i < 4 → x.frozen? ⟨w.heap.size, i, none⟩ = false
  pc : ∀ i, i < 4 → x.cell? ⟨w.heap.size + 1, i, none⟩ = some (.int .i64 (pt i : Int))
  lt : w.heap.size + 1 < x.heap.size
theorem Hv.below {w x y : World} {h : Nat → Nat} (v : Hv w x h) (hb : Below x.heap.size x y) : Hv w y h := by
  have lt := v.lt
  have l2 : w.heap.size < x.heap.size := by omega
  exact ⟨v.b.trans (hb.mono v.b.size), fun i hi => (hb.cell (p := ⟨_, i, none⟩) l2).trans (v.hc i hi), fun i hi => (hb.frozen (p := ⟨_, i, none⟩) l2).trans (v.hf i hi), fun i hi => (hb.cell (p := ⟨_, i, none⟩) lt).trans (v.pc i hi), by have := hb.size; omega⟩
theorem Hv.set {w x : World} {h : Nat → Nat} (v : Hv w x h) (i n : Nat) (hi : i < 4) : Hv w (x.setCell ⟨w.heap.size, i, none⟩ (.int .i64 (n : Int))) (fun j => if j = i then n else h j) := by
  have same := World.cell?_setCell_same x ⟨w.heap.size, i, none⟩ (.int .i64 (n : Int)) (v.hc i hi)
  refine ⟨v.b.setCell (Nat.le_refl _) _, fun j hj => ?_, fun j hj => ?_, fun j hj => ?_, by simpa [World.setCell] using v.lt⟩
  · by_cases e : j = i
    · subst e
      rw [same, if_pos rfl]
    · rw [World.cell?_setCell_other _ _ _ _ (by intro q; injection q; omega), v.hc j hj, if_neg e]
  · rw [World.frozen?_setCell]
    exact v.hf j hj
  · rw [World.cell?_setCell_other _ _ _ _ (by intro q; injection q; omega), v.pc j hj]
theorem Hv.drew {w x : World} {h : Nat → Nat} (v : Hv w x h) : Hv w x.drew h := ⟨v.b.drew, v.hc, v.hf, v.pc, v.lt⟩
theorem Hv.congr {w x : World} {h g : Nat → Nat} (v : Hv w x h) (e : ∀ i, i < 4 → h i = g i) : Hv w x g := ⟨v.b, fun i hi => by rw [v.hc i hi, e i hi], v.hf, v.pc, v.lt⟩

/-- beside them the sums of the products -/
structure Nv (w x : World) (h : Nat → Nat) (g : Nat) (n : Nat → Nat) : Prop where
  v : Hv w x h
  nc : ∀ i, i < 4 → x.cell? ⟨g, i, none⟩ = some (.int .i64 (n i : Int))
  nf : ∀ i, i < 4 → x.frozen? ⟨g, i, none⟩ = false
  gl : w.heap.size + 1 < g
  lt : g < x.heap.size
theorem Nv.set {w x : World} {h n : Nat → Nat} {g : Nat} (v : Nv w x h g n) (i z : Nat) (hi : i < 4) : Nv w (x.setCell ⟨g, i, none⟩ (.int .i64 (z : Int))) h g (fun j => if j = i then z else n j) := by
  have same := World.cell?_setCell_same x ⟨g, i, none⟩ (.int .i64 (z : Int)) (v.nc i hi)
  have gl := v.gl
  have ob : ∀ (b o : Nat), b ≠ g → (x.setCell ⟨g, i, none⟩ (.int .i64 (z : Int))).cell? ⟨b, o, none⟩ = x.cell? ⟨b, o, none⟩ := fun b o hb => World.cell?_setCell_other _ _ _ _ (by intro q; injection q; omega)
  refine ⟨⟨v.v.b.setCell (by show w.heap.size ≤ g; omega) _, fun j hj => ?_, fun j hj => ?_, fun j hj => ?_, by simpa [World.setCell] using v.v.lt⟩, fun j hj => ?_, fun j hj => ?_, gl, by simpa [World.setCell] using v.lt⟩
  · rw [ob _ _ (by omega)]; exact v.v.hc j hj
  · rw [World.frozen?_setCell]; exact v.v.hf j hj
  · rw [ob _ _ (by omega)]; exact v.v.pc j hj
  · by_cases e : j = i
    · subst e
      rw [same, if_pos rfl]
    · rw [World.cell?_setCell_other _ _ _ _ (by intro q; injection q; omega), v.nc j hj, if_neg e]
  · rw [World.frozen?_setCell]; exact v.nf j hj
theorem Nv.drew {w x : World} {h n : Nat → Nat} {g : Nat} (v : Nv w x h g n) : Nv w x.drew h g n := ⟨v.v.drew, v.nc, v.nf, v.gl, v.lt⟩
theorem Nv.congr {w x : World} {h n m : Nat → Nat} {g : Nat} (v : Nv w x h g n) (e : ∀ i, i < 4 → n i = m i) : Nv w x h g m := ⟨v.v, fun i hi => by rw [v.nc i hi, e i hi], v.nf, v.gl, v.lt⟩
theorem Nv.setH {w x : World} {h n : Nat → Nat} {g : Nat} (v : Nv w x h g n) (i z : Nat) (hi : i < 4) : Nv w (x.setCell ⟨w.heap.size, i, none⟩ (.int .i64 (z : Int))) (fun j => if j = i then z else h j) g n := by
  have gl := v.gl
  refine ⟨v.v.set i z hi, fun j hj => ?_, fun j hj => ?_, gl, by simpa [World.setCell] using v.lt⟩
  · rw [World.cell?_setCell_other _ _ _ _ (by intro q; injection q; omega)]; exact v.nc j hj
  · rw [World.frozen?_setCell]; exact v.nf j hj

theorem i64_xor_nat (a b : Nat) (ha : a < 256) (hb : b < 256) : bits .xor .i64 (a : Int) (b : Int) = ((a ^^^ b : Nat) : Int) := by
  have hx : a ^^^ b < 2 ^ 8 := Nat.xor_lt_two_pow (n := 8) ha hb
  have h1 : (BitVec.ofInt 64 (a : Int)).toNat = a := by
    rw [BitVec.ofInt_natCast, BitVec.toNat_ofNat]; exact Nat.mod_eq_of_lt (by omega)
  have h2 : (BitVec.ofInt 64 (b : Int)).toNat = b := by
    rw [BitVec.ofInt_natCast, BitVec.toNat_ofNat]; exact Nat.mod_eq_of_lt (by omega)
  show IntKind.i64.wrap ((BitVec.ofInt 64 (a : Int) ^^^ BitVec.ofInt 64 (b : Int)).toNat : Int) = _
  rw [BitVec.toNat_xor, h1, h2, IntKind.wrap_i64]
  omega

theorem xor_val (H : Nat) (c : UInt8) (h : H < 65536) : wrap64 ((H : Int) - (H : Int) % 256 + bits .xor .i64 ((H : Int) % 256) (wrap64 (c.toNat : Int))) = ((H ^^^ c.toNat : Nat) : Int) ∧ H ^^^ c.toNat < 65536 := by
  have hc := c.toNat_lt
  have e1 : wrap64 (c.toNat : Int) = (c.toNat : Int) := by unfold wrap64; omega
  have e2 : (H : Int) % 256 = ((H % 256 : Nat) : Int) := by omega
  have hx : H % 256 ^^^ c.toNat < 2 ^ 8 := Nat.xor_lt_two_pow (n := 8) (by omega) (by omega)
  have e3 := xor_low (H / 256) (H % 256) c.toNat (by omega) (by omega)
  rw [Nat.div_add_mod] at e3
  rw [e1, e2, i64_xor_nat _ _ (by omega) (by omega), e3]
  unfold wrap64
  omega
theorem Nv.made {w x : World} {h : Nat → Nat} (v : Hv w x h) : Nv w (x.alloc (.cells #[.int .i64 0, .int .i64 0, .int .i64 0, .int .i64 0] 58)) h x.heap.size (nAt h 0 0) := by
  refine ⟨v.below ((Below.refl _ _).alloc (Nat.le_refl _) _), fun i hi => ?_, fun i hi => ?_, v.lt, by simp⟩
  · rw [nAt_start]
    rcases (by omega : i = 0 ∨ i = 1 ∨ i = 2 ∨ i = 3) with rfl | rfl | rfl | rfl <;> simp
  · rcases (by omega : i = 0 ∨ i = 1 ∨ i = 2 ∨ i = 3) with rfl | rfl | rfl | rfl <;> simp
/-- what is carried to a place, and what is left there -/
def cr (n : Nat → Nat) : Nat → Nat
  | 0 => 0
  | a + 1 => (n a + cr n a) / 65536
def gp (n : Nat → Nat) (a : Nat) : Nat := (n a + cr n a) % 65536
theorem gp_lt (n : Nat → Nat) (a : Nat) : gp n a < 65536 := by unfold gp; omega
theorem cr_le (n : Nat → Nat) (hn : ∀ i, n i ≤ 114030900) (a : Nat) : cr n a ≤ 2000 := by
  induction a with
  | zero => simp [cr]
  | succ a ih =>
    have := hn a
    simp only [cr]
    omega
theorem product (h : Nat → Nat) : val4 (gp (nAt h 3 1)) = val4 h * 1099511628211 % 18446744073709551616 := by
  obtain ⟨e0, e1, e2, e3⟩ := nAt_end h
  refine carried h (nAt h 3 1) (gp (nAt h 3 1)) (cr (nAt h 3 1) 1) (cr (nAt h 3 1) 2) (cr (nAt h 3 1) 3) (cr (nAt h 3 1) 4) e0 e1 e2 e3 ?_ ?_ ?_ ?_ (gp_lt _)
  · show (nAt h 3 1 0 + 0) % 65536 + (nAt h 3 1 0 + 0) / 65536 * 65536 = _
    omega
  · show (nAt h 3 1 1 + cr (nAt h 3 1) 1) % 65536 + (nAt h 3 1 1 + cr (nAt h 3 1) 1) / 65536 * 65536 = _
    omega
  · show (nAt h 3 1 2 + cr (nAt h 3 1) 2) % 65536 + (nAt h 3 1 2 + cr (nAt h 3 1) 2) / 65536 * 65536 = _
    omega
  · show (nAt h 3 1 3 + cr (nAt h 3 1) 3) % 65536 + (nAt h 3 1 3 + cr (nAt h 3 1) 3) / 65536 * 65536 = _
    omega
theorem val4_xor (h : Nat → Nat) (c : UInt8) (X : Nat) (hX : h 0 ^^^ c.toNat = X) : val4 (fun j => if j = 0 then X else h j) = val4 h ^^^ c.toNat := by
  have hc := c.toNat_lt
  have e1 := xor_low (h 0 / 256) (h 0 % 256) c.toNat (by omega) (by omega)
  rw [Nat.div_add_mod, hX] at e1
  have e2 := xor_low (h 0 / 256 + h 1 * 256 + h 2 * 16777216 + h 3 * 1099511627776) (h 0 % 256) c.toNat (by omega) (by omega)
  have e3 : 256 * (h 0 / 256 + h 1 * 256 + h 2 * 16777216 + h 3 * 1099511627776) + h 0 % 256 = val4 h := by unfold val4; omega
  rw [e3] at e2
  rw [e2, e1]
  show (256 * (h 0 / 256) + (h 0 % 256 ^^^ c.toNat)) + h 1 * 65536 + h 2 * 4294967296 + h 3 * 281474976710656 = _
  generalize h 0 % 256 ^^^ c.toNat = y
  omega
def hz : Nat → Nat
  | 0 => 8997
  | 1 => 33826
  | 2 => 40164
  | 3 => 52210
  | _ => 0
theorem hz_lt (i : Nat) : hz i < 65536 := by
  unfold hz
  split <;> omega
theorem hz_val : val4 hz = fnv [] := by
  unfold val4 hz fnv
  rfl
theorem Hv.made (w : World) : Hv w ((w.alloc (.cells #[.int .i64 8997, .int .i64 33826, .int .i64 40164, .int .i64 52210] 58)).alloc (.cells #[.int .i64 435, .int .i64 0, .int .i64 256, .int .i64 0] 58)) hz := by
  refine ⟨((Below.refl _ _).alloc (Nat.le_refl _) _).alloc (by simp) _, fun i hi => ?_, fun i hi => ?_, fun i hi => ?_, by simp⟩
  · rcases (by omega : i = 0 ∨ i = 1 ∨ i = 2 ∨ i = 3) with rfl | rfl | rfl | rfl <;> simp [hz]
  · rcases (by omega : i = 0 ∨ i = 1 ∨ i = 2 ∨ i = 3) with rfl | rfl | rfl | rfl <;> simp
  · rcases (by omega : i = 0 ∨ i = 1 ∨ i = 2 ∨ i = 3) with rfl | rfl | rfl | rfl <;> simp [pt]

def outs (h : Nat → Nat) : Nat → List UInt8
  | 0 => []
  | j + 1 => outs h j ++ hexN 4 (h (3 - j))
theorem outs_len (h : Nat → Nat) (j : Nat) : (outs h j).length = 4 * j := by
  induction j with
  | zero => rfl
  | succ j ih =>
    rw [outs, List.length_append, ih, hexN_len]
    omega
theorem hex4_take (u m : Nat) (hm : m < 4) : (hexN 4 u).take (m + 1) = (hexN 4 u).take m ++ [hexD (u / (4096 / 16 ^ m) % 16)] := by
  have e : hexN 4 u = [hexD (u / 4096 % 16), hexD (u / 256 % 16), hexD (u / 16 % 16), hexD (u % 16)] := by
    show ((([] ++ [hexD (u / 16 / 16 / 16 % 16)]) ++ [hexD (u / 16 / 16 % 16)]) ++ [hexD (u / 16 % 16)]) ++ [hexD (u % 16)] = _
    rw [show u / 16 / 16 / 16 = u / 4096 by omega, show u / 16 / 16 = u / 256 by omega]
    rfl
  rw [e]
  rcases (by omega : m = 0 ∨ m = 1 ∨ m = 2 ∨ m = 3) with rfl | rfl | rfl | rfl
  · rfl
  · rfl
  · rfl
  · show _ = [_, _, _] ++ [hexD (u / 1 % 16)]
    rw [Nat.div_one]
    rfl
def hexs : ByteArray := ⟨#[48, 49, 50, 51, 52, 53, 54, 55, 56, 57, 97, 98, 99, 100, 101, 102]⟩
theorem hexs_at : ∀ k : Fin 16, (hexs.data.toList.drop k.val).take 1 = [hexD k.val] := by decide
theorem hex_step (O O2 : List UInt8) (u m d : Nat) (hd : d < 16) (e : d = u / (4096 / 16 ^ m) % 16) (hm : m < 4) (hO2 : O ++ (hexN 4 u).take m = O2) :
    Value.string ((⟨O2.toArray⟩ : ByteArray) ++ hexs.extract d (d + 1)) = .string ⟨(O ++ (hexN 4 u).take (m + 1)).toArray⟩ := by
  rw [Lib.extract_eq, show d + 1 - d = 1 by omega, hexs_at ⟨d, hd⟩, hex4_take u m hm, ← List.append_assoc, hO2, ← e]
  refine congrArg Value.string ?_
  apply ByteArray.ext
  simp [ByteArray.data_append]

set_option maxRecDepth 100000 in
set_option maxHeartbeats 2000000 in
theorem refTag (s : ByteArray) (w : World) (hs : s.size ≤ 9223372036854775807) : Calls Tryd.prog 15 #[.string s] w fun e w' => e = .returned (.string ⟨(hexN 16 (fnv s.data.toList)).toArray⟩) ∧ Below w.heap.size w w' := by
  go_enter Tryd.func15, Tryd.ntmps15
  go_wp2
  go_loopw [5] (fun i wr => ∃ (k : Nat) (h : Nat → Nat), k ≤ s.size ∧ i = .int .i64 k ∧ (∀ i, h i < 65536) ∧ Hid (val4 h = fnv (s.data.toList.take k)) ∧ Hv w wr h) (fun i _ => s.size - (intOf i).toNat)
  case atStart => exact ⟨0, hz, Nat.zero_le _, rfl, hz_lt, hz_val, Hv.made w⟩
  case round =>
    obtain ⟨k, h, hk, rfl, hh, hv, hw⟩ := hrel
    by_cases hlt : k < s.size
    · have h0 := hh 0
      have c0 := hw.hc 0 (by omega)
      have f0 := hw.hf 0 (by omega)
      obtain ⟨H0, hH0⟩ : ∃ H0, h 0 = H0 := ⟨_, rfl⟩
      rw [hH0] at h0 c0
      go_wp2
      go_region
      obtain ⟨hX, hX1⟩ := xor_val H0 s[k] h0
      rw [hX]
      obtain ⟨X, hXe⟩ : ∃ X, H0 ^^^ s[k].toNat = X := ⟨_, rfl⟩
      rw [hXe] at hX1 ⊢
      obtain ⟨w1, hw1⟩ : ∃ w1, w1 = (wr.setCell ⟨w.heap.size, 0, none⟩ (.int .i64 (X : Int))).drew := ⟨_, rfl⟩
      have hv1 : Hv w w1 (fun j => if j = 0 then X else h j) := by rw [hw1]; exact (hw.set 0 X (by omega)).drew
      rw [← hw1]
      obtain ⟨h1, hh1⟩ : ∃ h1, h1 = (fun j => if j = 0 then X else h j) := ⟨_, rfl⟩
      rw [← hh1] at hv1
      have hb1 : ∀ i, h1 i < 65536 := by
        intro i
        rw [hh1]
        show (if i = 0 then X else h i) < 65536
        split
        · exact hX1
        · exact hh i
      clear hw1 hX c0 f0
      have nv0 := Nv.made hv1
      go_wp2
      go_loopw [8] (fun a wz => ∃ a' : Nat, a' ≤ 4 ∧ a = .int .i64 a' ∧ Nv w wz h1 w1.heap.size (nAt h1 a' 0)) (fun a _ => 4 - (intOf a).toNat)
      case atStart => exact ⟨0, by omega, rfl, nv0⟩
      case round =>
        obtain ⟨a, ha, rfl, nva⟩ := hrel
        by_cases ha4 : a < 4
        · go_wp2
          go_loopw [9] (fun b wz => ∃ b' : Nat, a + b' ≤ 4 ∧ b = .int .i64 b' ∧ Nv w wz h1 w1.heap.size (nAt h1 a b')) (fun b _ => 4 - (intOf b).toNat)
          case atStart => exact ⟨0, by omega, rfl, nva⟩
          case round =>
            obtain ⟨b, hab, rfl, nvb⟩ := hrel
            by_cases hab4 : a + b < 4
            · have c1 := nvb.nc (a + b) hab4
              have f1 := nvb.nf (a + b) hab4
              have c2 := nvb.v.hc a ha4
              have c3 := nvb.v.pc b (by omega)
              have l1 := nAt_le h1 hb1 a b (a + b) ha4
              have l2 := hb1 a
              have l3 : pt b ≤ 435 := by unfold pt; split <;> omega
              have l4 : h1 a * pt b ≤ 65535 * 435 := Nat.mul_le_mul (by omega) l3
              obtain ⟨N1, hN1⟩ : ∃ N1, nAt h1 a b (a + b) = N1 := ⟨_, rfl⟩
              obtain ⟨A1, hA1⟩ : ∃ A1, h1 a = A1 := ⟨_, rfl⟩
              obtain ⟨P1, hP1⟩ : ∃ P1, pt b = P1 := ⟨_, rfl⟩
              rw [hN1] at c1 l1
              rw [hA1] at c2 l2 l4
              rw [hP1] at c3 l3 l4
              have l5 : (A1 : Int) * (P1 : Int) ≤ 28507725 := by
                have : ((A1 * P1 : Nat) : Int) ≤ ((65535 * 435 : Nat) : Int) := Int.ofNat_le.2 l4
                simpa using this
              have l6 : 0 ≤ (A1 : Int) * (P1 : Int) := Int.mul_nonneg (by omega) (by omega)
              have l7 : (N1 : Int) ≤ 114030900 := by omega
              go_wp2
              go_region
              rw [show (N1 : Int) + (A1 : Int) * (P1 : Int) = ((N1 + A1 * P1 : Nat) : Int) by simp]
              obtain ⟨w2, hw2⟩ : ∃ w2, w2 = (wr.setCell ⟨w1.heap.size, a + b, none⟩ (.int .i64 ((N1 + A1 * P1 : Nat) : Int))).drew := ⟨_, rfl⟩
              have nv2 : Nv w w2 h1 w1.heap.size (nAt h1 a (b + 1)) := by
                rw [hw2]
                refine ((nvb.set (a + b) (N1 + A1 * P1) hab4).drew).congr (fun i _ => ?_)
                rw [nAt_step]
                by_cases e : i = a + b
                · rw [if_pos e, if_pos e, e, hN1, hA1, hP1]
                · rw [if_neg e, if_neg e, Nat.add_zero]
              rw [← hw2]
              clear hw2 c1 c2 c3 f1 l1 l4 l5 l6 l7
              go_wp2
              exact ⟨⟨b + 1, by omega, by go_num, nv2⟩, by simp [intOf]; omega⟩
            · go_wp2
              exact ⟨⟨a + 1, by omega, by go_num, nvb.congr (fun i _ => (nAt_next h1 a b i (by omega)).symm)⟩, by simp [intOf]; omega⟩
        · have nvE : Nv w wr h1 w1.heap.size (nAt h1 3 1) := nva.congr (fun i _ => by rw [show a = 3 + 1 by omega]; exact nAt_next h1 3 1 i rfl)
          have hnn : ∀ i, nAt h1 3 1 i ≤ 114030900 := fun i => nAt_le h1 hb1 3 1 i (by omega)
          have HV : Hid (val4 (gp (nAt h1 3 1)) = fnv (s.data.toList.take (k + 1))) := by
            show _ = _
            rw [product, take_snoc s k hlt, fnv_snoc, ← hv.out, hh1, val4_xor h s[k] X (by rw [hH0]; exact hXe)]
            rfl
          obtain ⟨n, hn⟩ : ∃ n, nAt h1 3 1 = n := ⟨_, rfl⟩
          rw [hn] at nvE hnn HV
          clear nva nv0 hv1
          go_wp2
          go_loopw [10, 11] (fun c a wz => ∃ a' : Nat, a' ≤ 4 ∧ c = .int .i64 ((cr n a' : Nat) : Int) ∧ a = .int .i64 a' ∧ Nv w wz (fun i => if i < a' then gp n i else h1 i) w1.heap.size n) (fun _ a _ => 4 - (intOf a).toNat)
          case atStart => exact ⟨0, by omega, rfl, rfl, by simpa using nvE⟩
          case round =>
            obtain ⟨a2, ha2, rfl, rfl, nvc⟩ := hrel
            by_cases ha24 : a2 < 4
            · have c1 := nvc.nc a2 ha24
              have c2 := nvc.v.hc a2 ha24
              have f2 := nvc.v.hf a2 ha24
              have l1 := hnn a2
              have l2 := cr_le n hnn a2
              have HC : Hid (cr n (a2 + 1) = (n a2 + cr n a2) / 65536 ∧ gp n a2 = (n a2 + cr n a2) % 65536) := ⟨rfl, rfl⟩
              have HS : Hid _ := fun z => nvc.setH a2 z ha24
              obtain ⟨N2, hN2⟩ : ∃ N2, n a2 = N2 := ⟨_, rfl⟩
              obtain ⟨C2, hC2⟩ : ∃ C2, cr n a2 = C2 := ⟨_, rfl⟩
              rw [hN2, hC2] at HC
              rw [hN2] at c1 l1
              rw [hC2] at l2 ⊢
              obtain ⟨V, hV⟩ : ∃ V : Int, ((if a2 < a2 then gp n a2 else h1 a2 : Nat) : Int) = V := ⟨_, rfl⟩
              rw [hV] at c2
              go_wp2
              refine ⟨⟨a2 + 1, by omega, ?_, by go_num, ?_⟩, by simp [intOf]; omega⟩
              · rw [HC.out.1]
                congr 1
              · rw [show ((N2 : Int) + (C2 : Int)) % 65536 = ((gp n a2 : Nat) : Int) by rw [HC.out.2]; omega]
                have := HS.out (gp n a2)
                rw [show (fun j => if j = a2 then gp n a2 else (if j < a2 then gp n j else h1 j)) = (fun i => if i < a2 + 1 then gp n i else h1 i) from ?_] at this
                · exact this
                · funext j
                  by_cases e : j = a2
                  · rw [if_pos e, if_pos (by omega), e]
                  · rw [if_neg e]
                    by_cases e2 : j < a2
                    · rw [if_pos e2, if_pos (by omega)]
                    · rw [if_neg e2, if_neg (by omega)]
            · go_wp2
              exact ⟨⟨k + 1, gp n, by omega, by go_num, gp_lt n, HV.out, nvc.v.congr (fun i hi => if_pos (by omega))⟩, by simp [intOf]; omega⟩
    · obtain rfl : k = s.size := by omega
      rw [List.take_of_length_le (by rw [Lib.size_eq]; exact Nat.le_refl _)] at hv
      have HO : Hid (hexN 16 (fnv s.data.toList) = outs h 4) := by
        show _ = _
        rw [← hv.out, hexN_val h hh]
        simp [outs]
      have hbw := hw.b
      go_wp2
      go_loop [13, 14] (fun out a => ∃ j : Nat, j ≤ 4 ∧ out = .string ⟨(outs h j).toArray⟩ ∧ a = .int .i64 (3 - (j : Int))) (fun _ a => (intOf a + 1).toNat)
      case atStart => exact ⟨0, by omega, rfl, rfl⟩
      case round =>
        obtain ⟨j, hj, rfl, rfl⟩ := hrel
        by_cases hj4 : j < 4
        · have c1 := hw.hc (3 - j) (by omega)
          have l1 := hh (3 - j)
          have HN : Hid (outs h (j + 1) = outs h j ++ hexN 4 (h (3 - j))) := rfl
          obtain ⟨u, hu⟩ : ∃ u, h (3 - j) = u := ⟨_, rfl⟩
          rw [hu] at c1 l1 HN
          obtain ⟨q, hq⟩ : ∃ q : Nat, 3 - j = q := ⟨_, rfl⟩
          rw [show (3 : Int) - (j : Int) = (q : Int) by omega]
          rw [hq] at c1
          have hol := outs_len h j
          obtain ⟨O, hO⟩ : ∃ O, outs h j = O := ⟨_, rfl⟩
          rw [hO] at hol HN ⊢
          go_wp2
          go_loop [13, 15] (fun out kk => ∃ m : Nat, m ≤ 4 ∧ out = .string ⟨(O ++ (hexN 4 u).take m).toArray⟩ ∧ kk = .int .i64 ((4096 / 16 ^ m : Nat) : Int)) (fun _ kk => (intOf kk).toNat)
          case atStart => exact ⟨0, by omega, by simp, rfl⟩
          case round =>
            obtain ⟨m, hm, rfl, rfl⟩ := hrel
            have hl2 : (O ++ (hexN 4 u).take m).length ≤ 20 := by
              simp [hexN_len]
              omega
            obtain ⟨O2, hO2⟩ : ∃ O2, O ++ (hexN 4 u).take m = O2 := ⟨_, rfl⟩
            rcases (by omega : m = 0 ∨ m = 1 ∨ m = 2 ∨ m = 3 ∨ m = 4) with rfl | rfl | rfl | rfl | rfl
            · rw [hO2] at hl2 ⊢
              go_wp2
              exact ⟨⟨1, by omega, hex_step O O2 u 0 (u / 4096 % 16) (by omega) rfl (by omega) hO2, rfl⟩, by simp [intOf]⟩
            · rw [hO2] at hl2 ⊢
              go_wp2
              exact ⟨⟨2, by omega, hex_step O O2 u 1 (u / 256 % 16) (by omega) rfl (by omega) hO2, rfl⟩, by simp [intOf]⟩
            · rw [hO2] at hl2 ⊢
              go_wp2
              exact ⟨⟨3, by omega, hex_step O O2 u 2 (u / 16 % 16) (by omega) rfl (by omega) hO2, rfl⟩, by simp [intOf]⟩
            · rw [hO2] at hl2 ⊢
              go_wp2
              exact ⟨⟨4, by omega, hex_step O O2 u 3 (u % 16) (by omega) (by show _ = u / 1 % 16; rw [Nat.div_one]) (by omega) hO2, rfl⟩, by simp [intOf]⟩
            · have h4 : (hexN 4 u).take 4 = hexN 4 u := List.take_of_length_le (by rw [hexN_len]; exact Nat.le_refl _)
              rw [h4] at hO2 hl2 ⊢
              rw [hO2] at hl2 ⊢
              go_wp2
              refine ⟨⟨j + 1, by omega, by rw [HN.out, hO2], ?_⟩, by simp [intOf]; try omega⟩
              congr 1
              omega
        · obtain rfl : j = 4 := by omega
          go_wp2
          go_ret
          exact ⟨ret_str (by rw [HO.out]), hbw⟩
end Go.Proofs.YtmehkneofinmiaaDoor

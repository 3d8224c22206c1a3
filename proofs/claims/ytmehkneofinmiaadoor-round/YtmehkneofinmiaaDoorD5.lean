/-
  A text of 29 bytes against the form of a date; the program's Date whole.
-/
import Derived.Test.YtmehkneofinmiaaDoorD4
namespace Go.Proofs.YtmehkneofinmiaaDoor
open Go.RowKit

def all2 : List UInt8 → List UInt8 → Bool
  | a :: l, b :: f => fitI a.toNat b.toNat && all2 l f
  | _, _ => true
theorem all2_iff : ∀ (l f : List UInt8), l.length = f.length → (all2 l f = true ↔ ∀ j, j < f.length → fitI ((l.getD j 0).toNat : Int) ((f.getD j 0).toNat : Int) = true)
  | [], [], _ => by simp [all2]
  | a :: l, b :: f, h => by
    have ih := all2_iff l f (by simpa using h)
    rw [all2, Bool.and_eq_true, ih]
    constructor
    · rintro ⟨h0, h1⟩ j hj
      cases j with
      | zero => simpa using h0
      | succ j => simpa using h1 j (by simpa using hj)
    · intro hh
      exact ⟨by simpa using hh 0 (by simp), fun j hj => by simpa using hh (j + 1) (by simpa using hj)⟩
theorem fits_iff (s : ByteArray) (hs : s.size = 29) : Fits s ↔ all2 s.data.toList form.data.toList = true := by
  rw [all2_iff _ _ (by rw [← Lib.size_eq, hs]; rfl)]
  rfl

theorem list29 {α : Type} {l : List α} (h : l.length = 29) : ∃ c0 c1 c2 c3 c4 c5 c6 c7 c8 c9 c10 c11 c12 c13 c14 c15 c16 c17 c18 c19 c20 c21 c22 c23 c24 c25 c26 c27 c28, l = [c0, c1, c2, c3, c4, c5, c6, c7, c8, c9, c10, c11, c12, c13, c14, c15, c16, c17, c18, c19, c20, c21, c22, c23, c24, c25, c26, c27, c28] := by
  match l, h with
  | [c0, c1, c2, c3, c4, c5, c6, c7, c8, c9, c10, c11, c12, c13, c14, c15, c16, c17, c18, c19, c20, c21, c22, c23, c24, c25, c26, c27, c28], _ =>
    exact ⟨c0, c1, c2, c3, c4, c5, c6, c7, c8, c9, c10, c11, c12, c13, c14, c15, c16, c17, c18, c19, c20, c21, c22, c23, c24, c25, c26, c27, c28, rfl⟩

theorem u8_eq {a : UInt8} {n : Nat} (h : a.toNat = n) (hn : n < 256) : a = UInt8.ofNat n := by
  apply UInt8.toNat_inj.1
  rw [h]; simp; omega
theorem dv_d {a : UInt8} (h0 : 48 ≤ a.toNat) (h1 : a.toNat ≤ 57) : dv a = (a.toNat : Int) - 48 := by unfold dv; omega
theorem num2 (a b : UInt8) : num [a, b] = 10 * dv a + dv b := by simp [num]
theorem num4 (a b c d : UInt8) : num [a, b, c, d] = 1000 * dv a + 100 * dv b + 10 * dv c + dv d := by simp [num]; omega
theorem dig_of {a : UInt8} {n : Int} (h : n = (a.toNat : Int) - 48) (h0 : 48 ≤ a.toNat) : Cal.dig n = a := by
  unfold Cal.dig
  rw [h, show 48 + ((a.toNat : Int) - 48).toNat = a.toNat by omega]
  simp
theorem two_num {a b : UInt8} (a0 : 48 ≤ a.toNat) (a1 : a.toNat ≤ 57) (b0 : 48 ≤ b.toNat) (b1 : b.toNat ≤ 57) : Cal.two (num [a, b]) = [a, b] := by
  rw [num2, dv_d a0 a1, dv_d b0 b1, Cal.two, dig_of (a := a) (by omega) a0, dig_of (a := b) (by omega) b0]
theorem four_num {a b c d : UInt8} (a0 : 48 ≤ a.toNat) (a1 : a.toNat ≤ 57) (b0 : 48 ≤ b.toNat) (b1 : b.toNat ≤ 57) (c0 : 48 ≤ c.toNat) (c1 : c.toNat ≤ 57) (d0 : 48 ≤ d.toNat) (d1 : d.toNat ≤ 57) :
    Cal.four (num [a, b, c, d]) = [a, b, c, d] := by
  rw [num4, dv_d a0 a1, dv_d b0 b1, dv_d c0 c1, dv_d d0 d1, Cal.four, dig_of (a := a) (by omega) a0, dig_of (a := b) (by omega) b0, dig_of (a := c) (by omega) c0, dig_of (a := d) (by omega) d0]
theorem dig_nat {n : Int} (h0 : 0 ≤ n) (h1 : n < 10) : (Cal.dig n).toNat = 48 + n.toNat := by simp [Cal.dig]; omega
theorem num_two {n : Int} (h0 : 0 ≤ n) (h1 : n < 100) : num (Cal.two n) = n := by
  have a := dig_nat (n := n / 10) (by omega) (by omega)
  have b := dig_nat (n := n % 10) (by omega) (by omega)
  rw [Cal.two, num2, dv_d (by omega) (by omega), dv_d (by omega) (by omega)]
  omega
theorem num_four {n : Int} (h0 : 0 ≤ n) (h1 : n < 10000) : num (Cal.four n) = n := by
  have a := dig_nat (n := n / 1000) (by omega) (by omega)
  have b := dig_nat (n := n / 100 % 10) (by omega) (by omega)
  have c := dig_nat (n := n / 10 % 10) (by omega) (by omega)
  have d := dig_nat (n := n % 10) (by omega) (by omega)
  rw [Cal.four, num4, dv_d (by omega) (by omega), dv_d (by omega) (by omega), dv_d (by omega) (by omega), dv_d (by omega) (by omega)]
  omega

/-- what a fitting text is made of -/
theorem fits_parts {l : List UInt8} (hl : l.length = 29) (h : all2 l form.data.toList = true) :
    (l.drop 12).take 4 = Cal.four (num ((l.drop 12).take 4)) ∧ num ((l.drop 12).take 4) ≤ 9999 ∧ 0 ≤ num ((l.drop 12).take 4) ∧
    l = l.take 3 ++ [44, 32] ++ Cal.two (num ((l.drop 5).take 2)) ++ [32] ++ (l.drop 8).take 3 ++ [32] ++ Cal.four (num ((l.drop 12).take 4)) ++ [32] ++ Cal.two (num ((l.drop 17).take 2)) ++ [58] ++ Cal.two (num ((l.drop 20).take 2)) ++ [58] ++ Cal.two (num ((l.drop 23).take 2)) ++ [32, 71, 77, 84] := by
  obtain ⟨c0, c1, c2, c3, c4, c5, c6, c7, c8, c9, c10, c11, c12, c13, c14, c15, c16, c17, c18, c19, c20, c21, c22, c23, c24, c25, c26, c27, c28, rfl⟩ := list29 hl
  simp [form, all2, fitI] at h
  obtain ⟨e3, e4, ⟨p5, q5⟩, ⟨p6, q6⟩, e7, e11, ⟨p12, q12⟩, ⟨p13, q13⟩, ⟨p14, q14⟩, ⟨p15, q15⟩, e16, ⟨p17, q17⟩, ⟨p18, q18⟩, e19, ⟨p20, q20⟩, ⟨p21, q21⟩, e22, ⟨p23, q23⟩, ⟨p24, q24⟩, e25, e26, e27, e28⟩ := h
  have y := four_num (a := c12) (b := c13) (c := c14) (d := c15) (by omega) (by omega) (by omega) (by omega) (by omega) (by omega) (by omega) (by omega)
  have ny := num4 c12 c13 c14 c15
  rw [dv_d (by omega) (by omega), dv_d (by omega) (by omega), dv_d (by omega) (by omega), dv_d (by omega) (by omega)] at ny
  simp only [List.drop_succ_cons, List.drop_zero, List.take_succ_cons, List.take_zero]
  refine ⟨y.symm, by omega, by omega, ?_⟩
  rw [y, two_num (a := c5) (b := c6) (by omega) (by omega) (by omega) (by omega), two_num (a := c17) (b := c18) (by omega) (by omega) (by omega) (by omega),
    two_num (a := c20) (b := c21) (by omega) (by omega) (by omega) (by omega), two_num (a := c23) (b := c24) (by omega) (by omega) (by omega) (by omega)]
  rw [u8_eq (a := c3) (n := 44) (by omega) (by omega), u8_eq (a := c4) (n := 32) (by omega) (by omega), u8_eq (a := c7) (n := 32) (by omega) (by omega), u8_eq (a := c11) (n := 32) (by omega) (by omega),
    u8_eq (a := c16) (n := 32) (by omega) (by omega), u8_eq (a := c19) (n := 58) (by omega) (by omega), u8_eq (a := c22) (n := 58) (by omega) (by omega), u8_eq (a := c25) (n := 32) (by omega) (by omega),
    u8_eq (a := c26) (n := 71) (by omega) (by omega), u8_eq (a := c27) (n := 77) (by omega) (by omega), u8_eq (a := c28) (n := 84) (by omega) (by omega)]
  rfl

def dayNo (l : List UInt8) (i : Nat) : Int := Cal.ahead (num ((l.drop 12).take 4)) + Cal.cum (num ((l.drop 12).take 4)) i + (num ((l.drop 5).take 2) - 1)
def clockNo (l : List UInt8) : Int := num ((l.drop 17).take 2) * 3600 + num ((l.drop 20).take 2) * 60 + num ((l.drop 23).take 2)

theorem num2_nonneg (l : List UInt8) (h : l.length ≤ 4) : 0 ≤ num l := (num_bd l h).1

theorem sound {l : List UInt8} {i : Nat} (hl : l.length = 29) (h : all2 l form.data.toList = true) (hi : i < 12) (hm : Cal.nm Cal.months i = (l.drop 8).take 3) (hy : 1970 ≤ num ((l.drop 12).take 4))
    (hd : 1 ≤ num ((l.drop 5).take 2)) (hd1 : num ((l.drop 5).take 2) ≤ Cal.ml (num ((l.drop 12).take 4)) i) (hw : Cal.nm Cal.week (dayNo l i % 7).toNat = l.take 3)
    (h1 : num ((l.drop 17).take 2) ≤ 23) (h2 : num ((l.drop 20).take 2) ≤ 59) (h3 : num ((l.drop 23).take 2) ≤ 59) :
    Cal.IsStamp (dayNo l i * 86400 + clockNo l) l := by
  obtain ⟨_, y1, _, hL⟩ := fits_parts hl h
  have a1 := num2_nonneg ((l.drop 17).take 2) (by simp; omega)
  have a2 := num2_nonneg ((l.drop 20).take 2) (by simp; omega)
  have a3 := num2_nonneg ((l.drop 23).take 2) (by simp; omega)
  have c0 : 0 ≤ clockNo l ∧ clockNo l < 86400 := by unfold clockNo; omega
  have e1 : (dayNo l i * 86400 + clockNo l) / 86400 = dayNo l i := by omega
  have e2 : (dayNo l i * 86400 + clockNo l) % 86400 = clockNo l := by omega
  refine ⟨num ((l.drop 12).take 4), i, num ((l.drop 5).take 2) - 1, ?_, ?_⟩
  · rw [e1]
    exact ⟨hy, hi, by omega, by omega, rfl⟩
  · rw [e1, e2]
    unfold Cal.fmt
    rw [hw, hm, show num ((l.drop 5).take 2) - 1 + 1 = num ((l.drop 5).take 2) by omega,
      show clockNo l / 3600 = num ((l.drop 17).take 2) by unfold clockNo; omega,
      show clockNo l % 3600 / 60 = num ((l.drop 20).take 2) by unfold clockNo; omega,
      show clockNo l % 60 = num ((l.drop 23).take 2) by unfold clockNo; omega]
    exact hL

theorem sp_range {d y : Int} {m : Nat} {k : Int} (h : Cal.Sp d y m k) (hy : y ≤ 9999) : 0 ≤ d ∧ d ≤ 2932896 := by
  have a := h.year
  have b := Cal.ahead_mono h.y0
  have c := Cal.ahead_mono (show y + 1 ≤ 10000 by omega)
  rw [Cal.ahead_1970] at b
  rw [Cal.ahead_10000] at c
  omega

theorem list3 {α : Type} {l : List α} (h : l.length = 3) : ∃ a b c, l = [a, b, c] := by
  match l, h with
  | [a, b, c], _ => exact ⟨a, b, c, rfl⟩

theorem complete {sec : Int} {l : List UInt8} (h : Cal.IsStamp sec l) (h0 : 0 ≤ sec) (h1 : sec ≤ 253402300799) :
    l.length = 29 ∧ all2 l form.data.toList = true ∧ ∃ i, i < 12 ∧ Cal.nm Cal.months i = (l.drop 8).take 3 ∧ 1970 ≤ num ((l.drop 12).take 4) ∧ 1 ≤ num ((l.drop 5).take 2) ∧
      num ((l.drop 5).take 2) ≤ Cal.ml (num ((l.drop 12).take 4)) i ∧ Cal.nm Cal.week (dayNo l i % 7).toNat = l.take 3 ∧ num ((l.drop 17).take 2) ≤ 23 ∧ num ((l.drop 20).take 2) ≤ 59 ∧ num ((l.drop 23).take 2) ≤ 59 ∧
      sec = dayNo l i * 86400 + clockNo l := by
  obtain ⟨y, m, k, sp, rfl⟩ := h
  have hy := sp.range (by omega)
  have hy0 := sp.y0
  have hm := sp.m12
  have hk0 := sp.k0
  have hk1 := sp.k1
  have hml := Cal.ml_bd y m
  have heq := sp.eq
  obtain ⟨w0, w1, w2, hw⟩ := list3 (Cal.len_week ⟨(sec / 86400 % 7).toNat, by omega⟩)
  obtain ⟨m0, m1, m2, hmo⟩ := list3 (Cal.len_months ⟨m, hm⟩)
  simp only at hw hmo
  have t1 := num_two (n := k + 1) (by omega) (by omega)
  have t2 := num_two (n := sec % 86400 / 3600) (by omega) (by omega)
  have t3 := num_two (n := sec % 86400 % 3600 / 60) (by omega) (by omega)
  have t4 := num_two (n := sec % 86400 % 60) (by omega) (by omega)
  have t5 := num_four (n := y) (by omega) (by omega)
  have g : ∀ n : Int, 0 ≤ n → n < 10 → fitI ((Cal.dig n).toNat : Int) 48 = true := by
    intro n a b
    have := dig_nat a b
    simp [fitI]; omega
  have f1 := g ((k + 1) / 10) (by omega) (by omega)
  have f2 := g ((k + 1) % 10) (by omega) (by omega)
  have f3 := g (y / 1000) (by omega) (by omega)
  have f4 := g (y / 100 % 10) (by omega) (by omega)
  have f5 := g (y / 10 % 10) (by omega) (by omega)
  have f6 := g (y % 10) (by omega) (by omega)
  have f7 := g (sec % 86400 / 3600 / 10) (by omega) (by omega)
  have f8 := g (sec % 86400 / 3600 % 10) (by omega) (by omega)
  have f9 := g (sec % 86400 % 3600 / 60 / 10) (by omega) (by omega)
  have f10 := g (sec % 86400 % 3600 / 60 % 10) (by omega) (by omega)
  have f11 := g (sec % 86400 % 60 / 10) (by omega) (by omega)
  have f12 := g (sec % 86400 % 60 % 10) (by omega) (by omega)
  obtain ⟨L, hL⟩ : ∃ L, L = Cal.fmt (sec / 86400) y m k (sec % 86400) := ⟨_, rfl⟩
  have hL' := hL
  unfold Cal.fmt at hL'
  rw [hw, hmo] at hL'
  simp only [Cal.two, Cal.four, List.cons_append, List.nil_append] at hL' t1 t2 t3 t4 t5
  rw [← hL]
  have d5 : (L.drop 5).take 2 = Cal.two (k + 1) := by rw [hL']; rfl
  have d12 : (L.drop 12).take 4 = Cal.four y := by rw [hL']; rfl
  have d17 : (L.drop 17).take 2 = Cal.two (sec % 86400 / 3600) := by rw [hL']; rfl
  have d20 : (L.drop 20).take 2 = Cal.two (sec % 86400 % 3600 / 60) := by rw [hL']; rfl
  have d23 : (L.drop 23).take 2 = Cal.two (sec % 86400 % 60) := by rw [hL']; rfl
  have hday : dayNo L m = sec / 86400 := by
    unfold dayNo
    rw [d12, d5, Cal.four, Cal.two, t1, t5, heq]; omega
  refine ⟨by rw [hL']; rfl, ?_, m, hm, by rw [hL', hmo]; rfl, by rw [d12, Cal.four, t5]; omega, by rw [d5, Cal.two, t1]; omega, by rw [d12, d5, Cal.four, Cal.two, t5, t1]; omega, ?_, by rw [d17, Cal.two, t2]; omega, by rw [d20, Cal.two, t3]; omega, by rw [d23, Cal.two, t4]; omega, ?_⟩
  · rw [hL']
    simp only [form, all2, Bool.and_eq_true]
    exact ⟨rfl, rfl, rfl, rfl, rfl, f1, f2, rfl, rfl, rfl, rfl, rfl, f3, f4, f5, f6, rfl, f7, f8, rfl, f9, f10, rfl, f11, f12, rfl, rfl, rfl, rfl, trivial⟩
  · rw [hday, hw, hL']; rfl
  · rw [hday]
    unfold clockNo
    rw [d17, d20, d23, Cal.two, Cal.two, Cal.two, t2, t3, t4]
    omega

theorem ext_list (s : ByteArray) (a b : Nat) : (s.extract a b).data.toList = (s.data.toList.drop a).take (b - a) := Lib.extract_data s a b

/-- The program's Date: the time of which the text is the date; else nothing, and there is none. -/
theorem date_any (s : ByteArray) (w : World) :
    Calls Tryd.prog 7 #[.string s] w fun e w' => ((∃ sec : Int, 0 ≤ sec ∧ sec ≤ 253402300799 ∧ Cal.IsStamp sec s.data.toList ∧ e = .returned (.tuple #[.int .i64 sec, .bool true])) ∨
      ((∀ sec : Int, 0 ≤ sec → sec ≤ 253402300799 → ¬ Cal.IsStamp sec s.data.toList) ∧ e = .returned (.tuple #[.int .i64 0, .bool false]))) ∧ ∃ q, w' = w.drewN q := by
  have no : (∀ sec : Int, 0 ≤ sec → sec ≤ 253402300799 → ¬ Cal.IsStamp sec s.data.toList) →
      (Calls Tryd.prog 7 #[.string s] w fun e w' => e = .returned (.tuple #[.int .i64 0, .bool false]) ∧ ∃ q, w' = w.drewN q) →
      Calls Tryd.prog 7 #[.string s] w fun e w' => ((∃ sec : Int, 0 ≤ sec ∧ sec ≤ 253402300799 ∧ Cal.IsStamp sec s.data.toList ∧ e = .returned (.tuple #[.int .i64 sec, .bool true])) ∨
      ((∀ sec : Int, 0 ≤ sec → sec ≤ 253402300799 → ¬ Cal.IsStamp sec s.data.toList) ∧ e = .returned (.tuple #[.int .i64 0, .bool false]))) ∧ ∃ q, w' = w.drewN q :=
    fun hn hc => hc.mono fun e w' ⟨he, hq⟩ => ⟨Or.inr ⟨hn, he⟩, hq⟩
  have hsz := Lib.size_eq s
  by_cases hs : s.size = 29
  rotate_left
  · exact no (fun sec a b h => hs (by rw [hsz]; exact (complete h a b).1)) (date_short s w hs)
  by_cases hf : Fits s
  rotate_left
  · exact no (fun sec a b h => hf ((fits_iff s hs).2 (complete h a b).2.1)) (date_unfit s w hs hf)
  have hl : s.data.toList.length = 29 := by rw [← hsz]; exact hs
  have hf2 := (fits_iff s hs).1 hf
  obtain ⟨_, hy1, hy0, _⟩ := fits_parts hl hf2
  have x5 := ext_list s 5 7
  have x8 := ext_list s 8 11
  have x12 := ext_list s 12 16
  have x17 := ext_list s 17 19
  have x20 := ext_list s 20 22
  have x23 := ext_list s 23 25
  simp only [Nat.reduceSub] at x5 x8 x12 x17 x20 x23
  by_cases hd : ∃ i, i < 12 ∧ Cal.nm Cal.months i = (s.extract 8 11).data.toList ∧ 1970 ≤ num (s.extract 12 16).data.toList ∧ 1 ≤ num (s.extract 5 7).data.toList ∧ num (s.extract 5 7).data.toList ≤ Cal.ml (num (s.extract 12 16).data.toList) i
  rotate_left
  · refine no (fun sec a b h => hd ?_) (date_noday s w hs hf (by rw [x12]; exact hy1) hd)
    obtain ⟨_, _, i, hi, hm, k1, k2, k3, _⟩ := complete h a b
    exact ⟨i, hi, by rw [x8]; exact hm, by rw [x12]; exact k1, by rw [x5]; exact k2, by rw [x5, x12]; exact k3⟩
  obtain ⟨i, hi, hm, k1, k2, k3⟩ := hd
  have hday := fun w => day_yes (s.extract 5 7) (s.extract 8 11) (s.extract 12 16) w i (by rw [size_ext s _ _ hs (by omega)]; omega) (by rw [size_ext s _ _ hs (by omega)]; omega) hi hm k1 (by rw [x12]; exact hy1) k2 k3
  have hD : Cal.ahead (num (s.extract 12 16).data.toList) + Cal.cum (num (s.extract 12 16).data.toList) i + (num (s.extract 5 7).data.toList - 1) = dayNo s.data.toList i := by
    unfold dayNo; rw [x12, x5]
  rw [hD] at hday
  rw [x8] at hm
  rw [x12] at k1
  rw [x5] at k2
  rw [x5, x12] at k3
  have sp : Cal.Sp (dayNo s.data.toList i) (num ((s.data.toList.drop 12).take 4)) i (num ((s.data.toList.drop 5).take 2) - 1) := ⟨k1, hi, by omega, by omega, rfl⟩
  obtain ⟨r0, r1⟩ := sp_range sp hy1
  have uniq : ∀ sec : Int, 0 ≤ sec → sec ≤ 253402300799 → Cal.IsStamp sec s.data.toList → Cal.nm Cal.week (dayNo s.data.toList i % 7).toNat = s.data.toList.take 3 ∧ num ((s.data.toList.drop 17).take 2) ≤ 23 ∧ num ((s.data.toList.drop 20).take 2) ≤ 59 ∧ num ((s.data.toList.drop 23).take 2) ≤ 59 := by
    intro sec a b h
    obtain ⟨_, _, j, hj, hmj, _, _, _, hw, c1, c2, c3, _⟩ := complete h a b
    have e : i = j := by
      have := Cal.nm_months_inj ⟨i, hi⟩ ⟨j, hj⟩ (hm.trans hmj.symm)
      simpa using this
    subst e
    exact ⟨hw, c1, c2, c3⟩
  have hv : Cal.nm Cal.week (dayNo s.data.toList i % 7).toNat = (⟨(Cal.nm Cal.week (dayNo s.data.toList i % 7).toNat).toArray⟩ : ByteArray).data.toList := by simp
  have xe : (s.extract 0 3).toList = s.data.toList.take 3 := by rw [Lib.extract_toList]; rfl
  by_cases hw : Cal.nm Cal.week (dayNo s.data.toList i % 7).toNat = s.data.toList.take 3
  rotate_left
  · refine no (fun sec a b h => hw (uniq sec a b h).1) (date_week s w _ r0 (by omega) hs hf _ hv hday ?_)
    rw [xe, Lib.toList_data, ← hv]
    exact beq_eq_false_iff_ne.2 (fun e => hw e.symm)
  have heq : ((s.extract 0 3).toList == (⟨(Cal.nm Cal.week (dayNo s.data.toList i % 7).toNat).toArray⟩ : ByteArray).toList) = true := by
    rw [xe, Lib.toList_data, ← hv]
    exact beq_iff_eq.2 hw.symm
  by_cases hc : num (s.extract 17 19).data.toList ≤ 23 ∧ num (s.extract 20 22).data.toList ≤ 59 ∧ num (s.extract 23 25).data.toList ≤ 59
  rotate_left
  · refine no (fun sec a b h => hc ?_) (date_noclock s w _ r0 (by omega) hs hf _ hv hday heq (fun w => clock_no _ _ _ w (by rw [size_ext s _ _ hs (by omega)]; omega) (by rw [size_ext s _ _ hs (by omega)]; omega) (by rw [size_ext s _ _ hs (by omega)]; omega) hc))
    rw [x17, x20, x23]
    exact (uniq sec a b h).2
  have hclk := fun w => clock_yes (s.extract 17 19) (s.extract 20 22) (s.extract 23 25) w (by rw [size_ext s _ _ hs (by omega)]; omega) (by rw [size_ext s _ _ hs (by omega)]; omega) (by rw [size_ext s _ _ hs (by omega)]; omega) hc.1 hc.2.1 hc.2.2
  have hS : num (s.extract 17 19).data.toList * 3600 + num (s.extract 20 22).data.toList * 60 + num (s.extract 23 25).data.toList = clockNo s.data.toList := by
    unfold clockNo; rw [x17, x20, x23]
  rw [hS] at hclk
  rw [x17, x20, x23] at hc
  have a1 := num2_nonneg ((s.data.toList.drop 17).take 2) (by simp; omega)
  have a2 := num2_nonneg ((s.data.toList.drop 20).take 2) (by simp; omega)
  have a3 := num2_nonneg ((s.data.toList.drop 23).take 2) (by simp; omega)
  have cb : 0 ≤ clockNo s.data.toList ∧ clockNo s.data.toList < 86400 := by unfold clockNo; omega
  refine (date_yes s w _ r0 (by omega) hs hf _ hv hday heq (clockNo s.data.toList) cb.1 (by omega) hclk).mono fun e w' ⟨he, hq⟩ => ⟨Or.inl ⟨_, ?_, ?_, sound hl hf2 hi hm k1 k2 k3 hw hc.1 hc.2.1 hc.2.2, he⟩, hq⟩
  · omega
  · omega
end Go.Proofs.YtmehkneofinmiaaDoor

/-
  Texts of this proof, part 8.
-/
import Derived.Test.YtmehkneofinmiabGreatDoorP05
import Derived.Test.YtmehkneofinmiabGreatDoorP07
namespace Go.Proofs.YtmehkneofinmiabGreatDoor
open Go.RowKit
noncomputable def dateV (l : List UInt8) : Int × Bool := open Classical in
  if h : ∃ sec : Int, 0 ≤ sec ∧ sec ≤ 253402300799 ∧ Cal.IsStamp sec l then (Classical.choose h, true) else (0, false)
theorem date_v (l : List UInt8) (w : World) : Calls Tryz.prog 226 #[.string ⟨l.toArray⟩] w fun e w' => e = .returned (.tuple #[.int .i64 (dateV l).1, .bool (dateV l).2]) ∧ Below w.heap.size w w' := by
  refine (date_any ⟨l.toArray⟩ w).mono ?_
  rintro e w' ⟨hd, q, rfl⟩
  refine ⟨?_, below_drewN (Below.refl _ _) q⟩
  rcases hd with ⟨sec, a, b, hs, rfl⟩ | ⟨hn, rfl⟩
  · have hs' : Cal.IsStamp sec l := by simpa using hs
    have h : ∃ sec : Int, 0 ≤ sec ∧ sec ≤ 253402300799 ∧ Cal.IsStamp sec l := ⟨sec, a, b, hs'⟩
    have hc := Classical.choose_spec h
    have e1 := stamp_inj hs' hc.2.2 a b hc.1 hc.2.1
    unfold dateV
    rw [dif_pos h, ← e1]
  · have h : ¬ ∃ sec : Int, 0 ≤ sec ∧ sec ≤ 253402300799 ∧ Cal.IsStamp sec l := by
      rintro ⟨sec, a, b, hs⟩
      exact hn sec a b (by simpa using hs)
    unfold dateV
    rw [dif_neg h]
set_option maxHeartbeats 1000000 in
theorem take_since (g : Nat) (c : Cst) (name value : List UInt8) (w : World) (hC : Cm w g c) (hn : name.length ≤ 140737488355328) (ha : ∀ (j : Nat) (b : UInt8), name[j]? = some b → b.toNat < 128) (hl : Lib.toLowerA name = ifSince) :
    Calls Tryz.prog 181 #[.pointer (some ⟨g, 0, none⟩), .string ⟨name.toArray⟩, .string ⟨value.toArray⟩] w fun e w' => e = .returned (.bool (!c.s2)) ∧ Kp g w w' ∧ Cm w' g { c with hs := (dateV value).2, si := (dateV value).1, s2 := true } := by
  have hgl := hC.lt
  go_enter Tryz.func181, Tryz.ntmps181
  go_wp2_with fail
  refine (lower_any name _ hn ha).mono ?_
  rintro e w1 ⟨rfl, hb1⟩
  rw [hl]
  unfold ifSince
  have k1 := Kp.of_below (Nat.le_of_lt hgl) hb1
  have cm1 := hC.below hb1
  clear hl ha hb1
  go_wp2_with fail
  refine (date_v value _).mono ?_
  obtain ⟨⟨n, ok⟩, hT⟩ : ∃ t, dateV value = t := ⟨_, rfl⟩
  rw [hT]
  simp only
  rintro e w2 ⟨rfl, hb2⟩
  have k2 := k1.trans (Kp.of_below (Nat.le_of_lt cm1.lt) hb2)
  have cm2 := cm1.below hb2
  have c1 := cm2.c 7 (by omega)
  have c2 := cm2.c 8 (by omega)
  have f1 := cm2.f 7 (by omega)
  have f2 := cm2.f 8 (by omega)
  simp only [Cst.cell] at c1 c2
  clear hb2 k1 cm1
  have cm3 : Cm ((w2.setCell ⟨g, 8, none⟩ (.int .i64 n)).setCell ⟨g, 7, none⟩ (.bool ok)) g { c with hs := ok, si := n } := by
    have s1 : Cm (w2.setCell ⟨g, 8, none⟩ (.int .i64 n)) g { c with si := n } := cm2.set 8 _ (by omega) rfl (same_si c n)
    exact s1.set 7 _ (by omega) rfl (same_hs { c with si := n } ok)
  have k3 := (k2.set 8 (.int .i64 n)).set 7 (.bool ok)
  go_wp2_with fail
  refine (first2 g _ _ cm3).mono ?_
  rintro e w3 ⟨rfl, hw3⟩
  have cm4 : Cm w3 g { c with hs := ok, si := n, s2 := true } := by rw [hw3]; exact cm3.set 16 _ (by omega) rfl (same_s2 { c with hs := ok, si := n } true)
  have k4 : Kp g w w3 := by rw [hw3]; exact k3.set 16 _
  clear hw3 cm3 k3 cm2 k2 c1 c2 f1 f2
  go_wp2
  go_ret
  rw [hT]
  exact ⟨rfl, k4, cm4⟩
set_option maxHeartbeats 1000000 in
theorem take_unless (g : Nat) (c : Cst) (name value : List UInt8) (w : World) (hC : Cm w g c) (hn : name.length ≤ 140737488355328) (ha : ∀ (j : Nat) (b : UInt8), name[j]? = some b → b.toNat < 128) (hl : Lib.toLowerA name = ifUnless) :
    Calls Tryz.prog 181 #[.pointer (some ⟨g, 0, none⟩), .string ⟨name.toArray⟩, .string ⟨value.toArray⟩] w fun e w' => e = .returned (.bool (!c.s3)) ∧ Kp g w w' ∧ Cm w' g { c with hu := (dateV value).2, ul := (dateV value).1, s3 := true } := by
  have hgl := hC.lt
  go_enter Tryz.func181, Tryz.ntmps181
  go_wp2_with fail
  refine (lower_any name _ hn ha).mono ?_
  rintro e w1 ⟨rfl, hb1⟩
  rw [hl]
  unfold ifUnless
  have k1 := Kp.of_below (Nat.le_of_lt hgl) hb1
  have cm1 := hC.below hb1
  clear hl ha hb1
  go_wp2_with fail
  refine (date_v value _).mono ?_
  obtain ⟨⟨n, ok⟩, hT⟩ : ∃ t, dateV value = t := ⟨_, rfl⟩
  rw [hT]
  simp only
  rintro e w2 ⟨rfl, hb2⟩
  have k2 := k1.trans (Kp.of_below (Nat.le_of_lt cm1.lt) hb2)
  have cm2 := cm1.below hb2
  have c1 := cm2.c 9 (by omega)
  have c2 := cm2.c 10 (by omega)
  have f1 := cm2.f 9 (by omega)
  have f2 := cm2.f 10 (by omega)
  simp only [Cst.cell] at c1 c2
  clear hb2 k1 cm1
  have cm3 : Cm ((w2.setCell ⟨g, 10, none⟩ (.int .i64 n)).setCell ⟨g, 9, none⟩ (.bool ok)) g { c with hu := ok, ul := n } := by
    have s1 : Cm (w2.setCell ⟨g, 10, none⟩ (.int .i64 n)) g { c with ul := n } := cm2.set 10 _ (by omega) rfl (same_ul c n)
    exact s1.set 9 _ (by omega) rfl (same_hu { c with ul := n } ok)
  have k3 := (k2.set 10 (.int .i64 n)).set 9 (.bool ok)
  go_wp2_with fail
  refine (first3 g _ _ cm3).mono ?_
  rintro e w3 ⟨rfl, hw3⟩
  have cm4 : Cm w3 g { c with hu := ok, ul := n, s3 := true } := by rw [hw3]; exact cm3.set 17 _ (by omega) rfl (same_s3 { c with hu := ok, ul := n } true)
  have k4 : Kp g w w3 := by rw [hw3]; exact k3.set 17 _
  clear hw3 cm3 k3 cm2 k2 c1 c2 f1 f2
  go_wp2
  go_ret
  rw [hT]
  exact ⟨rfl, k4, cm4⟩
end Go.Proofs.YtmehkneofinmiabGreatDoor

namespace Go.Proofs.YtmehkneofinmiabGreatDoor
open Go.RowKit
structure Cnd where
  m : Option (Bool × TagL)
  n : Option (Bool × TagL)
  s : Option (Int × Bool)
  u : Option (Int × Bool)
noncomputable def fieldF (k : Cnd) (name value : List UInt8) : Option Cnd :=
  if Lib.toLowerA name = ifMatch then (if !k.m.isSome && (tagsV value).2.1 then some { k with m := some ((tagsV value).1, (tagsV value).2.2) } else none)
  else if Lib.toLowerA name = ifNone then (if !k.n.isSome && (tagsV value).2.1 then some { k with n := some ((tagsV value).1, (tagsV value).2.2) } else none)
  else if Lib.toLowerA name = ifSince then (if k.s.isSome then none else some { k with s := some (dateV value) })
  else if Lib.toLowerA name = ifUnless then (if k.u.isSome then none else some { k with u := some (dateV value) })
  else some k
def Rl (x : World) (g : Nat) (h a : Bool) (l : Value) (s : Bool) (o : Option (Bool × TagL)) : Prop :=
  s = o.isSome ∧ h = o.isSome ∧ match o with
    | none => a = false ∧ l = .slice none 0 0
    | some (b, t) => a = b ∧ x.ownsRow (g + 1) 273 2 l t.length (cellsT t)
def Rd2 (h : Bool) (n : Int) (s : Bool) (o : Option (Int × Bool)) : Prop :=
  s = o.isSome ∧ match o with
    | none => h = false ∧ n = 0
    | some (d, b) => h = b ∧ n = d
structure Rc (x : World) (g : Nat) (c : Cst) (k : Cnd) : Prop where
  cm : Cm x g c
  m : Rl x g c.hm c.am c.lm c.s0 k.m
  n : Rl x g c.hn c.an c.ln c.s1 k.n
  s : Rd2 c.hs c.si c.s2 k.s
  u : Rd2 c.hu c.ul c.s3 k.u
theorem Rl.kept {x y : World} {g : Nat} {h a : Bool} {l : Value} {s : Bool} {o : Option (Bool × TagL)} (r : Rl x g h a l s o) (hk : Kp g x y) : Rl y g h a l s o := by
  obtain ⟨r1, r2, r3⟩ := r
  refine ⟨r1, r2, ?_⟩
  cases o with
  | none => exact r3
  | some p =>
    obtain ⟨b, t⟩ := p
    obtain ⟨e, ho⟩ := r3
    refine ⟨e, ho.1, ?_⟩
    rcases ho.2 with h0 | ⟨q, cap, cur, hv, hg, hh, rr⟩
    · exact Or.inl h0
    · have hq : q < x.heap.size := (Array.getElem?_eq_some_iff.1 hh).1
      exact Or.inr ⟨q, cap, cur, hv, hg, by rw [hk.o q (by omega) hq]; exact hh, rr⟩
theorem take_any (g : Nat) (c : Cst) (k : Cnd) (name value : List UInt8) (w : World) (hM : MaxIs w) (hR : Rc w g c k) (hn : name.length ≤ 140737488355328) (ha : ∀ (j : Nat) (b : UInt8), name[j]? = some b → b.toNat < 128) (hv : value.length ≤ 67108864) :
    Calls Tryz.prog 181 #[.pointer (some ⟨g, 0, none⟩), .string ⟨name.toArray⟩, .string ⟨value.toArray⟩] w fun e w' => Kp g w w' ∧ ((∃ k' c', fieldF k name value = some k' ∧ e = .returned (.bool true) ∧ Rc w' g c' k') ∨ (fieldF k name value = none ∧ e = .returned (.bool false))) := by
  have hlt := hR.cm.lt
  by_cases h1 : Lib.toLowerA name = ifMatch
  · refine (take_match g c name value w hM hR.cm hn ha h1 hv).mono ?_
    rintro e w' ⟨rfl, hk, o, cp, hc, ho⟩
    refine ⟨hk, ?_⟩
    have hs := hR.m.1
    unfold fieldF
    rw [if_pos h1, hs]
    cases hb : (!k.m.isSome && (tagsV value).2.1) with
    | true =>
      have hf : (tagsV value).2.1 = true := by simp at hb; exact hb.2
      refine Or.inl ⟨_, _, rfl, rfl, hc, ⟨rfl, hf, rfl, owns_mono ho (by omega)⟩, hR.n.kept hk, hR.s, hR.u⟩
    | false => exact Or.inr ⟨rfl, rfl⟩
  · by_cases h2 : Lib.toLowerA name = ifNone
    · refine (take_none g c name value w hM hR.cm hn ha h2 hv).mono ?_
      rintro e w' ⟨rfl, hk, o, cp, hc, ho⟩
      refine ⟨hk, ?_⟩
      have hs := hR.n.1
      unfold fieldF
      rw [if_neg h1, if_pos h2, hs]
      cases hb : (!k.n.isSome && (tagsV value).2.1) with
      | true =>
        have hf : (tagsV value).2.1 = true := by simp at hb; exact hb.2
        refine Or.inl ⟨_, _, rfl, rfl, hc, hR.m.kept hk, ⟨rfl, hf, rfl, owns_mono ho (by omega)⟩, hR.s, hR.u⟩
      | false => exact Or.inr ⟨rfl, rfl⟩
    · by_cases h3 : Lib.toLowerA name = ifSince
      · refine (take_since g c name value w hR.cm hn ha h3).mono ?_
        rintro e w' ⟨rfl, hk, hc⟩
        refine ⟨hk, ?_⟩
        have hs := hR.s.1
        unfold fieldF
        rw [if_neg h1, if_neg h2, if_pos h3, hs]
        cases hb : k.s.isSome with
        | true => exact Or.inr ⟨rfl, rfl⟩
        | false => exact Or.inl ⟨_, _, rfl, rfl, hc, hR.m.kept hk, hR.n.kept hk, ⟨rfl, rfl, rfl⟩, hR.u⟩
      · by_cases h4 : Lib.toLowerA name = ifUnless
        · refine (take_unless g c name value w hR.cm hn ha h4).mono ?_
          rintro e w' ⟨rfl, hk, hc⟩
          refine ⟨hk, ?_⟩
          have hs := hR.u.1
          unfold fieldF
          rw [if_neg h1, if_neg h2, if_neg h3, if_pos h4, hs]
          cases hb : k.u.isSome with
          | true => exact Or.inr ⟨rfl, rfl⟩
          | false => exact Or.inl ⟨_, _, rfl, rfl, hc, hR.m.kept hk, hR.n.kept hk, hR.s, ⟨rfl, rfl, rfl⟩⟩
        · refine (take_other g name value w hn ha h1 h2 h3 h4).mono ?_
          rintro e w' ⟨rfl, hb⟩
          have hk := Kp.of_below (Nat.le_of_lt hlt) hb
          refine ⟨hk, Or.inl ⟨k, c, ?_, rfl, hR.cm.below hb, hR.m.kept hk, hR.n.kept hk, hR.s, hR.u⟩⟩
          unfold fieldF
          rw [if_neg h1, if_neg h2, if_neg h3, if_neg h4]
end Go.Proofs.YtmehkneofinmiabGreatDoor

namespace Go.Proofs.YtmehkneofinmiabGreatDoor
open Go.RowKit
def crlfB (c : UInt8) : Bool := c == 13 || c == 10
def AnyIs : Prop := ∀ (v : List UInt8) (w : World), v.length ≤ 4000 → Calls Tryz.prog 180 #[.string ⟨v.toArray⟩, .string ⟨#[13, 10]⟩] w fun e w' => e = .returned (.bool (v.any crlfB)) ∧ Below w.heap.size w w'
noncomputable def lineF (k : Cnd) (line : List UInt8) : Option Cnd :=
  if (Lib.cut line [58]).2.2 && (nameOK (Lib.cut line [58]).1 && !(Lib.cut line [58]).2.1.any crlfB) then fieldF k (Lib.cut line [58]).1 (Lib.trimS (Lib.cut line [58]).2.1 [32, 9]) else none
theorem name_ascii {l : List UInt8} (h : nameOK l = true) : ∀ (j : Nat) (b : UInt8), l[j]? = some b → b.toNat < 128 := by
  intro j b hb
  unfold nameOK at h
  simp only [Bool.and_eq_true] at h
  have := List.all_eq_true.1 h.1 b (List.mem_of_getElem? hb)
  unfold nameB nameI digI at this
  simp at this
  omega
theorem name_any (s : List UInt8) (w : World) (hs : s.length ≤ 9223372036854775807) : Calls Tryz.prog 179 #[.string ⟨s.toArray⟩] w fun e w' => e = .returned (.bool (nameOK s)) ∧ w' = w :=
  isName_any ⟨s.toArray⟩ w (by rw [Lib.size_eq]; simpa using hs)
theorem trim_any (s : List UInt8) (w : World) (hs : s.length ≤ 9223372036854775807) : Calls Tryz.prog 182 #[.string ⟨s.toArray⟩, .string ⟨#[32, 9]⟩] w fun e w' => e = .returned (.string ⟨(Lib.trimS s [32, 9]).toArray⟩) ∧ Below w.heap.size w w' :=
  Tryz.trim_blanks ⟨s.toArray⟩ w (by rw [Lib.size_eq]; simpa using hs)
set_option maxHeartbeats 1000000 in
theorem takeLine_any (hA : AnyIs) (g : Nat) (c : Cst) (k : Cnd) (line : List UInt8) (w : World) (hM : MaxIs w) (hR : Rc w g c k) (hl : line.length ≤ 4000) :
    Calls Tryz.prog 132 #[.pointer (some ⟨g, 0, none⟩), .string ⟨line.toArray⟩] w fun e w' => Kp g w w' ∧ ((∃ k' c', lineF k line = some k' ∧ e = .returned (.bool true) ∧ Rc w' g c' k') ∨ (lineF k line = none ∧ e = .returned (.bool false))) := by
  have hlt := hR.cm.lt
  have hcl := cut_le line [58]
  have HL : Hid (lineF k line = if (Lib.cut line [58]).2.2 && (nameOK (Lib.cut line [58]).1 && !(Lib.cut line [58]).2.1.any crlfB) then fieldF k (Lib.cut line [58]).1 (Lib.trimS (Lib.cut line [58]).2.1 [32, 9]) else none) := rfl
  go_enter Tryz.func132, Tryz.ntmps132
  go_wp2_with fail
  refine (cut_any line [58] _ hM (by omega)).mono ?_
  rintro e w1 ⟨rfl, hb1⟩
  have k1 := Kp.of_below (Nat.le_of_lt hlt) hb1
  have hM1 := hM.below hb1
  have hR1 : Rc w1 g c k := ⟨hR.cm.below hb1, hR.m.kept k1, hR.n.kept k1, hR.s, hR.u⟩
  obtain ⟨⟨nm, v, ok⟩, hc⟩ : ∃ t, Lib.cut line [58] = t := ⟨_, rfl⟩
  rw [hc] at hcl HL ⊢
  simp only at hcl HL ⊢
  clear hb1 hR hM hc
  cases ok with
  | false =>
    go_wp2
    go_ret
    exact ⟨k1, Or.inr ⟨HL.out.trans rfl, rfl⟩⟩
  | true =>
    go_wp2_with fail
    refine (name_any nm _ (by omega)).mono ?_
    rintro e w2 ⟨rfl, rfl⟩
    cases hnm : nameOK nm with
    | false =>
      rw [hnm] at HL
      go_wp2
      go_ret
      exact ⟨k1, Or.inr ⟨HL.out.trans rfl, rfl⟩⟩
    | true =>
      rw [hnm] at HL
      have hasc := name_ascii hnm
      clear hnm
      go_wp2_with fail
      refine (hA v _ (by omega)).mono ?_
      rintro e w3 ⟨rfl, hb3⟩
      have k3 := k1.trans (Kp.of_below (Nat.le_of_lt hR1.cm.lt) hb3)
      have k13 : Kp g w2 w3 := Kp.of_below (Nat.le_of_lt hR1.cm.lt) hb3
      have hR3 : Rc w3 g c k := ⟨hR1.cm.below hb3, hR1.m.kept k13, hR1.n.kept k13, hR1.s, hR1.u⟩
      have hM3 := hM1.below hb3
      clear hb3 k13 hR1 hM1
      cases hva : v.any crlfB with
      | true =>
        rw [hva] at HL
        clear hva
        go_wp2
        go_ret
        exact ⟨k3, Or.inr ⟨HL.out.trans rfl, rfl⟩⟩
      | false =>
        rw [hva] at HL
        clear hva
        go_wp2_with fail
        refine (trim_any v _ (by omega)).mono ?_
        rintro e w4 ⟨rfl, hb4⟩
        have htl := trimS_le v
        have k14 : Kp g w3 w4 := Kp.of_below (Nat.le_of_lt hR3.cm.lt) hb4
        have k4 := k3.trans k14
        have hR4 : Rc w4 g c k := ⟨hR3.cm.below hb4, hR3.m.kept k14, hR3.n.kept k14, hR3.s, hR3.u⟩
        have hM4 := hM3.below hb4
        obtain ⟨tv, htv⟩ : ∃ tv, Lib.trimS v [32, 9] = tv := ⟨_, rfl⟩
        rw [htv] at htl HL ⊢
        clear hb4 k14 hR3 hM3 k3 htv
        go_wp2_with fail
        refine (take_any g c k nm tv _ hM4 hR4 (by omega) hasc (by omega)).mono ?_
        rintro e w5 ⟨hk5, ⟨k', c', hf, rfl, hR5⟩ | ⟨hf, rfl⟩⟩
        · go_wp2
          go_ret
          exact ⟨k4.trans hk5, Or.inl ⟨k', c', HL.out.trans hf, rfl, hR5⟩⟩
        · go_wp2
          go_ret
          exact ⟨k4.trans hk5, Or.inr ⟨HL.out.trans hf, rfl⟩⟩
end Go.Proofs.YtmehkneofinmiabGreatDoor

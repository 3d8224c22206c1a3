/-
  Texts of this proof, part 24.
-/
import Derived.Test.YtmehkneofinmiabGreatDoorP23
import Derived.Test.YtmehkneofinmiabGreatDoorP15
import Derived.Test.YtmehkneofinmiabGreatDoorP12
import Derived.Laws.BytesArg
namespace Go.Proofs.YtmehkneofinmiabGreatDoor
open Go.RowKit
def payF (k t : Nat) (key : List UInt8) (n : Nat) (body : List UInt8) : List UInt8 := be k 1 ++ (be t 8 ++ (be key.length 1 ++ (key ++ (be n 4 ++ body))))
def recF (k t : Nat) (key : List UInt8) (n : Nat) (body : List UInt8) : List UInt8 :=
  be (payF k t key n body).length 2 ++ (payF k t key n body ++ be (chkF (payF k t key n body)) 4)
theorem payF_len (k t : Nat) (key : List UInt8) (n : Nat) (body : List UInt8) : (payF k t key n body).length = 14 + key.length + body.length := by
  simp [payF, be_len]
  omega
theorem recF_len (k t : Nat) (key : List UInt8) (n : Nat) (body : List UInt8) : (recF k t key n body).length = 20 + key.length + body.length := by
  simp only [recF, List.length_append, be_len, payF_len]
  omega
structure Pl (w x : World) (cs : Array Value) (v : Value) (l : List UInt8) : Prop where
  lo : Below (w.heap.size + 1) (w.alloc (.cells cs 108)) x
  own : Byt x (w.heap.size + 1) v l
theorem Pl.size {w x : World} {cs : Array Value} {v : Value} {l : List UInt8} (h : Pl w x cs v l) : w.heap.size + 1 ≤ x.heap.size := by
  have := h.lo.size
  simpa using this
theorem Pl.blk {w x : World} {cs : Array Value} {v : Value} {l : List UInt8} (h : Pl w x cs v l) : x.heap[w.heap.size]? = some (.cells cs 108 (0, 0)) :=
  (h.lo.block w.heap.size (by omega)).trans (heap_alloc_new _ _)
theorem Pl.low {w x : World} {cs : Array Value} {v : Value} {l : List UInt8} (h : Pl w x cs v l) : Below w.heap.size w x :=
  ((Below.refl _ _).alloc (Nat.le_refl _) _).trans (h.lo.mono (by omega))
theorem Pl.next {w x y : World} {cs : Array Value} {v v' : Value} {l l' : List UInt8} (h : Pl w x cs v l) (hb : Below (w.heap.size + 1) x y) (hy : Byt y (w.heap.size + 1) v' l') : Pl w y cs v' l' := ⟨h.lo.trans hb, hy⟩
theorem strCells_u8s (l : List UInt8) : Lib.strCells ⟨l.toArray⟩ = u8s l := by simp [Lib.strCells, u8s]
theorem Pl.app {w x y : World} {cs : Array Value} {v v' : Value} {l s : List UInt8} (h : Pl w x cs v l) (hr : y.ownsRow (w.heap.size + 1) 5 1 v' (l.length + (⟨s.toArray⟩ : ByteArray).size) (u8s l ++ Lib.strCells ⟨s.toArray⟩)) (hg : x.grownBy y v.ownBlock) : Pl w y cs v' (l ++ s) := by
  refine ⟨h.lo.grown hg h.size (fun r hr => (h.own.lt r hr).1), ?_⟩
  rw [Lib.size_eq, strCells_u8s, ← u8s_app] at hr
  unfold Byt
  rw [List.length_append]
  exact hr
theorem Byt.conv {w : World} {base : Nat} {v : Value} {l : List UInt8} (h : Byt w base v l) : (convert 95 9 v).run Tryz.prog w = .ok (.string ⟨l.toArray⟩) w := by
  rcases h.2 with ⟨rfl, h0⟩ | ⟨g, cap, cur, rfl, _, hg, hn, hm, hs, htk⟩
  · rw [List.length_eq_zero_iff.1 h0]
    exact run_convert_bytes_nil w 95 5 Tryz.underlying95 Tryz.underlying5 0 0 9 Tryz.underlying9
  · have hx := run_convert_bytes_arg (P := Tryz.prog) w 95 5 Tryz.underlying95 Tryz.underlying5 g 0 l.length cap (l.map fun c => (c.toNat : Int)) (by simp) (fun i hi => by
      have h1 : (u8s l)[i]? = some (.int .u8 ((l[i]).toNat : Int)) := by simp [u8s, hi]
      rw [← htk, List.getElem?_take_of_lt (by omega)] at h1
      simp only [World.cell?, hg, Nat.zero_add]
      simpa [List.getD, hi] using h1) 9 Tryz.underlying9
    have e : strOfNums (l.map fun c => (c.toNat : Int)) = ⟨l.toArray⟩ := by
      apply ByteArray.ext
      apply Array.ext'
      rw [strOfNums_data, List.map_map]
      have h1 : ((fun n : Int => UInt8.ofNat n.toNat) ∘ fun c : UInt8 => (c.toNat : Int)) = id := by
        funext c
        simp
      rw [h1, List.map_id]
    rw [hx, e]
set_option maxRecDepth 100000 in
set_option maxHeartbeats 4000000 in
theorem payload_any (k t n : Nat) (key body : List UInt8) (w : World) (hk : k < 256) (ht : t < 9223372036854775807) (hn : n < 9223372036854775807) (hkl : key.length < 100000) (hbl : body.length < 100000) :
    Calls Tryz.prog 213 #[.agg #[.int .u8 k, .int .i64 t, .string ⟨key.toArray⟩, .int .i64 n, .string ⟨body.toArray⟩]] w fun e w' => e = .returned (.string ⟨(payF k t key n body).toArray⟩) ∧ Below w.heap.size w w' := by
  obtain ⟨i0, hi0, hz0, hz1, hz2⟩ := info_parts infoU8
  go_enter Tryz.func213, Tryz.ntmps213
  have P0 : Pl w (w.alloc (.cells #[.int .u8 k, .int .i64 t, .string ⟨key.toArray⟩, .int .i64 n, .string ⟨body.toArray⟩] 108)) #[.int .u8 k, .int .i64 t, .string ⟨key.toArray⟩, .int .i64 n, .string ⟨body.toArray⟩] (.slice none 0 0) [] := ⟨Below.refl _ _, Byt.nil _ _⟩
  go_wp2_with fail
  refine (appendNumber_any _ [] (w.heap.size + 1) k 1 _ P0.own (by simp) (by omega) (by simp)).mono ?_
  rintro e x1 ⟨v1, rfl, y1, b1⟩
  have P1 := P0.next b1 y1
  have hb1 := P1.blk
  have c1 : x1.cell? ⟨w.heap.size, 1, none⟩ = some (.int .i64 t) := by simp [World.cell?, hb1]
  have H1 : Hid _ := P1
  clear P0 P1 hb1 y1 b1
  go_wp2_with fail
  refine (appendNumber_any _ _ (w.heap.size + 1) t 8 _ H1.out.own H1.out.size (by omega) (by simp [be_len])).mono ?_
  rintro e x2 ⟨v2, rfl, y2, b2⟩
  have P2 := H1.out.next b2 y2
  have hb2 := P2.blk
  have c2 : x2.cell? ⟨w.heap.size, 2, none⟩ = some (.string ⟨key.toArray⟩) := by simp [World.cell?, hb2]
  have H2 : Hid _ := P2
  clear P2 hb2 y2 b2 c1
  go_wp2_with fail
  refine (appendNumber_any _ _ (w.heap.size + 1) key.length 1 _ H2.out.own H2.out.size (by omega) (by simp [be_len])).mono ?_
  rintro e x3 ⟨v3, rfl, y3, b3⟩
  have P3 := H2.out.next b3 y3
  have hb3 := P3.blk
  have c3 : x3.cell? ⟨w.heap.size, 2, none⟩ = some (.string ⟨key.toArray⟩) := by simp [World.cell?, hb3]
  have H3 : Hid _ := P3
  clear P3 hb3 y3 b3 c2
  have hL3 : ([] ++ be k 1 ++ be t 8 ++ be key.length 1 : List UInt8).length < 300000 := by simp [be_len]
  have hs3 : (⟨key.toArray⟩ : ByteArray).size < 100000 := by rw [Lib.size_eq]; exact hkl
  go_wp2_with (at_builtin; refine Lib.wpList_append_own_string _ rfl (.tmp 19) (.tmp 21) 95 9 rfl (w.heap.size + 1) 5 i0 Tryz.underlying95 Tryz.underlying9 hi0 hz0 hz1 hz2 _ _ _ rfl H3.out.own _ rfl (by unfold maxLen; omega) (by omega) H3.out.size ?_; intro v4 x4 y4 g4 _; have P4 := H3.out.app (s := key) y4 g4; have hb4 := P4.blk; have c4 : x4.cell? ⟨w.heap.size, 3, none⟩ = some (.int .i64 n) := (by simp [World.cell?, hb4]); have H4 : Hid _ := P4; clear P4 hb4 y4 g4)
  refine (appendNumber_any _ _ (w.heap.size + 1) n 4 _ H4.out.own H4.out.size (by omega) (by simp [be_len]; omega)).mono ?_
  rintro e x5 ⟨v5, rfl, y5, b5⟩
  have P5 := H4.out.next b5 y5
  have hb5 := P5.blk
  have c5 : x5.cell? ⟨w.heap.size, 4, none⟩ = some (.string ⟨body.toArray⟩) := by simp [World.cell?, hb5]
  have H5 : Hid _ := P5
  clear P5 hb5 y5 b5 c4
  have hL5 : ([] ++ be k 1 ++ be t 8 ++ be key.length 1 ++ key ++ be n 4 : List UInt8).length < 300000 := by simp [be_len]; omega
  have hs5 : (⟨body.toArray⟩ : ByteArray).size < 100000 := by rw [Lib.size_eq]; exact hbl
  go_wp2_with (at_builtin; refine Lib.wpList_append_own_string _ rfl (.tmp 28) (.tmp 30) 95 9 rfl (w.heap.size + 1) 5 i0 Tryz.underlying95 Tryz.underlying9 hi0 hz0 hz1 hz2 _ _ _ rfl H5.out.own _ rfl (by unfold maxLen; omega) (by omega) H5.out.size ?_; intro v6 x6 y6 g6 _; have P6 := H5.out.app (s := body) y6 g6; have H6 : Hid _ := P6; have cv := P6.own.conv; clear P6 y6 g6)
  go_ret
  exact ⟨rfl, H6.out.low⟩
set_option maxRecDepth 100000 in
set_option maxHeartbeats 4000000 in
theorem text_rec (k t n : Nat) (key body : List UInt8) (w : World) (hk : k < 256) (ht : t < 9223372036854775807) (hn : n < 9223372036854775807) (hkl : key.length < 100000) (hbl : body.length < 100000) :
    Calls Tryz.prog 173 #[.agg #[.int .u8 k, .int .i64 t, .string ⟨key.toArray⟩, .int .i64 n, .string ⟨body.toArray⟩]] w fun e w' => e = .returned (.string ⟨(recF k t key n body).toArray⟩) ∧ Below w.heap.size w w' := by
  obtain ⟨i0, hi0, hz0, hz1, hz2⟩ := info_parts infoU8
  go_enter Tryz.func173, Tryz.ntmps173
  have P0 : Pl w (w.alloc (.cells #[.int .u8 k, .int .i64 t, .string ⟨key.toArray⟩, .int .i64 n, .string ⟨body.toArray⟩] 108)) #[.int .u8 k, .int .i64 t, .string ⟨key.toArray⟩, .int .i64 n, .string ⟨body.toArray⟩] (.slice none 0 0) [] := ⟨Below.refl _ _, Byt.nil _ _⟩
  go_wp2_with fail
  refine (payload_any k t n key body _ hk ht hn hkl hbl).mono ?_
  rintro e x1 ⟨rfl, b1⟩
  have hpl := payF_len k t key n body
  obtain ⟨p, hp⟩ : ∃ p, payF k t key n body = p := ⟨_, rfl⟩
  have P1 := P0.next (b1.mono (by simp)) (Byt.nil x1 _)
  have HR : Hid (recF k t key n body = be p.length 2 ++ (p ++ be (chkF p) 4)) := by
    show _ = _
    rw [← hp]
    rfl
  rw [hp] at hpl ⊢
  have hpn : p.length < 300000 := by omega
  have H1 : Hid _ := P1
  clear P0 P1 b1 hp hpl
  go_wp2_with fail
  refine (appendNumber_any _ _ (w.heap.size + 1) p.length 2 _ H1.out.own H1.out.size (by omega) (by simp)).mono ?_
  rintro e x2 ⟨v2, rfl, y2, b2⟩
  have P2 := H1.out.next b2 y2
  have H2 : Hid _ := P2
  clear P2 y2 b2
  have hL2 : ([] ++ be p.length 2 : List UInt8).length < 300000 := by simp [be_len]
  have hs2 : (⟨p.toArray⟩ : ByteArray).size < 300000 := by rw [Lib.size_eq]; exact hpn
  go_wp2_with (at_builtin; refine Lib.wpList_append_own_string _ rfl (.tmp 11) (.tmp 12) 95 9 rfl (w.heap.size + 1) 5 i0 Tryz.underlying95 Tryz.underlying9 hi0 hz0 hz1 hz2 _ _ _ rfl H2.out.own _ rfl (by unfold maxLen; omega) (by omega) H2.out.size ?_; intro v3 x3 y3 g3 _; have P3 := H2.out.app (s := p) y3 g3; have H3 : Hid _ := P3; clear P3 y3 g3)
  refine (check_any p _ (by omega)).mono ?_
  rintro e x4 ⟨rfl, rfl⟩
  have hc := chk_lt p
  obtain ⟨C, hC⟩ : ∃ C, chkF p = C := ⟨_, rfl⟩
  rw [hC] at hc HR ⊢
  clear hC
  go_wp2_with fail
  refine (appendNumber_any _ _ (w.heap.size + 1) C 4 _ H3.out.own H3.out.size (by omega) (by simp [be_len]; omega)).mono ?_
  rintro e x5 ⟨v5, rfl, y5, b5⟩
  have cv := y5.conv
  have P5 := H3.out.next b5 y5
  have H5 : Hid _ := P5
  clear P5 y5 b5
  go_wp2
  go_ret
  refine ⟨?_, H5.out.low⟩
  rw [HR.out]
  rfl
end Go.Proofs.YtmehkneofinmiabGreatDoor

namespace Go.Proofs.YtmehkneofinmiabGreatDoor
open Go.RowKit
def obstF (E : Ent) (k n : Nat) : Nat :=
  if k = 3 then (if (vidx E.vers n).isSome then 0 else 404)
  else if k = 2 ∧ (curOf E).isSome = false then 404
  else if 20 ≤ E.vers.length then 507 else 0
def succF (E : Ent) (k : Nat) : Nat := if k = 1 then (if (curOf E).isSome then 200 else 201) else 204
abbrev recA (k t : Nat) (key : List UInt8) (n : Nat) (body : List UInt8) : Value := .agg #[.int .u8 k, .int .i64 t, .string ⟨key.toArray⟩, .int .i64 n, .string ⟨body.toArray⟩]
set_option maxHeartbeats 1000000 in
theorem next_any (p : Nat) (E : Ent) (vs : Value) (w : World) (h : EntAt w p E vs) (hl : E.last < 4611686018427387904) :
    Calls Tryz.prog 106 #[.pointer (some ⟨p, 0, none⟩)] w fun e w' => e = .returned (.int .i64 ((E.last + 1 : Nat) : Int)) ∧ w' = w := by
  have h2 := h.c1
  go_enter Tryz.func106, Tryz.ntmps106
  go_wp2
  go_ret
  exact ⟨rfl, rfl⟩
set_option maxHeartbeats 2000000 in
theorem success_any (p : Nat) (E : Ent) (vs : Value) (k : Nat) (w : World) (h : EntAt w p E vs) (hl : E.vers.length < 1000) :
    Calls Tryz.prog 151 #[.pointer (some ⟨p, 0, none⟩), .int .u8 (k : Int)] w fun e w' => e = .returned (.int .i64 (succF E k : Nat)) ∧ Below w.heap.size w w' := by
  have HE : Hid _ := h
  clear h
  by_cases hk : k = 1
  · subst hk
    cases hc : (curOf E).isSome with
    | false =>
      go_enter Tryz.func151, Tryz.ntmps151
      go_wp2_with fail
      refine (current_any p E vs _ HE.out hl).mono ?_
      rintro e w1 ⟨⟨v, rfl, _⟩, hb1⟩
      rw [hc]
      unfold verAgg
      go_wp2
      go_ret
      exact ⟨by simp [succF, hc], hb1.alloc hb1.size _⟩
    | true =>
      go_enter Tryz.func151, Tryz.ntmps151
      go_wp2_with fail
      refine (current_any p E vs _ HE.out hl).mono ?_
      rintro e w1 ⟨⟨v, rfl, _⟩, hb1⟩
      rw [hc]
      unfold verAgg
      go_wp2
      go_ret
      exact ⟨by simp [succF, hc], hb1.alloc hb1.size _⟩
  · have hk1 : ((k : Int) == 1) = false := beq_eq_false_iff_ne.2 (by omega)
    go_enter Tryz.func151, Tryz.ntmps151
    go_wp2
    go_ret
    exact ⟨by simp [succF, hk], Below.refl _ _⟩
set_option maxHeartbeats 4000000 in
theorem obstacle_any (p : Nat) (E : Ent) (vs : Value) (k t n : Nat) (key body : List UInt8) (w : World) (h : EntAt w p E vs) (hl : E.vers.length < 1000) :
    Calls Tryz.prog 149 #[.pointer (some ⟨p, 0, none⟩), recA k t key n body] w fun e w' => e = .returned (.int .i64 (obstF E k n : Nat)) ∧ Below w.heap.size w w' := by
  have hal : Below w.heap.size w (w.alloc (.cells #[.int .u8 k, .int .i64 t, .string ⟨key.toArray⟩, .int .i64 n, .string ⟨body.toArray⟩] 108)) := (Below.refl _ _).alloc (Nat.le_refl _) _
  have HE : Hid _ := h.below hal
  have HA : Hid _ := hal
  clear h hal
  by_cases hk : k = 3
  · subst hk
    go_enter Tryz.func149, Tryz.ntmps149
    go_wp2_with fail
    refine (place_any p E vs n _ HE.out (by omega)).mono ?_
    rintro e w1 ⟨rfl, hb1⟩
    have HB : Hid (Below w.heap.size w w1) := HA.out.trans (hb1.mono (by simp))
    clear hb1
    cases hv : vidx E.vers n with
    | none =>
      rw [vidxI_none hv]
      go_wp2
      go_ret
      exact ⟨by simp [obstF, hv], HB.out⟩
    | some i =>
      rw [vidxI_some hv]
      have hi0 : ((i : Int) < 0) = False := by simp
      go_wp2
      go_ret
      exact ⟨by simp [obstF, hv], HB.out⟩
  · have hk3 : ((k : Int) == 3) = false := beq_eq_false_iff_ne.2 (by omega)
    go_enter Tryz.func149, Tryz.ntmps149
    go_wp2_with fail
    refine (current_any p E vs _ HE.out hl).mono ?_
    rintro e w1 ⟨⟨v, rfl, _⟩, hb1⟩
    have hr1 : w1.heap[w.heap.size]? = some (.cells #[.int .u8 k, .int .i64 t, .string ⟨key.toArray⟩, .int .i64 n, .string ⟨body.toArray⟩] 108 (0, 0)) := (hb1.block _ (by simp)).trans (heap_alloc_new _ _)
    have r0 : w1.cell? ⟨w.heap.size, 0, none⟩ = some (.int .u8 k) := by simp [World.cell?, hr1]
    have hE1 := HE.out.below hb1
    have hlt := hE1.lt
    have hwl : w.heap.size < w1.heap.size := (Array.getElem?_eq_some_iff.1 hr1).1
    have HB : Hid (Below w.heap.size w w1) := HA.out.trans (hb1.mono (by simp))
    have HE1 : Hid _ := hE1.below ((Below.refl _ _).alloc (Nat.le_refl _) (.cells #[.int .i64 v.num, .int .i64 v.time, .bool v.mark, .string ⟨v.body.toArray⟩] 147))
    clear hb1 hr1 hE1
    unfold verAgg
    obtain ⟨c, hc⟩ : ∃ c, (curOf E).isSome = c := ⟨_, rfl⟩
    rw [hc]
    have HC : Hid _ := hc
    clear hc
    by_cases hf : 20 ≤ E.vers.length
    · have hfd : decide (20 ≤ (E.vers.length : Int)) = true := by simp; omega
      by_cases hk2 : k = 2
      · subst hk2
        cases c with
        | false =>
          go_wp2
          go_ret
          exact ⟨by simp [obstF, HC.out], HB.out.alloc HB.out.size _⟩
        | true =>
          go_wp2_with fail
          refine (isFull_any p E vs _ HE1.out).mono ?_
          rintro e w2 ⟨rfl, rfl⟩
          rw [hfd]
          go_wp2
          go_ret
          exact ⟨by simp [obstF, HC.out, hf], HB.out.alloc HB.out.size _⟩
      · have hk2i : ((k : Int) == 2) = false := beq_eq_false_iff_ne.2 (by omega)
        go_wp2_with fail
        refine (isFull_any p E vs _ HE1.out).mono ?_
        rintro e w2 ⟨rfl, rfl⟩
        rw [hfd]
        go_wp2
        go_ret
        exact ⟨by simp [obstF, hk, hk2, hf], HB.out.alloc HB.out.size _⟩
    · have hfd : decide (20 ≤ (E.vers.length : Int)) = false := by simp; omega
      by_cases hk2 : k = 2
      · subst hk2
        cases c with
        | false =>
          go_wp2
          go_ret
          exact ⟨by simp [obstF, HC.out], HB.out.alloc HB.out.size _⟩
        | true =>
          go_wp2_with fail
          refine (isFull_any p E vs _ HE1.out).mono ?_
          rintro e w2 ⟨rfl, rfl⟩
          rw [hfd]
          go_wp2
          go_ret
          exact ⟨by simp [obstF, HC.out, hf], HB.out.alloc HB.out.size _⟩
      · have hk2i : ((k : Int) == 2) = false := beq_eq_false_iff_ne.2 (by omega)
        go_wp2_with fail
        refine (isFull_any p E vs _ HE1.out).mono ?_
        rintro e w2 ⟨rfl, rfl⟩
        rw [hfd]
        go_wp2
        go_ret
        exact ⟨by simp [obstF, hk, hk2, hf], HB.out.alloc HB.out.size _⟩
end Go.Proofs.YtmehkneofinmiabGreatDoor

namespace Go.Proofs.YtmehkneofinmiabGreatDoor
open Go.RowKit
def numOf (E : Ent) (n : Nat) : Option Ver := match E.vers.find? (fun v => v.num == n) with
  | none => none
  | some v => if v.mark then none else some v
def aimF (E : Ent) (t : Tgt) : Option Ver := if t.kind = 2 then numOf E t.num else curOf E
theorem vidx_find (l : List Ver) (n : Nat) : (match vidx l n with | some i => l[i]? | none => none) = l.find? (fun v => v.num == n) := by
  induction l with
  | nil => rfl
  | cons a l ih =>
    unfold vidx at ih ⊢
    rw [List.findIdx?_cons, List.find?_cons]
    by_cases h : a.num = n
    · simp [h]
    · have h1 : ((a.num : Int) == (n : Int)) = false := beq_eq_false_iff_ne.2 (by omega)
      have h2 : (a.num == n) = false := beq_eq_false_iff_ne.2 h
      rw [h1, h2, if_neg (by simp)]
      rw [← ih]
      cases List.findIdx? (fun v : Ver => (v.num : Int) == (n : Int)) l <;> rfl
theorem numbered_any (p : Nat) (E : Ent) (vs : Value) (n : Nat) (w : World) (h : EntAt w p E vs) (hl : E.vers.length < 1000) :
    Calls Tryz.prog 99 #[.pointer (some ⟨p, 0, none⟩), .int .i64 n] w fun e w' => (∃ v : Ver, e = .returned (.tuple #[verAgg v, .bool (numOf E n).isSome]) ∧ (∀ u, numOf E n = some u → v = u)) ∧ Below w.heap.size w w' := by
  have hf := vidx_find E.vers n
  cases hv : vidx E.vers n with
  | none =>
    rw [hv] at hf
    refine (numbered_none p E vs n w h (by omega) hv).mono ?_
    rintro e w' ⟨rfl, hb⟩
    refine ⟨⟨⟨0, 0, false, []⟩, ?_, fun u hu => ?_⟩, hb⟩
    · simp only [numOf, ← hf]
      rfl
    · simp [numOf, ← hf] at hu
  | some i =>
    obtain ⟨v, hget, _⟩ := vidx_get hv
    rw [hv] at hf
    simp only [hget] at hf
    refine (numbered_some p E vs n w h (by omega) i v hv hget).mono ?_
    rintro e w' ⟨rfl, hb⟩
    refine ⟨⟨v, ?_, fun u hu => ?_⟩, hb⟩
    · cases hm : v.mark <;> simp [numOf, ← hf, hm]
    · cases hm : v.mark <;> simp [numOf, ← hf, hm] at hu
      exact hu
set_option maxRecDepth 100000 in
set_option maxHeartbeats 2000000 in
theorem aim_any (p : Nat) (E : Ent) (vs : Value) (t : Tgt) (w : World) (h : EntAt w p E vs) (hl : E.vers.length < 1000) :
    Calls Tryz.prog 67 #[.pointer (some ⟨p, 0, none⟩), tgV t] w fun e w' => (∃ v : Ver, e = .returned (.tuple #[verAgg v, .bool (aimF E t).isSome]) ∧ (∀ u, aimF E t = some u → v = u)) ∧ Below w.heap.size w w' := by
  have HE : Hid _ := h
  clear h
  unfold tgV
  by_cases hk : t.kind = 2
  · have hki : ((t.kind : Int) == 2) = true := by rw [hk]; rfl
    have ha : aimF E t = numOf E t.num := by simp [aimF, hk]
    rw [ha]
    clear ha
    go_enter Tryz.func67, Tryz.ntmps67
    go_wp2_with fail
    have hal : Below w.heap.size w ((w.alloc (.cells #[.int .i64 2, .string ⟨t.key.toArray⟩, .int .i64 (t.num : Int)] 68)).alloc (.cells #[.int .i64 0, .int .i64 0, .bool false, .string ⟨#[]⟩] 147)) := ((Below.refl _ _).alloc (Nat.le_refl _) _).alloc (by simp) _
    refine (numbered_any p E vs t.num _ (HE.out.below hal) hl).mono ?_
    rintro e w1 ⟨⟨v, rfl, hv⟩, hb1⟩
    have hz : w1.heap[w.heap.size + 1]? = some (.cells #[.int .i64 0, .int .i64 0, .bool false, .string ⟨#[]⟩] 147 (0, 0)) := by
      refine (hb1.block _ (by simp)).trans ?_
      have := heap_alloc_new (w.alloc (.cells #[.int .i64 2, .string ⟨t.key.toArray⟩, .int .i64 (t.num : Int)] 68)) (.cells #[.int .i64 0, .int .i64 0, .bool false, .string ⟨#[]⟩] 147)
      simpa using this
    have HB : Hid (Below w.heap.size w w1) := hal.trans (hb1.mono (by simp; omega))
    have HV : Hid _ := hv
    have HZ : Hid _ := hz
    obtain ⟨cc, hcc⟩ : ∃ x, (numOf E t.num).isSome = x := ⟨_, rfl⟩
    have HCC : Hid _ := hcc
    rw [hcc]
    clear hb1 hal hv hz hcc
    unfold verAgg
    go_wp2_with (refine wpList_store_row rfl 147 (.tmp 4) (.tmp 13) rfl (w.heap.size + 1) #[.int .i64 v.num, .int .i64 v.time, .bool v.mark, .string ⟨v.body.toArray⟩] rfl rfl 147 #[.int .i64 0, .int .i64 0, .bool false, .string ⟨#[]⟩] HZ.out hi154 rfl (by simp [Value.oneCell']) ?_)
    refine bodyPost_ret (v := .tuple #[verAgg v, .bool cc]) (results_row_tmp Tryz.results67 _ _ (w.heap.size + 1) _ _ _ _ rfl (setRow_heap _ _ _ _ _ _ HZ.out) Tryz.underlying147 rfl hi154) rfl ⟨⟨v, by rw [HCC.out], HV.out⟩, below_setRow HB.out (by omega) _⟩
  · have hki : ((t.kind : Int) == 2) = false := beq_eq_false_iff_ne.2 (by omega)
    have ha : aimF E t = curOf E := by simp [aimF, hk]
    rw [ha]
    clear ha
    go_enter Tryz.func67, Tryz.ntmps67
    go_wp2_with fail
    have hal : Below w.heap.size w ((w.alloc (.cells #[.int .i64 (t.kind : Int), .string ⟨t.key.toArray⟩, .int .i64 (t.num : Int)] 68)).alloc (.cells #[.int .i64 0, .int .i64 0, .bool false, .string ⟨#[]⟩] 147)) := ((Below.refl _ _).alloc (Nat.le_refl _) _).alloc (by simp) _
    refine (current_any p E vs _ (HE.out.below hal) hl).mono ?_
    rintro e w1 ⟨⟨v, rfl, hv⟩, hb1⟩
    have hz : w1.heap[w.heap.size + 1]? = some (.cells #[.int .i64 0, .int .i64 0, .bool false, .string ⟨#[]⟩] 147 (0, 0)) := by
      refine (hb1.block _ (by simp)).trans ?_
      have := heap_alloc_new (w.alloc (.cells #[.int .i64 (t.kind : Int), .string ⟨t.key.toArray⟩, .int .i64 (t.num : Int)] 68)) (.cells #[.int .i64 0, .int .i64 0, .bool false, .string ⟨#[]⟩] 147)
      simpa using this
    have HB : Hid (Below w.heap.size w w1) := hal.trans (hb1.mono (by simp; omega))
    have HV : Hid _ := hv
    have HZ : Hid _ := hz
    obtain ⟨cc, hcc⟩ : ∃ x, (curOf E).isSome = x := ⟨_, rfl⟩
    have HCC : Hid _ := hcc
    rw [hcc]
    clear hb1 hal hv hz hcc
    unfold verAgg
    go_wp2_with (refine wpList_store_row rfl 147 (.tmp 4) (.tmp 17) rfl (w.heap.size + 1) #[.int .i64 v.num, .int .i64 v.time, .bool v.mark, .string ⟨v.body.toArray⟩] rfl rfl 147 #[.int .i64 0, .int .i64 0, .bool false, .string ⟨#[]⟩] HZ.out hi154 rfl (by simp [Value.oneCell']) ?_)
    refine bodyPost_ret (v := .tuple #[verAgg v, .bool cc]) (results_row_tmp Tryz.results67 _ _ (w.heap.size + 1) _ _ _ _ rfl (setRow_heap _ _ _ _ _ _ HZ.out) Tryz.underlying147 rfl hi154) rfl ⟨⟨v, by rw [HCC.out], HV.out⟩, below_setRow HB.out (by omega) _⟩
end Go.Proofs.YtmehkneofinmiabGreatDoor

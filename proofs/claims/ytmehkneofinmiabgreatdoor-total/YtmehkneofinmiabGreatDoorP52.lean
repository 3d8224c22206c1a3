/-
  Texts of this proof, part 52.
-/
import Derived.Test.YtmehkneofinmiabGreatDoorP51
import Derived.Test.YtmehkneofinmiabGreatDoorP06
import Derived.Test.YtmehkneofinmiabGreatDoorP35
import Derived.Deep.RegionHeld3
import Derived.Laws.BitsLemmas
namespace Go.Proofs.YtmehkneofinmiabGreatDoor
open Go.RowKit
theorem wrapU64 (n : Int) (h0 : 0 ≤ n) (h1 : n < 2 ^ 64) : IntKind.u64.wrap n = n := by
  have : IntKind.u64.wrap n = n % 18446744073709551616 := by simp [IntKind.wrap, IntKind.bits, IntKind.signed]
  rw [this]
  omega
theorem or8 (F c : Nat) (hF : F < 72057594037927936) (hc : c < 256) : bits .or .u64 ((F : Int) * 256) (c : Int) = ((F * 256 + c : Nat) : Int) := by
  rw [bits_join .u64 64 (by decide) wrapU64 8 ((F : Int) * 256) c (by omega) (by omega) (by omega) (by omega) (by omega) (by omega)]
  omega
theorem extL (L : List UInt8) (a b : Nat) : (⟨L.toArray⟩ : ByteArray).extract a b = ⟨((L.drop a).take (b - a)).toArray⟩ := by
  apply ByteArray.ext
  apply Array.toList_inj.1
  rw [Lib.extract_data]
def RdrAt (w : World) (p : Nat) (s : Rdr) : Prop := w.heap[p]? = some (.cells #[.string ⟨s.rest.toArray⟩, .bool s.short] 213 (0, 0))
theorem rdr_cells {w : World} {p : Nat} {s : Rdr} (h : RdrAt w p s) : w.cell? ⟨p, 0, none⟩ = some (.string ⟨s.rest.toArray⟩) ∧ w.cell? ⟨p, 1, none⟩ = some (.bool s.short) := by
  unfold RdrAt at h
  simp [World.cell?, h]
set_option maxRecDepth 100000 in
set_option maxHeartbeats 4000000 in
theorem rtext_any (p n : Nat) (s : Rdr) (w : World) (h : RdrAt w p s) (hn : n ≤ 9223372036854775807) :
    Calls Tryz.prog 124 #[.pointer (some ⟨p, 0, none⟩), .int .i64 n] w fun e w' => e = .returned (.string ⟨(s.text n).toArray⟩) ∧ RdrAt w' p (s.go n) ∧ Off (fun k => k = p) w w' ∧ w'.heap.size = w.heap.size := by
  obtain ⟨c0, c1⟩ := rdr_cells h
  have f0 : w.frozen? ⟨p, 0, none⟩ = false := by simp [World.frozen?, show w.heap[p]? = _ from h]
  have f1 : w.frozen? ⟨p, 1, none⟩ = false := by simp [World.frozen?, show w.heap[p]? = _ from h]
  have HR : Hid _ := h
  have hlt : p < w.heap.size := (Array.getElem?_eq_some_iff.1 h).1
  clear h
  have hsz : (⟨s.rest.toArray⟩ : ByteArray).size = s.rest.length := by rw [Lib.size_eq]
  go_enter Tryz.func124, Tryz.ntmps124
  by_cases hs : s.rest.length < n
  · have hsI : (s.rest.length : Int) < (n : Int) := by omega
    have HT : Hid (s.text n = []) := by show _ = _; unfold Rdr.text; rw [if_pos hs]
    have HG : Hid (s.go n = ⟨[], true⟩) := by show _ = _; unfold Rdr.go; rw [if_pos hs]
    go_wp2
    go_ret
    exact ⟨by rw [HT.out]; rfl, by rw [HG.out]; exact heap_set (heap_set HR.out), ((Off.refl (fun k => k = p) _).set p 0 _ (Or.inl rfl)).set p 1 _ (Or.inl rfl), by simp⟩
  · have hsI : ¬ (s.rest.length : Int) < (n : Int) := by omega
    have HT : Hid (s.text n = s.rest.take n) := by show _ = _; unfold Rdr.text; rw [if_neg hs]
    have HG : Hid (s.go n = ⟨s.rest.drop n, s.short⟩) := by show _ = _; unfold Rdr.go; rw [if_neg hs]
    go_wp2
    go_ret
    refine ⟨?_, ?_, (Off.refl (fun k => k = p) _).set p 0 _ (Or.inl rfl), by simp⟩
    · rw [HT.out, extL]
      simp
    · rw [HG.out]
      have := heap_set (i := 0) (v := .string ⟨(s.rest.drop n).toArray⟩) HR.out
      have e : (⟨s.rest.toArray⟩ : ByteArray).extract n s.rest.length = ⟨(s.rest.drop n).toArray⟩ := by
        rw [extL, List.take_of_length_le (by simp)]
      rw [e]
      exact this
set_option maxRecDepth 100000 in
set_option maxHeartbeats 4000000 in
theorem rnumber_any (p n : Nat) (s : Rdr) (w : World) (h : RdrAt w p s) (hn : n ≤ 8) :
    Calls Tryz.prog 125 #[.pointer (some ⟨p, 0, none⟩), .int .i64 n] w fun e w' => e = .returned (.int .u64 (unbe (s.text n) : Nat)) ∧ RdrAt w' p (s.go n) ∧ Off (fun k => k = p) w w' ∧ w'.heap.size = w.heap.size := by
  have HT : Hid _ := rtext_any p n s w h (by omega)
  have htl : (s.text n).length ≤ 8 := by
    unfold Rdr.text
    split
    · simp
    · rw [List.length_take]
      omega
  obtain ⟨T, hT⟩ : ∃ T, s.text n = T := ⟨_, rfl⟩
  rw [hT] at htl HT ⊢
  obtain ⟨S, hS⟩ : ∃ S : ByteArray, S = ⟨T.toArray⟩ := ⟨_, rfl⟩
  have hd : S.data.toList = T := by rw [hS]
  have hsz : S.size = T.length := by rw [hS]; exact List.size_toArray
  rw [← hS] at HT
  rw [← hd]
  have hsl : S.size ≤ 8 := by omega
  clear hS hsz hd htl hT h
  go_enter Tryz.func125, Tryz.ntmps125
  go_wp2_with (go_at_call 124; refine Calls.mono HT.out ?_; rintro e w1 ⟨rfl, r1, o1, z1⟩)
  have HR : Hid _ := r1
  have HO : Hid _ := o1
  have HZ : Hid _ := z1
  clear r1 o1 z1 HT
  go_loop [6, 13] (fun nn i => ∃ k : Nat, k ≤ S.size ∧ i = .int .i64 k ∧ nn = .int .u64 ((unbe (S.data.toList.take k) : Nat) : Int)) (fun _ i => S.size - (intOf i).toNat)
  case atStart => exact ⟨0, Nat.zero_le _, rfl, rfl⟩
  case round =>
    obtain ⟨k, hk, rfl, rfl⟩ := hrel
    by_cases hlt : k < S.size
    · have hF7 : unbe (S.data.toList.take k) < 72057594037927936 := by
        have h1 := unbe_lt (S.data.toList.take k)
        have h2 : (S.data.toList.take k).length ≤ 7 := by rw [List.length_take]; omega
        have h3 : 256 ^ (S.data.toList.take k).length ≤ 256 ^ 7 := Nat.pow_le_pow_right (by omega) h2
        omega
      have HX : Hid (unbe (S.data.toList.take (k + 1)) = unbe (S.data.toList.take k) * 256 + S[k].toNat) := by
        show _ = _
        rw [take_snoc S k hlt, unbe_snoc]
      obtain ⟨F, hF⟩ : ∃ F, unbe (S.data.toList.take k) = F := ⟨_, rfl⟩
      rw [hF] at hF7 HX ⊢
      have hc := (S[k]).toNat_lt
      have HB : Hid _ := or8 F S[k].toNat hF7 (by omega)
      go_wp2
      exact ⟨⟨k + 1, by omega, by go_num, by rw [HB.out, HX.out]⟩, by simp [intOf]; omega⟩
    · obtain rfl : k = S.size := by omega
      rw [List.take_of_length_le (by rw [Lib.size_eq]; exact Nat.le_refl _)]
      go_wp2
      go_ret
      exact ⟨rfl, HR.out, HO.out, HZ.out⟩
end Go.Proofs.YtmehkneofinmiabGreatDoor

namespace Go.Proofs.YtmehkneofinmiabGreatDoor
open Go.RowKit
set_option maxHeartbeats 1000000 in
theorem kfits_any (k : Nat) (b : List UInt8) (w : World) (hb : b.length ≤ 9223372036854775807) : Calls Tryz.prog 174 #[.int .u8 k, .string ⟨b.toArray⟩] w fun e w' => e = .returned (.bool (kfitF k b)) ∧ w' = w := by
  have hsz : (⟨b.toArray⟩ : ByteArray).size = b.length := by rw [Lib.size_eq]
  go_enter Tryz.func174, Tryz.ntmps174
  by_cases h1 : k = 1
  · subst h1
    have HF : Hid (kfitF 1 b = decide ((b.length : Int) ≤ 400)) := by
      show _ = _
      unfold kfitF
      rw [if_pos rfl]
      apply decide_eq_decide.2
      omega
    go_wp2
    go_ret
    exact ⟨by rw [HF.out]; rfl, rfl⟩
  · by_cases h2 : k = 2 ∨ k = 3
    · have HF : Hid (kfitF k b = b.isEmpty) := by
        show _ = _
        unfold kfitF
        rw [if_neg h1, if_pos h2]
      have h1' : ¬ (k : Int) = 1 := by omega
      rcases h2 with rfl | rfl
      · go_wp2
        go_ret
        exact ⟨by rw [HF.out]; rfl, rfl⟩
      · go_wp2
        go_ret
        exact ⟨by rw [HF.out]; rfl, rfl⟩
    · have HF : Hid (kfitF k b = false) := by
        show _ = _
        unfold kfitF
        rw [if_neg h1, if_neg h2]
      have h1' : ¬ (k : Int) = 1 := by omega
      have h2' : ¬ (k : Int) = 2 := by omega
      have h3' : ¬ (k : Int) = 3 := by omega
      go_wp2
      go_ret
      exact ⟨by rw [HF.out]; rfl, rfl⟩
theorem go_rest_le (s : Rdr) (n : Nat) : (s.go n).rest.length ≤ s.rest.length := by
  unfold Rdr.go
  split
  · simp
  · simp
theorem text_le2 (s : Rdr) (n : Nat) : (s.text n).length ≤ n := by
  unfold Rdr.text
  split
  · simp
  · rw [List.length_take]; omega
theorem unbe_le (s : Rdr) (n : Nat) : unbe (s.text n) < 256 ^ n := Nat.lt_of_lt_of_le (unbe_lt _) (Nat.pow_le_pow_right (by omega) (text_le2 s n))
def payOut (p : List UInt8) : Value := if payOK p then recA (payRec p).kind (payRec p).time (payRec p).key (payRec p).num (payRec p).body else recA 0 0 [] 0 []
theorem payOut_no {p : List UInt8} (h : payOK p = false) : payOut p = recA 0 0 [] 0 [] := by unfold payOut; rw [if_neg (by rw [h]; decide)]
theorem payOut_yes {p : List UInt8} (h : payOK p = true) : payOut p = recA (payRec p).kind (payRec p).time (payRec p).key (payRec p).num (payRec p).body := by unfold payOut; rw [if_pos h]
structure Rp (w x : World) (s : Rdr) : Prop where
  low : Below w.heap.size w x
  rcd : x.heap[w.heap.size]? = some (.cells #[.int .u8 0, .int .i64 0, .string ⟨#[]⟩, .int .i64 0, .string ⟨#[]⟩] 108 (0, 0))
  rdr : RdrAt x (w.heap.size + 1) s
theorem Rp.next {w x y : World} {s s' : Rdr} (h : Rp w x s) (o : Off (fun k => k = w.heap.size + 1) x y) (r : RdrAt y (w.heap.size + 1) s') : Rp w y s' :=
  ⟨⟨o.os.trans h.low.os, o.tape.trans h.low.tape, o.output.trans h.low.output, Nat.le_trans h.low.size o.size, fun k hk => (o.block k (Nat.lt_of_lt_of_le hk h.low.size) (by omega)).trans (h.low.block k hk)⟩,
   (o.block _ (Array.getElem?_eq_some_iff.1 h.rcd).1 (by omega)).trans h.rcd, r⟩
set_option maxRecDepth 100000 in
set_option maxHeartbeats 4000000 in
theorem readPayload_any (p : List UInt8) (w : World) (hp : p.length < 65536) :
    Calls Tryz.prog 127 #[.string ⟨p.toArray⟩] w fun e w' => e = .returned (.tuple #[payOut p, .bool (payOK p)]) ∧ Below w.heap.size w w' := by
  have R0 : Rp w ((w.alloc (.cells #[.int .u8 0, .int .i64 0, .string ⟨#[]⟩, .int .i64 0, .string ⟨#[]⟩] 108)).alloc (.cells #[.string ⟨p.toArray⟩, .bool false] 213)) ⟨p, false⟩ :=
    ⟨((Below.refl _ _).alloc (Nat.le_refl _) _).alloc (by simp) _, (heap_alloc_old _ _ (by simp)).trans (heap_alloc_new _ _), by have := heap_alloc_new (w.alloc (.cells #[.int .u8 0, .int .i64 0, .string ⟨#[]⟩, .int .i64 0, .string ⟨#[]⟩] 108)) (.cells #[.string ⟨p.toArray⟩, .bool false] 213); simpa [RdrAt] using this⟩
  have l1 := unbe_le ⟨p, false⟩ 1
  have l2 := unbe_le (pay1 p) 8
  have l3 := unbe_le (pay2 p) 1
  have l4 := unbe_le (pay4 p) 4
  have HR0 : Hid _ := R0
  clear R0
  go_enter Tryz.func127, Tryz.ntmps127
  go_wp2_with fail
  refine Calls.mono (rnumber_any _ 1 _ _ HR0.out.rdr (by omega)) ?_
  rintro e x1 ⟨rfl, r1, o1, z1⟩
  have HR1 : Hid (Rp w x1 (pay1 p)) := HR0.out.next o1 r1
  clear r1 o1 z1 HR0
  go_wp2_with fail
  refine Calls.mono (rnumber_any _ 8 _ _ HR1.out.rdr (by omega)) ?_
  rintro e x2 ⟨rfl, r2, o2, z2⟩
  have HR2 : Hid (Rp w x2 (pay2 p)) := HR1.out.next o2 r2
  clear r2 o2 z2 HR1
  go_wp2_with fail
  refine Calls.mono (rnumber_any _ 1 _ _ HR2.out.rdr (by omega)) ?_
  rintro e x3 ⟨rfl, r3, o3, z3⟩
  have HR3 : Hid (Rp w x3 (pay3 p)) := HR2.out.next o3 r3
  clear r3 o3 z3 HR2
  go_wp2_with fail
  refine Calls.mono (rtext_any _ _ _ _ HR3.out.rdr (by omega)) ?_
  rintro e x4 ⟨rfl, r4, o4, z4⟩
  have HR4 : Hid (Rp w x4 (pay4 p)) := HR3.out.next o4 r4
  clear r4 o4 z4 HR3
  go_wp2_with fail
  refine Calls.mono (rnumber_any _ 4 _ _ HR4.out.rdr (by omega)) ?_
  rintro e x5 ⟨rfl, r5, o5, z5⟩
  have HR5 : Hid (Rp w x5 (pay5 p)) := HR4.out.next o5 r5
  clear r5 o5 z5 HR4
  have hkl : ((pay3 p).text (unbe ((pay2 p).text 1))).length ≤ 255 := Nat.le_trans (text_le2 _ _) (by omega)
  have hbl : (pay5 p).rest.length < 65536 := by
    have h1 : (pay1 p).rest.length ≤ p.length := go_rest_le ⟨p, false⟩ 1
    have h2 : (pay2 p).rest.length ≤ (pay1 p).rest.length := go_rest_le _ _
    have h3 : (pay3 p).rest.length ≤ (pay2 p).rest.length := go_rest_le _ _
    have h4 : (pay4 p).rest.length ≤ (pay3 p).rest.length := go_rest_le _ _
    have h5 : (pay5 p).rest.length ≤ (pay4 p).rest.length := go_rest_le _ _
    omega
  have HOK : Hid (payOK p = (!(pay5 p).short && (decide (unbe ((pay1 p).text 8) ≤ 253402300799) && (keyOK ((pay3 p).text (unbe ((pay2 p).text 1))) && kfitF (unbe ((Rdr.mk p false).text 1)) (pay5 p).rest)))) := rfl
  have HRC : Hid (recA (payRec p).kind (payRec p).time (payRec p).key (payRec p).num (payRec p).body = recA (unbe ((Rdr.mk p false).text 1)) (unbe ((pay1 p).text 8)) ((pay3 p).text (unbe ((pay2 p).text 1))) (unbe ((pay4 p).text 4)) (pay5 p).rest) := rfl
  obtain ⟨kd, hkd⟩ : ∃ x, unbe ((Rdr.mk p false).text 1) = x := ⟨_, rfl⟩
  obtain ⟨tm, htm⟩ : ∃ x, unbe ((pay1 p).text 8) = x := ⟨_, rfl⟩
  obtain ⟨ln, hln⟩ : ∃ x, unbe ((pay2 p).text 1) = x := ⟨_, rfl⟩
  rw [hln] at hkl HOK HRC l3
  obtain ⟨ky, hky⟩ : ∃ x, (pay3 p).text ln = x := ⟨_, rfl⟩
  obtain ⟨nm, hnm⟩ : ∃ x, unbe ((pay4 p).text 4) = x := ⟨_, rfl⟩
  obtain ⟨s5, hs5⟩ : ∃ x, pay5 p = x := ⟨_, rfl⟩
  obtain ⟨bd, sh⟩ := s5
  rw [hs5] at HR5 hbl HOK HRC
  rw [hkd] at l1 HOK HRC
  rw [htm] at l2 HOK HRC
  rw [hky] at hkl HOK HRC
  rw [hnm] at l4 HRC
  rw [hkd, htm, hln, hky, hnm]
  have q5 := rdr_cells HR5.out.rdr
  have HRB : Hid _ := HR5.out.rcd
  have lt5 : w.heap.size + 1 < x5.heap.size := (Array.getElem?_eq_some_iff.1 HR5.out.rdr).1
  clear hkd htm hln hky hnm hs5
  dsimp only at hbl HOK HRC q5
  obtain ⟨q50, q51⟩ := q5
  have HKC : Hid (∀ y, Calls Tryz.prog 130 #[.string ⟨ky.toArray⟩] y fun e w' => e = .returned (.bool (keyOK ky)) ∧ w' = y) := fun y => key_any ky y (by omega)
  have HFC : Hid (∀ y, Calls Tryz.prog 174 #[.int .u8 kd, .string ⟨bd.toArray⟩] y fun e w' => e = .returned (.bool (kfitF kd bd)) ∧ w' = y) := fun y => kfits_any kd bd y (by omega)
  obtain ⟨kb, hkb⟩ : ∃ x, keyOK ky = x := ⟨_, rfl⟩
  obtain ⟨fb, hfb⟩ : ∃ x, kfitF kd bd = x := ⟨_, rfl⟩
  rw [hkb] at HKC HOK
  rw [hfb] at HFC HOK
  clear hkb hfb
  cases sh with
  | true =>
    have HN : Hid (payOK p = false) := by show _ = _; rw [HOK.out]; rfl
    go_wp2_with (first
      | (go_at_call 130; refine Calls.mono (HKC.out _) ?_; rintro e w9 ⟨rfl, rfl⟩)
      | (go_at_call 174; refine Calls.mono (HFC.out _) ?_; rintro e w9 ⟨rfl, rfl⟩)
      | refine wpList_store_row rfl 108 (.tmp 2) (.tmp 38) rfl w.heap.size #[.int .u8 0, .int .i64 0, .string ⟨#[]⟩, .int .i64 0, .string ⟨#[]⟩] rfl rfl 108 #[.int .u8 0, .int .i64 0, .string ⟨#[]⟩, .int .i64 0, .string ⟨#[]⟩] HRB.out hiRec rfl (by simp [Value.oneCell']) ?_)
    refine bodyPost_ret (v := .tuple #[recA 0 0 [] 0 [], .bool false]) (results_row_tmp Tryz.results127 _ _ w.heap.size _ _ _ _ rfl (setRow_heap _ _ _ _ _ _ HRB.out) Tryz.underlying108 rfl hiRec) rfl ⟨?_, below_setRow HR5.out.low (Nat.le_refl _) _⟩
    rw [HN.out, payOut_no HN.out]
  | false =>
    by_cases htm : tm ≤ 253402300799
    · have htI : ¬ (253402300799 : Int) < (tm : Int) := by omega
      have HO2 : Hid (payOK p = (kb && fb)) := by show _ = _; rw [HOK.out]; simp [htm]
      cases kb with
      | false =>
        have HN : Hid (payOK p = false) := by show _ = _; rw [HO2.out]; rfl
        go_wp2_with (first
          | (go_at_call 130; refine Calls.mono (HKC.out _) ?_; rintro e w9 ⟨rfl, rfl⟩)
          | (go_at_call 174; refine Calls.mono (HFC.out _) ?_; rintro e w9 ⟨rfl, rfl⟩)
          | refine wpList_store_row rfl 108 (.tmp 2) (.tmp 38) rfl w.heap.size #[.int .u8 0, .int .i64 0, .string ⟨#[]⟩, .int .i64 0, .string ⟨#[]⟩] rfl rfl 108 #[.int .u8 0, .int .i64 0, .string ⟨#[]⟩, .int .i64 0, .string ⟨#[]⟩] HRB.out hiRec rfl (by simp [Value.oneCell']) ?_)
        refine bodyPost_ret (v := .tuple #[recA 0 0 [] 0 [], .bool false]) (results_row_tmp Tryz.results127 _ _ w.heap.size _ _ _ _ rfl (setRow_heap _ _ _ _ _ _ HRB.out) Tryz.underlying108 rfl hiRec) rfl ⟨?_, below_setRow HR5.out.low (Nat.le_refl _) _⟩
        rw [HN.out, payOut_no HN.out]
      | true =>
        cases fb with
        | false =>
          have HN : Hid (payOK p = false) := by show _ = _; rw [HO2.out]; rfl
          go_wp2_with (first
            | (go_at_call 130; refine Calls.mono (HKC.out _) ?_; rintro e w9 ⟨rfl, rfl⟩)
            | (go_at_call 174; refine Calls.mono (HFC.out _) ?_; rintro e w9 ⟨rfl, rfl⟩)
            | refine wpList_store_row rfl 108 (.tmp 2) (.tmp 38) rfl w.heap.size #[.int .u8 0, .int .i64 0, .string ⟨#[]⟩, .int .i64 0, .string ⟨#[]⟩] rfl rfl 108 #[.int .u8 0, .int .i64 0, .string ⟨#[]⟩, .int .i64 0, .string ⟨#[]⟩] HRB.out hiRec rfl (by simp [Value.oneCell']) ?_)
          refine bodyPost_ret (v := .tuple #[recA 0 0 [] 0 [], .bool false]) (results_row_tmp Tryz.results127 _ _ w.heap.size _ _ _ _ rfl (setRow_heap _ _ _ _ _ _ HRB.out) Tryz.underlying108 rfl hiRec) rfl ⟨?_, below_setRow HR5.out.low (Nat.le_refl _) _⟩
          rw [HN.out, payOut_no HN.out]
        | true =>
          have HN : Hid (payOK p = true) := by show _ = _; rw [HO2.out]; rfl
          go_wp2_with (first
            | (go_at_call 130; refine Calls.mono (HKC.out _) ?_; rintro e w9 ⟨rfl, rfl⟩)
            | (go_at_call 174; refine Calls.mono (HFC.out _) ?_; rintro e w9 ⟨rfl, rfl⟩)
            | refine wpList_store_row rfl 108 (.tmp 2) (.tmp 46) rfl w.heap.size #[.int .u8 kd, .int .i64 tm, .string ⟨ky.toArray⟩, .int .i64 nm, .string ⟨bd.toArray⟩] rfl rfl 108 #[.int .u8 0, .int .i64 0, .string ⟨#[]⟩, .int .i64 0, .string ⟨#[]⟩] HRB.out hiRec rfl (by simp [Value.oneCell']) ?_)
          refine bodyPost_ret (v := .tuple #[recA kd tm ky nm bd, .bool true]) (results_row_tmp Tryz.results127 _ _ w.heap.size _ _ _ _ rfl (setRow_heap _ _ _ _ _ _ HRB.out) Tryz.underlying108 rfl hiRec) rfl ⟨?_, below_setRow HR5.out.low (Nat.le_refl _) _⟩
          rw [HN.out, payOut_yes HN.out, HRC.out]
    · have htI : (253402300799 : Int) < (tm : Int) := by omega
      have HN : Hid (payOK p = false) := by show _ = _; rw [HOK.out]; simp [htm]
      go_wp2_with (first
        | (go_at_call 130; refine Calls.mono (HKC.out _) ?_; rintro e w9 ⟨rfl, rfl⟩)
        | (go_at_call 174; refine Calls.mono (HFC.out _) ?_; rintro e w9 ⟨rfl, rfl⟩)
        | refine wpList_store_row rfl 108 (.tmp 2) (.tmp 38) rfl w.heap.size #[.int .u8 0, .int .i64 0, .string ⟨#[]⟩, .int .i64 0, .string ⟨#[]⟩] rfl rfl 108 #[.int .u8 0, .int .i64 0, .string ⟨#[]⟩, .int .i64 0, .string ⟨#[]⟩] HRB.out hiRec rfl (by simp [Value.oneCell']) ?_)
      refine bodyPost_ret (v := .tuple #[recA 0 0 [] 0 [], .bool false]) (results_row_tmp Tryz.results127 _ _ w.heap.size _ _ _ _ rfl (setRow_heap _ _ _ _ _ _ HRB.out) Tryz.underlying108 rfl hiRec) rfl ⟨?_, below_setRow HR5.out.low (Nat.le_refl _) _⟩
      rw [HN.out, payOut_no HN.out]
end Go.Proofs.YtmehkneofinmiabGreatDoor

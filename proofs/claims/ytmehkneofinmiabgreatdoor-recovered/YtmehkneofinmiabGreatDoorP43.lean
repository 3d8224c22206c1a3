/-
 Texts of this proof, part 43.
-/
import Derived.Test.YtmehkneofinmiabGreatDoorP42
set_option maxRecDepth 100000
set_option maxHeartbeats 4000000
namespace Go.Proofs.YtmehkneofinmiabGreatDoor
open Go.RowKit
theorem kfits_any (k : Nat) (b : List UInt8) (w : World) (hb : b.length <= 9223372036854775807) : Calls Tryz.prog 174 #[.int .u8 k, .string ⟨b.toArray⟩] w fun e w' => e = .returned (.bool (kfitF k b)) /\ w' = w := by
 have hsz : (⟨b.toArray⟩ : ByteArray).size = b.length := by rw [Lib.size_eq]
 go_enter Tryz.func174, Tryz.ntmps174
 by_cases h1 : k = 1
 ·subst h1
  have HF : Hid (kfitF 1 b = decide ((b.length : Int) <= 400)) := by
   show _ = _
   unfold kfitF
   rw [if_pos rfl]
   apply decide_eq_decide.2
   omega
  go_wp2
  go_ret
  exact ⟨by rw [HF.out]; rfl, rfl⟩
 ·by_cases h2 : k = 2 \/ k = 3
  ·have HF : Hid (kfitF k b = b.isEmpty) := by
    show _ = _
    unfold kfitF
    rw [if_neg h1, if_pos h2]
   have h1' : ¬ (k : Int) = 1 := by omega
   rcases h2 with rfl | rfl
   ·go_wp2
    go_ret
    exact ⟨by rw [HF.out]; rfl, rfl⟩
   ·go_wp2
    go_ret
    exact ⟨by rw [HF.out]; rfl, rfl⟩
  ·have HF : Hid (kfitF k b = false) := by
    show _ = _
    unfold kfitF
    rw [if_neg h1, if_neg h2]
   have h1' : ¬ (k : Int) = 1 := by omega
   have h2' : ¬ (k : Int) = 2 := by omega
   have h3' : ¬ (k : Int) = 3 := by omega
   go_wp2
   go_ret
   exact ⟨by rw [HF.out]; rfl, rfl⟩
theorem go_rest_le (s : Rdr) (n : Nat) : (s.go n).rest.length <= s.rest.length := by
 unfold Rdr.go
 split
 ·simp
 ·simp
theorem text_le2 (s : Rdr) (n : Nat) : (s.text n).length <= n := by
 unfold Rdr.text
 split
 ·simp
 ·rw [List.length_take]; omega
theorem unbe_le (s : Rdr) (n : Nat) : unbe (s.text n) < 256 ^ n := Nat.lt_of_lt_of_le (unbe_lt _) (Nat.pow_le_pow_right (by omega) (text_le2 s n))
def payOut (p : List UInt8) : Value := if payOK p then recA (payRec p).kind (payRec p).time (payRec p).key (payRec p).num (payRec p).body else recA 0 0 [] 0 []
theorem payOut_no {p : List UInt8} (h : payOK p = false) : payOut p = recA 0 0 [] 0 [] := by unfold payOut; rw [if_neg (by rw [h]; decide)]
theorem payOut_yes {p : List UInt8} (h : payOK p = true) : payOut p = recA (payRec p).kind (payRec p).time (payRec p).key (payRec p).num (payRec p).body := by unfold payOut; rw [if_pos h]
structure Rp (w x : World) (s : Rdr) : Prop where
 low : Below w.heap.size w x
 rcd : x.heap[w.heap.size]? = some (.cells #[.int .u8 0, .int .i64 0, .string ⟨#[]⟩, .int .i64 0, .string ⟨#[]⟩] 108 (0, 0))
 rdr : RdrAt x (w.heap.size + 1) s
theorem Rp.next {w x y : World} {s s' : Rdr} (h : Rp w x s) (o : Off (fun k => k = w.heap.size + 1) x y) (r : RdrAt y (w.heap.size + 1) s') : Rp w y s' :=
 ⟨⟨o.os.trans h.low.os, o.tape.trans h.low.tape, o.output.trans h.low.output, Nat.le_trans h.low.size o.size, fun k hk => (o.block k (Nat.lt_of_lt_of_le hk h.low.size) (by omega)).trans (h.low.block k hk)⟩,
  (o.block _ (Array.getElem?_eq_some_iff.1 h.rcd).1 (by omega)).trans h.rcd, r⟩
theorem readPayload_any (p : List UInt8) (w : World) (hp : p.length < 65536) :
 Calls Tryz.prog 127 #[.string ⟨p.toArray⟩] w fun e w' => e = .returned (.tuple #[payOut p, .bool (payOK p)]) /\ Below w.heap.size w w' := by
 have R0 : Rp w ((w.alloc (.cells #[.int .u8 0, .int .i64 0, .string ⟨#[]⟩, .int .i64 0, .string ⟨#[]⟩] 108)).alloc (.cells #[.string ⟨p.toArray⟩, .bool false] 213)) ⟨p, false⟩ :=
  ⟨((Below.refl _ _).alloc (Nat.le_refl _) _).alloc (by simp) _, (heap_alloc_old _ _ (by simp)).trans (heap_alloc_new _ _), by have := heap_alloc_new (w.alloc (.cells #[.int .u8 0, .int .i64 0, .string ⟨#[]⟩, .int .i64 0, .string ⟨#[]⟩] 108)) (.cells #[.string ⟨p.toArray⟩, .bool false] 213); simpa [RdrAt] using this⟩
 have l1 := unbe_le ⟨p, false⟩ 1
 have l2 := unbe_le (pay1 p) 8
 have l3 := unbe_le (pay2 p) 1
 have l4 := unbe_le (pay4 p) 4
 have HR0 : Hid _ := R0
 clear R0
 go_enter Tryz.func127, Tryz.ntmps127
 go_wp2_with fail
 refine Calls.mono (rnumber_any _ 1 _ _ HR0.out.rdr (by omega)) ?_
 rintro e x1 ⟨rfl, r1, o1, z1⟩
 have HR1 : Hid (Rp w x1 (pay1 p)) := HR0.out.next o1 r1
 clear r1 o1 z1 HR0
 go_wp2_with fail
 refine Calls.mono (rnumber_any _ 8 _ _ HR1.out.rdr (by omega)) ?_
 rintro e x2 ⟨rfl, r2, o2, z2⟩
 have HR2 : Hid (Rp w x2 (pay2 p)) := HR1.out.next o2 r2
 clear r2 o2 z2 HR1
 go_wp2_with fail
 refine Calls.mono (rnumber_any _ 1 _ _ HR2.out.rdr (by omega)) ?_
 rintro e x3 ⟨rfl, r3, o3, z3⟩
 have HR3 : Hid (Rp w x3 (pay3 p)) := HR2.out.next o3 r3
 clear r3 o3 z3 HR2
 go_wp2_with fail
 refine Calls.mono (rtext_any _ _ _ _ HR3.out.rdr (by omega)) ?_
 rintro e x4 ⟨rfl, r4, o4, z4⟩
 have HR4 : Hid (Rp w x4 (pay4 p)) := HR3.out.next o4 r4
 clear r4 o4 z4 HR3
 go_wp2_with fail
 refine Calls.mono (rnumber_any _ 4 _ _ HR4.out.rdr (by omega)) ?_
 rintro e x5 ⟨rfl, r5, o5, z5⟩
 have HR5 : Hid (Rp w x5 (pay5 p)) := HR4.out.next o5 r5
 clear r5 o5 z5 HR4
 have hkl : ((pay3 p).text (unbe ((pay2 p).text 1))).length <= 255 := Nat.le_trans (text_le2 _ _) (by omega)
 have hbl : (pay5 p).rest.length < 65536 := by
  have h1 : (pay1 p).rest.length <= p.length := go_rest_le ⟨p, false⟩ 1
  have h2 : (pay2 p).rest.length <= (pay1 p).rest.length := go_rest_le _ _
  have h3 : (pay3 p).rest.length <= (pay2 p).rest.length := go_rest_le _ _
  have h4 : (pay4 p).rest.length <= (pay3 p).rest.length := go_rest_le _ _
  have h5 : (pay5 p).rest.length <= (pay4 p).rest.length := go_rest_le _ _
  omega
 have HOK : Hid (payOK p = (!(pay5 p).short && (decide (unbe ((pay1 p).text 8) <= 253402300799) && (keyOK ((pay3 p).text (unbe ((pay2 p).text 1))) && kfitF (unbe ((Rdr.mk p false).text 1)) (pay5 p).rest)))) := rfl
 have HRC : Hid (recA (payRec p).kind (payRec p).time (payRec p).key (payRec p).num (payRec p).body = recA (unbe ((Rdr.mk p false).text 1)) (unbe ((pay1 p).text 8)) ((pay3 p).text (unbe ((pay2 p).text 1))) (unbe ((pay4 p).text 4)) (pay5 p).rest) := rfl
 obtain ⟨kd, hkd⟩ : ∃ x, unbe ((Rdr.mk p false).text 1) = x := ⟨_, rfl⟩
 obtain ⟨tm, htm⟩ : ∃ x, unbe ((pay1 p).text 8) = x := ⟨_, rfl⟩
 obtain ⟨ln, hln⟩ : ∃ x, unbe ((pay2 p).text 1) = x := ⟨_, rfl⟩
 rw [hln] at hkl HOK HRC l3
 obtain ⟨ky, hky⟩ : ∃ x, (pay3 p).text ln = x := ⟨_, rfl⟩
 obtain ⟨nm, hnm⟩ : ∃ x, unbe ((pay4 p).text 4) = x := ⟨_, rfl⟩
 obtain ⟨s5, hs5⟩ : ∃ x, pay5 p = x := ⟨_, rfl⟩
 obtain ⟨bd, sh⟩ := s5
 rw [hs5] at HR5 hbl HOK HRC
 rw [hkd] at l1 HOK HRC
 rw [htm] at l2 HOK HRC
 rw [hky] at hkl HOK HRC
 rw [hnm] at l4 HRC
 rw [hkd, htm, hln, hky, hnm]
 have q5 := rdr_cells HR5.out.rdr
 have HRB : Hid _ := HR5.out.rcd
 have lt5 : w.heap.size + 1 < x5.heap.size := (Array.getElem?_eq_some_iff.1 HR5.out.rdr).1
 clear hkd htm hln hky hnm hs5
 dsimp only at hbl HOK HRC q5
 obtain ⟨q50, q51⟩ := q5
 have HKC : Hid (∀ y, Calls Tryz.prog 130 #[.string ⟨ky.toArray⟩] y fun e w' => e = .returned (.bool (keyOK ky)) /\ w' = y) := fun y => key_any ky y (by omega)
 have HFC : Hid (∀ y, Calls Tryz.prog 174 #[.int .u8 kd, .string ⟨bd.toArray⟩] y fun e w' => e = .returned (.bool (kfitF kd bd)) /\ w' = y) := fun y => kfits_any kd bd y (by omega)
 obtain ⟨kb, hkb⟩ : ∃ x, keyOK ky = x := ⟨_, rfl⟩
 obtain ⟨fb, hfb⟩ : ∃ x, kfitF kd bd = x := ⟨_, rfl⟩
 rw [hkb] at HKC HOK
 rw [hfb] at HFC HOK
 clear hkb hfb
 cases sh with
 | true =>
   have HN : Hid (payOK p = false) := by show _ = _; rw [HOK.out]; rfl
   go_wp2_with (first
    | (go_at_call 130; refine Calls.mono (HKC.out _) ?_; rintro e w9 ⟨rfl, rfl⟩)
    | (go_at_call 174; refine Calls.mono (HFC.out _) ?_; rintro e w9 ⟨rfl, rfl⟩)
    | refine wpList_store_row rfl 108 (.tmp 2) (.tmp 38) rfl w.heap.size #[.int .u8 0, .int .i64 0, .string ⟨#[]⟩, .int .i64 0, .string ⟨#[]⟩] rfl rfl 108 #[.int .u8 0, .int .i64 0, .string ⟨#[]⟩, .int .i64 0, .string ⟨#[]⟩] HRB.out hiRec rfl (by simp [Value.oneCell']) ?_)
   refine bodyPost_ret (v := .tuple #[recA 0 0 [] 0 [], .bool false]) (results_row_tmp Tryz.results127 _ _ w.heap.size _ _ _ _ rfl (setRow_heap _ _ _ _ _ _ HRB.out) Tryz.underlying108 rfl hiRec) rfl ⟨?_, below_setRow HR5.out.low (Nat.le_refl _) _⟩
   rw [HN.out, payOut_no HN.out]
 | false =>
   by_cases htm : tm <= 253402300799
   ·have htI : ¬ (253402300799 : Int) < (tm : Int) := by omega
    have HO2 : Hid (payOK p = (kb && fb)) := by show _ = _; rw [HOK.out]; simp [htm]
    cases kb with
    | false =>
      have HN : Hid (payOK p = false) := by show _ = _; rw [HO2.out]; rfl
      go_wp2_with (first
       | (go_at_call 130; refine Calls.mono (HKC.out _) ?_; rintro e w9 ⟨rfl, rfl⟩)
       | (go_at_call 174; refine Calls.mono (HFC.out _) ?_; rintro e w9 ⟨rfl, rfl⟩)
       | refine wpList_store_row rfl 108 (.tmp 2) (.tmp 38) rfl w.heap.size #[.int .u8 0, .int .i64 0, .string ⟨#[]⟩, .int .i64 0, .string ⟨#[]⟩] rfl rfl 108 #[.int .u8 0, .int .i64 0, .string ⟨#[]⟩, .int .i64 0, .string ⟨#[]⟩] HRB.out hiRec rfl (by simp [Value.oneCell']) ?_)
      refine bodyPost_ret (v := .tuple #[recA 0 0 [] 0 [], .bool false]) (results_row_tmp Tryz.results127 _ _ w.heap.size _ _ _ _ rfl (setRow_heap _ _ _ _ _ _ HRB.out) Tryz.underlying108 rfl hiRec) rfl ⟨?_, below_setRow HR5.out.low (Nat.le_refl _) _⟩
      rw [HN.out, payOut_no HN.out]
    | true =>
      cases fb with
      | false =>
        have HN : Hid (payOK p = false) := by show _ = _; rw [HO2.out]; rfl
        go_wp2_with (first
         | (go_at_call 130; refine Calls.mono (HKC.out _) ?_; rintro e w9 ⟨rfl, rfl⟩)
         | (go_at_call 174; refine Calls.mono (HFC.out _) ?_; rintro e w9 ⟨rfl, rfl⟩)
         | refine wpList_store_row rfl 108 (.tmp 2) (.tmp 38) rfl w.heap.size #[.int .u8 0, .int .i64 0, .string ⟨#[]⟩, .int .i64 0, .string ⟨#[]⟩] rfl rfl 108 #[.int .u8 0, .int .i64 0, .string ⟨#[]⟩, .int .i64 0, .string ⟨#[]⟩] HRB.out hiRec rfl (by simp [Value.oneCell']) ?_)
        refine bodyPost_ret (v := .tuple #[recA 0 0 [] 0 [], .bool false]) (results_row_tmp Tryz.results127 _ _ w.heap.size _ _ _ _ rfl (setRow_heap _ _ _ _ _ _ HRB.out) Tryz.underlying108 rfl hiRec) rfl ⟨?_, below_setRow HR5.out.low (Nat.le_refl _) _⟩
        rw [HN.out, payOut_no HN.out]
      | true =>
        have HN : Hid (payOK p = true) := by show _ = _; rw [HO2.out]; rfl
        go_wp2_with (first
         | (go_at_call 130; refine Calls.mono (HKC.out _) ?_; rintro e w9 ⟨rfl, rfl⟩)
         | (go_at_call 174; refine Calls.mono (HFC.out _) ?_; rintro e w9 ⟨rfl, rfl⟩)
         | refine wpList_store_row rfl 108 (.tmp 2) (.tmp 46) rfl w.heap.size #[.int .u8 kd, .int .i64 tm, .string ⟨ky.toArray⟩, .int .i64 nm, .string ⟨bd.toArray⟩] rfl rfl 108 #[.int .u8 0, .int .i64 0, .string ⟨#[]⟩, .int .i64 0, .string ⟨#[]⟩] HRB.out hiRec rfl (by simp [Value.oneCell']) ?_)
        refine bodyPost_ret (v := .tuple #[recA kd tm ky nm bd, .bool true]) (results_row_tmp Tryz.results127 _ _ w.heap.size _ _ _ _ rfl (setRow_heap _ _ _ _ _ _ HRB.out) Tryz.underlying108 rfl hiRec) rfl ⟨?_, below_setRow HR5.out.low (Nat.le_refl _) _⟩
        rw [HN.out, payOut_yes HN.out, HRC.out]
   ·have htI : (253402300799 : Int) < (tm : Int) := by omega
    have HN : Hid (payOK p = false) := by show _ = _; rw [HOK.out]; simp [htm]
    go_wp2_with (first
     | (go_at_call 130; refine Calls.mono (HKC.out _) ?_; rintro e w9 ⟨rfl, rfl⟩)
     | (go_at_call 174; refine Calls.mono (HFC.out _) ?_; rintro e w9 ⟨rfl, rfl⟩)
     | refine wpList_store_row rfl 108 (.tmp 2) (.tmp 38) rfl w.heap.size #[.int .u8 0, .int .i64 0, .string ⟨#[]⟩, .int .i64 0, .string ⟨#[]⟩] rfl rfl 108 #[.int .u8 0, .int .i64 0, .string ⟨#[]⟩, .int .i64 0, .string ⟨#[]⟩] HRB.out hiRec rfl (by simp [Value.oneCell']) ?_)
    refine bodyPost_ret (v := .tuple #[recA 0 0 [] 0 [], .bool false]) (results_row_tmp Tryz.results127 _ _ w.heap.size _ _ _ _ rfl (setRow_heap _ _ _ _ _ _ HRB.out) Tryz.underlying108 rfl hiRec) rfl ⟨?_, below_setRow HR5.out.low (Nat.le_refl _) _⟩
    rw [HN.out, payOut_no HN.out]
def cutOut (t : List UInt8) : Value := match cutF t with
 | none => .tuple #[recA 0 0 [] 0 [], .string ⟨#[]⟩, .bool false]
 | some (r, rest) => .tuple #[recA r.kind r.time r.key r.num r.body, .string ⟨rest.toArray⟩, .bool true]
theorem cutOut_no {t : List UInt8} (h : cutF t = none) : cutOut t = .tuple #[recA 0 0 [] 0 [], .string ⟨#[]⟩, .bool false] := by unfold cutOut; rw [h]
theorem cutOut_yes {t rest : List UInt8} {r : Rec} (h : cutF t = some (r, rest)) : cutOut t = .tuple #[recA r.kind r.time r.key r.num r.body, .string ⟨rest.toArray⟩, .bool true] := by unfold cutOut; rw [h]
theorem cutP_len (t : List UInt8) : (cutP t).length < 65536 := by
 have := unbe_le (Rdr.mk t false) 2
 have h2 : (cutP t).length <= unbe ((Rdr.mk t false).text 2) := text_le2 _ _
 omega
theorem rec_cells {y : World} {g kd tm nm : Nat} {ky bd : List UInt8} {f : Nat × Nat} (hv : y.heap[g]? = some (.cells #[.int .u8 kd, .int .i64 tm, .string ⟨ky.toArray⟩, .int .i64 nm, .string ⟨bd.toArray⟩] 108 f)) :
 y.cell? ⟨g, 0, none⟩ = some (.int .u8 kd) /\ y.cell? ⟨g, 1, none⟩ = some (.int .i64 tm) /\ y.cell? ⟨g, 2, none⟩ = some (.string ⟨ky.toArray⟩) /\ y.cell? ⟨g, 3, none⟩ = some (.int .i64 nm) /\ y.cell? ⟨g, 4, none⟩ = some (.string ⟨bd.toArray⟩) := by
 simp [World.cell?, hv]
theorem results_row_tmp2 {P : Program} {fn : Func} {p u v : Tmp} {ty : TypeId} (h : fn.results = #[.cell p ty, .tmp u, .tmp v]) (tmps : Array Value) (w : World) (g : Nat) (t : TypeId) (cs : Array Value) (fr : Nat × Nat) (d : TypeDesc)
 (hp : tmps.getD p undef = .pointer (some ⟨g, 0, none⟩)) (hg : w.heap[g]? = some (.cells cs t fr))
 (hu : P.underlying ty = some d) (hd : (match d with | .struct _ | .array _ _ => true | _ => false) = true) (hi : (P.info? ty).map (·.size) = some cs.size) :
 (results fn tmps).run P w = .ok (.tuple #[.agg cs, tmps.getD u undef, tmps.getD v undef]) w := by
 have hp' : tmps[p]?.getD undef = .pointer (some ⟨g, 0, none⟩) := by simpa using hp
 simp [results, h, hp', asAddr, run_loadVar_row w g t ty cs fr d hg hu hd hi]
theorem jcut_any (t : List UInt8) (w : World) :
 Calls Tryz.prog 79 #[.string ⟨t.toArray⟩] w fun e w' => e = .returned (cutOut t) /\ Below w.heap.size w w' := by
 have R0 : Rp w ((w.alloc (.cells #[.int .u8 0, .int .i64 0, .string ⟨#[]⟩, .int .i64 0, .string ⟨#[]⟩] 108)).alloc (.cells #[.string ⟨t.toArray⟩, .bool false] 213)) ⟨t, false⟩ :=
  ⟨((Below.refl _ _).alloc (Nat.le_refl _) _).alloc (by simp) _, (heap_alloc_old _ _ (by simp)).trans (heap_alloc_new _ _), by have := heap_alloc_new (w.alloc (.cells #[.int .u8 0, .int .i64 0, .string ⟨#[]⟩, .int .i64 0, .string ⟨#[]⟩] 108)) (.cells #[.string ⟨t.toArray⟩, .bool false] 213); simpa [RdrAt] using this⟩
 have l1 := unbe_le ⟨t, false⟩ 2
 have l2 := unbe_le (cut2 t) 4
 have lp := cutP_len t
 have HR0 : Hid _ := R0
 clear R0
 go_enter Tryz.func79, Tryz.ntmps79
 go_wp2_with fail
 refine Calls.mono (rnumber_any _ 2 _ _ HR0.out.rdr (by omega)) ?_
 rintro e x1 ⟨rfl, r1, o1, z1⟩
 have HR1 : Hid (Rp w x1 (cut1 t)) := HR0.out.next o1 r1
 clear r1 o1 z1 HR0
 go_wp2_with fail
 refine Calls.mono (rtext_any _ _ _ _ HR1.out.rdr (by omega)) ?_
 rintro e x2 ⟨rfl, r2, o2, z2⟩
 have HR2 : Hid (Rp w x2 (cut2 t)) := HR1.out.next o2 r2
 clear r2 o2 z2 HR1
 go_wp2_with fail
 refine Calls.mono (rnumber_any _ 4 _ _ HR2.out.rdr (by omega)) ?_
 rintro e x3 ⟨rfl, r3, o3, z3⟩
 have HR3 : Hid (Rp w x3 (cut3 t)) := HR2.out.next o3 r3
 clear r3 o3 z3 HR2
 have HOK : Hid (cutF t = if (cut3 t).short = true \/ unbe ((cut2 t).text 4) ≠ chkF (cutP t) then none else if payOK (cutP t) = true then some (payRec (cutP t), (cut3 t).rest) else none) := rfl
 have hck := chk_lt (cutP t)
 have HCK : Hid (∀ y, Calls Tryz.prog 126 #[.string ⟨(cutP t).toArray⟩] y fun e w' => e = .returned (.int .u32 ((chkF (cutP t) : Nat) : Int)) /\ w' = y) := fun y => check_any (cutP t) y (by omega)
 have HRP : Hid (∀ y, Calls Tryz.prog 127 #[.string ⟨(cutP t).toArray⟩] y fun e w' => e = .returned (.tuple #[payOut (cutP t), .bool (payOK (cutP t))]) /\ Below y.heap.size y w') := fun y => readPayload_any (cutP t) y lp
 rw [show (cut1 t).text (unbe ((Rdr.mk t false).text 2)) = cutP t from rfl]
 obtain ⟨sz, hsz⟩ : ∃ x, unbe ((Rdr.mk t false).text 2) = x := ⟨_, rfl⟩
 rw [hsz] at l1
 obtain ⟨P, hP⟩ : ∃ x, cutP t = x := ⟨_, rfl⟩
 obtain ⟨sm, hsm⟩ : ∃ x, unbe ((cut2 t).text 4) = x := ⟨_, rfl⟩
 obtain ⟨s3, hs3⟩ : ∃ x, cut3 t = x := ⟨_, rfl⟩
 obtain ⟨rs, sh⟩ := s3
 rw [hP] at HOK hck HCK HRP lp
 rw [hsm] at HOK l2
 rw [hs3] at HOK HR3
 rw [hsz, hP, hsm]
 obtain ⟨ck, hck2⟩ : ∃ x, chkF P = x := ⟨_, rfl⟩
 rw [hck2] at HOK HCK hck
 obtain ⟨q0, q1⟩ := rdr_cells HR3.out.rdr
 have HRB : Hid _ := HR3.out.rcd
 have lt3 : w.heap.size + 1 < x3.heap.size := (Array.getElem?_eq_some_iff.1 HR3.out.rdr).1
 dsimp only at HOK q0 q1
 clear hsz hP hsm hs3 hck2
 cases sh with
 | true =>
   have HN : Hid (cutF t = none) := by show _ = _; rw [HOK.out, if_pos (Or.inl rfl)]
   go_wp2_with (first | (go_at_call 126; refine Calls.mono (HCK.out _) ?_; rintro e w9 ⟨rfl, rfl⟩) | refine wpList_store_row rfl 108 (.tmp 2) (.tmp 23) rfl w.heap.size #[.int .u8 0, .int .i64 0, .string ⟨#[]⟩, .int .i64 0, .string ⟨#[]⟩] rfl rfl 108 #[.int .u8 0, .int .i64 0, .string ⟨#[]⟩, .int .i64 0, .string ⟨#[]⟩] HRB.out hiRec rfl (by simp [Value.oneCell']) ?_)
   refine bodyPost_ret (v := .tuple #[recA 0 0 [] 0 [], .string ⟨#[]⟩, .bool false]) (results_row_tmp2 Tryz.results79 _ _ w.heap.size _ _ _ _ rfl (setRow_heap _ _ _ _ _ _ HRB.out) Tryz.underlying108 rfl hiRec) rfl ⟨?_, below_setRow HR3.out.low (Nat.le_refl _) _⟩
   rw [cutOut_no HN.out]
 | false =>
   by_cases hc : sm = ck
   ·have hcI : (sm : Int) = (ck : Int) := by omega
    subst hc
    cases hpk : payOK P with
    | true =>
      have HY : Hid (cutOut t = .tuple #[recA (payRec P).kind (payRec P).time (payRec P).key (payRec P).num (payRec P).body, .string ⟨rs.toArray⟩, .bool true]) := cutOut_yes (by rw [HOK.out, if_neg (by simp), if_pos hpk])
      rw [hpk, payOut_yes hpk] at HRP
      generalize payRec P = rr at HY HRP
      obtain ⟨kd, tm, ky, nm, bd⟩ := rr
      dsimp only at HY HRP
      clear hpk HOK
      go_wp2_with (go_at_call 126; refine Calls.mono (HCK.out _) ?_; rintro e w9 ⟨rfl, rfl⟩)
      refine Calls.mono (HRP.out _) ?_
      rintro e x4 ⟨rfl, b4⟩
      have HRB4 : Hid _ := (b4.block _ (by omega)).trans HRB.out
      have HQ4 : Hid _ := (b4.block _ lt3).trans HR3.out.rdr
      have HL4 : Hid _ := HR3.out.low.trans (b4.mono (by omega))
      clear b4 HRB HR3 HCK HRP q0 q1
      go_wp2_with (refine wpList_store_row rfl 108 (.tmp 2) (.tmp 27) rfl w.heap.size #[.int .u8 kd, .int .i64 tm, .string ⟨ky.toArray⟩, .int .i64 nm, .string ⟨bd.toArray⟩] rfl rfl 108 #[.int .u8 0, .int .i64 0, .string ⟨#[]⟩, .int .i64 0, .string ⟨#[]⟩] HRB4.out hiRec rfl (by simp [Value.oneCell']) ?_
                   obtain ⟨X, hX⟩ : ∃ X, x4.setRow w.heap.size #[.int .u8 kd, .int .i64 tm, .string ⟨ky.toArray⟩, .int .i64 nm, .string ⟨bd.toArray⟩] = X := ⟨_, rfl⟩
                   rw [hX]
                   have HX : Hid (X.heap[w.heap.size]? = some (.cells #[.int .u8 kd, .int .i64 tm, .string ⟨ky.toArray⟩, .int .i64 nm, .string ⟨bd.toArray⟩] 108 (0, 0))) := by show _ = _; rw [<- hX]; exact setRow_heap _ _ _ _ _ _ HRB4.out
                   have hXr : X.heap[w.heap.size + 1]? = some (.cells #[.string ⟨rs.toArray⟩, .bool false] 213 (0, 0)) := by rw [<- hX]; exact (setRow_other _ _ _ _ (by omega)).trans HQ4.out
                   have HXL : Hid (Below w.heap.size w X) := by show Below _ _ _; rw [<- hX]; exact below_setRow HL4.out (Nat.le_refl _) _
                   have y0 : X.cell? ⟨w.heap.size + 1, 0, none⟩ = some (.string ⟨rs.toArray⟩) := by simp [World.cell?, hXr]
                   have c5 := rec_cells HX.out
                   obtain ⟨c50, c51, c52, c53, c54⟩ := c5
                   have lX : w.heap.size + 1 < X.heap.size := (Array.getElem?_eq_some_iff.1 hXr).1
                   clear hX hXr HRB4 HQ4 HL4)
      have fz : ∀ j, X.frozen? ⟨w.heap.size, j, none⟩ = false := fun j => by simp [World.frozen?, show X.heap[w.heap.size]? = _ from HX.out]
      have fz0 := fz 0
      have fz1 := fz 1
      have fz2 := fz 2
      have fz3 := fz 3
      have fz4 := fz 4
      clear fz
      go_region
      have HZ : Hid _ := heap_set (i := 4) (v := .string ⟨bd.toArray⟩) (heap_set (i := 3) (v := .int .i64 nm) (heap_set (i := 2) (v := .string ⟨ky.toArray⟩) (heap_set (i := 1) (v := .int .i64 tm) (heap_set (i := 0) (v := .int .u8 kd) HX.out))))
      have HZL : Hid _ := (((((HXL.out.setCell (p := ⟨w.heap.size, 0, none⟩) (Nat.le_refl _) (.int .u8 kd)).setCell (p := ⟨w.heap.size, 1, none⟩) (Nat.le_refl _) (.int .i64 tm)).setCell (p := ⟨w.heap.size, 2, none⟩) (Nat.le_refl _) (.string ⟨ky.toArray⟩)).setCell (p := ⟨w.heap.size, 3, none⟩) (Nat.le_refl _) (.int .i64 nm)).setCell (p := ⟨w.heap.size, 4, none⟩) (Nat.le_refl _) (.string ⟨bd.toArray⟩)).drew
      clear c50 c51 c52 c53 c54 fz0 fz1 fz2 fz3 fz4 HX HXL y0
      go_wp2_with fail
      refine bodyPost_ret (v := .tuple #[recA kd tm ky nm bd, .string ⟨rs.toArray⟩, .bool true]) (results_row_tmp2 Tryz.results79 _ _ w.heap.size 108 #[.int .u8 kd, .int .i64 tm, .string ⟨ky.toArray⟩, .int .i64 nm, .string ⟨bd.toArray⟩] (0, 0) _ rfl HZ.out Tryz.underlying108 rfl hiRec) rfl ⟨?_, HZL.out⟩
      rw [HY.out]
    | false =>
      have HN : Hid (cutF t = none) := by show _ = _; rw [HOK.out, if_neg (by simp), if_neg (by rw [hpk]; simp)]
      rw [hpk, payOut_no hpk] at HRP
      clear hpk HOK
      go_wp2_with (go_at_call 126; refine Calls.mono (HCK.out _) ?_; rintro e w9 ⟨rfl, rfl⟩)
      refine Calls.mono (HRP.out _) ?_
      rintro e x4 ⟨rfl, b4⟩
      have HRB4 : Hid _ := (b4.block _ (by omega)).trans HRB.out
      have HL4 : Hid _ := HR3.out.low.trans (b4.mono (by omega))
      clear b4 HRB HR3 HCK HRP q0 q1
      go_wp2_with (first
       | refine wpList_store_row rfl 108 (.tmp 2) (.tmp 27) rfl w.heap.size #[.int .u8 0, .int .i64 0, .string ⟨#[]⟩, .int .i64 0, .string ⟨#[]⟩] rfl rfl 108 #[.int .u8 0, .int .i64 0, .string ⟨#[]⟩, .int .i64 0, .string ⟨#[]⟩] HRB4.out hiRec rfl (by simp [Value.oneCell']) ?_
       | refine wpList_store_row rfl 108 (.tmp 2) (.tmp 31) rfl w.heap.size #[.int .u8 0, .int .i64 0, .string ⟨#[]⟩, .int .i64 0, .string ⟨#[]⟩] rfl rfl 108 #[.int .u8 0, .int .i64 0, .string ⟨#[]⟩, .int .i64 0, .string ⟨#[]⟩] (setRow_heap _ _ _ _ _ _ HRB4.out) hiRec rfl (by simp [Value.oneCell']) ?_)
      refine bodyPost_ret (v := .tuple #[recA 0 0 [] 0 [], .string ⟨#[]⟩, .bool false]) (results_row_tmp2 Tryz.results79 _ _ w.heap.size _ _ _ _ rfl (setRow_heap _ _ _ _ _ _ (setRow_heap _ _ _ _ _ _ HRB4.out)) Tryz.underlying108 rfl hiRec) rfl ⟨?_, below_setRow (below_setRow HL4.out (Nat.le_refl _) _) (Nat.le_refl _) _⟩
      rw [cutOut_no HN.out]
   ·have hcI : ¬ (sm : Int) = (ck : Int) := by omega
    have HN : Hid (cutF t = none) := by show _ = _; rw [HOK.out, if_pos (Or.inr hc)]
    go_wp2_with (first | (go_at_call 126; refine Calls.mono (HCK.out _) ?_; rintro e w9 ⟨rfl, rfl⟩) | refine wpList_store_row rfl 108 (.tmp 2) (.tmp 23) rfl w.heap.size #[.int .u8 0, .int .i64 0, .string ⟨#[]⟩, .int .i64 0, .string ⟨#[]⟩] rfl rfl 108 #[.int .u8 0, .int .i64 0, .string ⟨#[]⟩, .int .i64 0, .string ⟨#[]⟩] HRB.out hiRec rfl (by simp [Value.oneCell']) ?_)
    refine bodyPost_ret (v := .tuple #[recA 0 0 [] 0 [], .string ⟨#[]⟩, .bool false]) (results_row_tmp2 Tryz.results79 _ _ w.heap.size _ _ _ _ rfl (setRow_heap _ _ _ _ _ _ HRB.out) Tryz.underlying108 rfl hiRec) rfl ⟨?_, below_setRow HR3.out.low (Nat.le_refl _) _⟩
    rw [cutOut_no HN.out]
end Go.Proofs.YtmehkneofinmiabGreatDoor

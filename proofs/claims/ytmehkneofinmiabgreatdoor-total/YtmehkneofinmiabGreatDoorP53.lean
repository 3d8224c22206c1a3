/-
  Texts of this proof, part 53.
-/
import Derived.Test.YtmehkneofinmiabGreatDoorP52
import Derived.RegionTactic
import Derived.BigRegion
namespace Go.Proofs.YtmehkneofinmiabGreatDoor
open Go.RowKit
def cutOut (t : List UInt8) : Value := match cutF t with
  | none => .tuple #[recA 0 0 [] 0 [], .string ⟨#[]⟩, .bool false]
  | some (r, rest) => .tuple #[recA r.kind r.time r.key r.num r.body, .string ⟨rest.toArray⟩, .bool true]
theorem cutOut_no {t : List UInt8} (h : cutF t = none) : cutOut t = .tuple #[recA 0 0 [] 0 [], .string ⟨#[]⟩, .bool false] := by unfold cutOut; rw [h]
theorem cutOut_yes {t rest : List UInt8} {r : Rec} (h : cutF t = some (r, rest)) : cutOut t = .tuple #[recA r.kind r.time r.key r.num r.body, .string ⟨rest.toArray⟩, .bool true] := by unfold cutOut; rw [h]
theorem cutP_len (t : List UInt8) : (cutP t).length < 65536 := by
  have := unbe_le (Rdr.mk t false) 2
  have h2 : (cutP t).length ≤ unbe ((Rdr.mk t false).text 2) := text_le2 _ _
  omega
theorem rec_cells {y : World} {g kd tm nm : Nat} {ky bd : List UInt8} {f : Nat × Nat} (hv : y.heap[g]? = some (.cells #[.int .u8 kd, .int .i64 tm, .string ⟨ky.toArray⟩, .int .i64 nm, .string ⟨bd.toArray⟩] 108 f)) :
    y.cell? ⟨g, 0, none⟩ = some (.int .u8 kd) ∧ y.cell? ⟨g, 1, none⟩ = some (.int .i64 tm) ∧ y.cell? ⟨g, 2, none⟩ = some (.string ⟨ky.toArray⟩) ∧ y.cell? ⟨g, 3, none⟩ = some (.int .i64 nm) ∧ y.cell? ⟨g, 4, none⟩ = some (.string ⟨bd.toArray⟩) := by
  simp [World.cell?, hv]
theorem results_row_tmp2 {P : Program} {fn : Func} {p u v : Tmp} {ty : TypeId} (h : fn.results = #[.cell p ty, .tmp u, .tmp v]) (tmps : Array Value) (w : World) (g : Nat) (t : TypeId) (cs : Array Value) (fr : Nat × Nat) (d : TypeDesc)
    (hp : tmps.getD p undef = .pointer (some ⟨g, 0, none⟩)) (hg : w.heap[g]? = some (.cells cs t fr))
    (hu : P.underlying ty = some d) (hd : (match d with | .struct _ | .array _ _ => true | _ => false) = true) (hi : (P.info? ty).map (·.size) = some cs.size) :
    (results fn tmps).run P w = .ok (.tuple #[.agg cs, tmps.getD u undef, tmps.getD v undef]) w := by
  have hp' : tmps[p]?.getD undef = .pointer (some ⟨g, 0, none⟩) := by simpa using hp
  simp [results, h, hp', asAddr, run_loadVar_row w g t ty cs fr d hg hu hd hi]
set_option maxRecDepth 100000 in
set_option maxHeartbeats 4000000 in
theorem jcut_any (t : List UInt8) (w : World) :
    Calls Tryz.prog 79 #[.string ⟨t.toArray⟩] w fun e w' => e = .returned (cutOut t) ∧ Below w.heap.size w w' := by
  have R0 : Rp w ((w.alloc (.cells #[.int .u8 0, .int .i64 0, .string ⟨#[]⟩, .int .i64 0, .string ⟨#[]⟩] 108)).alloc (.cells #[.string ⟨t.toArray⟩, .bool false] 213)) ⟨t, false⟩ :=
    ⟨((Below.refl _ _).alloc (Nat.le_refl _) _).alloc (by simp) _, (heap_alloc_old _ _ (by simp)).trans (heap_alloc_new _ _), by have := heap_alloc_new (w.alloc (.cells #[.int .u8 0, .int .i64 0, .string ⟨#[]⟩, .int .i64 0, .string ⟨#[]⟩] 108)) (.cells #[.string ⟨t.toArray⟩, .bool false] 213); simpa [RdrAt] using this⟩
  have l1 := unbe_le ⟨t, false⟩ 2
  have l2 := unbe_le (cut2 t) 4
  have lp := cutP_len t
  have HR0 : Hid _ := R0
  clear R0
  go_enter Tryz.func79, Tryz.ntmps79
  go_wp2_with fail
  refine Calls.mono (rnumber_any _ 2 _ _ HR0.out.rdr (by omega)) ?_
  rintro e x1 ⟨rfl, r1, o1, z1⟩
  have HR1 : Hid (Rp w x1 (cut1 t)) := HR0.out.next o1 r1
  clear r1 o1 z1 HR0
  go_wp2_with fail
  refine Calls.mono (rtext_any _ _ _ _ HR1.out.rdr (by omega)) ?_
  rintro e x2 ⟨rfl, r2, o2, z2⟩
  have HR2 : Hid (Rp w x2 (cut2 t)) := HR1.out.next o2 r2
  clear r2 o2 z2 HR1
  go_wp2_with fail
  refine Calls.mono (rnumber_any _ 4 _ _ HR2.out.rdr (by omega)) ?_
  rintro e x3 ⟨rfl, r3, o3, z3⟩
  have HR3 : Hid (Rp w x3 (cut3 t)) := HR2.out.next o3 r3
  clear r3 o3 z3 HR2
  have HOK : Hid (cutF t = if (cut3 t).short = true ∨ unbe ((cut2 t).text 4) ≠ chkF (cutP t) then none else if payOK (cutP t) = true then some (payRec (cutP t), (cut3 t).rest) else none) := rfl
  have hck := chk_lt (cutP t)
  have HCK : Hid (∀ y, Calls Tryz.prog 126 #[.string ⟨(cutP t).toArray⟩] y fun e w' => e = .returned (.int .u32 ((chkF (cutP t) : Nat) : Int)) ∧ w' = y) := fun y => check_any (cutP t) y (by omega)
  have HRP : Hid (∀ y, Calls Tryz.prog 127 #[.string ⟨(cutP t).toArray⟩] y fun e w' => e = .returned (.tuple #[payOut (cutP t), .bool (payOK (cutP t))]) ∧ Below y.heap.size y w') := fun y => readPayload_any (cutP t) y lp
  rw [show (cut1 t).text (unbe ((Rdr.mk t false).text 2)) = cutP t from rfl]
  obtain ⟨sz, hsz⟩ : ∃ x, unbe ((Rdr.mk t false).text 2) = x := ⟨_, rfl⟩
  rw [hsz] at l1
  obtain ⟨P, hP⟩ : ∃ x, cutP t = x := ⟨_, rfl⟩
  obtain ⟨sm, hsm⟩ : ∃ x, unbe ((cut2 t).text 4) = x := ⟨_, rfl⟩
  obtain ⟨s3, hs3⟩ : ∃ x, cut3 t = x := ⟨_, rfl⟩
  obtain ⟨rs, sh⟩ := s3
  rw [hP] at HOK hck HCK HRP lp
  rw [hsm] at HOK l2
  rw [hs3] at HOK HR3
  rw [hsz, hP, hsm]
  obtain ⟨ck, hck2⟩ : ∃ x, chkF P = x := ⟨_, rfl⟩
  rw [hck2] at HOK HCK hck
  obtain ⟨q0, q1⟩ := rdr_cells HR3.out.rdr
  have HRB : Hid _ := HR3.out.rcd
  have lt3 : w.heap.size + 1 < x3.heap.size := (Array.getElem?_eq_some_iff.1 HR3.out.rdr).1
  dsimp only at HOK q0 q1
  clear hsz hP hsm hs3 hck2
  cases sh with
  | true =>
    have HN : Hid (cutF t = none) := by show _ = _; rw [HOK.out, if_pos (Or.inl rfl)]
    go_wp2_with (first | (go_at_call 126; refine Calls.mono (HCK.out _) ?_; rintro e w9 ⟨rfl, rfl⟩) | refine wpList_store_row rfl 108 (.tmp 2) (.tmp 23) rfl w.heap.size #[.int .u8 0, .int .i64 0, .string ⟨#[]⟩, .int .i64 0, .string ⟨#[]⟩] rfl rfl 108 #[.int .u8 0, .int .i64 0, .string ⟨#[]⟩, .int .i64 0, .string ⟨#[]⟩] HRB.out hiRec rfl (by simp [Value.oneCell']) ?_)
    refine bodyPost_ret (v := .tuple #[recA 0 0 [] 0 [], .string ⟨#[]⟩, .bool false]) (results_row_tmp2 Tryz.results79 _ _ w.heap.size _ _ _ _ rfl (setRow_heap _ _ _ _ _ _ HRB.out) Tryz.underlying108 rfl hiRec) rfl ⟨?_, below_setRow HR3.out.low (Nat.le_refl _) _⟩
    rw [cutOut_no HN.out]
  | false =>
    by_cases hc : sm = ck
    · have hcI : (sm : Int) = (ck : Int) := by omega
      subst hc
      cases hpk : payOK P with
      | true =>
        have HY : Hid (cutOut t = .tuple #[recA (payRec P).kind (payRec P).time (payRec P).key (payRec P).num (payRec P).body, .string ⟨rs.toArray⟩, .bool true]) := cutOut_yes (by rw [HOK.out, if_neg (by simp), if_pos hpk])
        rw [hpk, payOut_yes hpk] at HRP
        generalize payRec P = rr at HY HRP
        obtain ⟨kd, tm, ky, nm, bd⟩ := rr
        dsimp only at HY HRP
        clear hpk HOK
        go_wp2_with (go_at_call 126; refine Calls.mono (HCK.out _) ?_; rintro e w9 ⟨rfl, rfl⟩)
        refine Calls.mono (HRP.out _) ?_
        rintro e x4 ⟨rfl, b4⟩
        have HRB4 : Hid _ := (b4.block _ (by omega)).trans HRB.out
        have HQ4 : Hid _ := (b4.block _ lt3).trans HR3.out.rdr
        have HL4 : Hid _ := HR3.out.low.trans (b4.mono (by omega))
        clear b4 HRB HR3 HCK HRP q0 q1
        go_wp2_with (refine wpList_store_row rfl 108 (.tmp 2) (.tmp 27) rfl w.heap.size #[.int .u8 kd, .int .i64 tm, .string ⟨ky.toArray⟩, .int .i64 nm, .string ⟨bd.toArray⟩] rfl rfl 108 #[.int .u8 0, .int .i64 0, .string ⟨#[]⟩, .int .i64 0, .string ⟨#[]⟩] HRB4.out hiRec rfl (by simp [Value.oneCell']) ?_
                     obtain ⟨X, hX⟩ : ∃ X, x4.setRow w.heap.size #[.int .u8 kd, .int .i64 tm, .string ⟨ky.toArray⟩, .int .i64 nm, .string ⟨bd.toArray⟩] = X := ⟨_, rfl⟩
                     rw [hX]
                     have HX : Hid (X.heap[w.heap.size]? = some (.cells #[.int .u8 kd, .int .i64 tm, .string ⟨ky.toArray⟩, .int .i64 nm, .string ⟨bd.toArray⟩] 108 (0, 0))) := by show _ = _; rw [← hX]; exact setRow_heap _ _ _ _ _ _ HRB4.out
                     have hXr : X.heap[w.heap.size + 1]? = some (.cells #[.string ⟨rs.toArray⟩, .bool false] 213 (0, 0)) := by rw [← hX]; exact (setRow_other _ _ _ _ (by omega)).trans HQ4.out
                     have HXL : Hid (Below w.heap.size w X) := by show Below _ _ _; rw [← hX]; exact below_setRow HL4.out (Nat.le_refl _) _
                     have y0 : X.cell? ⟨w.heap.size + 1, 0, none⟩ = some (.string ⟨rs.toArray⟩) := by simp [World.cell?, hXr]
                     have c5 := rec_cells HX.out
                     obtain ⟨c50, c51, c52, c53, c54⟩ := c5
                     have lX : w.heap.size + 1 < X.heap.size := (Array.getElem?_eq_some_iff.1 hXr).1
                     clear hX hXr HRB4 HQ4 HL4)
        have fz : ∀ j, X.frozen? ⟨w.heap.size, j, none⟩ = false := fun j => by simp [World.frozen?, show X.heap[w.heap.size]? = _ from HX.out]
        have fz0 := fz 0
        have fz1 := fz 1
        have fz2 := fz 2
        have fz3 := fz 3
        have fz4 := fz 4
        clear fz
        go_region
        have HZ : Hid _ := heap_set (i := 4) (v := .string ⟨bd.toArray⟩) (heap_set (i := 3) (v := .int .i64 nm) (heap_set (i := 2) (v := .string ⟨ky.toArray⟩) (heap_set (i := 1) (v := .int .i64 tm) (heap_set (i := 0) (v := .int .u8 kd) HX.out))))
        have HZL : Hid _ := (((((HXL.out.setCell (p := ⟨w.heap.size, 0, none⟩) (Nat.le_refl _) (.int .u8 kd)).setCell (p := ⟨w.heap.size, 1, none⟩) (Nat.le_refl _) (.int .i64 tm)).setCell (p := ⟨w.heap.size, 2, none⟩) (Nat.le_refl _) (.string ⟨ky.toArray⟩)).setCell (p := ⟨w.heap.size, 3, none⟩) (Nat.le_refl _) (.int .i64 nm)).setCell (p := ⟨w.heap.size, 4, none⟩) (Nat.le_refl _) (.string ⟨bd.toArray⟩)).drew
        clear c50 c51 c52 c53 c54 fz0 fz1 fz2 fz3 fz4 HX HXL y0
        go_wp2_with fail
        refine bodyPost_ret (v := .tuple #[recA kd tm ky nm bd, .string ⟨rs.toArray⟩, .bool true]) (results_row_tmp2 Tryz.results79 _ _ w.heap.size 108 #[.int .u8 kd, .int .i64 tm, .string ⟨ky.toArray⟩, .int .i64 nm, .string ⟨bd.toArray⟩] (0, 0) _ rfl HZ.out Tryz.underlying108 rfl hiRec) rfl ⟨?_, HZL.out⟩
        rw [HY.out]
      | false =>
        have HN : Hid (cutF t = none) := by show _ = _; rw [HOK.out, if_neg (by simp), if_neg (by rw [hpk]; simp)]
        rw [hpk, payOut_no hpk] at HRP
        clear hpk HOK
        go_wp2_with (go_at_call 126; refine Calls.mono (HCK.out _) ?_; rintro e w9 ⟨rfl, rfl⟩)
        refine Calls.mono (HRP.out _) ?_
        rintro e x4 ⟨rfl, b4⟩
        have HRB4 : Hid _ := (b4.block _ (by omega)).trans HRB.out
        have HL4 : Hid _ := HR3.out.low.trans (b4.mono (by omega))
        clear b4 HRB HR3 HCK HRP q0 q1
        go_wp2_with (first
          | refine wpList_store_row rfl 108 (.tmp 2) (.tmp 27) rfl w.heap.size #[.int .u8 0, .int .i64 0, .string ⟨#[]⟩, .int .i64 0, .string ⟨#[]⟩] rfl rfl 108 #[.int .u8 0, .int .i64 0, .string ⟨#[]⟩, .int .i64 0, .string ⟨#[]⟩] HRB4.out hiRec rfl (by simp [Value.oneCell']) ?_
          | refine wpList_store_row rfl 108 (.tmp 2) (.tmp 31) rfl w.heap.size #[.int .u8 0, .int .i64 0, .string ⟨#[]⟩, .int .i64 0, .string ⟨#[]⟩] rfl rfl 108 #[.int .u8 0, .int .i64 0, .string ⟨#[]⟩, .int .i64 0, .string ⟨#[]⟩] (setRow_heap _ _ _ _ _ _ HRB4.out) hiRec rfl (by simp [Value.oneCell']) ?_)
        refine bodyPost_ret (v := .tuple #[recA 0 0 [] 0 [], .string ⟨#[]⟩, .bool false]) (results_row_tmp2 Tryz.results79 _ _ w.heap.size _ _ _ _ rfl (setRow_heap _ _ _ _ _ _ (setRow_heap _ _ _ _ _ _ HRB4.out)) Tryz.underlying108 rfl hiRec) rfl ⟨?_, below_setRow (below_setRow HL4.out (Nat.le_refl _) _) (Nat.le_refl _) _⟩
        rw [cutOut_no HN.out]
    · have hcI : ¬ (sm : Int) = (ck : Int) := by omega
      have HN : Hid (cutF t = none) := by show _ = _; rw [HOK.out, if_pos (Or.inr hc)]
      go_wp2_with (first | (go_at_call 126; refine Calls.mono (HCK.out _) ?_; rintro e w9 ⟨rfl, rfl⟩) | refine wpList_store_row rfl 108 (.tmp 2) (.tmp 23) rfl w.heap.size #[.int .u8 0, .int .i64 0, .string ⟨#[]⟩, .int .i64 0, .string ⟨#[]⟩] rfl rfl 108 #[.int .u8 0, .int .i64 0, .string ⟨#[]⟩, .int .i64 0, .string ⟨#[]⟩] HRB.out hiRec rfl (by simp [Value.oneCell']) ?_)
      refine bodyPost_ret (v := .tuple #[recA 0 0 [] 0 [], .string ⟨#[]⟩, .bool false]) (results_row_tmp2 Tryz.results79 _ _ w.heap.size _ _ _ _ rfl (setRow_heap _ _ _ _ _ _ HRB.out) Tryz.underlying108 rfl hiRec) rfl ⟨?_, below_setRow HR3.out.low (Nat.le_refl _) _⟩
      rw [cutOut_no HN.out]
end Go.Proofs.YtmehkneofinmiabGreatDoor

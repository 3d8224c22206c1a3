/-
  The walk of 'Judged' where a list is nil.
-/
import Derived.Test.YtmehkneofinmiaaJ8
namespace Go.Proofs.Ytmehkneofinmiaa
open Go.RowKit

set_option maxHeartbeats 1000000 in
theorem judged_ns (wt hm am hn an hs hu th : Bool) (since unl tm : Int) (tag : ByteArray) (a2 : Addr) (cap1 cap2 : Nat) (n1 n2 : Nat) (W1 W2 : Nat → Bool) (T1 T2 : Nat → ByteArray) (w : World)
    (b1 : 24 * (n1 + 2) ≤ 281474976710656) (b2 : 24 * (n2 + 2) ≤ 281474976710656) (h1 : ListAt w (.slice none n1 cap1) n1 W1 T1) (h2 : ListAt w (.slice (some a2) n2 cap2) n2 W2 T2) :
    Calls Try.prog 3 #[.agg #[.bool wt, .bool hm, .bool am, .slice none n1 cap1, .bool hn, .bool an, .slice (some a2) n2 cap2, .bool hs, .int .i64 since, .bool hu, .int .i64 unl, .bool th, .string tag, .int .i64 tm]] w
      fun e w' => e = .returned (.bool true) ∧ Below w.heap.size w w' := by
  have z1 : Hid (n1 = 0) := zero_of h1
  go_enter Try.func3, Try.ntmps3
  go_wp2_with fail
  refine (handed_l _ n1 W1 T1 _ b1 (h1.below (((Below.refl _ _).alloc (Nat.le_refl _) _).alloc (by simp) _)) ⟨_, _, rfl⟩).mono ?_
  rintro e w1 ⟨rfl, hb1, hz1, ht1, hc1, hd1⟩
  obtain ⟨hcc1, hff1⟩ := bcell hb1
  simp at hb1 hz1 hcc1 hff1 ht1 hc1 hd1
  have hB1 : Below w.heap.size w w1 := ((((Below.refl _ _).alloc (Nat.le_refl _) _).alloc (by simp) _)).trans (hb1.mono (by omega))
  go_wp2_with fail
  refine (handed_l _ n2 W2 T2 _ b2 (h2.below hB1) ⟨_, _, rfl⟩).mono ?_
  rintro e w2 ⟨rfl, hb2, hz2, ht2, hc2, hd2⟩
  obtain ⟨hcc2, hff2⟩ := bcell hb2
  rw [hz1] at hb2 hz2 hcc2 hff2 ht2 hc2 hd2
  have st : St w w2 #[.bool wt, .bool hm, .bool am, .slice none n1 cap1, .bool hn, .bool an, .slice (some a2) n2 cap2, .bool hs, .int .i64 since, .bool hu, .int .i64 unl, .bool th, .string tag, .int .i64 tm] n1 n2 W1 W2 T1 T2 :=
    ⟨hB1.trans (hb2.mono (by omega)), fun j => (hcc2 w.heap.size j (by omega)).trans ((hcc1 w.heap.size j (by omega)).trans (by simp)), ht1.below (by rw [hz1]; exact hb2), ht2, (hcc2 _ _ (by omega)).trans hc1, (hcc2 _ _ (by omega)).trans hd1, hc2, hd2, by omega⟩
  have p3 : w2.cell? ⟨w.heap.size + 1, 3, none⟩ = some (.slice none n1 cap1) := (hcc2 _ _ (by omega)).trans ((hcc1 _ _ (by omega)).trans (by simp))
  have p6 : w2.cell? ⟨w.heap.size + 1, 6, none⟩ = some (.slice (some a2) n2 cap2) := (hcc2 _ _ (by omega)).trans ((hcc1 _ _ (by omega)).trans (by simp))
  have r3 : ((w2.setCell ⟨w.heap.size + 1, 3, none⟩ (.slice (some ⟨w.heap.size + 1 + 1, 0, none⟩) n1 (n1 + 2))).setCell ⟨w.heap.size + 1, 6, none⟩ (.slice (some ⟨w.heap.size + 1 + 1 + 1, 0, none⟩) n2 (n2 + 2))).cell? ⟨w.heap.size + 1, 3, none⟩ = some (.slice (some ⟨w.heap.size + 1 + 1, 0, none⟩) n1 (n1 + 2)) := (set_other (by omega)).trans (set_same p3)
  have r6 : ((w2.setCell ⟨w.heap.size + 1, 3, none⟩ (.slice (some ⟨w.heap.size + 1 + 1, 0, none⟩) n1 (n1 + 2))).setCell ⟨w.heap.size + 1, 6, none⟩ (.slice (some ⟨w.heap.size + 1 + 1 + 1, 0, none⟩) n2 (n2 + 2))).cell? ⟨w.heap.size + 1, 6, none⟩ = some (.slice (some ⟨w.heap.size + 1 + 1 + 1, 0, none⟩) n2 (n2 + 2)) := set_same ((set_other (by omega)).trans p6)
  have s3 : (((w2.setCell ⟨w.heap.size + 1, 3, none⟩ (.slice (some ⟨w.heap.size + 1 + 1, 0, none⟩) n1 (n1 + 2))).setCell ⟨w.heap.size + 1, 6, none⟩ (.slice (some ⟨w.heap.size + 1 + 1 + 1, 0, none⟩) n2 (n2 + 2))).setCell ⟨w.heap.size + 1, 3, none⟩ (.slice none 0 0)).cell? ⟨w.heap.size + 1, 3, none⟩ = some (.slice none 0 0) := set_same r3
  have s6 : (((w2.setCell ⟨w.heap.size + 1, 3, none⟩ (.slice (some ⟨w.heap.size + 1 + 1, 0, none⟩) n1 (n1 + 2))).setCell ⟨w.heap.size + 1, 6, none⟩ (.slice (some ⟨w.heap.size + 1 + 1 + 1, 0, none⟩) n2 (n2 + 2))).setCell ⟨w.heap.size + 1, 3, none⟩ (.slice none 0 0)).cell? ⟨w.heap.size + 1, 6, none⟩ = some (.slice (some ⟨w.heap.size + 1 + 1 + 1, 0, none⟩) n2 (n2 + 2)) := (set_other (by omega)).trans r6
  clear hc1 hd1 ht1 hc2 hd2 ht2
  rw [hz1]
  have hq1 := fun w => eq_nil w none n1 cap1
  have hq2 := eq_some a2 n2 cap2
  go_wp2_with fail
  refine (judge_l _ _ _ _ _ _ _ _ _ _ _ _ _ _ n1 n2 W1 W2 T1 T2 _ ?_ ?_).mono ?_
  · exact ⟨h1.1, Or.inl ⟨_, _, rfl, z1.out⟩⟩
  · exact ⟨h2.1, Or.inr ⟨_, _, _, rfl, (((st.set 3 _).set 6 _).set 3 _).t2⟩⟩
  rintro e w4 ⟨rfl, hb4⟩
  have st4 := (((st.set 3 _).set 6 _).set 3 _).below hb4
  have hbox4 := st4.box
  clear p3 p6 r3 r6 s6 s3
  clear hb4 hq1 hq2 hb2 hb1 hcc1 hcc2 hff1 hff2 hz1 hz2 st hB1
  go_wp2_with fail
  refine (ref_l _ _ _ _ _ _ _ _ _ _ _ _ _ _ n1 n2 W1 W2 T1 T2 _ (h1.below st4.b) (h2.below st4.b)).mono ?_
  rintro e w5 ⟨rfl, hb5⟩
  have st5 := st4.below hb5
  have hbox5 := st5.box
  clear hb5 st4 hbox4
  generalize jd wt hm (mB th am W1 T1 tag true n1) hn (mB th an W2 T2 tag false n2) hs since hu unl th tm = J
  go_wp2_with fail
  refine (intact_l _ n1 _ W1 T1 _ b1 (h1.below st5.b) ⟨_, _, rfl⟩ st5.t1 st5.c1 st5.d1).mono ?_
  rintro e w6 ⟨rfl, q6, rfl⟩
  have st6 := st5.below (below_drewN (Below.refl _ _) q6)
  have hbox6 := st6.box
  have B5 := st5.b
  clear st5 hbox5
  go_wp2_with fail
  refine (intact_l _ n2 _ W2 T2 _ b2 (h2.below st6.b) ⟨_, _, rfl⟩ st6.t2 st6.c2 st6.d2).mono ?_
  rintro e w7 ⟨rfl, q7, rfl⟩
  go_wp2
  go_ret
  exact ⟨rfl, below_drewN B5 _⟩

set_option maxHeartbeats 1000000 in
theorem judged_sn (wt hm am hn an hs hu th : Bool) (since unl tm : Int) (tag : ByteArray) (a1 : Addr) (cap1 cap2 : Nat) (n1 n2 : Nat) (W1 W2 : Nat → Bool) (T1 T2 : Nat → ByteArray) (w : World)
    (b1 : 24 * (n1 + 2) ≤ 281474976710656) (b2 : 24 * (n2 + 2) ≤ 281474976710656) (h1 : ListAt w (.slice (some a1) n1 cap1) n1 W1 T1) (h2 : ListAt w (.slice none n2 cap2) n2 W2 T2) :
    Calls Try.prog 3 #[.agg #[.bool wt, .bool hm, .bool am, .slice (some a1) n1 cap1, .bool hn, .bool an, .slice none n2 cap2, .bool hs, .int .i64 since, .bool hu, .int .i64 unl, .bool th, .string tag, .int .i64 tm]] w
      fun e w' => e = .returned (.bool true) ∧ Below w.heap.size w w' := by
  have z2 : Hid (n2 = 0) := zero_of h2
  go_enter Try.func3, Try.ntmps3
  go_wp2_with fail
  refine (handed_l _ n1 W1 T1 _ b1 (h1.below (((Below.refl _ _).alloc (Nat.le_refl _) _).alloc (by simp) _)) ⟨_, _, rfl⟩).mono ?_
  rintro e w1 ⟨rfl, hb1, hz1, ht1, hc1, hd1⟩
  obtain ⟨hcc1, hff1⟩ := bcell hb1
  simp at hb1 hz1 hcc1 hff1 ht1 hc1 hd1
  have hB1 : Below w.heap.size w w1 := ((((Below.refl _ _).alloc (Nat.le_refl _) _).alloc (by simp) _)).trans (hb1.mono (by omega))
  go_wp2_with fail
  refine (handed_l _ n2 W2 T2 _ b2 (h2.below hB1) ⟨_, _, rfl⟩).mono ?_
  rintro e w2 ⟨rfl, hb2, hz2, ht2, hc2, hd2⟩
  obtain ⟨hcc2, hff2⟩ := bcell hb2
  rw [hz1] at hb2 hz2 hcc2 hff2 ht2 hc2 hd2
  have st : St w w2 #[.bool wt, .bool hm, .bool am, .slice (some a1) n1 cap1, .bool hn, .bool an, .slice none n2 cap2, .bool hs, .int .i64 since, .bool hu, .int .i64 unl, .bool th, .string tag, .int .i64 tm] n1 n2 W1 W2 T1 T2 :=
    ⟨hB1.trans (hb2.mono (by omega)), fun j => (hcc2 w.heap.size j (by omega)).trans ((hcc1 w.heap.size j (by omega)).trans (by simp)), ht1.below (by rw [hz1]; exact hb2), ht2, (hcc2 _ _ (by omega)).trans hc1, (hcc2 _ _ (by omega)).trans hd1, hc2, hd2, by omega⟩
  have p3 : w2.cell? ⟨w.heap.size + 1, 3, none⟩ = some (.slice (some a1) n1 cap1) := (hcc2 _ _ (by omega)).trans ((hcc1 _ _ (by omega)).trans (by simp))
  have p6 : w2.cell? ⟨w.heap.size + 1, 6, none⟩ = some (.slice none n2 cap2) := (hcc2 _ _ (by omega)).trans ((hcc1 _ _ (by omega)).trans (by simp))
  have r3 : ((w2.setCell ⟨w.heap.size + 1, 3, none⟩ (.slice (some ⟨w.heap.size + 1 + 1, 0, none⟩) n1 (n1 + 2))).setCell ⟨w.heap.size + 1, 6, none⟩ (.slice (some ⟨w.heap.size + 1 + 1 + 1, 0, none⟩) n2 (n2 + 2))).cell? ⟨w.heap.size + 1, 3, none⟩ = some (.slice (some ⟨w.heap.size + 1 + 1, 0, none⟩) n1 (n1 + 2)) := (set_other (by omega)).trans (set_same p3)
  have r6 : ((w2.setCell ⟨w.heap.size + 1, 3, none⟩ (.slice (some ⟨w.heap.size + 1 + 1, 0, none⟩) n1 (n1 + 2))).setCell ⟨w.heap.size + 1, 6, none⟩ (.slice (some ⟨w.heap.size + 1 + 1 + 1, 0, none⟩) n2 (n2 + 2))).cell? ⟨w.heap.size + 1, 6, none⟩ = some (.slice (some ⟨w.heap.size + 1 + 1 + 1, 0, none⟩) n2 (n2 + 2)) := set_same ((set_other (by omega)).trans p6)
  have s6 := r6
  have t6 : (((w2.setCell ⟨w.heap.size + 1, 3, none⟩ (.slice (some ⟨w.heap.size + 1 + 1, 0, none⟩) n1 (n1 + 2))).setCell ⟨w.heap.size + 1, 6, none⟩ (.slice (some ⟨w.heap.size + 1 + 1 + 1, 0, none⟩) n2 (n2 + 2))).setCell ⟨w.heap.size + 1, 6, none⟩ (.slice none 0 0)).cell? ⟨w.heap.size + 1, 6, none⟩ = some (.slice none 0 0) := set_same s6
  clear hc1 hd1 ht1 hc2 hd2 ht2
  rw [hz1]
  have hq1 := eq_some a1 n1 cap1
  have hq2 := fun w => eq_nil w none n2 cap2
  go_wp2_with fail
  refine (judge_l _ _ _ _ _ _ _ _ _ _ _ _ _ _ n1 n2 W1 W2 T1 T2 _ ?_ ?_).mono ?_
  · exact ⟨h1.1, Or.inr ⟨_, _, _, rfl, (((st.set 3 _).set 6 _).set 6 _).t1⟩⟩
  · exact ⟨h2.1, Or.inl ⟨_, _, rfl, z2.out⟩⟩
  rintro e w4 ⟨rfl, hb4⟩
  have st4 := (((st.set 3 _).set 6 _).set 6 _).below hb4
  have hbox4 := st4.box
  clear p3 p6 r3 r6 s6 t6
  clear hb4 hq1 hq2 hb2 hb1 hcc1 hcc2 hff1 hff2 hz1 hz2 st hB1
  go_wp2_with fail
  refine (ref_l _ _ _ _ _ _ _ _ _ _ _ _ _ _ n1 n2 W1 W2 T1 T2 _ (h1.below st4.b) (h2.below st4.b)).mono ?_
  rintro e w5 ⟨rfl, hb5⟩
  have st5 := st4.below hb5
  have hbox5 := st5.box
  clear hb5 st4 hbox4
  generalize jd wt hm (mB th am W1 T1 tag true n1) hn (mB th an W2 T2 tag false n2) hs since hu unl th tm = J
  go_wp2_with fail
  refine (intact_l _ n1 _ W1 T1 _ b1 (h1.below st5.b) ⟨_, _, rfl⟩ st5.t1 st5.c1 st5.d1).mono ?_
  rintro e w6 ⟨rfl, q6, rfl⟩
  have st6 := st5.below (below_drewN (Below.refl _ _) q6)
  have hbox6 := st6.box
  have B5 := st5.b
  clear st5 hbox5
  go_wp2_with fail
  refine (intact_l _ n2 _ W2 T2 _ b2 (h2.below st6.b) ⟨_, _, rfl⟩ st6.t2 st6.c2 st6.d2).mono ?_
  rintro e w7 ⟨rfl, q7, rfl⟩
  go_wp2
  go_ret
  exact ⟨rfl, below_drewN B5 _⟩

set_option maxHeartbeats 1000000 in
theorem judged_nn (wt hm am hn an hs hu th : Bool) (since unl tm : Int) (tag : ByteArray) (cap1 cap2 : Nat) (n1 n2 : Nat) (W1 W2 : Nat → Bool) (T1 T2 : Nat → ByteArray) (w : World)
    (b1 : 24 * (n1 + 2) ≤ 281474976710656) (b2 : 24 * (n2 + 2) ≤ 281474976710656) (h1 : ListAt w (.slice none n1 cap1) n1 W1 T1) (h2 : ListAt w (.slice none n2 cap2) n2 W2 T2) :
    Calls Try.prog 3 #[.agg #[.bool wt, .bool hm, .bool am, .slice none n1 cap1, .bool hn, .bool an, .slice none n2 cap2, .bool hs, .int .i64 since, .bool hu, .int .i64 unl, .bool th, .string tag, .int .i64 tm]] w
      fun e w' => e = .returned (.bool true) ∧ Below w.heap.size w w' := by
  have z1 : Hid (n1 = 0) := zero_of h1
  have z2 : Hid (n2 = 0) := zero_of h2
  go_enter Try.func3, Try.ntmps3
  go_wp2_with fail
  refine (handed_l _ n1 W1 T1 _ b1 (h1.below (((Below.refl _ _).alloc (Nat.le_refl _) _).alloc (by simp) _)) ⟨_, _, rfl⟩).mono ?_
  rintro e w1 ⟨rfl, hb1, hz1, ht1, hc1, hd1⟩
  obtain ⟨hcc1, hff1⟩ := bcell hb1
  simp at hb1 hz1 hcc1 hff1 ht1 hc1 hd1
  have hB1 : Below w.heap.size w w1 := ((((Below.refl _ _).alloc (Nat.le_refl _) _).alloc (by simp) _)).trans (hb1.mono (by omega))
  go_wp2_with fail
  refine (handed_l _ n2 W2 T2 _ b2 (h2.below hB1) ⟨_, _, rfl⟩).mono ?_
  rintro e w2 ⟨rfl, hb2, hz2, ht2, hc2, hd2⟩
  obtain ⟨hcc2, hff2⟩ := bcell hb2
  rw [hz1] at hb2 hz2 hcc2 hff2 ht2 hc2 hd2
  have st : St w w2 #[.bool wt, .bool hm, .bool am, .slice none n1 cap1, .bool hn, .bool an, .slice none n2 cap2, .bool hs, .int .i64 since, .bool hu, .int .i64 unl, .bool th, .string tag, .int .i64 tm] n1 n2 W1 W2 T1 T2 :=
    ⟨hB1.trans (hb2.mono (by omega)), fun j => (hcc2 w.heap.size j (by omega)).trans ((hcc1 w.heap.size j (by omega)).trans (by simp)), ht1.below (by rw [hz1]; exact hb2), ht2, (hcc2 _ _ (by omega)).trans hc1, (hcc2 _ _ (by omega)).trans hd1, hc2, hd2, by omega⟩
  have p3 : w2.cell? ⟨w.heap.size + 1, 3, none⟩ = some (.slice none n1 cap1) := (hcc2 _ _ (by omega)).trans ((hcc1 _ _ (by omega)).trans (by simp))
  have p6 : w2.cell? ⟨w.heap.size + 1, 6, none⟩ = some (.slice none n2 cap2) := (hcc2 _ _ (by omega)).trans ((hcc1 _ _ (by omega)).trans (by simp))
  have r3 : ((w2.setCell ⟨w.heap.size + 1, 3, none⟩ (.slice (some ⟨w.heap.size + 1 + 1, 0, none⟩) n1 (n1 + 2))).setCell ⟨w.heap.size + 1, 6, none⟩ (.slice (some ⟨w.heap.size + 1 + 1 + 1, 0, none⟩) n2 (n2 + 2))).cell? ⟨w.heap.size + 1, 3, none⟩ = some (.slice (some ⟨w.heap.size + 1 + 1, 0, none⟩) n1 (n1 + 2)) := (set_other (by omega)).trans (set_same p3)
  have r6 : ((w2.setCell ⟨w.heap.size + 1, 3, none⟩ (.slice (some ⟨w.heap.size + 1 + 1, 0, none⟩) n1 (n1 + 2))).setCell ⟨w.heap.size + 1, 6, none⟩ (.slice (some ⟨w.heap.size + 1 + 1 + 1, 0, none⟩) n2 (n2 + 2))).cell? ⟨w.heap.size + 1, 6, none⟩ = some (.slice (some ⟨w.heap.size + 1 + 1 + 1, 0, none⟩) n2 (n2 + 2)) := set_same ((set_other (by omega)).trans p6)
  have s3 : (((w2.setCell ⟨w.heap.size + 1, 3, none⟩ (.slice (some ⟨w.heap.size + 1 + 1, 0, none⟩) n1 (n1 + 2))).setCell ⟨w.heap.size + 1, 6, none⟩ (.slice (some ⟨w.heap.size + 1 + 1 + 1, 0, none⟩) n2 (n2 + 2))).setCell ⟨w.heap.size + 1, 3, none⟩ (.slice none 0 0)).cell? ⟨w.heap.size + 1, 3, none⟩ = some (.slice none 0 0) := set_same r3
  have s6 : (((w2.setCell ⟨w.heap.size + 1, 3, none⟩ (.slice (some ⟨w.heap.size + 1 + 1, 0, none⟩) n1 (n1 + 2))).setCell ⟨w.heap.size + 1, 6, none⟩ (.slice (some ⟨w.heap.size + 1 + 1 + 1, 0, none⟩) n2 (n2 + 2))).setCell ⟨w.heap.size + 1, 3, none⟩ (.slice none 0 0)).cell? ⟨w.heap.size + 1, 6, none⟩ = some (.slice (some ⟨w.heap.size + 1 + 1 + 1, 0, none⟩) n2 (n2 + 2)) := (set_other (by omega)).trans r6
  have t6 : ((((w2.setCell ⟨w.heap.size + 1, 3, none⟩ (.slice (some ⟨w.heap.size + 1 + 1, 0, none⟩) n1 (n1 + 2))).setCell ⟨w.heap.size + 1, 6, none⟩ (.slice (some ⟨w.heap.size + 1 + 1 + 1, 0, none⟩) n2 (n2 + 2))).setCell ⟨w.heap.size + 1, 3, none⟩ (.slice none 0 0)).setCell ⟨w.heap.size + 1, 6, none⟩ (.slice none 0 0)).cell? ⟨w.heap.size + 1, 6, none⟩ = some (.slice none 0 0) := set_same s6
  clear hc1 hd1 ht1 hc2 hd2 ht2
  rw [hz1]
  have hq1 := fun w => eq_nil w none n1 cap1
  have hq2 := fun w => eq_nil w none n2 cap2
  go_wp2_with fail
  refine (judge_l _ _ _ _ _ _ _ _ _ _ _ _ _ _ n1 n2 W1 W2 T1 T2 _ ?_ ?_).mono ?_
  · exact ⟨h1.1, Or.inl ⟨_, _, rfl, z1.out⟩⟩
  · exact ⟨h2.1, Or.inl ⟨_, _, rfl, z2.out⟩⟩
  rintro e w4 ⟨rfl, hb4⟩
  have st4 := ((((st.set 3 _).set 6 _).set 3 _).set 6 _).below hb4
  have hbox4 := st4.box
  clear p3 p6 r3 r6 s6 s3 t6
  clear hb4 hq1 hq2 hb2 hb1 hcc1 hcc2 hff1 hff2 hz1 hz2 st hB1
  go_wp2_with fail
  refine (ref_l _ _ _ _ _ _ _ _ _ _ _ _ _ _ n1 n2 W1 W2 T1 T2 _ (h1.below st4.b) (h2.below st4.b)).mono ?_
  rintro e w5 ⟨rfl, hb5⟩
  have st5 := st4.below hb5
  have hbox5 := st5.box
  clear hb5 st4 hbox4
  generalize jd wt hm (mB th am W1 T1 tag true n1) hn (mB th an W2 T2 tag false n2) hs since hu unl th tm = J
  go_wp2_with fail
  refine (intact_l _ n1 _ W1 T1 _ b1 (h1.below st5.b) ⟨_, _, rfl⟩ st5.t1 st5.c1 st5.d1).mono ?_
  rintro e w6 ⟨rfl, q6, rfl⟩
  have st6 := st5.below (below_drewN (Below.refl _ _) q6)
  have hbox6 := st6.box
  have B5 := st5.b
  clear st5 hbox5
  go_wp2_with fail
  refine (intact_l _ n2 _ W2 T2 _ b2 (h2.below st6.b) ⟨_, _, rfl⟩ st6.t2 st6.c2 st6.d2).mono ?_
  rintro e w7 ⟨rfl, q7, rfl⟩
  go_wp2
  go_ret
  exact ⟨rfl, below_drewN B5 _⟩
end Go.Proofs.Ytmehkneofinmiaa

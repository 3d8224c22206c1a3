/-
  The walk of 'Quoted'.
-/
import Derived.Test.YtmehkneofinmiaaDoorQ4
namespace Go.Proofs.YtmehkneofinmiaaDoor
open Go.RowKit

set_option maxRecDepth 100000 in
set_option maxHeartbeats 1000000 in
theorem quoted_walk (weak gaps : Int) (o : Option Addr) (N cap : Nat) (T : Nat → ByteArray) (w : World) (hM : MaxIs w) (hN : 9 * N + sumSz T N ≤ 60000000)
    (hT : 0 < N → ∃ b off, o = some ⟨b, off, none⟩ ∧ ∀ j, j < N → w.cell? ⟨b, off + j, none⟩ = some (.string (T j)))
    (a0 : -9223372036854775808 ≤ weak) (a1 : weak ≤ 9223372036854775807) (b0 : -9223372036854775808 ≤ gaps) (b1 : gaps ≤ 9223372036854775807) :
    Calls Tryd.prog 6 #[.slice o N cap, .int .i64 weak, .int .i64 gaps] w fun e w' => e = .returned (.bool true) ∧ Below w.heap.size w w' := by
  obtain ⟨ti, i1, i2, i3, i4⟩ := info9
  have HI1 : Hid _ := i1
  have HI2 : Hid _ := i2
  have HI3 : Hid _ := i3
  have HI4 : Hid _ := i4
  clear i1 i2 i3 i4
  have HT : Hid _ := hT
  have HNN : Hid _ := hN
  clear hT hN
  go_enter Tryd.func6, Tryd.ntmps6
  go_wp2
  go_loopw [7, 8, 9, 10] (fun out n want i wr => ∃ k : Nat, k ≤ N ∧ out = .string ⟨(outOf (its weak gaps T k)).toArray⟩ ∧ n = .int .i64 k ∧ i = .int .i64 k ∧ Qs w wr want (its weak gaps T k)) (fun _ _ _ i _ => N - (intOf i).toNat)
  case atStart => exact ⟨0, Nat.zero_le _, rfl, rfl, rfl, Below.refl _ _, rfl, Or.inl ⟨rfl, rfl⟩⟩
  case round =>
    obtain ⟨k, hk, rfl, rfl, rfl, qs⟩ := hrel
    have hN := HNN.out
    by_cases hlt : k < N
    · obtain ⟨b, off, rfl, hcs⟩ := HT.out (by omega)
      have hb : b < w.heap.size := cell_lt (hcs k hlt)
      have hck := hcs k hlt
      obtain ⟨s, hs⟩ : ∃ s, T k = s := ⟨_, rfl⟩
      rw [hs] at hck
      have hms := sumSz_mono T (show k + 1 ≤ N by omega)
      have hsz : s.size ≤ 60000000 := by simp only [sumSz, hs] at hms; omega
      clear hcs hms
      have hck2 := (qs.b.cell (p := ⟨b, off + k, none⟩) hb).trans hck
      clear hck2
      go_wp2
      go_loopw [11, 12] (fun t m wr2 => ∃ m' : Nat, m' ≤ s.size ∧ t = .string ⟨((s.data.toList.take m').filter tb).toArray⟩ ∧ m = .int .i64 m' ∧ Qs w wr2 u9 (its weak gaps T k)) (fun _ m _ => s.size - (intOf m).toNat)
      case atStart => exact ⟨0, Nat.zero_le _, rfl, rfl, qs⟩
      case round =>
        obtain ⟨m, hm, rfl, rfl, qs2⟩ := hrel
        have hck2 := (qs2.b.cell (p := ⟨b, off + k, none⟩) hb).trans hck
        by_cases hl2 : m < s.size
        · have hz1 : ((s.data.toList.take m).filter tb).length ≤ 60000000 := by
            have := List.length_filter_le tb (s.data.toList.take m)
            simp at this ⊢
            omega
          have hcv := byte_str wr s[m]
          have ky := keep_yes s m hl2
          have kn := keep_no s m hl2
          have KY : Hid _ := ky
          have KN : Hid _ := kn
          have KT : Hid _ := tb_iff s[m]
          clear ky kn
          obtain ⟨t, ht⟩ : ∃ t, (s.data.toList.take m).filter tb = t := ⟨_, rfl⟩
          rw [ht] at hz1 KY KN ⊢
          have hal : Below wr.heap.size wr (wr.alloc (.cells #[.int .u8 (s[m].toNat : Int)] 5)) := (Below.refl _ _).alloc (Nat.le_refl _) _
          go_wp2
          · have hn : tb s[m] = false := by rw [Bool.eq_false_iff, Ne, KT.out]; omega
            exact ⟨⟨m + 1, by omega, by rw [KN.out hn], by go_num, qs2⟩, by simp [intOf]; omega⟩
          · have hy : tb s[m] = true := by rw [KT.out]; have := ‹_ ∧ _›; simp at this; omega
            exact ⟨⟨m + 1, by omega, by rw [KY.out hy]; rw [← str_app], by go_num, qs2.below hal⟩, by simp [intOf]; omega⟩
          · have hn : tb s[m] = false := by rw [Bool.eq_false_iff, Ne, KT.out]; have := ‹_ ∨ _›; simp at this; omega
            exact ⟨⟨m + 1, by omega, by rw [KN.out hn], by go_num, qs2⟩, by simp [intOf]; omega⟩
          · have hn : tb s[m] = false := by rw [Bool.eq_false_iff, Ne, KT.out]; omega
            exact ⟨⟨m + 1, by omega, by rw [KN.out hn], by go_num, qs2⟩, by simp [intOf]; omega⟩
        · obtain rfl : m = s.size := by omega
          rw [List.take_of_length_le (by rw [Lib.size_eq]; exact Nat.le_refl _)]
          have hlen := out_len weak gaps T k
          have htl := List.length_filter_le tb s.data.toList
          have hsn := sumSz_mono T (show k + 1 ≤ N by omega)
          simp only [sumSz, hs] at hsn
          rw [← Lib.size_eq] at htl
          have HI : Hid (itemOf weak gaps T k = (pk (wrap64 (weak + k)) 2 == 1, s.data.toList.filter tb, gapOf (pk (wrap64 (gaps + k)) 4))) := by
            show _ = _
            rw [itemOf, hs]
          obtain ⟨t, ht⟩ : ∃ t, s.data.toList.filter tb = t := ⟨_, rfl⟩
          obtain ⟨L, hL⟩ : ∃ L, outOf (its weak gaps T k) = L := ⟨_, rfl⟩
          rw [ht] at htl HI ⊢
          rw [hL] at hlen ⊢
          have hLl : L.length + t.length ≤ 60000000 := by omega
          have bd1 := wrap_bd (gaps + k)
          have bd2 := wrap_bd (weak + k)
          have pb1 := pk_bd (wrap64 (gaps + k)) 4 (by omega)
          obtain ⟨j, hj⟩ : ∃ j : Nat, pk (wrap64 (gaps + k)) 4 = (j : Int) := ⟨(pk (wrap64 (gaps + k)) 4).toNat, by omega⟩
          have hj4 : j < 4 := by omega
          have HP : Hid _ := pick_any (wrap64 (gaps + k)) 4 (wr.alloc (.cells #[.string ⟨#[]⟩, .string ⟨#[32]⟩, .string ⟨#[9]⟩, .string ⟨#[32, 32]⟩] 9)) bd1.1 bd1.2 (by omega) (by omega)
          rw [hj] at HP HI
          by_cases hk0 : ¬ 0 < k
          · have h00 : Hid (its weak gaps T k = []) := by show _ = _; rw [show k = 0 by omega]; rfl
            have hL0 : Hid (L = []) := by show _ = _; rw [← hL, h00.out]; rfl
            have e1 : Hid (wrap64 (gaps + k) = gaps + k) := by show _ = _; unfold wrap64; omega
            have e2 : Hid (wrap64 (weak + k) = weak + k) := by show _ = _; unfold wrap64; omega
            rw [e1.out] at HP
            rw [e2.out] at HI bd2
            go_wp2_with fail
            refine Calls.mono HP.out ?_
            rintro e w1 ⟨rfl, hw1⟩
            have hgc := gap_cell wr j hj4
            have hgl := gap_len j
            have hb1 : Below wr.heap.size wr w1 := by rw [hw1]; exact (Below.refl _ _).alloc (Nat.le_refl _) _
            rw [← hw1] at hgc
            clear HP hw1
            obtain ⟨G, hG⟩ : ∃ G, gapOf j = G := ⟨_, rfl⟩
            rw [hG] at hgl hgc HI
            have HP : Hid _ := fun x => pick_any (weak + k) 2 x bd2.1 bd2.2 (by omega) (by omega)
            obtain ⟨pw, hpw⟩ : ∃ pw, pk (weak + k) 2 = pw := ⟨_, rfl⟩
            rw [hpw] at HP HI
            go_wp2_with fail
            refine Calls.mono (HP.out _) ?_
            rintro e w2 ⟨rfl, rfl⟩
            have hal : Below wr.heap.size wr (w2.alloc (.cells #[.string ⟨t.toArray⟩] 9)) := hb1.alloc hb1.size _
            have HO : Hid _ := owns_below qs2.o hal
            have HN : Hid _ := one_new w2 (.string ⟨t.toArray⟩) 9
            have hil := its_len weak gaps T k
            have hws : w.heap.size ≤ w2.heap.size := Nat.le_trans qs2.b.size hb1.size
            by_cases hp1 : pw = 1
            · go_wp2_with (first | (at_builtin; refine wpList_append_own _ rfl (.tmp 88) (.tmp 90) 39 rfl w.heap.size 9 ti (.string ⟨#[]⟩) 1 16 Tryd.underlying39 HI1.out HI4.out HI2.out HI3.out rfl (by omega) u9 (its weak gaps T k).length (wantL (its weak gaps T k)) rfl HO.out ⟨w2.heap.size, 0, none⟩ 1 1 [.string ⟨t.toArray⟩] rfl rfl HN.out (by intro u hu; simp at hu; rcases hu with rfl; rfl) (by unfold maxLen; omega) (by omega) (by simp; omega) ?_; intro v' w3 hown3 hgr _; clear HO HN))
              refine ⟨⟨k + 1, by omega, ?_, by go_num, by go_num, ?_⟩, by simp [intOf]; omega⟩
              · refine congrArg Value.string ?_
                rw [its, HI.out, h00.out, List.nil_append, out_first]
                apply ByteArray.ext
                simp [ByteArray.data_append, mk, hp1, hL0.out]
              · rw [its, HI.out]
                exact qs2.grow hal hgr hown3
            · go_wp2_with (first | (at_builtin; refine wpList_append_own _ rfl (.tmp 88) (.tmp 90) 39 rfl w.heap.size 9 ti (.string ⟨#[]⟩) 1 16 Tryd.underlying39 HI1.out HI4.out HI2.out HI3.out rfl (by omega) u9 (its weak gaps T k).length (wantL (its weak gaps T k)) rfl HO.out ⟨w2.heap.size, 0, none⟩ 1 1 [.string ⟨t.toArray⟩] rfl rfl HN.out (by intro u hu; simp at hu; rcases hu with rfl; rfl) (by unfold maxLen; omega) (by omega) (by simp; omega) ?_; intro v' w3 hown3 hgr _; clear HO HN))
              refine ⟨⟨k + 1, by omega, ?_, by go_num, by go_num, ?_⟩, by simp [intOf]; omega⟩
              · refine congrArg Value.string ?_
                rw [its, HI.out, h00.out, List.nil_append, out_first]
                apply ByteArray.ext
                simp [ByteArray.data_append, mk, hp1, hL0.out]
              · rw [its, HI.out]
                exact qs2.grow hal hgr hown3
          · have hne : its weak gaps T k ≠ [] := by
              intro h0
              have := its_len weak gaps T k
              rw [h0] at this
              simp at this
              omega
            go_wp2_with fail
            refine Calls.mono HP.out ?_
            rintro e w1 ⟨rfl, hw1⟩
            have hgc := gap_cell wr j hj4
            have hgl := gap_len j
            have hb1 : Below wr.heap.size wr w1 := by rw [hw1]; exact (Below.refl _ _).alloc (Nat.le_refl _) _
            rw [← hw1] at hgc
            clear HP hw1
            obtain ⟨G, hG⟩ : ∃ G, gapOf j = G := ⟨_, rfl⟩
            rw [hG] at hgl hgc HI
            have HP : Hid _ := fun x => pick_any (wrap64 (weak + k)) 2 x bd2.1 bd2.2 (by omega) (by omega)
            obtain ⟨pw, hpw⟩ : ∃ pw, pk (wrap64 (weak + k)) 2 = pw := ⟨_, rfl⟩
            rw [hpw] at HP HI
            go_wp2_with fail
            refine Calls.mono (HP.out _) ?_
            rintro e w2 ⟨rfl, rfl⟩
            have hal : Below wr.heap.size wr (w2.alloc (.cells #[.string ⟨t.toArray⟩] 9)) := hb1.alloc hb1.size _
            have HO : Hid _ := owns_below qs2.o hal
            have HN : Hid _ := one_new w2 (.string ⟨t.toArray⟩) 9
            have hil := its_len weak gaps T k
            have hws : w.heap.size ≤ w2.heap.size := Nat.le_trans qs2.b.size hb1.size
            by_cases hp1 : pw = 1
            · go_wp2_with (first | (at_builtin; refine wpList_append_own _ rfl (.tmp 88) (.tmp 90) 39 rfl w.heap.size 9 ti (.string ⟨#[]⟩) 1 16 Tryd.underlying39 HI1.out HI4.out HI2.out HI3.out rfl (by omega) u9 (its weak gaps T k).length (wantL (its weak gaps T k)) rfl HO.out ⟨w2.heap.size, 0, none⟩ 1 1 [.string ⟨t.toArray⟩] rfl rfl HN.out (by intro u hu; simp at hu; rcases hu with rfl; rfl) (by unfold maxLen; omega) (by omega) (by simp; omega) ?_; intro v' w3 hown3 hgr _; clear HO HN))
              refine ⟨⟨k + 1, by omega, ?_, by go_num, by go_num, ?_⟩, by simp [intOf]; omega⟩
              · refine congrArg Value.string ?_
                rw [its, HI.out, out_more _ _ hne, hL]
                apply ByteArray.ext
                simp [ByteArray.data_append, mk, hp1]
              · rw [its, HI.out]
                exact qs2.grow hal hgr hown3
            · go_wp2_with (first | (at_builtin; refine wpList_append_own _ rfl (.tmp 88) (.tmp 90) 39 rfl w.heap.size 9 ti (.string ⟨#[]⟩) 1 16 Tryd.underlying39 HI1.out HI4.out HI2.out HI3.out rfl (by omega) u9 (its weak gaps T k).length (wantL (its weak gaps T k)) rfl HO.out ⟨w2.heap.size, 0, none⟩ 1 1 [.string ⟨t.toArray⟩] rfl rfl HN.out (by intro u hu; simp at hu; rcases hu with rfl; rfl) (by unfold maxLen; omega) (by omega) (by simp; omega) ?_; intro v' w3 hown3 hgr _; clear HO HN))
              refine ⟨⟨k + 1, by omega, ?_, by go_num, by go_num, ?_⟩, by simp [intOf]; omega⟩
              · refine congrArg Value.string ?_
                rw [its, HI.out, out_more _ _ hne, hL]
                apply ByteArray.ext
                simp [ByteArray.data_append, mk, hp1]
              · rw [its, HI.out]
                exact qs2.grow hal hgr hown3
    · obtain rfl : k = N := by omega
      have hlen := out_len weak gaps T k
      have hao := its_ok weak gaps T k
      have hil := its_len weak gaps T k
      have HA : Hid _ := fun j (hj : j < k) => its_get weak gaps T k j hj
      obtain ⟨a, ha⟩ : ∃ a, its weak gaps T k = a := ⟨_, rfl⟩
      rw [ha] at hlen hao hil HA qs ⊢
      have HB := fun x hx => tags_built a x hx hao (by omega)
      have HC := fun x hx => tags_not (outOf a ++ [44]) x hx (by simp; omega) (bad_comma a hao)
      have HD := fun x hx => tags_not (outOf a ++ [32, 97]) x hx (by simp; omega) (bad_a a hao)
      obtain ⟨L, hL⟩ : ∃ L, outOf a = L := ⟨_, rfl⟩
      rw [hL] at hlen HB HC HD ⊢
      have e44 : (⟨L.toArray⟩ : ByteArray) ++ ⟨#[44]⟩ = ⟨(L ++ [44]).toArray⟩ := str_app L [44]
      have e97 : (⟨L.toArray⟩ : ByteArray) ++ ⟨#[32, 97]⟩ = ⟨(L ++ [32, 97]).toArray⟩ := str_app L [32, 97]
      simp only [← e44] at HC
      simp only [← e97] at HD
      clear e44 e97
      have HB1 : Hid _ := HB
      have HC1 : Hid _ := HC
      have HD1 : Hid _ := HD
      have hLl : L.length ≤ 60000000 := by omega
      clear HB HC HD HT hL ha
      go_wp2_with fail
      refine Calls.mono (HB1.out _ (hM.below qs.b)) ?_
      rintro e w1 ⟨hb1, v, rfl, ho1⟩
      obtain ⟨bo, cp, rfl⟩ : ∃ bo cp, v = .slice bo k cp := by
        rw [hil] at ho1
        rcases ho1.2 with ⟨rfl, h0⟩ | ⟨g, cap, cur, rfl, _⟩
        · rw [h0]; exact ⟨_, _, rfl⟩
        · exact ⟨_, _, rfl⟩
      have xs1 : Xs w (w1.alloc (.cells #[.bool false, .slice bo k cp] 28)) u9 a w1.heap.size (.slice bo k cp) :=
        ⟨(qs.below hb1).below ((Below.refl _ _).alloc (Nat.le_refl _) _), by simp, by simp, owns_below (owns_mono ho1 qs.b.size) ((Below.refl _ _).alloc (Nat.le_refl _) _), by simp⟩
      clear ho1 hb1 qs HB1
      go_wp2_with fail
      refine Calls.mono (HC1.out _ (hM.below xs1.q.b)) ?_
      rintro e w2 ⟨hb2, rfl⟩
      have xs2 := (xs1.below hb2).below ((Below.refl _ _).alloc (Nat.le_refl _) (.cells #[.bool false, .slice none 0 0] 28))
      clear xs1 hb2 HC1
      go_wp2_with fail
      refine Calls.mono (HD1.out _ (hM.below xs2.q.b)) ?_
      rintro e w3 ⟨hb3, rfl⟩
      have xs3 := (xs2.below hb3).below ((Below.refl _ _).alloc (Nat.le_refl _) (.cells #[.bool false, .slice none 0 0] 28))
      clear xs2 hb3 HD1
      go_wp2_with fail
      refine (tags_star _ (hM.below xs3.q.b)).mono ?_
      rintro e w4 ⟨hb4, rfl⟩
      have xs4 := (xs3.below hb4).below ((Below.refl _ _).alloc (Nat.le_refl _) (.cells #[.bool true, .slice none 0 0] 28))
      have hlt4 : w1.heap.size < w4.heap.size := (xs3.below hb4).lt
      have k0 := (xs3.below hb4).c0
      have k1 := (xs3.below hb4).c1
      clear xs3 hb4
      go_wp2
      clear k0 k1
      go_loopw [24] (fun i wz => ∃ m : Nat, m ≤ k ∧ i = .int .i64 m ∧ Xs w wz u9 a w1.heap.size (.slice bo k cp)) (fun i _ => k - (intOf i).toNat)
      case atStart => exact ⟨0, Nat.zero_le _, rfl, xs4⟩
      case round =>
        obtain ⟨m, hm, rfl, xs⟩ := hrel
        by_cases hl : m < k
        · have hit := HA.out m hl
          have htg : (tagsOf a)[m]? = some ((itemOf weak gaps T m).1, (itemOf weak gaps T m).2.1) := by simp [tagsOf, hit]
          have hwt : (wantL a)[m]? = some (.string ⟨(itemOf weak gaps T m).2.1.toArray⟩) := by simp [wantL, hit]
          have hi1 : (itemOf weak gaps T m).1 = (pk (wrap64 (weak + m)) 2 == 1) := rfl
          obtain ⟨wk, hwk⟩ : ∃ wk, (itemOf weak gaps T m).1 = wk := ⟨_, rfl⟩
          obtain ⟨t, ht⟩ : ∃ t : List UInt8, (itemOf weak gaps T m).2.1 = t := ⟨_, rfl⟩
          rw [hwk] at htg hi1
          rw [ht] at htg hwt
          obtain ⟨S, hS⟩ : ∃ S : ByteArray, (⟨t.toArray⟩ : ByteArray) = S := ⟨_, rfl⟩
          have ct := cellsT_at (tagsOf a) m _ htg
          simp only [hS] at ct hwt
          obtain ⟨g, hg⟩ : ∃ g, bo = some ⟨g, 0, none⟩ := by
            rcases xs.o.2 with ⟨_, h0⟩ | ⟨g, cap, cur, hv, _⟩
            · omega
            · injection hv with h1
              exact ⟨g, h1⟩
          subst hg
          obtain ⟨h, cp2, hu⟩ : ∃ h cp2, u9 = .slice (some ⟨h, 0, none⟩) k cp2 := by
            rcases xs.q.o.2 with ⟨_, h0⟩ | ⟨h, cap, cur, hv, _⟩
            · omega
            · exact ⟨h, cap, by rw [hv, hil]⟩
          subst hu
          have c1 := xs.o.cells (g := g) rfl _ _ ct.1
          have c2 := xs.o.cells (g := g) rfl _ _ ct.2
          have c3 := xs.q.o.cells (g := h) rfl _ _ hwt
          rw [Go.WideShapes.add_plain, Nat.zero_add] at c1 c2 c3
          have k0 := xs.c0
          have k1 := xs.c1
          have bd := wrap_bd (weak + m)
          have hpc := fun x => pick_any (wrap64 (weak + m)) 2 x bd.1 bd.2 (by omega) (by omega)
          obtain ⟨pw, hpw⟩ : ∃ pw, pk (wrap64 (weak + m)) 2 = pw := ⟨_, rfl⟩
          rw [hpw] at hpc hi1
          have HPC : Hid _ := hpc
          have ks : (S.toList != S.toList) = false := by simp
          have ks' : (S.toList == S.toList) = true := by simp
          clear hpc hpw hit htg hwt ct HA bd hwk ht hS
          by_cases hp1 : pw = 1
          · obtain rfl : wk = true := by rw [hi1, hp1]; rfl
            clear hi1
            go_wp2
            go_quiet ((go_at_call 16; exact Calls.quiet_of_same (HPC.out _)))
            obtain ⟨wz, hwz⟩ : ∃ wz, wz = wr.drewN nq := ⟨_, rfl⟩
            have hbz : Below wr.heap.size wr wz := by rw [hwz]; exact below_drewN (Below.refl _ _) nq
            rw [← hwz]
            have xs' := xs.below hbz
            clear hwz hbz c1 c2 c3 k0 k1 HPC ks ks'
            go_wp2
            exact ⟨⟨m + 1, by omega, by go_num, xs'⟩, by simp [intOf]; omega⟩
          · obtain rfl : wk = false := by rw [hi1]; simpa using hp1
            clear hi1
            go_wp2
            go_quiet ((go_at_call 16; exact Calls.quiet_of_same (HPC.out _)))
            obtain ⟨wz, hwz⟩ : ∃ wz, wz = wr.drewN nq := ⟨_, rfl⟩
            have hbz : Below wr.heap.size wr wz := by rw [hwz]; exact below_drewN (Below.refl _ _) nq
            rw [← hwz]
            have xs' := xs.below hbz
            clear hwz hbz c1 c2 c3 k0 k1 HPC ks ks'
            go_wp2
            exact ⟨⟨m + 1, by omega, by go_num, xs'⟩, by simp [intOf]; omega⟩
        · go_wp2
          go_ret
          exact ⟨rfl, xs.q.b⟩
end Go.Proofs.YtmehkneofinmiaaDoor

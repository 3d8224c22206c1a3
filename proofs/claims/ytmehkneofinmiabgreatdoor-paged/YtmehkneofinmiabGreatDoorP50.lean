/-
  Texts of this proof, part 50.
-/
import Derived.Test.YtmehkneofinmiabGreatDoorP49
namespace Go.Proofs.YtmehkneofinmiabGreatDoor
open Go.RowKit
set_option linter.unusedSimpArgs false in
set_option linter.unusedVariables false in
set_option maxRecDepth 100000 in
set_option maxHeartbeats 16000000 in
theorem paged_tail {c0 c1 c2 c3 c4 c7 c8 c9 c10 c11 c12 c13 c14 c15 c16 c17 c18 c19 c20 c21 c22 c23 c24 c25 c26 c27 c28 c29 c30 c31 c32 c33 c34 c35 c36 c37 c38 c39 c40 c41 c42 c43 c44 c45 c46 c47 c48 c49 c50 c51 c52 c53 c54 c55 c56 c57 c58 c59 c60 c61 c62 c63 c64 c65 c66 c67 c68 c69 c70 c71 c72 c73 c74 c75 c76 c77 c78 c79 c80 c81 c82 c83 c84 c85 c86 c87 c88 c89 c90 c91 c92 c93 c94 c95 c96 c97 c98 c99 c100 c101 c102 c103 c104 c105 c106 c107 c108 c109 c110 c111 c112 c113 c114 c115 c116 c117 c118 c119 c120 c121 c122 c123 c124 c125 c126 c127 c128 c129 c130 c131 c132 c133 c134 c135 c136 c137 c138 c139 c140 c141 c142 c143 c144 c145 c146 : Value} (w wr : World) (b s n N : Nat) (t : List UInt8) (K T : Nat → List UInt8) (TO : List UInt8) (I : Nat → World → Prop) (J : World → Prop) (np : Nat) (tg : Nat → List UInt8) (sn : Nat → Nat) (la : Nat → List UInt8) (ks : Nat → List (List UInt8)) (G mo : Nat → List UInt8) (HS : Hid (Psk w.heap.size b s n N K T I J TO)) (HG : Hid (Pgs s w.heap.size N t J np tg sn la ks G mo)) (hN : N ≤ 61) (hJ4 : J wr) (hO4 : Off (fun k => w.heap.size ≤ k) w wr) (Q : Exit → Act → World → Prop)
    (HEX : Hid (∀ (t10 t11 t12 t13 t14 t15 t16 t17 t18 t19 t62 t63 t64 t65 t66 t67 t68 t69 t70 t71 t72 t73 t74 t75 t76 t77 t78 t79 t80 t81 t82 t83 t84 t85 t86 t87 t88 t89 t90 t91 t92 t93 t94 t95 t96 t97 t98 t99 t100 t101 t102 t103 t104 t105 t106 t107 t108 t109 t110 t111 t112 t113 t114 t115 t116 t117 t118 t119 t120 t121 t122 t123 t124 t125 t126 t127 t128 t129 t130 t131 t132 t133 t134 t135 t136 t137 t138 t139 t140 t141 t142 t143 t144 t145 t146 : Value) (w' : World), Off (fun k => w.heap.size ≤ k) w w' → Q .ret ⟨(c0 :: c1 :: c2 :: c3 :: .bool true :: .pointer (some ⟨b, 0, none⟩) :: .int .i64 (N : Int) :: c7 :: c8 :: c9 :: t10 :: t11 :: t12 :: t13 :: t14 :: t15 :: t16 :: t17 :: t18 :: t19 :: c20 :: c21 :: c22 :: c23 :: c24 :: c25 :: c26 :: c27 :: c28 :: c29 :: c30 :: c31 :: c32 :: c33 :: c34 :: c35 :: c36 :: c37 :: c38 :: c39 :: c40 :: c41 :: c42 :: c43 :: c44 :: c45 :: c46 :: c47 :: c48 :: c49 :: c50 :: c51 :: c52 :: c53 :: c54 :: c55 :: c56 :: c57 :: c58 :: c59 :: c60 :: c61 :: t62 :: t63 :: t64 :: t65 :: t66 :: t67 :: t68 :: t69 :: t70 :: t71 :: t72 :: t73 :: t74 :: t75 :: t76 :: t77 :: t78 :: t79 :: t80 :: t81 :: t82 :: t83 :: t84 :: t85 :: t86 :: t87 :: t88 :: t89 :: t90 :: t91 :: t92 :: t93 :: t94 :: t95 :: t96 :: t97 :: t98 :: t99 :: t100 :: t101 :: t102 :: t103 :: t104 :: t105 :: t106 :: t107 :: t108 :: t109 :: t110 :: t111 :: t112 :: t113 :: t114 :: t115 :: t116 :: t117 :: t118 :: t119 :: t120 :: t121 :: t122 :: t123 :: t124 :: t125 :: t126 :: t127 :: t128 :: t129 :: t130 :: t131 :: t132 :: t133 :: t134 :: t135 :: t136 :: t137 :: t138 :: t139 :: t140 :: t141 :: t142 :: t143 :: t144 :: t145 :: t146 :: []).toArray, []⟩ w')) :
    Code.wp Tryz.prog pagedTail Q ⟨(c0 :: c1 :: c2 :: c3 :: c4 :: .pointer (some ⟨b, 0, none⟩) :: .int .i64 (N : Int) :: c7 :: c8 :: c9 :: c10 :: c11 :: c12 :: c13 :: c14 :: c15 :: c16 :: c17 :: c18 :: c19 :: c20 :: c21 :: c22 :: c23 :: c24 :: c25 :: c26 :: c27 :: c28 :: c29 :: c30 :: c31 :: c32 :: c33 :: c34 :: c35 :: c36 :: c37 :: c38 :: c39 :: c40 :: c41 :: c42 :: c43 :: c44 :: c45 :: c46 :: c47 :: c48 :: c49 :: c50 :: c51 :: c52 :: c53 :: c54 :: c55 :: c56 :: c57 :: c58 :: c59 :: c60 :: c61 :: c62 :: c63 :: c64 :: c65 :: c66 :: c67 :: c68 :: c69 :: c70 :: c71 :: c72 :: c73 :: c74 :: c75 :: c76 :: c77 :: c78 :: c79 :: c80 :: c81 :: c82 :: c83 :: c84 :: c85 :: c86 :: c87 :: c88 :: c89 :: c90 :: c91 :: c92 :: c93 :: c94 :: c95 :: c96 :: c97 :: c98 :: c99 :: c100 :: c101 :: c102 :: c103 :: c104 :: c105 :: c106 :: c107 :: c108 :: c109 :: c110 :: c111 :: c112 :: c113 :: c114 :: c115 :: c116 :: c117 :: c118 :: c119 :: c120 :: c121 :: c122 :: c123 :: c124 :: c125 :: c126 :: c127 :: c128 :: c129 :: c130 :: c131 :: c132 :: c133 :: c134 :: c135 :: c136 :: c137 :: c138 :: c139 :: c140 :: c141 :: c142 :: c143 :: c144 :: c145 :: c146 :: []).toArray, []⟩ wr := by
  conv => arg 2; whnf
  have HJ4 : Hid _ := hJ4
  have HO4 : Hid _ := hO4
  clear hJ4 hO4
  go_wp2_with fail
  go_loopw [10, 11, 12, 13, 14, 15, 16, 17, 18, 19] (fun ta se l' pv _ _ _ _ _ _ wr => ∃ p : Nat, p < np ∧ ta = .string ⟨(tg p).toArray⟩ ∧ se = .int .i64 (sn p : Nat) ∧ l' = .string ⟨(la p).toArray⟩ ∧ pv = .int .i64 p ∧ J wr ∧ Off (fun k => w.heap.size ≤ k) w wr) (fun _ _ _ pv _ _ _ _ _ _ _ => np - (intOf pv).toNat)
  case atStart => exact ⟨0, HG.out.np1, by rw [HG.out.tg0], by rw [HG.out.sn0]; rfl, by rw [HG.out.la0], rfl, HJ4.out, HO4.out⟩
  case round =>
    obtain ⟨p, hp, rfl, rfl, rfl, rfl, hJr, hOr⟩ := hrel
    have hp3 : (p : Int) < 3 := by have := HG.out.np2; omega
    have HJR : Hid _ := hJr
    have HOR : Hid _ := hOr
    have c0 := HS.out.cJ _ hJr
    have lt0 := HS.out.szJ _ hJr
    clear hJr hOr HJ4 HO4
    have hul := HG.out.tl p hp
    have hsb := HG.out.sb p hp
    have hkl := HG.out.len p hp
    have HKEY : Hid _ := HG.out.key p hp
    have HORD : Hid _ := HG.out.ord p hp
    have HAS : Hid _ := HG.out.ask p hp
    have HBO : Hid _ := HG.out.body p hp
    have HCO2 : Hid _ := HG.out.code p hp
    have HMO : Hid _ := HG.out.more p hp
    have HNX : Hid _ := HG.out.nxt p
    have HFI : Hid _ := HG.out.fin p
    have ht19 := HG.out.tl19
    obtain ⟨U, hU⟩ : ∃ x, tg p = x := ⟨_, rfl⟩
    obtain ⟨KS, hKS⟩ : ∃ x, ks p = x := ⟨_, rfl⟩
    obtain ⟨g, hg⟩ : ∃ x, G p = x := ⟨_, rfl⟩
    obtain ⟨M, hM⟩ : ∃ x, mo p = x := ⟨_, rfl⟩
    obtain ⟨LA, hLA⟩ : ∃ x, la p = x := ⟨_, rfl⟩
    obtain ⟨SN, hSN⟩ : ∃ x, sn p = x := ⟨_, rfl⟩
    rw [hU] at hul HAS ⊢
    rw [hKS] at hkl HKEY HORD HBO HNX HFI
    rw [hg] at HAS HBO HCO2 HMO
    rw [hM] at HMO HNX HFI
    rw [hLA] at HORD HNX ⊢
    rw [hSN] at hsb HNX HFI ⊢
    have hbl : (bodyP t KS).length ≤ 3000 := by
      have := bodyP_len t KS (fun k hk => (HKEY.out k hk).2.1)
      rw [ht19] at this
      have : KS.length * 60 ≤ 50 * 60 := Nat.mul_le_mul_right _ hkl
      omega
    have HQ : Hid (∀ y, Calls Tryz.prog 12 #[.string ⟨#[71, 69, 84]⟩, .string ⟨U.toArray⟩, .string ⟨#[]⟩, .string ⟨#[]⟩] y fun e w' => e = .returned (.string ⟨(reqB [71, 69, 84] U [] []).toArray⟩) ∧ w' = y) :=
      fun y => request_any [71, 69, 84] U [] [] y (by decide) (by omega) (by decide) (by decide)
    obtain ⟨R, hR⟩ : ∃ R, reqB [71, 69, 84] U [] [] = R := ⟨_, rfl⟩
    rw [hR] at HAS HQ
    have HOFF : Hid (offP t KS KS.length = (bodyP t KS).length) := offP_all t KS
    have HGET : Hid (∀ (j : Nat) (k : List UInt8), KS[j]? = some k → ∀ r, r < k.length + 20 → (bodyP t KS)[offP t KS j + r]? = (lnP t k)[r]?) := fun j k h r hr => bodyP_get t h r (by omega)
    have HKY : Hid (∀ (j : Nat) (k : List UInt8), KS[j]? = some k → ((bodyP t KS).drop (offP t KS j)).take k.length = k) := fun j k h => bodyP_key t h
    obtain ⟨L, hL⟩ : ∃ x, bodyP t KS = x := ⟨_, rfl⟩
    have HLL : Hid (bodyP t KS = L) := hL
    rw [hL] at HBO hbl HOFF HGET HKY
    clear hR hL hU hg hM hLA hSN
    go_wp2_with fail
    go_region_held3 (fun y => y.cell? ⟨b, 0, none⟩ = some (.pointer (some ⟨s, 0, none⟩))) (first | assumption | go_keep) (first
      | (go_at_call 12
         refine Calls.mono (HQ.out _) ?_
         rintro e w6 ⟨rfl, rfl⟩)
      | (go_at_call 11
         refine Calls.mono (HAS.out _ (HS.out.belJ _ _ HJR.out (Below.refl _ _).drew)) ?_
         rintro e w7 ⟨rfl, i7, o7⟩
         have s7 := HS.out.cJ _ i7))
    have HJ7 : Hid (J w7) := i7
    have HO7 : Hid (Off (fun k => w.heap.size ≤ k) w w7) := (HOR.out.trans (Off.of_below (Below.refl _ _).drew)).trans o7
    clear i7 o7 s7 c0 lt0 HJR HOR HQ HAS
    go_wp2_with (go_at_call 15; refine Calls.mono (HBO.out _) ?_; rintro e w8 ⟨rfl, rfl⟩)
    go_loopw [12, 16, 17, 18] (fun l' li at' iv wi => ∃ j i : Nat, wi = w8 ∧ j ≤ KS.length ∧ l' = .string ⟨(lastP LA KS j).toArray⟩ ∧ li = .int .i64 j ∧ at' = .int .i64 (offP t KS j : Nat) ∧ iv = .int .i64 i ∧ offP t KS j ≤ i ∧ i ≤ L.length ∧ (j < KS.length → i < offP t KS (j + 1))) (fun _ _ _ iv _ => L.length - (intOf iv).toNat)
    case atStart => exact ⟨0, 0, rfl, Nat.zero_le _, rfl, rfl, by simp [offP, bodyP], rfl, by simp [offP, bodyP], Nat.zero_le _, fun h => by
      obtain ⟨k, hk⟩ : ∃ k, KS[0]? = some k := ⟨_, List.getElem?_eq_getElem h⟩
      rw [offP_succ t hk]
      omega⟩
    case round =>
      obtain ⟨j, i, rfl, hj, rfl, rfl, rfl, rfl, hlo, hhi, hin⟩ := hrel
      have hofL := HOFF.out
      by_cases hiL : i < L.length
      · have hjk : j < KS.length := by
          rcases Nat.lt_or_ge j KS.length with h | h
          · exact h
          · have : j = KS.length := by omega
            rw [this, hofL] at hlo
            omega
        obtain ⟨k, hk⟩ : ∃ k, KS[j]? = some k := ⟨_, List.getElem?_eq_getElem hjk⟩
        have hkk := HKEY.out k (List.mem_of_getElem? hk)
        have hos := offP_succ t hk
        rw [ht19] at hos
        have hi2 := hin hjk
        obtain ⟨o, ho⟩ : ∃ o, offP t KS j = o := ⟨_, rfl⟩
        have hget := HGET.out j k hk (i - offP t KS j) (by omega)
        have hky := HKY.out j k hk
        have hord := HORD.out j k hk
        have HLS : Hid (lastP LA KS (j + 1) = k) := by
          show KS.getD j [] = k
          rw [List.getD_eq_getElem?_getD, hk]
          rfl
        rw [show offP t KS j + (i - offP t KS j) = i by omega] at hget
        rw [ho] at hlo hos hget hky ⊢
        obtain ⟨o2, ho2⟩ : ∃ o, offP t KS (j + 1) = o := ⟨_, rfl⟩
        have HO2 : Hid _ := ho2
        rw [ho2] at hos hi2
        obtain ⟨lp, hlp⟩ : ∃ x, lastP LA KS j = x := ⟨_, rfl⟩
        rw [hlp] at hord ⊢
        obtain ⟨sB, hsB⟩ : ∃ x : ByteArray, (⟨L.toArray⟩ : ByteArray) = x := ⟨_, rfl⟩
        have hsz : sB.size = L.length := by rw [← hsB, Lib.size_eq]
        have hiS : i < sB.size := by omega
        have hiI : (i : Int) < (sB.size : Int) := by omega
        have hbyte : L[i]? = some (sB[i]) := by
          subst hsB
          rw [at_list2]
          exact List.getElem?_eq_getElem hiL
        have hw1 : IntKind.i64.wrap ((i : Int) + 1) = ((i + 1 : Nat) : Int) := by rw [IntKind.wrap_i64]; omega
        by_cases hend : i = o + k.length + 19
        · have h10 : (sB[i].toNat : Int) = 10 := by
            rw [hget, show i - o = k.length + t.length by omega, lnP_end] at hbyte
            have := Option.some.inj hbyte
            rw [← this]
            rfl
          have hw2 : IntKind.i64.wrap ((i : Int) - (o : Int)) = ((k.length + 19 : Nat) : Int) := by rw [IntKind.wrap_i64]; omega
          have hw3 : IntKind.i64.wrap ((i : Int) - 19) = ((o + k.length : Nat) : Int) := by rw [IntKind.wrap_i64]; omega
          have hge : ¬ ((k.length + 19 : Nat) : Int) < 20 := by omega
          have hext : sB.extract o (o + k.length) = ⟨k.toArray⟩ := by
            rw [← hsB]
            apply ByteArray.ext
            apply Array.toList_inj.1
            have := ext_take2 L o k.length
            rw [hky] at this
            exact this
          have hb1 : ((o : Nat) : Int) ≤ ((o + k.length : Nat) : Int) := by omega
          have hb2 : ((o + k.length : Nat) : Int) ≤ (sB.size : Int) := by omega
          have ho1 := hord.1
          have ho2' := hord.2
          have HEND : Hid _ := hend
          rw [hsB]
          clear hget hky hord hbyte hlp ho hsB HOFF HGET HKY hend
          go_wp2_with fail
          exact ⟨⟨j + 1, i + 1, by first | rfl | trivial, hjk, by rw [HLS.out]; exact congrArg Value.string hext, by go_num, by rw [HO2.out]; have := HEND.out; go_num, by go_num, by rw [HO2.out]; have := HEND.out; omega, by omega, fun h => by
            obtain ⟨k2, hk2⟩ : ∃ k, KS[j + 1]? = some k := ⟨_, List.getElem?_eq_getElem h⟩
            rw [offP_succ t hk2, HO2.out]
            have := HEND.out
            omega⟩, by simp [intOf]; omega⟩
        · have hne : ¬ (sB[i].toNat : Int) = 10 := by
            obtain ⟨c, hc, hc10⟩ := lnP_in t k HG.out.tc hkk.2.2 (i - o) (by omega)
            rw [hget, hc] at hbyte
            have := Option.some.inj hbyte
            rw [← this]
            intro h
            apply hc10
            have h' : c.toNat = 10 := by omega
            exact UInt8.toNat_inj.1 h'
          rw [hsB]
          have HHS : Hid _ := hsB
          clear hget hky hord hbyte hsB HOFF HGET HKY
          go_wp2_with fail
          exact ⟨⟨j, i + 1, by first | rfl | trivial, hj, by rw [hlp], rfl, by rw [ho], by go_num, by rw [ho]; omega, by omega, fun _ => by rw [HO2.out]; omega⟩, by simp [intOf]; omega⟩
      · have hje : j = KS.length := by
          rcases Nat.lt_or_ge j KS.length with h | h
          · have h1 := hin h
            have h2 := offP_le t KS (j + 1)
            rw [HLL.out] at h2
            omega
          · omega
        have hie : i = L.length := by omega
        have hw4 : IntKind.i64.wrap ((SN : Int) + (j : Int)) = ((SN + j : Nat) : Int) := by rw [IntKind.wrap_i64]; omega
        have hlines : ¬ (50 : Int) < (j : Int) := by omega
        have hiN : ¬ (i : Int) < (L.length : Int) := by omega
        have hlsz : (⟨L.toArray⟩ : ByteArray).size = L.length := by rw [Lib.size_eq]
        clear hin hlo hhi
        rcases Nat.lt_or_ge (p + 1) np with hnp | hnp
        · obtain ⟨n1, n2, n3, n4, n5, n6, n7, n8⟩ := HNX.out hnp
          rw [← hje] at n1 n3
          have hj50 : j = 50 := n3
          subst hj50
          obtain ⟨SM, hSM⟩ : ∃ x : Nat, SN + 50 = x := ⟨_, rfl⟩
          have hw5 : IntKind.i64.wrap ((SN : Int) + 50) = (SM : Int) := by rw [IntKind.wrap_i64]; omega
          have q1 : (SM : Int) < (N : Int) := by rw [n4] at n5; omega
          have q3 : (M == []) = false := by simpa using n2
          have q4 : lastP LA KS 50 = M := n1.symm
          have hB : ∀ w : World, (Op.stringOp .add ⟨#[47, 63, 97, 102, 116, 101, 114, 61]⟩ ⟨M.toArray⟩).run Tryz.prog w = .ok (.string ⟨([47, 63, 97, 102, 116, 101, 114, 61] ++ M).toArray⟩) w := addB [47, 63, 97, 102, 116, 101, 114, 61] M (by simp; omega)
          obtain ⟨TG, hTG⟩ : ∃ x, [47, 63, 97, 102, 116, 101, 114, 61] ++ M = x := ⟨_, rfl⟩
          rw [hTG] at hB n6
          rw [q4]
          have HE1 : Hid (tg (p + 1) = TG) := n6
          have HE2 : Hid (la (p + 1) = M) := n7
          have HE3 : Hid (sn (p + 1) = SM) := by show _ = _; rw [n4]; omega
          clear n1 n2 n3 n4 n5 n6 n7 hTG hje hie q4 HNX HFI hw4 hSM hlines
          go_wp2_with (first
            | (go_at_call 16; refine Calls.mono (HMO.out _) ?_; rintro e w9 ⟨rfl, rfl⟩)
            | (go_at_call 14; refine Calls.mono (HCO2.out _) ?_; rintro e w9 ⟨rfl, rfl⟩))
          exact ⟨⟨p + 1, hnp, by rw [HE1.out], by rw [HE3.out], by rw [HE2.out], by go_num, HJ7.out, HO7.out⟩, by simp [intOf]; omega⟩
        · obtain ⟨n1, n2⟩ := HFI.out (by omega)
          rw [← hje] at n2
          subst n1
          have q1 : ((SN + j : Nat) : Int) = (N : Int) := by omega
          clear n2 hje hie HNX HFI
          go_wp2_with (first
            | (go_at_call 16; refine Calls.mono (HMO.out _) ?_; rintro e w9 ⟨rfl, rfl⟩)
            | (go_at_call 14; refine Calls.mono (HCO2.out _) ?_; rintro e w9 ⟨rfl, rfl⟩))
          apply HEX.out
          exact HO7.out
end Go.Proofs.YtmehkneofinmiabGreatDoor

namespace Go.Proofs.YtmehkneofinmiabGreatDoor
open Go.RowKit
set_option maxRecDepth 100000 in
set_option maxHeartbeats 16000000 in
theorem paged_core (x z : Int) (w : World) (n N : Nat) (hn : pk z 61 = n) (hn60 : n ≤ 60) (iz0 : -9223372036854775808 ≤ z) (iz1 : z ≤ 9223372036854775807) (t : List UInt8) (K T : Nat → List UInt8) (TO : List UInt8) (np : Nat) (tg : Nat → List UInt8) (sn : Nat → Nat) (la : Nat → List UInt8) (ks : Nat → List (List UInt8)) (G mo : Nat → List UInt8)
    (hP : Calls Tryz.prog 9 #[.int .i64 x] w fun e w' => ∃ (b s : Nat) (I : Nat → World → Prop) (J : World → Prop), e = .returned (.pointer (some ⟨b, 0, none⟩)) ∧ Psk w.heap.size b s n N K T I J TO ∧ Pgs s w.heap.size N t J np tg sn la ks G mo ∧ I 0 w' ∧ Off (fun k => w.heap.size ≤ k) w w') :
    Calls Tryz.prog 3 #[.int .i64 x, .int .i64 z] w fun e w' => e = .returned (.bool true) ∧ Off (fun k => w.heap.size ≤ k) w w' := by
  have HPL : Hid _ := hP
  clear hP
  go_enter Tryz.func3, Tryz.ntmps3
  go_wp2_with fail
  refine Calls.mono HPL.out ?_
  rintro e w1 ⟨b, s, I, J, rfl, hs, hg, i1, o1⟩
  have HS : Hid _ := hs
  have HG : Hid _ := hg
  have HI1 : Hid _ := i1
  have HO1 : Hid _ := o1
  clear hs hg i1 o1 HPL
  go_wp2_with (go_at_call 10; refine (pick_any _ _ _ (by omega) (by omega) (by omega) (by omega)).mono ?_; rintro e w' ⟨rfl, rfl⟩; rw [hn])
  obtain ⟨W1, hW1⟩ : ∃ x, x = w' := ⟨_, rfl⟩
  rw [← hW1] at HI1 HO1 ⊢
  clear hW1
  go_loopw [7, 8] (fun iv _ wr => ∃ k : Nat, k ≤ n ∧ iv = .int .i64 k ∧ I k wr ∧ Off (fun k => w.heap.size ≤ k) w wr) (fun iv _ _ => n - (intOf iv).toNat)
  case atStart => exact ⟨0, by omega, rfl, HI1.out, HO1.out⟩
  case round =>
    obtain ⟨k, hk, rfl, hIk, hOk⟩ := hrel
    have HIK : Hid _ := hIk
    have HOK : Hid _ := hOk
    have c0 := HS.out.c0 _ _ hIk
    have lt0 := HS.out.sz _ _ hIk
    clear hIk hOk HI1 HO1
    by_cases hkn : k < n
    · have hkI : (k : Int) < (n : Int) := by omega
      have hkl := HS.out.kl k hkn
      have HIT : Hid _ := HS.out.itoa k hkn
      have HAS : Hid _ := HS.out.ask k hkn
      have HCO : Hid _ := HS.out.code k hkn
      obtain ⟨m, hm⟩ : ∃ m, 1000 + (k * 37) % 60 = m := ⟨_, rfl⟩
      have e1 : IntKind.i64.wrap ((k : Int) * 37) = (k : Int) * 37 := by rw [IntKind.wrap_i64]; omega
      have e2 : IntKind.i64.wrap (Int.tmod ((k : Int) * 37) 60) = ((k * 37 % 60 : Nat) : Int) := by
        have e0 : ((k * 37 : Nat) : Int) = (k : Int) * 37 := by omega
        rw [← e0, IntKind.wrap_i64, Int.tmod_eq_emod_of_nonneg (by omega)]
        generalize k * 37 = q
        omega
      have e2' : Int.tmod ((k : Int) * 37) 60 = ((k * 37 % 60 : Nat) : Int) := by
        have e0 : ((k * 37 : Nat) : Int) = (k : Int) * 37 := by omega
        rw [← e0, Int.tmod_eq_emod_of_nonneg (by omega)]
        generalize k * 37 = q
        omega
      have e3 : IntKind.i64.wrap (1000 + ((k * 37 % 60 : Nat) : Int)) = (m : Int) := by rw [IntKind.wrap_i64]; omega
      rw [hm] at HIT
      obtain ⟨U, hU⟩ : ∃ U, K k = U := ⟨_, rfl⟩
      rw [hU] at hkl HIT HAS
      have hA : ∀ w : World, (Op.stringOp .add ⟨#[47]⟩ ⟨U.toArray⟩).run Tryz.prog w = .ok (.string ⟨(47 :: U).toArray⟩) w := addB [47] U (by simp; omega)
      have HQ : Hid (∀ y, Calls Tryz.prog 12 #[.string ⟨#[80, 85, 84]⟩, .string ⟨(47 :: U).toArray⟩, .string ⟨#[]⟩, .string ⟨#[]⟩] y fun e w' => e = .returned (.string ⟨(reqB [80, 85, 84] (47 :: U) [] []).toArray⟩) ∧ w' = y) :=
        fun y => request_any [80, 85, 84] (47 :: U) [] [] y (by decide) (by simp; omega) (by decide) (by decide)
      obtain ⟨R, hR⟩ : ∃ R, reqB [80, 85, 84] (47 :: U) [] [] = R := ⟨_, rfl⟩
      rw [hR] at HAS HQ
      obtain ⟨U1, hU1⟩ : ∃ x, 47 :: U = x := ⟨_, rfl⟩
      rw [hU1] at hA HQ
      obtain ⟨q, hq⟩ : ∃ q, k * 37 % 60 = q := ⟨_, rfl⟩
      rw [hq] at e2 e2' e3
      clear hR hU1 hU hm hq
      go_wp2_with fail
      go_region_held3 (fun y => y.cell? ⟨b, 0, none⟩ = some (.pointer (some ⟨s, 0, none⟩))) (first | assumption | go_keep) (first
        | (go_at_call 13
           refine Calls.mono (HIT.out _ (HS.out.bel _ _ _ HIK.out (Below.refl _ _).drew)) ?_
           rintro e w2 ⟨rfl, b2⟩
           have i2 := HS.out.bel _ _ _ (HS.out.bel _ _ _ HIK.out (Below.refl _ _).drew) b2
           have s2 := HS.out.c0 _ _ i2)
        | (go_at_call 12
           refine Calls.mono (HQ.out _) ?_
           rintro e w3 ⟨rfl, rfl⟩)
        | (go_at_call 11
           refine Calls.mono (HAS.out _ i2) ?_
           rintro e w4 ⟨rfl, i4, o4⟩
           have s4 := HS.out.c0 _ _ i4))
      have HI4 : Hid (I (k + 1) w4) := i4
      have HO4 : Hid (Off (fun k => w.heap.size ≤ k) w w4) := ((HOK.out.trans (Off.of_below (Below.refl _ _).drew)).trans (Off.of_below b2)).trans o4
      clear i4 o4 s4 i2 b2 s2
      go_wp2_with (go_at_call 14; refine Calls.mono (HCO.out _) ?_; rintro e w5 ⟨rfl, rfl⟩)
      exact ⟨⟨k + 1, by omega, by go_num, HI4.out, HO4.out⟩, by simp [intOf]; omega⟩
    · have hke : k = n := by omega
      have hkI : ¬ (k : Int) < (n : Int) := by omega
      rw [hke] at HIK
      have HQ : Hid (∀ y, Calls Tryz.prog 12 #[.string ⟨#[80, 85, 84]⟩, .string ⟨#[47, 111, 110, 101, 45, 109, 111, 114, 101]⟩, .string ⟨#[]⟩, .string ⟨#[]⟩] y fun e w' => e = .returned (.string ⟨(reqB [80, 85, 84] [47, 111, 110, 101, 45, 109, 111, 114, 101] [] []).toArray⟩) ∧ w' = y) :=
        fun y => request_any [80, 85, 84] [47, 111, 110, 101, 45, 109, 111, 114, 101] [] [] y (by decide) (by decide) (by decide) (by decide)
      have HON : Hid _ := HS.out.one
      have HOC : Hid _ := HS.out.oc
      go_wp2_with fail
      rename_i K2 hK2
      have HK2 : Hid _ := hK2
      clear hK2
      go_region_held3 (fun y => y.cell? ⟨b, 0, none⟩ = some (.pointer (some ⟨s, 0, none⟩))) (first | assumption | go_keep) (first
        | (go_at_call 12
           refine Calls.mono (HQ.out _) ?_
           rintro e w3 ⟨rfl, rfl⟩)
        | (go_at_call 11
           refine Calls.mono (HON.out _ (HS.out.bel _ _ _ HIK.out (Below.refl _ _).drew)) ?_
           rintro e w4 ⟨rfl, i4, o4⟩
           have s4 := HS.out.cJ _ i4))
      have HJ4 : Hid (J w4) := i4
      have HO4 : Hid (Off (fun k => w.heap.size ≤ k) w w4) := (HOK.out.trans (Off.of_below (Below.refl _ _).drew)).trans o4
      clear i4 o4 s4 HIK HOK c0 lt0 HON HQ
      rcases HOC.out with ⟨h60, hco, hN⟩ | ⟨h60, hco, hN⟩
      · have HCO : Hid (CodeR TO 507) := hco
        have hnI : (n : Int) = 60 := by omega
        have hNn : N = 60 := hN
        subst hNn
        clear hco HOC
        refine HK2.out _ _ (seq_hid fun K3 HK3 => ?_)
        go_wp2_with (go_at_call 14; refine Calls.mono (HCO.out _) ?_; rintro e w5 ⟨rfl, rfl⟩)
        refine HK3.out _ _ (seq_hid fun K4 HK4 => ?_)
        go_wp2_with fail
        refine HK4.out _ _ ?_
        refine paged_tail w _ b s n 60 t K T TO I J np tg sn la ks G mo HS HG (by omega) HJ4.out HO4.out _ ?_
        show ∀ _, _
        intros
        rename_i w9 hO9
        have HO9 : Hid _ := hO9
        clear hO9
        go_wp2_with fail
        go_ret
        exact ⟨rfl, HO9.out⟩
      · have HCO : Hid (CodeR TO 201) := hco
        have hnI : (n : Int) < 60 := by omega
        have hnJ : ¬ (n : Int) = 60 := by omega
        have e1 : IntKind.i64.wrap ((n : Int) + 1) = (N : Int) := by rw [IntKind.wrap_i64]; omega
        clear hco HOC
        refine HK2.out _ _ (seq_hid fun K3 HK3 => ?_)
        go_wp2_with (go_at_call 14; refine Calls.mono (HCO.out _) ?_; rintro e w5 ⟨rfl, rfl⟩)
        refine HK3.out _ _ (seq_hid fun K4 HK4 => ?_)
        go_wp2_with fail
        refine HK4.out _ _ ?_
        rw [show (n : Int) + 1 = (N : Int) by omega]
        refine paged_tail w _ b s n N t K T TO I J np tg sn la ks G mo HS HG (by omega) HJ4.out HO4.out _ ?_
        show ∀ _, _
        intros
        rename_i w9 hO9
        have HO9 : Hid _ := hO9
        clear hO9
        go_wp2_with fail
        go_ret
        exact ⟨rfl, HO9.out⟩
end Go.Proofs.YtmehkneofinmiabGreatDoor

namespace Go.Proofs.YtmehkneofinmiabGreatDoor
def NoBr (l : List UInt8) : Prop := ∀ c ∈ l, c ≠ 13 ∧ c ≠ 10
theorem NoBr.app {a b : List UInt8} (h : NoBr a) (h' : NoBr b) : NoBr (a ++ b) := fun c hc => (List.mem_append.1 hc).elim (h c) (h' c)
end Go.Proofs.YtmehkneofinmiabGreatDoor

namespace Go.Proofs.YtmehkneofinmiabGreatDoor
open Go.RowKit
variable {σ : St} {key : List UInt8} {v : Ver}
end Go.Proofs.YtmehkneofinmiabGreatDoor

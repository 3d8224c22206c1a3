/-
 Texts of this proof, part 49.
-/
import Derived.Test.YtmehkneofinmiabGreatDoorP48
set_option maxRecDepth 100000
set_option maxHeartbeats 8000000
namespace Go.Proofs.YtmehkneofinmiabGreatDoor
open Go.RowKit
theorem Bk.wide {B C : Nat -> Prop} {w : World} {b s n : Nat} {σ : St} {M : Mem} {vs : Nat -> Value} {d c : Nat} (h : Bk B w b s n σ M vs d c) (hE : Env C w) (hBC : ∀ k, B k -> C k) : Bk C w b s n σ M vs d c :=
 ⟨⟨hE, h.sto.st, fun q hq => hBC q (h.sto.own q hq)⟩, h.bk, hBC _ h.bB, fun i hi g hg => hBC g (h.vB i hi g hg), h.ks, h.tm, h.lg, h.ls, h.dn⟩
theorem sz_wrap (a b sz : Nat) (ha : a < 2 ^ 8) (hb : b < 2 ^ 8) (hs : 6 + 256 * a + b = sz) : IntKind.i64.wrap (IntKind.i64.wrap (6 + IntKind.i64.wrap (256 * IntKind.i64.wrap (a : Int))) + IntKind.i64.wrap (b : Int)) = (sz : Int) := by
 have ha' : a < 256 := ha
 have hb' : b < 256 := hb
 have e1 : IntKind.i64.wrap (a : Int) = (a : Int) := by rw [IntKind.wrap_i64]; omega
 have e2 : IntKind.i64.wrap (b : Int) = (b : Int) := by rw [IntKind.wrap_i64]; omega
 have e3 : IntKind.i64.wrap (256 * (a : Int)) = 256 * (a : Int) := by rw [IntKind.wrap_i64]; omega
 have e4 : IntKind.i64.wrap (6 + 256 * (a : Int)) = 6 + 256 * (a : Int) := by rw [IntKind.wrap_i64]; omega
 rw [e1, e2, e3, e4, IntKind.wrap_i64]
 omega
theorem found_part (l : List Stp) (n : Nat) (hn : n <= (playF st0 (l.take 400)).log.length) : ∃ j rest, j <= l.length /\ j <= 400 /\ foundF ((playF st0 (l.take 400)).log.take n) = (playF st0 (l.take j), rest) /\ (playF st0 (l.take j)).log = (playF st0 (l.take 400)).log.take (playF st0 (l.take j)).log.length /\ (playF st0 (l.take j)).log.length <= n /\ (∀ q, q < j -> (playF st0 (l.take q)).log.length < (playF st0 (l.take j)).log.length) /\
 ((playF st0 (l.take j)).log.length < n -> ∃ r : Rec, RecOK r /\ (recF r.kind r.time r.key r.num r.body).length + (playF st0 (l.take j)).log.length > n /\ (recF r.kind r.time r.key r.num r.body).take (n - (playF st0 (l.take j)).log.length) = ((playF st0 (l.take 400)).log.take n).drop (playF st0 (l.take j)).log.length) := by
 have hL : (l.take 400).length <= 400 := by rw [List.length_take]; omega
 have hp := parts_play (l.take 400) (by omega) (l.take 400).length (Nat.le_refl _)
 have ht : ∀ q, q <= 400 -> (l.take 400).take q = l.take q := fun q hq => by rw [List.take_take, Nat.min_eq_left hq]
 have hall : (l.take 400).take (l.take 400).length = l.take 400 := List.take_length
 obtain ⟨j, rest, h1, h2, h3, h4, h5, h6⟩ := hp.part n (by rw [hall]; exact hn)
 have hj : j <= 400 := by omega
 simp only [hall, ht j hj] at h2 h3 h4 h5 h6
 refine ⟨j, rest, ?_, hj, h2, h3, h4, fun q hq => ?_, h6⟩
 ·rw [List.length_take] at h1
  omega
 ·have := h5 q hq
  rw [ht q (by omega)] at this
  exact this
theorem recovered_walk (x y z : Int) (v v4 : Value) (l l4 : List Stp) (w : World) (hM : MaxIs w) (hT : Tbl w) (ix0 : -9223372036854775808 <= x) (ix1 : x <= 9223372036854775807) (iy0 : -9223372036854775808 <= y) (iy1 : y <= 9223372036854775807) (iz0 : -9223372036854775808 <= z) (iz1 : z <= 9223372036854775807) (hv : StpAt w v l) (hv4 : StpAt w v4 l4) :
 Calls Tryz.prog 7 #[.int .i64 x, .int .i64 y, v, .int .i64 z, v4] w fun e w' => e = .returned (.bool true) /\ Off (fun k => w.heap.size <= k) w w' := by
 have p8 := pk_bd y 8 (by omega)
 obtain ⟨m, hm⟩ : ∃ n : Nat, pk y 8 = n := ⟨(pk y 8).toNat, by omega⟩
 have hm8 : m < 8 := by omega
 have hw1 : IntKind.i64.wrap (1 + (m : Int)) = ((1 + m : Nat) : Int) := by rw [IntKind.wrap_i64]; omega
 obtain ⟨N2, hN2⟩ : ∃ N, 1 + m = N := ⟨_, rfl⟩
 rw [hN2] at hw1
 have hN1 : 1 <= N2 := by omega
 have hN8 : N2 <= 8 := by omega
 have HPL : Hid _ := played_any x v l w hM hT ix0 ix1 hv
 have HE : Hid _ := Env.made hM hT
 have HV : Hid _ := hv
 have HV4 : Hid _ := hv4
 obtain ⟨o, cap, rfl, _⟩ := hv.lie
 obtain ⟨o4, cap4, rfl, _⟩ := hv4.lie
 clear hM hT hv hv4 p8 hN2
 go_enter Tryz.func7, Tryz.ntmps7
 go_wp2_with fail
 refine Calls.mono HPL.out ?_
 rintro e w1 ⟨b1, s1, n1, M1, vs1, d1, c1, rfl, _, hc1, hB1, hO1⟩
 have HB1 : Hid _ := hB1
 have HO1 : Hid _ := hO1
 have HE1 : Hid _ := HE.out.off hO1
 have HOP : Hid _ := opened_any x w1 HE1.out.mx HE1.out.tb ix0 ix1
 clear hB1 hO1 HPL
 go_wp2_with fail
 refine Calls.mono HOP.out ?_
 rintro e w2 ⟨b, s, n, M, vs, rfl, hn, hB2, hb2⟩
 have HB2 : Hid _ := hB2
 have Hb2 : Hid _ := hb2
 have HB12 : Hid _ := HB1.out.below (hb2.mono (Nat.le_refl _))
 have z0 : w2.cell? ⟨b1, 0, none⟩ = some (.pointer (some ⟨s1, 0, none⟩)) := by simp [World.cell?, HB12.out.bk.blk, bookCells]
 have hbl1 := HB12.out.bk.lt
 clear hB2 hb2 HOP hn
 go_wp2_with fail
 refine Calls.mono (log_store w2 HB12.out.sto.st) ?_
 rintro e w3 ⟨rfl, hS3, hO3⟩
 have hJl : (playF st0 (l.take 400)).log.length <= 400000 := by
  have := HB1.out.lg
  have h2 : c1 * 1000 <= 400 * 1000 := Nat.mul_le_mul_right _ hc1
  omega
 have HFP : Hid _ := found_part l
 obtain ⟨J, hJ⟩ : ∃ J, (playF st0 (l.take 400)).log = J := ⟨_, rfl⟩
 rw [hJ] at hJl HFP ⊢
 have hJs : (⟨J.toArray⟩ : ByteArray).size = J.length := Lib.size_eq _
 have p9 := pk_bd z (J.length + 1) (by omega)
 obtain ⟨nn, hnn⟩ : ∃ n : Nat, pk z ((J.length : Int) + 1) = n := ⟨(pk z ((J.length : Int) + 1)).toNat, by omega⟩
 have hnJ : nn <= J.length := by omega
 obtain ⟨j, rest, hjl, hj4, hfo, hjlog, hjn, hjq, hjr⟩ := HFP.out nn hnJ
 have HB3 : Hid (Bk (fun k => w.heap.size <= k) w3 b s n st0 M vs 0 0) := by
  have hE2 : Env (fun k => w.heap.size <= k) w2 := HE1.out.below Hb2.out
  have h1 := HB2.out.wide hE2 (fun k hk => Nat.le_trans HO1.out.size hk)
  refine h1.offS hO3 (fun k hk => by rw [hk]; exact HB1.out.sto.own s1 (Or.inl rfl)) (fun k hk e => ?_)
  have h2 : w1.heap.size <= k := HB2.out.own_in hk
  have h3 := HB1.out.own_size (k := s1) (Or.inl (Or.inl rfl))
  omega
 have HO3 : Hid (Off (fun k => w.heap.size <= k) w w3) := (HO1.out.trans (Off.of_below Hb2.out)).trans (hO3.mono (fun k hk => by rw [hk]; exact HB1.out.sto.own s1 (Or.inl rfl)))
 have hcut : (⟨J.toArray⟩ : ByteArray).extract 0 nn = ⟨(J.take nn).toArray⟩ := by rw [extL, List.drop_zero, Nat.sub_zero]
 have HOP : Hid (∀ y, Calls Tryz.prog 23 #[.string ((⟨J.toArray⟩ : ByteArray).extract 0 nn), .int .i64 N2] y fun e w' => ∃ s M, e = .returned (.tuple #[.pointer (some ⟨s, 0, none⟩), .int .i64 (((playF st0 (l.take j)).log.length : Nat) : Int), .int .i64 0]) /\ StoreAt w' s N2 0 (fun _ => 0) (playF st0 (l.take j)) M /\ Below y.heap.size y w' /\ ∀ k, M.own s N2 k -> y.heap.size <= k) := fun y => by
  have := open_any (J.take nn) N2 y hN1 hN8 (by rw [List.length_take]; omega)
  rw [hfo] at this
  rw [hcut]
  exact this
 have HJL : Hid _ := hjlog
 have HJR : Hid _ := hjr
 have HJQ : Hid _ := hjq
 obtain ⟨u, hu⟩ : ∃ u, (playF st0 (l.take j)).log.length = u := ⟨_, rfl⟩
 rw [hu] at HOP HJL HJR HJQ hjn
 have HU : Hid _ := hu
 clear hS3 hO3 hfo hjlog hjr hjq hcut HFP HB12 HB2 HB1 Hb2 HE1 HO1 z0 hbl1 hu p9 hJ hc1
 go_wp2_with (go_at_call 10; refine (pick_any _ _ _ (by omega) (by omega) (by omega) (by omega)).mono ?_; rintro e w' ⟨rfl, rfl⟩; rw [hnn])
 rename_i K7 hK7
 have HK7 : Hid _ := hK7
 clear hK7
 go_region_held3 (fun _ => True) (first | trivial | go_keep) (first
  | (go_at_call 10; refine (pick_any _ _ _ (by omega) (by omega) (by omega) (by omega)).mono ?_; rintro e w4 ⟨rfl, rfl⟩; rw [hm])
  | (go_at_call 23
     refine Calls.mono (HOP.out _) ?_
     rintro e w5 ⟨s2, M2, rfl, hS5, hb5, hW5⟩))
 have HO5 : Hid (Off (fun k => w.heap.size <= k) w w5) := (HO3.out.trans (Off.of_below (Below.refl _ _).drew)).trans (Off.of_below hb5)
 have HBS : Hid (BS (fun k => w.heap.size <= k) b s n (playF st0 (l.take 0)) 0 s2 N2 (playF st0 (l.take j)) w5) := by
  have h1 := (HB3.out.below (Below.refl _ _).drew).below hb5
  refine ⟨M, vs, 0, M2, h1, hS5, fun k hk h => ?_, fun k hk => ?_⟩
  ·have h2 := hW5 k h
   have h3 := (HB3.out.below (Below.refl _ _).drew).own_size hk
   omega
  ·have h2 := hW5 k hk
   have h3 := (HO3.out.trans (Off.of_below (Below.refl _ _).drew)).size
   exact Nat.le_trans h3 h2
 clear hS5 hb5 hW5 HB3 HO3 HOP
 have hjnI : ¬ (nn : Int) < (u : Int) := by omega
 refine HK7.out _ _ (seq_hid fun K8 HK8 => ?_)
 go_wp2_with fail
 refine HK8.out _ _ (seq_hid fun K9 HK9 => ?_)
 go_wp2_with fail
 refine HK9.out _ _ (seq_hid fun K10 HK10 => ?_)
 refine rec_fst w w5 b s n s2 N2 (playF st0 (l.take j)) o cap l (fun i => playF st0 (l.take i)) j u HV.out rfl (fun i y hy => by rw [List.take_add_one, hy, Option.toList_some, playF_snoc]) hjl hj4 HJQ.out HU.out HBS.out HO5.out _ ?_
 show ∀ _, _
 intros
 rename_i w6 hB6 hO6
 obtain ⟨σ, hσ⟩ : ∃ σ, playF st0 (l.take j) = σ := ⟨_, rfl⟩
 have hB6' : BS (fun k => w.heap.size <= k) b s n σ j s2 N2 σ w6 := by rw [<- hσ]; exact hB6
 rw [hσ] at HJL HU ⊢
 have HB6 : Hid _ := hB6'
 have HO6 : Hid _ := hO6
 have z0 := hB6'.cells.1
 have zl := hB6'.cells.2.2
 have HL : Hid _ := hB6'.log
 clear hB6 hB6' hO6 hσ HBS HO5 HK9 HK8 HK7 HJQ
 refine HK10.out _ _ (seq_hid fun K22 HK22 => ?_)
 go_wp2_with fail
 refine Calls.mono HL.out ?_
 rintro e w7 ⟨rfl, hB7, hO7⟩
 have HB7 : Hid _ := hB7
 have HO7 : Hid _ := HO6.out.trans hO7
 have HCK : Hid _ := hB7.clock
 have hcut2 : (⟨J.toArray⟩ : ByteArray).extract 0 u = ⟨σ.log.toArray⟩ := by
  rw [extL, List.drop_zero, Nat.sub_zero]
  exact congrArg (fun q : List UInt8 => (⟨q.toArray⟩ : ByteArray)) HJL.out.symm
 have hbytes : u + 2 <= nn -> u < nn -> ∀ (h1 : u < (⟨J.toArray⟩ : ByteArray).size) (h2 : u + 1 < (⟨J.toArray⟩ : ByteArray).size), nn < u + (6 + 256 * ((⟨J.toArray⟩ : ByteArray)[u]).toNat + ((⟨J.toArray⟩ : ByteArray)[u + 1]).toNat) := fun h3 h4 h1 h2 => by
  obtain ⟨r, hr, hr1, hr2⟩ := HJR.out h4
  obtain ⟨a, b', ha, hb', hlt⟩ := size_at hr hr1 hr2 h3
  have e1 : (⟨J.toArray⟩ : ByteArray)[u] = a := by
   have := (List.getElem?_eq_some_iff.1 ha).2
   exact this
  have e2 : (⟨J.toArray⟩ : ByteArray)[u + 1] = b' := by
   have := (List.getElem?_eq_some_iff.1 hb').2
   exact this
  rw [e1, e2]
  exact hlt
 have HBY : Hid _ := hbytes
 clear hbytes hB7 hO7 HL HB6 HO6 z0 zl HJR HJL HU
 obtain ⟨JB, hJB⟩ : ∃ B : ByteArray, (⟨J.toArray⟩ : ByteArray) = B := ⟨_, rfl⟩
 rw [hJB] at hJs hcut2 HBY ⊢
 obtain ⟨LB, hLB⟩ : ∃ B : ByteArray, (⟨σ.log.toArray⟩ : ByteArray) = B := ⟨_, rfl⟩
 rw [hLB] at hcut2 ⊢
 have heq : (LB.toList == (JB.extract 0 u).toList) = true := by rw [hcut2]; simp
 have huJ : u <= JB.size := by omega
 have huJI : (u : Int) <= (JB.size : Int) := by omega
 clear hcut2 hLB hJB
 go_wp2_with fail
 refine HK22.out _ _ (seq_hid fun K23 HK23 => ?_)
 go_wp2_with fail
 refine Calls.mono HCK.out ?_
 rintro e w8 ⟨rfl, hw8⟩
 subst hw8
 clear HCK
 go_wp2_with fail
 refine HK23.out _ _ (seq_hid fun K24 HK24 => ?_)
 go_wp2_with fail
 refine HK24.out _ _ (seq_hid fun K26 HK26 => ?_)
 clear heq
 by_cases hun : u < nn
 ·have hunI : (u : Int) < (nn : Int) := by omega
  by_cases hu2 : u + 2 <= nn
  ·have hu2I : (u : Int) + 2 <= (nn : Int) := by omega
   obtain ⟨u1, hu1⟩ : ∃ u1, u + 1 = u1 := ⟨_, rfl⟩
   have h1 : u < JB.size := by omega
   have h2 : u1 < JB.size := by omega
   have hby : nn < u + (6 + 256 * JB[u].toNat + JB[u1].toNat) := by
    subst hu1
    exact HBY.out hu2 hun h1 h2
   have hA2 := JB[u].toNat_lt
   have hB2 := JB[u1].toNat_lt
   have h1I : (u : Int) < (J.length : Int) := by omega
   have h2I : (u1 : Int) < (J.length : Int) := by omega
   have hw2 : IntKind.i64.wrap ((u : Int) + 1) = (u1 : Int) := by rw [IntKind.wrap_i64]; omega
   obtain ⟨sz, hsz⟩ : ∃ sz, 6 + 256 * JB[u].toNat + JB[u1].toNat = sz := ⟨_, rfl⟩
   have HSZ : Hid (IntKind.i64.wrap (IntKind.i64.wrap (6 + IntKind.i64.wrap (256 * IntKind.i64.wrap (JB[u].toNat : Int))) + IntKind.i64.wrap (JB[u1].toNat : Int)) = (sz : Int)) := sz_wrap _ _ sz hA2 hB2 hsz
   have hs0 : (0 : Int) < (sz : Int) := by omega
   have hs1 : sz <= 70000 := by omega
   have hs2 : ¬ (u : Int) + (sz : Int) <= (nn : Int) := by omega
   clear hu1 hsz hby hA2 hB2
   go_wp2_with fail
   rename_i K29 hK29
   have HK29 : Hid _ := hK29
   clear hK29
   go_region_held3 (fun _ => True) (first | trivial | go_keep) (fail)
   all_goals
    rw [HSZ.out]
    refine HK29.out _ _ ?_
    go_wp2_with fail
    refine HK26.out _ _ ?_
    exact rec_end w _ b s n s2 N2 j σ o4 cap4 l4 hj4 HV4.out (BS.bel HB7.out (Below.refl _ _).drew) (HO7.out.trans (Off.of_below (Below.refl _ _).drew))
  ·have hu2I : ¬ (u : Int) + 2 <= (nn : Int) := by omega
   go_wp2_with fail
   refine HK26.out _ _ ?_
   exact rec_end w _ b s n s2 N2 j σ o4 cap4 l4 hj4 HV4.out HB7.out HO7.out
 ·have hunI : ¬ (u : Int) < (nn : Int) := by omega
  go_wp2_with fail
  refine HK26.out _ _ ?_
  exact rec_end w _ b s n s2 N2 j σ o4 cap4 l4 hj4 HV4.out HB7.out HO7.out
end Go.Proofs.YtmehkneofinmiabGreatDoor

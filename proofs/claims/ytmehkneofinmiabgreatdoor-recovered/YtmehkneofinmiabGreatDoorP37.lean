/-
 Texts of this proof, part 37.
-/
import Derived.Test.YtmehkneofinmiabGreatDoorP36
set_option maxRecDepth 100000
set_option maxHeartbeats 8000000
namespace Go.Proofs.YtmehkneofinmiabGreatDoor
open Go.RowKit
attribute [local go_sem ↓] appS_is
attribute [local go_sem] app_run
def restF (l : List Ver) (m k : Nat) : List Ver := (l.take k).filter fun v => v.num != m
theorem restF_all (l : List Ver) (m : Nat) : restF l m l.length = l.filter fun v => v.num != m := by unfold restF; rw [List.take_length]
theorem restF_step (l : List Ver) (m k : Nat) (v : Ver) (h : l[k]? = some v) : restF l m (k + 1) = if v.num = m then restF l m k else restF l m k ++ [v] := by
 unfold restF
 rw [List.take_add_one, h]
 by_cases e : v.num = m <;> simp [List.filter_append, e]
theorem restF_len (l : List Ver) (m k : Nat) : (restF l m k).length <= l.length := by
 unfold restF
 refine Nat.le_trans (List.length_filter_le _ _) ?_
 rw [List.length_take]
 omega
theorem drops_any {B : Nat -> Prop} {b s n : Nat} {σ : St} {M : Mem} {vs : Nat -> Value} {d c : Nat} (i : Nat) (hi : i < 5) (m : Nat) (hm0 : 0 < m) (hm : m < 2000) (w : World) (h : Bk B w b s n σ M vs d c) (hc : c < 1000) :
 Calls Tryz.prog 44 #[.pointer (some ⟨b, 0, none⟩), .int .i64 i, .int .i64 m] w fun e w' => e = .returned (.bool true) /\ (∃ M' vs' d', Bk B w' b s n (ansF σ (reqB delM (47::(nmK i ++ [63] ++ ([118, 61] ++ Lib.decDigits m))) [] [])).2 M' vs' d' (c + 1)) /\ Off B w w' := by
 have ⟨k1, k2, k3⟩ := h.bk.ck i hi
 have ⟨c0, c16, c17⟩ := h.bk.c0
 have hlt := h.bk.lt
 have hbt := h.facts i
 rw [hbt.2.2.2] at k1
 have hkl := (key_no (nmK_ok i)).2.1
 have hdl := dec_len10 (n := m) (k := 4) (by omega) (by omega)
 have ha := drop_ans (σ := σ) (read_delv (nmK_ok i) m hm0 (by omega)) (h.facts i).2.1 (Or.inr h.many)
 obtain ⟨K, hK⟩ : ∃ K, nmK i = K := ⟨_, rfl⟩
 obtain ⟨D, hD⟩ : ∃ D, Lib.decDigits m = D := ⟨_, rfl⟩
 obtain ⟨R, hR⟩ : ∃ R, reqB delM (47::(nmK i ++ [63] ++ ([118, 61] ++ Lib.decDigits m))) [] [] = R := ⟨_, rfl⟩
 obtain ⟨a, ha1⟩ : ∃ a, (ansF σ R).1 = a := ⟨_, rfl⟩
 obtain ⟨σ', ha2⟩ : ∃ x, (ansF σ R).2 = x := ⟨_, rfl⟩
 rw [hR] at ha ⊢
 rw [hK, hD] at hR
 rw [hK] at k1 hkl
 rw [hD] at hdl
 rw [ha2]
 have HA : Hid (ansF σ R = (a, σ')) := by show _ = _; rw [<- ha1, <- ha2]
 have HAN : Hid _ := ha
 have HB : Hid _ := h
 have HR : Hid _ := hR
 clear h ha hbt ha1 ha2
 have HDO : Hid (∀ y, Below w.heap.size w y -> Calls Tryz.prog 11 #[.pointer (some ⟨s, 0, none⟩), .string ⟨R.toArray⟩] y fun e w' => e = .returned (.string ⟨(textF a.told a.flds a.body).toArray⟩) /\ (textF a.told a.flds a.body).length <= 1000000000 /\ ∃ M', Sto B w' s n σ' M' /\ Off (M.own s n) y w' /\ Off B y w') :=
  fun y hy => do_sto _ (HB.out.sto.below hy) (by have := HB.out.lg; omega) (by rw [<- HR.out, reqB_len]; simp [delM]; omega) HA.out
 have HRQ : Hid (∀ y, Calls Tryz.prog 12 #[.string ⟨#[68, 69, 76, 69, 84, 69]⟩, .string ⟨(47::(K ++ [63] ++ ([118, 61] ++ D))).toArray⟩, .string ⟨#[]⟩, .string ⟨#[]⟩] y fun e w' => e = .returned (.string ⟨R.toArray⟩) /\ w' = y) := by
  intro y
  have := request_any delM (47::(K ++ [63] ++ ([118, 61] ++ D))) [] [] y (by decide) (by simp; omega) (by decide) (by decide)
  rw [HR.out] at this
  exact this
 have hA1 : ∀ w : World, (Op.stringOp .add ⟨#[47]⟩ ⟨K.toArray⟩).run Tryz.prog w = .ok (.string ⟨(47::K).toArray⟩) w := by
  have := addS ⟨#[47]⟩ ⟨K.toArray⟩ (by simp [ByteArray.size]; omega)
  rw [show (⟨#[47]⟩ : ByteArray) ++ ⟨K.toArray⟩ = ⟨(47::K).toArray⟩ from mk_app [47] K] at this
  exact this
 have hA2 : ∀ w : World, (Op.stringOp .add ⟨(47::K).toArray⟩ ⟨#[63, 118, 61]⟩).run Tryz.prog w = .ok (.string ⟨(47::K ++ [63, 118, 61]).toArray⟩) w := by
  have := addS ⟨(47::K).toArray⟩ ⟨#[63, 118, 61]⟩ (by simp [ByteArray.size]; omega)
  rw [show (⟨(47::K).toArray⟩ : ByteArray) ++ ⟨#[63, 118, 61]⟩ = ⟨(47::K ++ [63, 118, 61]).toArray⟩ from mk_app (47::K) [63, 118, 61]] at this
  exact this
 have hA3 : ∀ w : World, (Op.stringOp .add ⟨(47::K ++ [63, 118, 61]).toArray⟩ ⟨D.toArray⟩).run Tryz.prog w = .ok (.string ⟨(47::(K ++ [63] ++ ([118, 61] ++ D))).toArray⟩) w := by
  have := addS ⟨(47::K ++ [63, 118, 61]).toArray⟩ ⟨D.toArray⟩ (by simp [ByteArray.size]; omega)
  rw [mk_app, show 47::K ++ [63, 118, 61] ++ D = 47::(K ++ [63] ++ ([118, 61] ++ D)) by simp] at this
  exact this
 have HIT : Hid (∀ y, Below w.heap.size w y -> Calls Tryz.prog 13 #[.int .i64 m] y fun e w' => e = .returned (.string ⟨D.toArray⟩) /\ Below y.heap.size y w') := by
  intro y hy
  have := itoa_any (m : Int) y (by omega) (by omega) (HB.out.sto.env.tb.below hy).b
  rw [show ((m : Int)).toNat = m by omega, hD] at this
  exact this
 obtain ⟨A1, hA1e⟩ : ∃ x, 47::K = x := ⟨_, rfl⟩
 obtain ⟨A2, hA2e⟩ : ∃ x, 47::K ++ [63, 118, 61] = x := ⟨_, rfl⟩
 obtain ⟨A3, hA3e⟩ : ∃ x, 47::(K ++ [63] ++ ([118, 61] ++ D)) = x := ⟨_, rfl⟩
 rw [hA2e, hA1e] at hA2
 rw [hA1e] at hA1
 rw [hA2e, hA3e] at hA3
 rw [hA3e] at HRQ
 clear hA1e hA2e hA3e
 have HDD : Hid _ := hD
 clear hR hD
 go_enter Tryz.func44, Tryz.ntmps44
 go_wp2_with fail
 go_region_held3 (fun y => y.cell? ⟨b, 0, none⟩ = some (.pointer (some ⟨s, 0, none⟩)) /\ y.cell? ⟨b, 1 + i * 3, none⟩ = some (.string ⟨K.toArray⟩)) (first | assumption | go_keep) (first
  | (go_at_call 13
     refine Calls.mono (HIT.out _ (Below.refl _ _).drew) ?_
     rintro e w1 ⟨rfl, hb1⟩
     have hbw1 : Below w.heap.size w w1 := (Below.refl _ _).drew.trans hb1
     have y1 : w1.cell? ⟨b, 0, none⟩ = some (.pointer (some ⟨s, 0, none⟩)) /\ w1.cell? ⟨b, 1 + i * 3, none⟩ = some (.string ⟨K.toArray⟩) :=
      ⟨(hbw1.cell (p := ⟨b, 0, none⟩) hlt).trans c0, (hbw1.cell (p := ⟨b, 1 + i * 3, none⟩) hlt).trans k1⟩)
  | (go_at_call 12
     refine Calls.mono (HRQ.out _) ?_
     rintro e w2 ⟨rfl, rfl⟩)
  | (go_at_call 11
     refine Calls.mono (HDO.out _ hbw1) ?_
     rintro e w3 ⟨rfl, hl3, M3, hS3, hO3, hP3⟩
     have hb3 := (HB.out.below hbw1).bk.did (HB.out.below hbw1).sto.st hO3
     have y3 : w3.cell? ⟨b, 0, none⟩ = some (.pointer (some ⟨s, 0, none⟩)) /\ w3.cell? ⟨b, 1 + i * 3, none⟩ = some (.string ⟨K.toArray⟩) := by
      refine ⟨hb3.c0.1, ?_⟩
      rw [(hb3.ck i hi).1, (HB.out.facts i).2.2.2, hK]))
 have z2 := (hb3.ck i hi).2.1
 have hlt3 := hb3.lt
 have hrow := hb3.row i hi
 have hln : (enK σ i).vers.length <= 20 := (HB.out.facts i).1
 have htc : a.told = 404 \/ a.told = 204 := by
  have h1 := HAN.out
  rw [HA.out] at h1
  split at h1
  ·exact Or.inl (by simpa using congrArg (fun z => z.1.told) h1)
  ·exact Or.inr (by simpa using congrArg (fun z => z.1.told) h1)
 have HCO : Hid (Calls Tryz.prog 14 #[.string ⟨(textF a.told a.flds a.body).toArray⟩] w3 fun e w' => e = .returned (.int .i64 a.told) /\ w' = w3) := code_text a.told a.flds a.body w3 (by omega) (by omega) hl3
 obtain ⟨T, hT⟩ : ∃ T, textF a.told a.flds a.body = T := ⟨_, rfl⟩
 obtain ⟨told, htold⟩ : ∃ x, a.told = x := ⟨_, rfl⟩
 rw [hT] at HCO hl3 ⊢
 rw [htold] at HCO
 obtain ⟨x, cp, hx⟩ : ∃ x cp, vs i = .slice x (enK σ i).vers.length cp := by
  rcases hrow.2 with ⟨e, h0⟩ | ⟨g, cap, cur, e, _⟩
  ·exact ⟨_, _, by rw [e, h0]⟩
  ·exact ⟨_, _, e⟩
 have HS3 : Hid _ := hS3
 have HB3 : Hid _ := hb3
 have HO3 : Hid (Off B w w3) := (Off.of_below hbw1).trans hP3
 have HROW : Hid _ := hrow
 have HT : Hid _ := hT
 have HTO : Hid _ := htold
 have HL3 : Hid _ := hl3
 have HTC : Hid _ := htc
 have Hx : Hid _ := hx
 clear hS3 hb3 hP3 hO3 hrow hT htold hl3 htc y1 y3 HDO HRQ hA1 hA2 hA3 k1 k2 k3 c0 c16 c17 hbw1 hb1
 rw [hx] at z2
 clear hx
 obtain ⟨vl, hvl⟩ : ∃ x, (enK σ i).vers = x := ⟨_, rfl⟩
 rw [hvl] at z2 hln HROW Hx
 go_wp2_with (go_at_call 14; refine Calls.mono HCO.out ?_; rintro e w4 ⟨rfl, rfl⟩)
 go_loopw [10, 11] (fun r kk wr => ∃ k : Nat, k <= vl.length /\ kk = .int .i64 k /\ Off (fun _ => False) w4 wr /\ wr.ownsRow 0 42 5 r (restF vl m k).length (bRow (restF vl m k)) /\ ∀ g, r.ownBlock = some g -> w4.heap.size <= g)
  (fun _ kk _ => vl.length - (intOf kk).toNat)
 case atStart => exact ⟨0, Nat.zero_le _, rfl, Off.refl _ _, ⟨rfl, Or.inl ⟨rfl, rfl⟩⟩, fun g hg => by cases hg⟩
 case round =>
  obtain ⟨k, hk, rfl, hOk, hownk, hgk⟩ := hrel
  have hbk := HB3.out.off hOk (fun h => h) (fun _ _ _ _ h => h)
  have hrowk := hbk.row i hi
  rw [hvl] at hrowk
  have z2k : wr.cell? ⟨b, 1 + i * 3 + 1, none⟩ = some (.slice x vl.length cp) := by rw [(hbk.ck i hi).2.1, Hx.out]
  have zfk := hbk.fz
  have z17 := hbk.c0.2.2
  have hltk := hbk.lt
  have hrl := restF_len vl m k
  clear z2
  by_cases hlk : k < vl.length
  ·obtain ⟨v, hv⟩ : ∃ v, vl[k]? = some v := ⟨_, List.getElem?_eq_getElem hlk⟩
   obtain ⟨g, cap, hvs, hn, hmx, hg, hf, d0, d1, d2, d3, d4⟩ := brow_cells hrowk k v hv
   have hxx := Hx.out.symm.trans hvs
   simp only [Value.slice.injEq] at hxx
   obtain ⟨rfl, -, rfl⟩ := hxx
   have hstep := restF_step vl m k v hv
   have HBK : Hid _ := hbk
   have HOK : Hid _ := hOk
   have HGK : Hid _ := hgk
   by_cases hnum : v.num = m
   ·rw [if_pos hnum] at hstep
    have hnum' : (v.num : Int) = (m : Int) := by omega
    have HST : Hid _ := hstep
    clear hstep hbk hrowk hvs hv hOk hgk d1 d2 d3 d4
    go_wp2
    exact ⟨⟨k + 1, by omega, by go_num, HOK.out, by rw [HST.out]; exact hownk, HGK.out⟩, by simp [intOf]; omega⟩
   ·rw [if_neg hnum] at hstep
    have hnum' : ¬ (v.num : Int) = (m : Int) := by omega
    have HST : Hid _ := hstep
    obtain ⟨gg, cap2, w5, hok, hr1, hr2, hown, hgs, hO2⟩ := brow_app wr u10 (restF vl m k) v v.num v.time v.mark ⟨v.body.toArray⟩ ⟨(tagK v).toArray⟩ rfl hownk (by omega)
    have HOW : Hid _ := hown
    have HGS : Hid _ := hgs
    have HO2 : Hid _ := hO2
    have HWN : Hid _ := hownk
    clear hstep hbk hrowk hvs hv hOk hgk hown hgs hO2 hownk
    go_wp2
    refine ⟨⟨k + 1, by omega, by go_num, HOK.out.trans' HO2.out (fun q hq hq2 => by have := HGK.out q hq2; omega), ?_, fun q hq => ?_⟩, by simp [intOf]; omega⟩
    ·rw [HST.out, List.length_append]
     exact HOW.out
    ·cases hq
     rcases HGS.out with h1 | h1
     ·exact HGK.out _ h1
     ·exact Nat.le_trans HOK.out.size h1
  ·obtain rfl : k = vl.length := by omega
   have hall := restF_all vl m
   rw [hall] at hownk hrl
   obtain ⟨y, cq, hy⟩ : ∃ y cq, u10 = .slice y (vl.filter fun v => v.num != m).length cq := by
    rcases hownk.2 with ⟨e, h0⟩ | ⟨g, cap, cur, e, _⟩
    ·exact ⟨_, _, by rw [e, h0]⟩
    ·exact ⟨_, _, e⟩
   have hsw : Off (fun k => k = b \/ ∃ i, i < 5 /\ (vs i).ownBlock = some k) w4 wr := hOk.mono (fun _ h => h.elim)
   have HOF : Hid (Off B w wr) := HO3.out.trans (hOk.mono (fun _ h => h.elim))
   have hSw := HS3.out.book HB3.out HB.out.bB HB.out.vB hsw
   have han := HAN.out
   rw [HA.out] at han
   change (a, σ') = if (List.filter _ (enK σ i).vers).length = (enK σ i).vers.length then _ else _ at han
   rw [hvl] at han
   by_cases he : (vl.filter fun v => v.num != m).length = vl.length
   ·rw [if_pos he] at han
    have ha2 := (Prod.mk.inj han).2
    have ht : told = 404 := by rw [<- HTO.out, (Prod.mk.inj han).1]
    subst ht
    have HF : Hid (Bk B wr b s n σ M3 vs d (c + 1)) := (⟨ha2 ▸ hSw, hbk, HB.out.bB, HB.out.vB, HB.out.ks, HB.out.tm, HB.out.lg, HB.out.ls, HB.out.dn⟩ : Bk B wr b s n σ M3 vs d c).more
    rw [he] at hy
    have HA2 : Hid _ := ha2
    clear hbk hrowk hOk hgk hsw hSw han ha2 hownk hall hvl
    subst hy
    go_wp2
    go_ret
    rw [HA2.out]
    exact ⟨rfl, ⟨M3, vs, d, HF.out⟩, HOF.out⟩
   ·rw [if_neg he] at han
    have ha1 := (Prod.mk.inj han).1
    have ha2 := (Prod.mk.inj han).2
    have ht : told = 204 := by rw [<- HTO.out, ha1]
    subst ht
    have he' : ¬ (((vl.filter fun v => v.num != m).length : Nat) : Int) = (vl.length : Int) := by omega
    have HW1 := HB3.out.row_set i hi u10 (vl.filter fun v => v.num != m) (hOk.mono (fun _ h => h.elim)) hownk (fun g hg => Or.inr (hgk g hg))
    have HW2 := HW1.set 17 (.int .i64 ((d : Int) + 1)) (bookCells_done _ _ _ _ _ (d + 1) _ (by omega)) (fun _ _ => rfl)
    have hS6 := HS3.out.book HB3.out HB.out.bB HB.out.vB ((hsw.set b (1 + i * 3 + 1) u10 (Or.inl (Or.inl rfl))).set b 17 (.int .i64 ((d : Int) + 1)) (Or.inl (Or.inl rfl)))
    have hkl2 := (key_no (nmK_ok i)).2.1
    have HF : Hid (∃ vs', Bk B ((wr.setCell ⟨b, 1 + i * 3 + 1, none⟩ u10).setCell ⟨b, 17, none⟩ (.int .i64 ((d : Int) + 1))) b s n σ' M3 vs' (d + 1) (c + 1)) := by
     refine ⟨_, HB.out.of hS6 i hi ⟨nmK i, (enK σ i).last, vl.filter fun v => v.num != m⟩ rfl (by rw [ha2, <- hvl]; rfl) (by rw [ha2]) (by rw [ha2]; simp [recF_len]; omega) (Nat.le_succ_of_le (HB.out.ls i)) (HW2.ext (fun j hj => ⟨?_, rfl⟩)) (by have := HB.out.dn; omega) (fun j hj g => ?_)⟩
     ·by_cases e : j = i
      ·subst e
       simp only [if_pos]
       rw [(HB.out.facts j).2.2.2]
      ·simp only [if_neg e]
     ·by_cases e : j = i
      ·subst e
       simp only [if_pos]
       intro hg
       have h1 := hgk g hg
       have h2 := HS3.out.env.sz
       exact h2 g (by omega)
      ·simp only [if_neg e]
       exact HB.out.vB j hj g
    have HOG : Hid (Off B w ((wr.setCell ⟨b, 1 + i * 3 + 1, none⟩ u10).setCell ⟨b, 17, none⟩ (.int .i64 ((d : Int) + 1)))) := (HOF.out.set b _ _ (Or.inl HB.out.bB)).set b _ _ (Or.inl HB.out.bB)
    have hTab : Tab ((wr.setCell ⟨b, 1 + i * 3 + 1, none⟩ u10).setCell ⟨b, 17, none⟩ (.int .i64 ((d : Int) + 1))) := hS6.env.tb.b
    have z17' : (wr.setCell ⟨b, 1 + i * 3 + 1, none⟩ u10).cell? ⟨b, 17, none⟩ = some (.int .i64 d) := HW1.c0.2.2
    have hl3 := HL3.out
    rw [<- HT.out, ha1] at hl3
    have HFV : Hid (∀ y, Calls Tryz.prog 16 #[.string ⟨T.toArray⟩, .string ⟨#[86, 101, 114, 115, 105, 111, 110]⟩] y fun e w' => e = .returned (.string ⟨D.toArray⟩) /\ w' = y) := by
     intro q
     have := field_t 204 [] [] versN (Lib.decDigits m) [] q (by simp [cln_vers]) (by simp) (by decide) hl3
     rw [<- HT.out, ha1, <- HDD.out]
     exact this
    have HIT2 : Hid (∀ y, Tab y -> Calls Tryz.prog 13 #[.int .i64 m] y fun e w' => e = .returned (.string ⟨D.toArray⟩) /\ Below y.heap.size y w') := by
     intro q hq
     have := itoa_any (m : Int) q (by omega) (by omega) hq
     rw [show ((m : Int)).toNat = m by omega, HDD.out] at this
     exact this
    have hdc := HB.out.dn
    obtain ⟨DD, hDD⟩ : ∃ x, (⟨D.toArray⟩ : ByteArray) = x := ⟨_, rfl⟩
    rw [hDD] at HFV HIT2
    clear hDD hl3 hbk hrowk hOk hgk hsw hSw hS6 HW1 HW2 han ha1 ha2 hownk hall hvl HIT
    subst hy
    go_wp2_with (first
     | (go_at_call 16; refine Calls.mono (HFV.out _) ?_; rintro e w7 ⟨rfl, rfl⟩)
     | (go_at_call 13; refine Calls.mono (HIT2.out _ hTab) ?_; rintro e w8 ⟨rfl, hb8⟩))
    go_ret
    obtain ⟨vs', hB⟩ := HF.out
    exact ⟨rfl, ⟨M3, vs', d + 1, hB.below hb8⟩, HOG.out.trans (Off.of_below hb8)⟩
end Go.Proofs.YtmehkneofinmiabGreatDoor

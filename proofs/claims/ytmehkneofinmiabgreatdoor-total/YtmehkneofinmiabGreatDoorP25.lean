/-
  Texts of this proof, part 25.
-/
import Derived.Test.YtmehkneofinmiabGreatDoorP24
namespace Go.Proofs.YtmehkneofinmiabGreatDoor
open Go.RowKit
theorem info144m : (Tryz.prog.info? 135).map (fun i => (i.zero, i.size, i.bytes)) = some (some (.slice none 0 0), 1, 24) := by kernel_rfl
structure LLs (w : World) (lv0 : Value) (A : List (List Nat)) (kf : Nat → List UInt8) : Prop where
  is : ∃ (a : Option Addr) (c : Nat), lv0 = .slice a A.length c ∧ A.length ≤ c ∧ c ≤ maxLen
  at' : ∀ (i : Nat) (qs : List Nat), A[i]? = some qs → ∃ g o c v, lv0 = .slice (some ⟨g, o, none⟩) A.length c ∧ g < w.heap.size ∧ w.cell? ⟨g, o + i, none⟩ = some v ∧ Lst w v qs
  key : ∀ qs ∈ A, ∀ q ∈ qs, q < w.heap.size ∧ w.cell? ⟨q, 0, none⟩ = some (.string ⟨(kf q).toArray⟩)
theorem LLs.below {w x : World} {lv0 : Value} {A : List (List Nat)} {kf : Nat → List UInt8} (h : LLs w lv0 A kf) (hb : Below w.heap.size w x) : LLs x lv0 A kf :=
  ⟨h.is, fun i qs hi => by
    obtain ⟨g, o, c, v, e1, e2, e3, e4⟩ := h.at' i qs hi
    exact ⟨g, o, c, v, e1, Nat.lt_of_lt_of_le e2 hb.size, (hb.cell (p := ⟨g, o + i, none⟩) e2).trans e3, e4.below hb⟩,
   fun qs hq q hm => ⟨Nat.lt_of_lt_of_le (h.key qs hq q hm).1 hb.size, (hb.cell (p := ⟨q, 0, none⟩) (h.key qs hq q hm).1).trans (h.key qs hq q hm).2⟩⟩
def full (qs : List Nat) : Bool := !qs.isEmpty
structure Hb (w x : World) (lv : Value) (rows : List Value) (Qs : List (List Nat)) : Prop where
  low : Below w.heap.size w x
  blk : x.heap[w.heap.size]? = some (.cells #[lv, .func (.func 93) #[] #[]] 236 (0, 0))
  row : x.ownsRow w.heap.size 135 1 lv rows.length rows
  ne : lv.ownBlock ≠ some w.heap.size
  len : Qs.length = rows.length
  lst : ∀ (i : Nat) (v : Value) (qs : List Nat), rows[i]? = some v → Qs[i]? = some qs → Lst w v qs ∧ qs ≠ []
theorem Hb.hp {w x : World} {lv lv0 : Value} {rows : List Value} {Qs A : List (List Nat)} {kf : Nat → List UInt8} (h : Hb w x lv rows Qs) (hL : LLs w lv0 A kf) (hQ : ∀ qs ∈ Qs, qs ∈ A) : Hp x w.heap.size w.heap.size lv rows Qs kf :=
  ⟨Nat.le_refl _, h.blk, h.row, h.ne, h.len, fun i v qs h1 h2 => ⟨(h.lst i v qs h1 h2).1.below h.low, (h.lst i v qs h1 h2).2⟩,
    fun qs hq q hm => (hL.below h.low).key qs (hQ qs hq) q hm⟩
theorem take_filter_yes {A : List (List Nat)} {i : Nat} {qs : List Nat} (h : A[i]? = some qs) (hf : full qs = true) : (A.take (i + 1)).filter full = (A.take i).filter full ++ [qs] := by
  rw [List.take_add_one, h]
  simp [hf]
theorem take_filter_no {A : List (List Nat)} {i : Nat} {qs : List Nat} (h : A[i]? = some qs) (hf : full qs = false) : (A.take (i + 1)).filter full = (A.take i).filter full := by
  rw [List.take_add_one, h]
  simp [hf]
set_option maxRecDepth 100000 in
set_option maxHeartbeats 4000000 in
theorem newHeap_any (w : World) (lv0 : Value) (A : List (List Nat)) (kf : Nat → List UInt8) (hL : LLs w lv0 A kf) (hA : A.length < 100) :
    Calls Tryz.prog 141 #[lv0, .func (.func 93) #[] #[]] w fun e w' => ∃ h lv rows Qs, e = .returned (.pointer (some ⟨h, 0, none⟩)) ∧ Hp w' w.heap.size h lv rows Qs kf ∧ Qs.Perm (A.filter full) ∧ HeapOK (fk Qs kf) Qs.length 0 ∧ rows.length ≤ A.length ∧ Below w.heap.size w w' := by
  obtain ⟨ti, HI1, HI2, HI3, HI4⟩ := info_parts info144m
  obtain ⟨a, c, rfl, hc1, hc2⟩ := hL.is
  have HL : Hid _ := hL
  clear hL
  have X0 : Hb w (w.alloc (.cells #[.slice none 0 0, .func (.func 93) #[] #[]] 236)) (.slice none 0 0) [] [] :=
    ⟨(Below.refl _ _).alloc (Nat.le_refl _) _, heap_alloc_new _ _, ⟨rfl, Or.inl ⟨rfl, rfl⟩⟩, by simp [Value.ownBlock], rfl, fun i v qs h => by simp at h⟩
  go_enter Tryz.func141, Tryz.ntmps141
  go_wp2
  go_loopw [14] (fun x wx => ∃ (i : Nat) (lv : Value) (rows : List Value), i ≤ A.length ∧ x = .int .i64 i ∧ rows.length ≤ i ∧ Hid (Hb w wx lv rows ((A.take i).filter full))) (fun x _ => A.length - (intOf x).toNat)
  case atStart => exact ⟨0, .slice none 0 0, [], by omega, rfl, by simp, by show Hb _ _ _ _ _; exact X0⟩
  case round =>
    clear X0
    obtain ⟨i, lv, rows, hi, rfl, hri, HB⟩ := hrel
    by_cases hlt : i < A.length
    · obtain ⟨qs, hqs⟩ : ∃ qs, A[i]? = some qs := ⟨A[i], List.getElem?_eq_getElem hlt⟩
      obtain ⟨g, o, c', v, e1, e2, e3, e4⟩ := HL.out.at' i qs hqs
      cases e1
      have c1 := (HB.out.low.cell (p := ⟨g, o + i, none⟩) e2).trans e3
      have hg1 : g < wr.heap.size := Nat.lt_of_lt_of_le e2 HB.out.low.size
      obtain ⟨va, vc, hv, hv1, hv2, _⟩ := e4.is
      rw [hv] at c1
      have HV : Hid (Lst w v qs) := e4
      have HQ : Hid (A[i]? = some qs) := hqs
      have hltI : (i : Int) < (A.length : Int) := by omega
      clear e4 e3 hqs
      cases hf : full qs with
      | false =>
        have hq0 : qs.length = 0 := by cases qs with | nil => rfl | cons _ _ => simp [full] at hf
        rw [hq0] at c1
        go_wp2
        refine ⟨⟨i + 1, lv, rows, by omega, rfl, by omega, by rw [take_filter_no HQ.out hf]; exact HB⟩, ?_⟩
        simp [intOf]
        omega
      | true =>
        have hq0 : 0 < qs.length := by cases qs with | nil => simp [full] at hf | cons _ _ => simp
        have hqI : (0 : Int) < (qs.length : Int) := by omega
        have b0 : wr.cell? ⟨w.heap.size, 0, none⟩ = some lv := by simp [World.cell?, HB.out.blk]
        have f0 : wr.frozen? ⟨w.heap.size, 0, none⟩ = false := by simp [World.frozen?, HB.out.blk]
        have hS : w.heap.size < wr.heap.size := (Array.getElem?_eq_some_iff.1 HB.out.blk).1
        go_wp2_with (at_builtin; refine wpList_append_lies _ rfl (.tmp 25) (.tmp 27) 133 rfl w.heap.size 135 ti (.slice none 0 0) 1 24 Tryz.underlying133 HI1 HI2 HI3 HI4 rfl (by omega) lv rows.length rows rfl (World.ownsRow.alloc HB.out.row _) ⟨wr.heap.size, 0, none⟩ 1 1 [.slice va qs.length vc] rfl rfl (by intro j u hj; cases j with | zero => (simp at hj; subst hj; simp [Addr.add]) | succ j => simp at hj) (by intro u hu; simp at hu; subst hu; rfl) (by omega) (by unfold maxLen; omega) (by omega) (by simp; omega) _ rfl ?_; intro g2 cap2 w3 hown3 hgr3 hat3 hlt3; have k3 : w3.cell? ⟨w.heap.size, 0, none⟩ = some lv := (hgr3.cell_far ⟨w.heap.size, 0, none⟩ (by simp; omega) (Ne.symm HB.out.ne)).trans ((World.cell?_of_block (heap_alloc_old _ _ hS)).trans b0); have f3 : w3.frozen? ⟨w.heap.size, 0, none⟩ = false := (hgr3.frozen_far ⟨w.heap.size, 0, none⟩ (by simp; omega) (Ne.symm HB.out.ne)).trans ((World.frozen?_of_block (heap_alloc_old _ _ hS)).trans f0))
        have hne2 : g2 ≠ w.heap.size := by
          intro e
          rcases hat3 with h | h
          · exact HB.out.ne (e ▸ h)
          · simp at h; omega
        have hlow3 : Below w.heap.size w w3 := by
          have h1 : Below w.heap.size w (wr.alloc (.cells #[.slice va qs.length vc] 135)) := HB.out.low.alloc HB.out.low.size _
          refine ⟨hgr3.os.trans h1.os, hgr3.tape.trans h1.tape, hgr3.output.trans h1.output, Nat.le_trans h1.size hgr3.size, fun k hk => ?_⟩
          rw [hgr3.block k (by have := h1.size; omega) ?_]
          · exact h1.block k hk
          · intro e
            rcases HB.out.row.2 with ⟨e0, _⟩ | ⟨g0, cap0, cur, hv0, hb0, _⟩
            · rw [e0] at e; cases e
            · rw [hv0] at e
              injection e with e
              simp only at e
              omega
        have hblk3 : w3.heap[w.heap.size]? = some (.cells #[lv, .func (.func 93) #[] #[]] 236 (0, 0)) := by
          rw [hgr3.block w.heap.size (by simp; omega) (Ne.symm HB.out.ne), heap_alloc_old _ _ hS]
          exact HB.out.blk
        have hrl : (rows ++ [Value.slice va qs.length vc]).length = rows.length + 1 := by simp
        refine ⟨⟨i + 1, .slice (some ⟨g2, 0, none⟩) (rows.length + 1) cap2, rows ++ [.slice va qs.length vc], by omega, rfl, by rw [hrl]; omega, ?_⟩, ?_⟩
        · rw [take_filter_yes HQ.out hf]
          refine ⟨hlow3.setCell (p := ⟨w.heap.size, 0, none⟩) (Nat.le_refl _) _, ?_, ?_, fun e => hne2 (by injection e), by rw [List.length_append, hrl, HB.out.len]; rfl, ?_⟩
          · have := heap_set (i := 0) (v := .slice (some ⟨g2, 0, none⟩) (rows.length + 1) cap2) hblk3
            simpa using this
          · rw [hrl]
            refine ⟨hown3.1, ?_⟩
            rcases hown3.2 with ⟨hc, _⟩ | ⟨g', cap', cur, hv', h1, hg', h2⟩
            · cases hc
            · cases hv'
              refine Or.inr ⟨g2, cap2, cur, rfl, h1, ?_, h2⟩
              rw [← hg']
              simp [World.setCell, Array.getElem?_modify, Ne.symm hne2]
          · intro j v' qs' hv' hq'
            by_cases hj : j < rows.length
            · rw [List.getElem?_append_left hj] at hv'
              rw [List.getElem?_append_left (by rw [HB.out.len]; exact hj)] at hq'
              exact HB.out.lst j v' qs' hv' hq'
            · have hj2 : j = rows.length := by have := (List.getElem?_eq_some_iff.1 hv').1; rw [hrl] at this; omega
              subst hj2
              rw [List.getElem?_append_right (Nat.le_refl _), Nat.sub_self] at hv'
              rw [List.getElem?_append_right (by rw [HB.out.len]; exact Nat.le_refl _), HB.out.len, Nat.sub_self] at hq'
              simp only [List.getElem?_cons_zero, Option.some.injEq] at hv' hq'
              subst hv' hq'
              refine ⟨by rw [← hv]; exact HV.out, fun e => ?_⟩
              rw [e] at hq0
              simp at hq0
        · simp [intOf]
          omega
    · obtain rfl : i = A.length := by omega
      rw [List.take_length] at HB
      have hH := HB.out.hp HL.out (fun qs hq => (List.mem_filter.1 hq).1)
      have HH : Hid _ := hH
      have hlow := HB.out.low
      have HLW : Hid _ := hlow
      have b0 : wr.cell? ⟨w.heap.size, 0, none⟩ = some lv := by simp [World.cell?, HB.out.blk]
      have hlv : ∃ a' c', lv = .slice a' rows.length c' := by
        rcases HB.out.row.2 with ⟨e0, hz⟩ | ⟨g0, cap0, cur, hv0, _⟩
        · exact ⟨none, 0, by rw [e0, hz]⟩
        · exact ⟨_, _, hv0⟩
      obtain ⟨a', c', hlv⟩ := hlv
      subst hlv
      have hrA : rows.length ≤ A.length := hri
      clear hH hlow HB b0
      have b0 : wr.cell? ⟨w.heap.size, 0, none⟩ = some (.slice a' rows.length c') := by simp [World.cell?, HH.out.blk]
      go_wp2
      go_loopw [8] (fun x wx => ∃ (s : Nat) (rows' : List Value) (Qs' : List (List Nat)), s ≤ rows.length / 2 ∧ x = .int .i64 ((s : Int) - 1) ∧ rows'.length = rows.length ∧ Hid (Hp wx w.heap.size w.heap.size (.slice a' rows.length c') rows' Qs' kf) ∧ Hid (Qs'.Perm (A.filter full)) ∧ Hid (HeapOK (fk Qs' kf) Qs'.length s) ∧ Hid (Below w.heap.size w wx)) (fun x _ => (intOf x + 1).toNat)
      case atStart => exact ⟨rows.length / 2, rows, A.filter full, Nat.le_refl _, by congr 1, rfl, HH, List.Perm.refl _, fun i c hi hc hn => by (have h1 := HH.out.len; unfold Child at hc; omega), HLW⟩
      case round =>
        clear HH HLW b0
        obtain ⟨s, rows', Qs', hs, rfl, hrl, HH, HP, HK, HLW⟩ := hrel
        cases s with
        | zero =>
          have h0 : ((0 : Nat) : Int) - 1 = -1 := rfl
          rw [h0]
          go_wp2
          go_ret
          exact ⟨w.heap.size, _, rows', Qs', rfl, HH.out, HP.out, HK.out, by omega, HLW.out⟩
        | succ s =>
          have h0 : ((s + 1 : Nat) : Int) - 1 = (s : Int) := by omega
          rw [h0]
          have hlen := HH.out.len
          obtain ⟨r, cp, hlv, hbr⟩ : ∃ r cp, Value.slice a' rows.length c' = .slice (some ⟨r, 0, none⟩) rows'.length cp ∧ w.heap.size ≤ r := by
            rcases HH.out.row.2 with ⟨_, hz⟩ | ⟨g0, cap0, cur, hv0, hb0, _⟩
            · omega
            · exact ⟨g0, cap0, hv0, hb0⟩
          have HH2 : Hid (Hp wr w.heap.size w.heap.size (.slice (some ⟨r, 0, none⟩) rows'.length cp) rows' Qs' kf) := by rw [← hlv]; exact HH
          have HX : Hid (HeapEx (fk Qs' kf) Qs'.length s s) := by
            refine ⟨Nat.le_refl _, fun i c hi hne hc hn => HK.out i c (by omega) hc hn, fun i c hi hc => ?_⟩
            have := hc.gt
            omega
          have HLV : Hid _ := hlv
          clear hlv HH HK
          go_wp2_with fail
          refine (sink_any _ w.heap.size w.heap.size s s r cp rows' Qs' kf HH2.out (by omega) HX.out (by omega)).mono ?_
          rintro e w3 ⟨⟨v3, rfl⟩, rows3, Qs3, hl3, hH3, hP3, hK3, hO3⟩
          have H3 : Hid (Hp w3 w.heap.size w.heap.size (.slice a' rows.length c') rows3 Qs3 kf) := by rw [HLV.out]; exact hH3
          have P3 : Hid (Qs3.Perm (A.filter full)) := hP3.trans HP.out
          have K3 : Hid _ := hK3
          have L3 : Hid (Below w.heap.size w w3) := ⟨hO3.os.trans HLW.out.os, hO3.tape.trans HLW.out.tape, hO3.output.trans HLW.out.output, Nat.le_trans HLW.out.size hO3.size, fun k hk => (hO3.block k (by have := HLW.out.size; omega) (by omega)).trans (HLW.out.block k hk)⟩
          clear hH3 hP3 hK3 hO3 HH2 HX HP HLW
          go_wp2
          refine ⟨⟨s, rows3, Qs3, by omega, rfl, by omega, H3, P3, K3, L3⟩, ?_⟩
          simp [intOf]
end Go.Proofs.YtmehkneofinmiabGreatDoor

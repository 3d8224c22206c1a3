/-
  Texts of this proof, part 41.
-/
import Derived.Test.YtmehkneofinmiabGreatDoorP34
import Derived.Test.YtmehkneofinmiabGreatDoorP36
import Derived.Test.YtmehkneofinmiabGreatDoorP39
namespace Go.Proofs.YtmehkneofinmiabGreatDoor

/-- a stamp in January 1970 -/
theorem jan_sp (n : Nat) (hn : n < 2678400) : Cal.Sp ((n : Int) / 86400) 1970 0 ((n : Int) / 86400) :=
  ⟨by decide, by decide, by omega, by simp [Cal.ml]; omega, by rw [Cal.ahead_1970]; simp [Cal.cum]⟩
theorem jan_stamp (n : Nat) (hn : n < 2678400) : Cal.IsStamp (n : Int) (stampL n) := by
  have hx : Cal.IsStamp (n : Int) (Classical.epsilon (Cal.IsStamp (n : Int))) := Classical.epsilon_spec ⟨_, _, _, _, jan_sp n hn, rfl⟩
  have : stampL n = Classical.epsilon (Cal.IsStamp (n : Int)) := by
    unfold stampL
    exact List.take_of_length_le (stamp_len hx)
  rw [this]
  exact hx
theorem jan_date (n : Nat) (hn : n < 2678400) : dateV (stampL n) = ((n : Int), true) := by
  have hs := jan_stamp n hn
  have h : ∃ sec : Int, 0 ≤ sec ∧ sec ≤ 253402300799 ∧ Cal.IsStamp sec (stampL n) := ⟨n, by omega, by omega, hs⟩
  have hc := Classical.choose_spec h
  have e1 := stamp_inj hs hc.2.2 (by omega) (by omega) hc.1 hc.2.1
  unfold dateV
  rw [dif_pos h, ← e1]
def NoBr (l : List UInt8) : Prop := ∀ c ∈ l, c ≠ 13 ∧ c ≠ 10
theorem NoBr.app {a b : List UInt8} (h : NoBr a) (h' : NoBr b) : NoBr (a ++ b) := fun c hc => (List.mem_append.1 hc).elim (h c) (h' c)
theorem dig_no (x : Int) (h0 : 0 ≤ x) (h1 : x < 10) : Cal.dig x ≠ 13 ∧ Cal.dig x ≠ 10 := by
  obtain ⟨d, rfl⟩ : ∃ d : Nat, x = d := ⟨x.toNat, by omega⟩
  have : d = 0 ∨ d = 1 ∨ d = 2 ∨ d = 3 ∨ d = 4 ∨ d = 5 ∨ d = 6 ∨ d = 7 ∨ d = 8 ∨ d = 9 := by omega
  rcases this with rfl | rfl | rfl | rfl | rfl | rfl | rfl | rfl | rfl | rfl <;> decide
theorem two_no (x : Int) (h0 : 0 ≤ x) (h1 : x < 100) : NoBr (Cal.two x) := by
  intro c hc
  simp only [Cal.two, List.mem_cons, List.not_mem_nil, or_false] at hc
  rcases hc with rfl | rfl
  · exact dig_no _ (by omega) (by omega)
  · exact dig_no _ (by omega) (by omega)
theorem week_no (i : Nat) (hi : i < 7) : ∃ a m, Cal.nm Cal.week i = a :: m ∧ a ≠ 32 ∧ a ≠ 9 ∧ NoBr (Cal.nm Cal.week i) := by
  have : i = 0 ∨ i = 1 ∨ i = 2 ∨ i = 3 ∨ i = 4 ∨ i = 5 ∨ i = 6 := by omega
  rcases this with rfl | rfl | rfl | rfl | rfl | rfl | rfl
  all_goals exact ⟨_, _, rfl, by decide, by decide, by unfold NoBr; decide⟩
theorem jan_bytes (n : Nat) (hn : n < 2678400) : (∃ a m, stampL n = a :: m ++ [84] ∧ a ≠ 32 ∧ a ≠ 9) ∧ NoBr (stampL n) := by
  have e : stampL n = Cal.fmt ((n : Int) / 86400) 1970 0 ((n : Int) / 86400) ((n : Int) % 86400) := (jan_stamp n hn).uniq ⟨_, _, _, jan_sp n hn, rfl⟩
  obtain ⟨a, m, hw, h1, h2, h3⟩ := week_no ((n : Int) / 86400 % 7).toNat (by omega)
  rw [e]
  unfold Cal.fmt
  constructor
  · rw [hw]
    exact ⟨a, m ++ [44, 32] ++ Cal.two ((n : Int) / 86400 + 1) ++ [32] ++ Cal.nm Cal.months 0 ++ [32] ++ Cal.four 1970 ++ [32] ++ Cal.two ((n : Int) % 86400 / 3600) ++ [58] ++ Cal.two ((n : Int) % 86400 % 3600 / 60) ++ [58] ++ Cal.two ((n : Int) % 86400 % 60) ++ [32, 71, 77], by simp, h1, h2⟩
  · refine NoBr.app (NoBr.app (NoBr.app (NoBr.app (NoBr.app (NoBr.app (NoBr.app (NoBr.app (NoBr.app (NoBr.app (NoBr.app (NoBr.app (NoBr.app h3 ?_) ?_) ?_) ?_) ?_) ?_) ?_) ?_) ?_) ?_) ?_) ?_) ?_
    all_goals first | exact two_no _ (by omega) (by omega) | (unfold NoBr; decide)

theorem trim_g (a z : UInt8) (t : List UInt8) (ha : a ≠ 32 ∧ a ≠ 9) (hz : z ≠ 32 ∧ z ≠ 9) : Lib.trimS (a :: t ++ [z]) [32, 9] = a :: t ++ [z] ∧ Lib.trimS (32 :: (a :: t ++ [z])) [32, 9] = a :: t ++ [z] := by
  constructor <;> simp [Lib.trimS, Lib.trimLeftS, Lib.trimRightS, List.dropWhile, ha, hz]
theorem any_crlf {v : List UInt8} (h : NoBr v) : v.any crlfB = false := by
  rw [List.any_eq_false]
  intro c hc
  have := h c hc
  simp [crlfB, this]
theorem line_gen {nm v : List UInt8} {k : Cnd} (h1 : nameOK nm = true) (h2 : ∀ c ∈ nm, c ≠ 58) (h3 : NoBr v) (h4 : Lib.trimS (32 :: v) [32, 9] = v) (h5 : fieldF k0 nm v = some k) : lineF k0 (nm ++ [58] ++ (32 :: v)) = some k := by
  have hc : Lib.cut (nm ++ [58] ++ (32 :: v)) [58] = (nm, 32 :: v, true) := cut_clean nm (32 :: v) [] 58 h2
  have hn : (32 :: v).any crlfB = false := by rw [List.any_cons, any_crlf h3]; rfl
  unfold lineF
  rw [hc]
  simp only
  rw [hn, h4, h1, h5]
  rfl
def nNone : List UInt8 := [73, 102, 45, 78, 111, 110, 101, 45, 77, 97, 116, 99, 104]
def nMatch : List UInt8 := [73, 102, 45, 77, 97, 116, 99, 104]
def nSince : List UInt8 := [73, 102, 45, 77, 111, 100, 105, 102, 105, 101, 100, 45, 83, 105, 110, 99, 101]
def nUnless : List UInt8 := [73, 102, 45, 85, 110, 109, 111, 100, 105, 102, 105, 101, 100, 45, 83, 105, 110, 99, 101]
def noQ : List UInt8 := [34, 110, 111, 34]
/-- two tags -/
theorem tags_two {t : List UInt8} (h : okText t = true) : tagsV (noQ ++ [44, 32] ++ [87, 47] ++ (34 :: t ++ [34])) = (false, true, [(false, [110, 111]), (true, t)]) := by
  have e0 : noQ ++ [44, 32] ++ [87, 47] ++ (34 :: t ++ [34]) = 34 :: ([110, 111, 34, 44, 32, 87, 47, 34] ++ t) ++ [34] := by simp [noQ]
  unfold tagsV
  rw [e0, (trim_g 34 34 _ (by decide) (by decide)).1, ← e0]
  unfold tagsG
  rw [if_neg (by simp [noQ])]
  have t1 : tagF (noQ ++ ([44, 32, 87, 47] ++ (34 :: t ++ [34]))) = some (false, [110, 111], [44, 32, 87, 47] ++ (34 :: t ++ [34])) := tagF_mk false [110, 111] ([44, 32, 87, 47] ++ (34 :: t ++ [34])) (by decide)
  have t2 : tagF ([87, 47] ++ (34 :: t ++ [34])) = some (true, t, []) := by
    have := tagF_mk true t [] h
    simp only [mk] at this
    simpa using this
  obtain ⟨f, hf⟩ : ∃ f, (noQ ++ [44, 32] ++ [87, 47] ++ (34 :: t ++ [34])).length + 1 = f + 1 + 1 := ⟨t.length + 9, by simp [noQ]⟩
  rw [hf]
  have e1 : noQ ++ [44, 32] ++ [87, 47] ++ (34 :: t ++ [34]) = noQ ++ ([44, 32, 87, 47] ++ (34 :: t ++ [34])) := by simp
  have s1 : strip ([44, 32, 87, 47] ++ (34 :: t ++ [34])) = [44, 32, 87, 47] ++ (34 :: t ++ [34]) := by rfl
  have s2 : strip (Lib.trimPrefix ([44, 32, 87, 47] ++ (34 :: t ++ [34])) [44]) = [87, 47] ++ (34 :: t ++ [34]) := by rfl
  have e2 : tagsF (f + 1 + 1) (noQ ++ [44, 32] ++ [87, 47] ++ (34 :: t ++ [34])) = some [(false, [110, 111]), (true, t)] := by
    rw [e1]
    unfold tagsF
    rw [t1]
    simp only
    rw [if_neg (by simp), s1, s2, if_pos (by rfl)]
    unfold tagsF
    rw [t2]
    rfl
  rw [e2]
theorem tags_weak {t : List UInt8} (h : okText t = true) : tagsV ([87, 47] ++ (34 :: t ++ [34])) = (false, true, [(true, t)]) := by
  have e0 : [87, 47] ++ (34 :: t ++ [34]) = 87 :: ([47, 34] ++ t) ++ [34] := by simp
  unfold tagsV
  rw [e0, (trim_g 87 34 _ (by decide) (by decide)).1, ← e0]
  unfold tagsG
  rw [if_neg (by simp)]
  have t2 : tagF ([87, 47] ++ (34 :: t ++ [34])) = some (true, t, []) := by
    have := tagF_mk true t [] h
    simp only [mk] at this
    simpa using this
  have e2 : tagsF (([87, 47] ++ (34 :: t ++ [34])).length + 1) ([87, 47] ++ (34 :: t ++ [34])) = some [(true, t)] := by
    unfold tagsF
    rw [t2]
    rfl
  rw [e2]
theorem line_two {t : List UInt8} (h : okText t = true) (h2 : NoBr t) : lineF k0 (nNone ++ [58] ++ (32 :: (noQ ++ [44, 32] ++ [87, 47] ++ (34 :: t ++ [34])))) = some ⟨none, some (false, [(false, [110, 111]), (true, t)]), none, none⟩ := by
  have e0 : noQ ++ [44, 32] ++ [87, 47] ++ (34 :: t ++ [34]) = 34 :: ([110, 111, 34, 44, 32, 87, 47, 34] ++ t) ++ [34] := by simp [noQ]
  refine line_gen (by decide) (by decide) ?_ (by rw [e0]; exact (trim_g 34 34 _ (by decide) (by decide)).2) ?_
  · exact NoBr.app (by unfold NoBr; decide) (NoBr.app (a := [34] ++ t) (NoBr.app (by unfold NoBr; decide) h2) (by unfold NoBr; decide))
  · unfold fieldF
    rw [if_neg (by decide), if_pos (by decide), tags_two h]
    rfl
theorem line_no : lineF k0 (ifNone ++ [58] ++ (32 :: noQ)) = some ⟨none, some (false, [(false, [110, 111])]), none, none⟩ := by
  refine line_gen (by decide) (by decide) (by unfold NoBr; decide) (by decide) ?_
  unfold fieldF
  rw [if_neg (by decide), if_pos (by decide), show noQ = 34 :: [110, 111] ++ [34] from rfl, tags_one (by decide)]
  rfl
theorem line_weak {t : List UInt8} (h : okText t = true) (h2 : NoBr t) : lineF k0 (nMatch ++ [58] ++ (32 :: ([87, 47] ++ (34 :: t ++ [34])))) = some ⟨some (false, [(true, t)]), none, none, none⟩ := by
  have e0 : [87, 47] ++ (34 :: t ++ [34]) = 87 :: ([47, 34] ++ t) ++ [34] := by simp
  refine line_gen (by decide) (by decide) ?_ (by rw [e0]; exact (trim_g 87 34 _ (by decide) (by decide)).2) ?_
  · exact NoBr.app (by unfold NoBr; decide) (NoBr.app (a := [34] ++ t) (NoBr.app (by unfold NoBr; decide) h2) (by unfold NoBr; decide))
  · unfold fieldF
    rw [if_pos (by decide), tags_weak h]
    rfl
theorem line_since (n : Nat) (hn : n < 2678400) : lineF k0 (nSince ++ [58] ++ (32 :: stampL n)) = some ⟨none, none, some ((n : Int), true), none⟩ := by
  obtain ⟨⟨a, m, e, h1, h2⟩, hb⟩ := jan_bytes n hn
  refine line_gen (by decide) (by decide) hb (by rw [e]; exact (trim_g a 84 m ⟨h1, h2⟩ (by decide)).2) ?_
  unfold fieldF
  rw [if_neg (by decide), if_neg (by decide), if_pos (by decide), jan_date n hn]
  rfl
theorem line_unless (n : Nat) (hn : n < 2678400) : lineF k0 (nUnless ++ [58] ++ (32 :: stampL n)) = some ⟨none, none, none, some ((n : Int), true)⟩ := by
  obtain ⟨⟨a, m, e, h1, h2⟩, hb⟩ := jan_bytes n hn
  refine line_gen (by decide) (by decide) hb (by rw [e]; exact (trim_g a 84 m ⟨h1, h2⟩ (by decide)).2) ?_
  unfold fieldF
  rw [if_neg (by decide), if_neg (by decide), if_neg (by decide), if_pos (by decide), jan_date n hn]
  rfl

theorem tagOf_len (v : Ver) : (tagOf (some v)).length = 16 := hexN_len 16 (fnv v.body)
theorem cond_two (v : Ver) : condF false ⟨none, some (false, [(false, [110, 111]), (true, tagOf (some v))]), none, none⟩ (some v) = 304 := by
  simp [condF, Jd.jd, anyT, hasD, lstT, hitT]
theorem cond_no (v : Ver) : condF false ⟨none, some (false, [(false, [110, 111])]), none, none⟩ (some v) = 0 := by
  have h : ¬ [110, 111] = tagOf (some v) := fun e => by have := tagOf_len v; rw [← e] at this; simp at this
  simp [condF, Jd.jd, anyT, hasD, lstT, hitT, h]
theorem cond_weak (v : Ver) : condF false ⟨some (false, [(true, tagOf (some v))]), none, none, none⟩ (some v) = 412 := by
  simp [condF, Jd.jd, anyT, lstT, hitT]
theorem cond_since (n : Nat) (v : Ver) : condF false ⟨none, none, some ((n : Int), true), none⟩ (some v) = if v.time ≤ n then 304 else 0 := by
  by_cases h : v.time ≤ n <;> simp [condF, Jd.jd, anyT, hasD, valD, timeOf, h]
theorem cond_unless (wt : Bool) (n : Nat) (v : Ver) : condF wt ⟨none, none, none, some ((n : Int), true)⟩ (some v) = if n < v.time then 412 else 0 := by
  by_cases h : n < v.time <;> simp [condF, Jd.jd, anyT, hasD, valD, timeOf, h]

/-- GET and HEAD of what is told by a target -/
theorem ask_r {σ : St} {m : Nat} {t : Tgt} {k : Cnd} {body : List UInt8} (h3 : t.kind ≠ 3) (hw : isW m = false) : askF σ m t k body = (if condF false k (aimF (findE σ.ents t.key) t) ≠ 0 then ⟨condF false k (aimF (findE σ.ents t.key) t), [], []⟩ else
    match aimF (findE σ.ents t.key) t with
    | none => ⟨404, [], []⟩
    | some v => ⟨200, verFlds v (stampL v.time), if m = 0 then v.body else []⟩, σ) := by
  unfold askF
  rw [if_neg h3, hw]
  by_cases h : condF false k (aimF (findE σ.ents t.key) t) ≠ 0
  · rw [if_pos h, if_pos h]
  · rw [if_neg h, if_neg h]
    simp only [Bool.false_eq_true, if_false]
    cases aimF (findE σ.ents t.key) t <;> rfl
theorem get_cond {σ : St} {l key : List UInt8} {m told : Nat} {k : Cnd} (hr : readF l = .ok (m, ⟨1, key, 0⟩, k, [])) (hw : isW m = false) (h : condF false k (curOf (findE σ.ents key)) = told) (h0 : told ≠ 0) : ansF σ l = (⟨told, [], []⟩, σ) := by
  rw [ans_of hr (by simp), ask_r (by simp) hw]
  have e : aimF (findE σ.ents key) ⟨1, key, 0⟩ = curOf (findE σ.ents key) := rfl
  simp only [e, h]
  rw [if_pos h0]
theorem get_none {σ : St} {l key : List UInt8} {m : Nat} (hr : readF l = .ok (m, ⟨1, key, 0⟩, k0, [])) (hw : isW m = false) (h : curOf (findE σ.ents key) = none) : ansF σ l = (⟨404, [], []⟩, σ) := by
  rw [ans_of hr (by simp), ask_r (by simp) hw]
  have e : aimF (findE σ.ents key) ⟨1, key, 0⟩ = none := h
  simp only [e, condF0]
  rfl
theorem get_some {σ : St} {l key : List UInt8} {m : Nat} {k : Cnd} {v : Ver} (hr : readF l = .ok (m, ⟨1, key, 0⟩, k, [])) (hw : isW m = false) (h : curOf (findE σ.ents key) = some v) (hc : condF false k (some v) = 0) : ansF σ l = (⟨200, verFlds v (stampL v.time), if m = 0 then v.body else []⟩, σ) := by
  rw [ans_of hr (by simp), ask_r (by simp) hw]
  have e : aimF (findE σ.ents key) ⟨1, key, 0⟩ = some v := h
  simp only [e, hc]
  rfl
theorem read_key0 {mt key : List UInt8} {m : Nat} (hm : methF mt = some m ∧ ∀ c ∈ mt, c ≠ 32 ∧ c ≠ 13) (hl : mt.length < 10) (hf : fitsF m 1 = true) (h : keyOK key = true) : readF (reqB mt (47 :: key) [] []) = .ok (m, ⟨1, key, 0⟩, k0, []) :=
  rf6 (by have := (key_no h).2.1; rw [reqB_len]; simp; omega) (parse_req0 hm.1 hm.2 (key13 h) (target_key h)) (by simp) (by simp) hf
theorem read_key1 {mt key line : List UInt8} {m : Nat} {k : Cnd} (hm : methF mt = some m ∧ ∀ c ∈ mt, c ≠ 32 ∧ c ≠ 13) (hl : mt.length < 10) (hf : fitsF m 1 = true) (h : keyOK key = true) (hne : line ≠ []) (hn : line.length < 1000) (h13 : ∀ c ∈ line, c ≠ 13) (hk : lineF k0 line = some k) : readF (reqB mt (47 :: key) (line ++ crlf) []) = .ok (m, ⟨1, key, 0⟩, k, []) :=
  rf6 (by have := (key_no h).2.1; rw [reqB_len]; simp [crlf]; omega) (parse_req1 hm.1 hm.2 (key13 h) (target_key h) hne h13 hk) (by simp) (by simp) hf
end Go.Proofs.YtmehkneofinmiabGreatDoor

namespace Go.Proofs.YtmehkneofinmiabGreatDoor
open Go.RowKit

theorem asks {B : Nat} {b s n : Nat} {σ : St} {M : Mem} {vs : Nat → Value} {d c : Nat} (R : List UInt8) (a : Ans) (y : World) (h : Bk B y b s n σ M vs d c) (hR : ansF σ R = (a, σ)) (hl : R.length < 3000) (hc : c ≤ 400) :
    Calls Tryz.prog 11 #[.pointer (some ⟨s, 0, none⟩), .string ⟨R.toArray⟩] y fun e w' => e = .returned (.string ⟨(textF a.told a.flds a.body).toArray⟩) ∧ (∃ M', Bk B w' b s n σ M' vs d c) ∧ Off (fun k => B ≤ k) y w' ∧ (∀ (k : Nat) (cs : Array Value) (f : Nat × Nat), y.heap[k]? = some (.cells cs 42 f) → w'.heap[k]? = some (.cells cs 42 f)) := by
  refine (do_sto R h.sto (by have := h.lg; omega) (by omega) hR).mono ?_
  rintro e w' ⟨rfl, _, M2, hS2, hO2, hP2⟩
  refine ⟨rfl, ⟨M2, ⟨hS2, h.bk.did h.sto.st hO2, h.bB, h.vB, h.ks, h.tm, h.lg, h.ls, h.dn⟩⟩, hP2, fun k cs f hk => ?_⟩
  rw [hO2.block k (Array.getElem?_eq_some_iff.1 hk).1 (fun ho => (own_book h.sto.st ho).2 hk)]
  exact hk
/-- Headed's lines -/
def lnTwo (t : List UInt8) : List UInt8 := [73, 102, 45, 78, 111, 110, 101, 45, 77, 97, 116, 99, 104, 58, 32, 34, 110, 111, 34, 44, 32, 87, 47] ++ (34 :: t ++ [34])
def lnNo : List UInt8 := [105, 102, 45, 110, 111, 110, 101, 45, 109, 97, 116, 99, 104, 58, 32, 34, 110, 111, 34]
def lnWeak (t : List UInt8) : List UInt8 := [73, 102, 45, 77, 97, 116, 99, 104, 58, 32, 87, 47] ++ (34 :: t ++ [34])
def lnSince (t : List UInt8) : List UInt8 := [73, 102, 45, 77, 111, 100, 105, 102, 105, 101, 100, 45, 83, 105, 110, 99, 101, 58, 32] ++ t
def lnUnless (t : List UInt8) : List UInt8 := [73, 102, 45, 85, 110, 109, 111, 100, 105, 102, 105, 101, 100, 45, 83, 105, 110, 99, 101, 58, 32] ++ t
theorem no13 {l : List UInt8} (h : NoBr l) : ∀ c ∈ l, c ≠ 13 := fun c hc => (h c hc).1
theorem quo_no {t : List UInt8} (h : NoBr t) : NoBr (34 :: t ++ [34]) := NoBr.app (a := [34] ++ t) (NoBr.app (by unfold NoBr; decide) h) (by unfold NoBr; decide)
theorem qTag_is (b : List UInt8) : qTag b = 34 :: hexN 16 (fnv b) ++ [34] := rfl
variable {σ : St} {key : List UInt8} {v : Ver}
theorem hd_get (hk : keyOK key = true) (hc : curOf (findE σ.ents key) = some v) : ansF σ (reqB getM (47 :: key) [] []) = (⟨200, verFlds v (stampL v.time), v.body⟩, σ) :=
  get_some (read_key0 m_get (by decide) rfl hk) rfl hc (condF0 _ _)
theorem hd_head (hk : keyOK key = true) (hc : curOf (findE σ.ents key) = some v) : ansF σ (reqB hedM (47 :: key) [] []) = (⟨200, verFlds v (stampL v.time), []⟩, σ) :=
  get_some (read_key0 m_head (by decide) rfl hk) rfl hc (condF0 _ _)
theorem hd_get0 (hk : keyOK key = true) (hc : curOf (findE σ.ents key) = none) : ansF σ (reqB getM (47 :: key) [] []) = (⟨404, [], []⟩, σ) :=
  get_none (read_key0 m_get (by decide) rfl hk) rfl hc
theorem hd_head0 (hk : keyOK key = true) (hc : curOf (findE σ.ents key) = none) : ansF σ (reqB hedM (47 :: key) [] []) = (⟨404, [], []⟩, σ) :=
  get_none (read_key0 m_head (by decide) rfl hk) rfl hc
theorem hd_two (hk : keyOK key = true) (hc : curOf (findE σ.ents key) = some v) : ansF σ (reqB getM (47 :: key) (lnTwo (hexN 16 (fnv v.body)) ++ crlf) []) = (⟨304, [], []⟩, σ) := by
  have ht := tag_ok v.body
  refine get_cond (read_key1 m_get (by decide) rfl hk (by simp [lnTwo]) (by simp [lnTwo, hexN_len]) ?_ (line_two ht.1 ht.2)) rfl (by rw [hc]; exact cond_two v) (by decide)
  exact no13 (NoBr.app (by unfold NoBr; decide) (quo_no ht.2))
theorem hd_no (hk : keyOK key = true) (hc : curOf (findE σ.ents key) = some v) : ansF σ (reqB getM (47 :: key) (lnNo ++ crlf) []) = (⟨200, verFlds v (stampL v.time), v.body⟩, σ) :=
  get_some (read_key1 m_get (by decide) rfl hk (by decide) (by decide) (by decide) line_no) rfl hc (cond_no v)
theorem hd_weak (hk : keyOK key = true) (hc : curOf (findE σ.ents key) = some v) : ansF σ (reqB getM (47 :: key) (lnWeak (hexN 16 (fnv v.body)) ++ crlf) []) = (⟨412, [], []⟩, σ) := by
  have ht := tag_ok v.body
  refine get_cond (read_key1 m_get (by decide) rfl hk (by simp [lnWeak]) (by simp [lnWeak, hexN_len]) ?_ (line_weak ht.1 ht.2)) rfl (by rw [hc]; exact cond_weak v) (by decide)
  exact no13 (NoBr.app (by unfold NoBr; decide) (quo_no ht.2))
theorem jan_len (n : Nat) (hn : n < 2678400) : (stampL n).length ≤ 40 := stamp_len (jan_stamp n hn)
theorem since_read {n : Nat} (hn : n < 2678400) (hk : keyOK key = true) : readF (reqB getM (47 :: key) (lnSince (stampL n) ++ crlf) []) = .ok (0, ⟨1, key, 0⟩, ⟨none, none, some ((n : Int), true), none⟩, []) := by
  refine read_key1 m_get (by decide) rfl hk (by simp [lnSince]) (by have := jan_len n hn; simp [lnSince]; omega) ?_ (line_since n hn)
  exact no13 (NoBr.app (by unfold NoBr; decide) (jan_bytes n hn).2)
theorem unless_read {n m : Nat} {mt : List UInt8} (hm : methF mt = some m ∧ ∀ c ∈ mt, c ≠ 32 ∧ c ≠ 13) (hl : mt.length < 10) (hf : fitsF m 1 = true) (hn : n < 2678400) (hk : keyOK key = true) : readF (reqB mt (47 :: key) (lnUnless (stampL n) ++ crlf) []) = .ok (m, ⟨1, key, 0⟩, ⟨none, none, none, some ((n : Int), true)⟩, []) := by
  refine read_key1 hm hl hf hk (by simp [lnUnless]) (by have := jan_len n hn; simp [lnUnless]; omega) ?_ (line_unless n hn)
  exact no13 (NoBr.app (by unfold NoBr; decide) (jan_bytes n hn).2)
theorem hd_since (hn : v.time < 2678400) (hk : keyOK key = true) (hc : curOf (findE σ.ents key) = some v) : ansF σ (reqB getM (47 :: key) (lnSince (stampL v.time) ++ crlf) []) = (⟨304, [], []⟩, σ) :=
  get_cond (since_read hn hk) rfl (by rw [hc, cond_since, if_pos (Nat.le_refl _)]) (by decide)
theorem hd_unless (hn : v.time < 2678400) (hk : keyOK key = true) (hc : curOf (findE σ.ents key) = some v) : ansF σ (reqB hedM (47 :: key) (lnUnless (stampL v.time) ++ crlf) []) = (⟨200, verFlds v (stampL v.time), []⟩, σ) :=
  get_some (unless_read m_head (by decide) rfl hn hk) rfl hc (by rw [cond_unless, if_neg (Nat.lt_irrefl _)])
theorem hd_since1 {t : Nat} (ht : v.time = t + 1) (hn : v.time < 2678400) (hk : keyOK key = true) (hc : curOf (findE σ.ents key) = some v) : ansF σ (reqB getM (47 :: key) (lnSince (stampL t) ++ crlf) []) = (⟨200, verFlds v (stampL v.time), v.body⟩, σ) :=
  get_some (since_read (by omega) hk) rfl hc (by rw [cond_since, if_neg (by omega)])
theorem hd_unless1 {t : Nat} (ht : v.time = t + 1) (hn : v.time < 2678400) (hk : keyOK key = true) (hc : curOf (findE σ.ents key) = some v) : ansF σ (reqB getM (47 :: key) (lnUnless (stampL t) ++ crlf) []) = (⟨412, [], []⟩, σ) :=
  get_cond (unless_read m_get (by decide) rfl (by omega) hk) rfl (by rw [hc, cond_unless, if_pos (by omega)]) (by decide)
theorem hd_put1 {t : Nat} {what : List UInt8} (hw : what.length < 100) (ht : v.time = t + 1) (hn : v.time < 2678400) (hk : keyOK key = true) (hc : curOf (findE σ.ents key) = some v) : ansF σ (reqB putM (47 :: key) (lnUnless (stampL t) ++ crlf) what) = (⟨412, [], []⟩, σ) := by
  have hr := read_put1 (what := what) hk hw (line := lnUnless (stampL t)) (by simp [lnUnless]) (by have := jan_len t (by omega); simp [lnUnless]; omega) (no13 (NoBr.app (by unfold NoBr; decide) (jan_bytes t (by omega)).2)) (line_unless t (by omega))
  have hcd : condF true ⟨none, none, none, some ((t : Int), true)⟩ (curOf (findE σ.ents key)) = 412 := by rw [hc, cond_unless, if_pos (by omega)]
  have := put_cond (σ := σ) hr (by rw [hcd]; decide)
  rw [hcd] at this
  exact this
/-- the texts of a version -/
theorem cln_flds (v : Ver) (hn : v.time < 2678400) : ∀ f ∈ verFlds v (stampL v.time), Cln f := by
  intro f hf
  simp only [verFlds, List.mem_cons, List.not_mem_nil, or_false] at hf
  rcases hf with rfl | rfl | rfl
  · exact ⟨by simp, (by decide : ∀ c ∈ ([69, 84, 97, 103] : List UInt8), c ≠ 13), no13 (quo_no (tag_ok v.body).2)⟩
  · exact ⟨by simp, (by decide : ∀ c ∈ ([76, 97, 115, 116, 45, 77, 111, 100, 105, 102, 105, 101, 100] : List UInt8), c ≠ 13), no13 (jan_bytes _ hn).2⟩
  · exact ⟨by simp, (by decide : ∀ c ∈ ([86, 101, 114, 115, 105, 111, 110] : List UInt8), c ≠ 13), dec13 _⟩
end Go.Proofs.YtmehkneofinmiabGreatDoor

namespace Go.Proofs.YtmehkneofinmiabGreatDoor

/-- what c steps leave -/
structure Good (σ : St) (c : Nat) : Prop where
  t : σ.time ≤ c * 5000
  e : ∀ E ∈ σ.ents, E.last ≤ c ∧ ∀ v ∈ E.vers, 0 < v.num ∧ v.num ≤ c ∧ v.time ≤ σ.time ∧ v.body.length ≤ 400
theorem Good.more {σ : St} {c : Nat} (h : Good σ c) : Good σ (c + 1) :=
  ⟨Nat.le_trans h.t (Nat.mul_le_mul_right _ (Nat.le_succ _)), fun E hE => ⟨by have := (h.e E hE).1; omega, fun v hv => by have := (h.e E hE).2 v hv; exact ⟨this.1, by omega, this.2.2⟩⟩⟩
theorem findE_or (l : List Ent) (key : List UInt8) : findE l key ∈ l ∨ findE l key = ⟨key, 0, []⟩ := by
  unfold findE
  cases hf : l.find? (fun E => E.key == key) with
  | none => exact Or.inr rfl
  | some E => exact Or.inl (List.mem_of_find?_eq_some hf)
theorem Good.find {σ : St} {c : Nat} (h : Good σ c) (key : List UInt8) : (findE σ.ents key).last ≤ c ∧ ∀ v ∈ (findE σ.ents key).vers, 0 < v.num ∧ v.num ≤ c ∧ v.time ≤ σ.time ∧ v.body.length ≤ 400 := by
  rcases findE_or σ.ents key with hm | hm
  · exact h.e _ hm
  · rw [hm]
    exact ⟨Nat.zero_le _, fun v hv => by cases hv⟩
theorem Good.chg {σ σ' : St} {key body : List UInt8} {k n told c : Nat} (h : Good σ c) (hn : k ≠ 3 → n = (findE σ.ents key).last + 1 ∧ body.length ≤ 400) (hc : chgF σ key k n body = (told, some σ')) : Good σ' (c + 1) := by
  unfold chgF at hc
  split at hc
  · simp at hc
  · split at hc
    · simp at hc
    · simp only [Prod.mk.injEq, Option.some.injEq] at hc
      rw [← hc.2]
      have hf := h.find key
      refine ⟨h.more.t, fun E hE => ?_⟩
      rcases putE_mem hE with rfl | hE
      · unfold applyF
        split
        · exact ⟨Nat.le_succ_of_le hf.1, fun v hv => by
            have := hf.2 v (List.mem_of_mem_eraseIdx hv)
            exact ⟨this.1, by omega, this.2.2⟩⟩
        · rename_i h3
          have hn' := hn h3
          refine ⟨by show n ≤ c + 1; omega, fun v hv => ?_⟩
          rcases List.mem_append.1 hv with hv | hv
          · have := hf.2 v hv
            exact ⟨this.1, by omega, this.2.2⟩
          · rw [List.mem_singleton] at hv
            rw [hv]
            exact ⟨by show 0 < n; omega, by show n ≤ c + 1; omega, Nat.le_refl _, hn'.2⟩
      · exact h.more.e E hE
theorem want_is (E : Ent) (m : Nat) (t : Tgt) (body : List UInt8) (hb : body.length ≤ 400) : (wantF E m t body).1 ≠ 3 → (wantF E m t body).2.1 = E.last + 1 ∧ (wantF E m t body).2.2.length ≤ 400 := by
  unfold wantF
  repeat' split
  all_goals simp [hb]
theorem read_body {l body : List UInt8} {m : Nat} {t : Tgt} {k : Cnd} (h : readF l = .ok (m, t, k, body)) : body.length ≤ 400 := by
  unfold readF at h
  split at h
  · cases h
  · split at h
    · cases h
    · split at h
      · cases h
      · split at h
        · cases h
        · split at h
          · rename_i h4 _
            cases h
            omega
          · cases h
theorem Good.ans {σ : St} {c : Nat} (h : Good σ c) (l : List UInt8) : Good (ansF σ l).2 (c + 1) := by
  unfold ansF
  split
  · exact h.more
  · rename_i m t k body hrd
    have hbd := read_body hrd
    split
    · exact h.more
    · unfold askF
      split
      · exact h.more
      · split
        · exact h.more
        · split
          · split
            · exact h.more
            · rename_i hc
              exact h.chg (want_is _ _ _ _ hbd) hc
          · split
            · exact h.more
            · exact h.more
theorem Good.step {σ : St} {c : Nat} (h : Good σ c) (k a b d : Int) : Good (stepF σ k a b d) (c + 1) := by
  unfold stepF
  split
  · exact h.ans _
  · split
    · exact h.ans _
    · split
      · exact h.ans _
      · split
        · exact h.ans _
        · split
          · exact h.ans _
          · have hp := pk_bd b 5000 (by omega)
            refine ⟨by have := h.t; rw [Nat.add_mul]; show σ.time + (pk b 5000).toNat ≤ _; omega, fun E hE => ⟨(h.more.e E hE).1, fun v hv => ?_⟩⟩
            have := (h.more.e E hE).2 v hv
            exact ⟨this.1, this.2.1, by show v.time ≤ σ.time + (pk b 5000).toNat; omega, this.2.2.2⟩
theorem good_play (l : List Stp) : ∀ σ c, Good σ c → Good (playF σ l) (c + l.length) := by
  induction l with
  | nil => exact fun σ c h => h
  | cons o l ih =>
    intro σ c h
    have := ih _ _ (h.step o.k o.a o.b o.c)
    rw [show c + (o :: l).length = c + 1 + l.length by simp; omega]
    exact this
theorem good_played (l : List Stp) : Good (playF st0 (l.take 400)) 400 := by
  have h0 : Good st0 0 := ⟨by decide, fun E hE => by cases hE⟩
  have h1 := good_play (l.take 400) _ _ h0
  have h2 : (l.take 400).length ≤ 400 := by rw [List.length_take]; omega
  refine ⟨Nat.le_trans h1.t (Nat.mul_le_mul_right _ (by omega)), fun E hE => ⟨by have := (h1.e E hE).1; omega, fun v hv => ?_⟩⟩
  have := (h1.e E hE).2 v hv
  exact ⟨this.1, by omega, this.2.2⟩
theorem cur_mem {E : Ent} {v : Ver} (h : curOf E = some v) : v ∈ E.vers ∧ v.mark = false := by
  cases hg : E.vers.getLast? with
  | none => simp [curOf, hg] at h
  | some y =>
    cases hm : y.mark with
    | true => simp [curOf, hg, hm] at h
    | false =>
      simp [curOf, hg, hm] at h
      rw [← h]
      exact ⟨List.mem_of_getLast? hg, hm⟩
end Go.Proofs.YtmehkneofinmiabGreatDoor

namespace Go.Proofs.YtmehkneofinmiabGreatDoor

theorem fm_congr {α β : Type} {f g : α → Option β} : ∀ {l : List α}, (∀ x ∈ l, f x = g x) → l.filterMap f = l.filterMap g
  | [], _ => rfl
  | a :: l, h => by
    rw [List.filterMap_cons, List.filterMap_cons, h a (by simp), fm_congr (fun x hx => h x (by simp [hx]))]
theorem findE_not {l : List Ent} {key : List UInt8} (h : ∀ E ∈ l, E.key ≠ key) : findE l key = ⟨key, 0, []⟩ := by
  induction l with
  | nil => rfl
  | cons a l ih => rw [findE_cons, if_neg (h a (by simp)), ih (fun E hE => h E (by simp [hE]))]
theorem rise_scan {β : Type} (f : Ent → Option β) (hf : ∀ key, f ⟨key, 0, []⟩ = none) : ∀ (ks : List (List UInt8)), ks.Pairwise (fun a b => cmpB a b = -1) → ∀ (l : List Ent), RiseL l → (∀ E ∈ l, E.key ∈ ks) → l.filterMap f = ks.filterMap fun k => f (findE l k)
  | [], _, l, _, h => by
    cases l with
    | nil => rfl
    | cons a l => have := h a (by simp); simp at this
  | k :: ks, hk, [], _, _ => by
    symm
    rw [List.filterMap_nil, List.filterMap_eq_nil_iff]
    intro x _
    exact hf x
  | k :: ks, hk, E :: l, hl, h => by
    have ⟨k1, k2⟩ := List.pairwise_cons.1 hk
    have ⟨l1, l2⟩ := List.pairwise_cons.1 hl
    by_cases e : E.key = k
    · have hne : ∀ x ∈ ks, E.key ≠ x := fun x hx he => cmpB_ne (k1 x hx) (e.symm.trans he)
      rw [List.filterMap_cons, List.filterMap_cons, findE_cons, if_pos e]
      have ih := rise_scan f hf ks k2 l l2 (fun E' hE' => by
        rcases List.mem_cons.1 (h E' (by simp [hE'])) with h1 | h1
        · exact absurd (e.trans h1.symm) (cmpB_ne (l1 E' hE'))
        · exact h1)
      have e2 : ks.filterMap (fun k => f (findE (E :: l) k)) = ks.filterMap (fun k => f (findE l k)) := by
        apply fm_congr
        intro x hx
        rw [findE_cons, if_neg (hne x hx)]
      rw [e2, ih]
    · have hin : E.key ∈ ks := (List.mem_cons.1 (h E (by simp))).resolve_left e
      have hnk : ∀ E' ∈ E :: l, E'.key ≠ k := by
        intro E' hE' he
        rcases List.mem_cons.1 hE' with rfl | h1
        · exact e he
        · have a1 := l1 E' h1
          rw [he] at a1
          have a2 := k1 E.key hin
          rw [cmpB_swap k E.key, a2] at a1
          exact absurd a1 (by decide)
      rw [List.filterMap_cons (a := k), findE_not hnk, hf k]
      exact rise_scan f hf ks k2 (E :: l) hl (fun E' hE' => (List.mem_cons.1 (h E' hE')).resolve_left (hnk E' hE'))
/-- the keys in their order -/
def ordK : List Nat := [2, 0, 4, 1, 3]
/-- the line of a key, where something is current -/
def curL (σ : St) (after : List UInt8) (i : Nat) : Option (List UInt8 × List UInt8) := if cmpB (nmK i) after == 1 then (curOf (enK σ i)).map fun v => (nmK i, v.body) else none
theorem listC_ord {σ : St} (hr : RiseL σ.ents) (hk : ∀ E ∈ σ.ents, ∃ i, i < 5 ∧ E.key = nmK i) (after : List UInt8) : listC σ after = ordK.filterMap (curL σ after) := by
  unfold listC
  rw [List.filterMap_filter]
  rw [rise_scan (fun E : Ent => if cmpB E.key after == 1 then (curOf E).map fun v => (E.key, v.body) else none) (fun key => by simp [curOf]) (ordK.map nmK) (by decide) σ.ents hr (fun E hE => by
    obtain ⟨i, hi, e⟩ := hk E hE
    rw [e]
    revert i
    exact fun i hi _ => (five (P := fun i => nmK i ∈ ordK.map nmK) (by decide) (by decide) (by decide) (by decide) (by decide)) i hi)]
  rw [List.filterMap_map]
  apply fm_congr
  intro i _
  simp only [Function.comp, findE_key]
  rfl
theorem listA_ord {σ : St} (hr : RiseL σ.ents) (hk : ∀ E ∈ σ.ents, ∃ i, i < 5 ∧ E.key = nmK i) (after : List UInt8) : listA σ after = ⟨200, [], linesK (ordK.filterMap (curL σ after))⟩ := by
  have hl := listC_ord hr hk after
  have hn : (listC σ after).length ≤ 5 := by
    rw [hl]
    exact List.length_filterMap_le _ _
  unfold listA
  rw [if_neg (by omega), List.take_of_length_le (by omega), hl]
theorem read_list {σ : St} : ansF σ (reqB getM [47] [] []) = (listA σ [], σ) := by
  have hr : readF (reqB getM [47] [] []) = .ok (0, ⟨0, [], 0⟩, k0, []) := rf6 (by decide) (parse_req0 m_get.1 m_get.2 (by decide) target_list) (by simp) (by simp) rfl
  unfold ansF
  rw [hr]
  rfl
theorem read_after {σ : St} {key : List UInt8} (h : keyOK key = true) : ansF σ (reqB getM (47 :: (afterW ++ key)) [] []) = (listA σ key, σ) := by
  have hr : readF (reqB getM (47 :: (afterW ++ key)) [] []) = .ok (0, ⟨0, key, 0⟩, k0, []) := rf6 (by have := (key_no h).2.1; rw [reqB_len]; simp [getM, afterW]; omega) (parse_req0 m_get.1 m_get.2 (fun c hc => by
    simp only [List.mem_cons, List.mem_append, afterW, List.not_mem_nil, or_false] at hc
    rcases hc with rfl | (rfl | rfl | rfl | rfl | rfl | rfl | rfl) | hc
    all_goals first | decide | exact ((key_no h).2.2 c hc).1) (target_after h)) (by simp) (by simp) rfl
  unfold ansF
  rw [hr]
  rfl
end Go.Proofs.YtmehkneofinmiabGreatDoor

/-
 Texts of this proof, part 10.
-/
import Derived.Test.YtmehkneofinmiabGreatDoorP09
import Derived.Conc.RwLone
set_option maxHeartbeats 4000000
namespace Go.Proofs.YtmehkneofinmiabGreatDoor
theorem index_clean (t rest p : List UInt8) (b : UInt8) (h : ∀ c ∈ t, c ≠ b) : Lib.index (t ++ (b::p) ++ rest) (b::p) = t.length := by
 induction t with
 | nil => simp [Lib.index]
 | cons c t ih =>
   have hc : c ≠ b := h c (by simp)
   have ih' := ih (fun x hx => h x (by simp [hx]))
   have hne : (b == c) = false := by simp; exact fun e => hc e.symm
   simp only [List.cons_append, Lib.index, List.isPrefixOf, hne, Bool.false_and]
   rw [List.append_assoc, List.cons_append] at ih'
   rw [List.append_assoc, List.cons_append]
   simp only [ih']
   simp
theorem cut_clean (t rest p : List UInt8) (b : UInt8) (h : ∀ c ∈ t, c ≠ b) : Lib.cut (t ++ (b::p) ++ rest) (b::p) = (t, rest, true) := by
 unfold Lib.cut
 rw [index_clean t rest p b h, if_pos (by omega)]
 simp
theorem index_out (t p : List UInt8) (b : UInt8) (h : ∀ c ∈ t, c ≠ b) : Lib.index t (b::p) = -1 := by
 induction t with
 | nil => rfl
 | cons c t ih =>
   have hne : (b == c) = false := by simp; exact fun e => h c (by simp) e.symm
   simp only [Lib.index, List.isPrefixOf, hne, Bool.false_and]
   rw [ih (fun x hx => h x (by simp [hx]))]
   simp
theorem cut_out (t p : List UInt8) (b : UInt8) (h : ∀ c ∈ t, c ≠ b) : Lib.cut t (b::p) = (t, [], false) := by
 unfold Lib.cut
 rw [index_out t p b h, if_neg (by omega)]
theorem parse_req0 {mt tt body : List UInt8} {m : Nat} {t : Tgt} (hm : methF mt = some m) (h32 : ∀ c ∈ mt, c ≠ 32 /\ c ≠ 13) (h13 : ∀ c ∈ tt, c ≠ 13) (ht : targetF tt = some t) : parseF (reqB mt tt [] body) = some (m, t, k0, body) := by
 have h1 : Lib.cut (reqB mt tt [] body) [13, 10] = (mt ++ [32] ++ tt, [13, 10] ++ body, true) := by
  have := cut_clean (mt ++ [32] ++ tt) ([13, 10] ++ body) [10] 13 (by
   intro c hc
   simp only [List.mem_append, List.mem_singleton] at hc
   rcases hc with (hc | hc) | hc
   ·exact (h32 c hc).2
   ·rw [hc]; decide
   ·exact h13 c hc)
  simpa [reqB, crlf] using this
 have h2 : Lib.cut (mt ++ [32] ++ tt) [32] = (mt, tt, true) := cut_clean mt tt [] 32 (fun c hc => (h32 c hc).1)
 refine pf6 h1 h2 hm ht ?_
 have h3 : Lib.cut ([13, 10] ++ body) [13, 10] = ([], body, true) := cut_clean [] body [10] 13 (by simp)
 unfold fieldsF
 rw [h3]
 simp
theorem parse_req1 {mt tt line body : List UInt8} {m : Nat} {t : Tgt} {k : Cnd} (hm : methF mt = some m) (h32 : ∀ c ∈ mt, c ≠ 32 /\ c ≠ 13) (h13 : ∀ c ∈ tt, c ≠ 13) (ht : targetF tt = some t) (hl : line ≠ []) (hl13 : ∀ c ∈ line, c ≠ 13) (hk : lineF k0 line = some k) : parseF (reqB mt tt (line ++ crlf) body) = some (m, t, k, body) := by
 have h1 : Lib.cut (reqB mt tt (line ++ crlf) body) [13, 10] = (mt ++ [32] ++ tt, line ++ [13, 10] ++ ([13, 10] ++ body), true) := by
  have := cut_clean (mt ++ [32] ++ tt) (line ++ [13, 10] ++ ([13, 10] ++ body)) [10] 13 (by
   intro c hc
   simp only [List.mem_append, List.mem_singleton] at hc
   rcases hc with (hc | hc) | hc
   ·exact (h32 c hc).2
   ·rw [hc]; decide
   ·exact h13 c hc)
  simpa [reqB, crlf] using this
 have h2 : Lib.cut (mt ++ [32] ++ tt) [32] = (mt, tt, true) := cut_clean mt tt [] 32 (fun c hc => (h32 c hc).1)
 refine pf6 h1 h2 hm ht ?_
 have h3 : Lib.cut (line ++ [13, 10] ++ ([13, 10] ++ body)) [13, 10] = (line, [13, 10] ++ body, true) := cut_clean line _ [10] 13 hl13
 have h4 : Lib.cut ([13, 10] ++ body) [13, 10] = ([], body, true) := cut_clean [] body [10] 13 (by simp)
 obtain ⟨f, hf⟩ : ∃ f, (line ++ [13, 10] ++ ([13, 10] ++ body)).length + 1 = f + 1 + 1 := ⟨line.length + body.length + 3, by simp; omega⟩
 rw [hf]
 unfold fieldsF
 rw [h3]
 simp only
 rw [if_pos trivial, if_neg hl, hk]
 simp only
 unfold fieldsF
 rw [h4]
 simp
theorem key_no {key : List UInt8} (h : keyOK key = true) : key ≠ [] /\ key.length <= 40 /\ ∀ c ∈ key, c ≠ 13 /\ c ≠ 63 /\ c ≠ 32 /\ c ≠ 47 /\ c ≠ 10 := by
 unfold keyOK at h
 simp only [Bool.and_eq_true, decide_eq_true_eq, List.all_eq_true] at h
 obtain ⟨h1, h2, h3⟩ := h
 refine ⟨by intro e; rw [e] at h1; simp at h1, h2, fun c hc => ?_⟩
 have := h3 c hc
 refine ⟨?_, ?_, ?_, ?_, ?_⟩ <;> (intro e; rw [e] at this; revert this; decide)
theorem pre_not {key : List UInt8} (rest : List UInt8) (hne : key ≠ []) (h : ∀ c ∈ key, c ≠ 63) : Lib.hasPrefix (key ++ rest) afterW = false := by
 cases key with
 | nil => exact absurd rfl hne
 | cons a k =>
   have : a ≠ 63 := h a (by simp)
   have h2 : ((63 : UInt8) == a) = false := by simp; exact fun e => this e.symm
   simp [Lib.hasPrefix, afterW, List.isPrefixOf, h2]
theorem trim_slash (p : List UInt8) : Lib.hasPrefix (47::p) [47] = true /\ Lib.trimPrefix (47::p) [47] = p := by simp [Lib.hasPrefix, Lib.trimPrefix]
theorem target_key {key : List UInt8} (h : keyOK key = true) : targetF (47::key) = some ⟨1, key, 0⟩ := by
 obtain ⟨hne, _, hc⟩ := key_no h
 have hp := pre_not [] hne (fun c hx => (hc c hx).2.1)
 rw [List.append_nil] at hp
 unfold targetF pathF
 rw [(trim_slash _).1, (trim_slash _).2, if_pos rfl, if_neg hne, hp, cut_out key [] 63 (fun c hx => (hc c hx).2.1)]
 simp [h]
theorem target_query {key q : List UInt8} (h : keyOK key = true) : targetF (47::(key ++ [63] ++ q)) = queryF key q := by
 obtain ⟨hne, _, hc⟩ := key_no h
 have hp := pre_not ([63] ++ q) hne (fun c hx => (hc c hx).2.1)
 rw [<- List.append_assoc] at hp
 unfold targetF pathF
 rw [(trim_slash _).1, (trim_slash _).2, if_pos rfl, if_neg (by simp), hp, cut_clean key q [] 63 (fun c hx => (hc c hx).2.1)]
 simp [h]
theorem target_versions {key : List UInt8} (h : keyOK key = true) : targetF (47::(key ++ [63] ++ [118, 101, 114, 115, 105, 111, 110, 115])) = some ⟨3, key, 0⟩ := by
 rw [target_query h]
 rfl
theorem target_list : targetF [47] = some ⟨0, [], 0⟩ := rfl
theorem dec_byte (d : Nat) (h : d < 10) : digB (UInt8.ofNat (48 + d)) = true /\ (UInt8.ofNat (48 + d)).toNat - 48 = d := by
 have : d = 0 \/ d = 1 \/ d = 2 \/ d = 3 \/ d = 4 \/ d = 5 \/ d = 6 \/ d = 7 \/ d = 8 \/ d = 9 := by omega
 rcases this with rfl | rfl | rfl | rfl | rfl | rfl | rfl | rfl | rfl | rfl <;> decide
theorem dec_num (n : Nat) : (Lib.decDigits n).all digB = true /\ numV (Lib.decDigits n) = n /\ Lib.decDigits n ≠ [] := by
 induction n using Nat.strongRecOn with
 | _ n ih =>
   rw [Lib.decDigits]
   split
   ·rename_i h
    have := dec_byte n h
    refine ⟨by rw [List.all_cons, this.1]; rfl, ?_, by simp⟩
    have e := numV_snoc [] (UInt8.ofNat (48 + n))
    rw [List.nil_append] at e
    rw [e, this.2]
    simp [numV]
   ·rename_i h
    have i1 := ih (n / 10) (by omega)
    have := dec_byte (n % 10) (by omega)
    refine ⟨by rw [List.all_append, i1.1, List.all_cons, this.1]; rfl, ?_, by simp⟩
    rw [numV_snoc, i1.2.1, this.2]
    omega
theorem dec_head (n : Nat) (h : 0 < n) : ((Lib.decDigits n).head? == some 48) = false := by
 induction n using Nat.strongRecOn with
 | _ n ih =>
   rw [Lib.decDigits]
   split
   ·rename_i h10
    have : n = 1 \/ n = 2 \/ n = 3 \/ n = 4 \/ n = 5 \/ n = 6 \/ n = 7 \/ n = 8 \/ n = 9 := by omega
    rcases this with rfl | rfl | rfl | rfl | rfl | rfl | rfl | rfl | rfl <;> decide
   ·rename_i h10
    have i1 := ih (n / 10) (by omega) (by omega)
    have hne := (dec_num (n / 10)).2.2
    cases hd : Lib.decDigits (n / 10) with
    | nil => exact absurd hd hne
    | cons a l => rw [hd] at i1; simpa using i1
theorem dec_len10 {n k : Nat} (h : n < 10 ^ k) (hk : 0 < k) : (Lib.decDigits n).length <= k := by
 induction k generalizing n with
 | zero => omega
 | succ k ih =>
   rw [Lib.decDigits]
   split
   ·simp
   ·rename_i h10
    rw [Nat.pow_succ] at h
    cases k with
    | zero => simp at h; omega
    | succ k =>
      have := ih (n := n / 10) (by omega) (by omega)
      simp
      omega
theorem dec_numF (n : Nat) (h0 : 0 < n) (h : n < 1000000000) : numF (Lib.decDigits n) = some n := by
 have h1 := dec_num n
 have h2 := dec_head n h0
 have h3 := dec_len10 (n := n) (k := 9) (by omega) (by omega)
 unfold numF
 rw [if_neg]
 ·rw [h1.2.1]
 ·have : (Lib.decDigits n).isEmpty = false := by simpa using h1.2.2
  rw [this, h2, h1.1]
  simp
  omega
theorem target_v {key : List UInt8} (h : keyOK key = true) (n : Nat) (h0 : 0 < n) (hn : n < 1000000000) : targetF (47::(key ++ [63] ++ ([118, 61] ++ Lib.decDigits n))) = some ⟨2, key, n⟩ := by
 rw [target_query h]
 unfold queryF
 have e1 : Lib.hasPrefix ([118, 61] ++ Lib.decDigits n) [118, 61] = true := by simp [Lib.hasPrefix]
 have e2 : Lib.trimPrefix ([118, 61] ++ Lib.decDigits n) [118, 61] = Lib.decDigits n := by unfold Lib.trimPrefix; rw [if_pos e1]; rfl
 rw [if_neg (by simp), e1, e2, dec_numF n h0 hn]
 rfl
theorem dec_bytes (n : Nat) : ∀ c ∈ Lib.decDigits n, c ≠ 13 /\ c ≠ 10 /\ c ≠ 32 := by
 intro c hc
 have := List.all_eq_true.1 (dec_num n).1 c hc
 refine ⟨?_, ?_, ?_⟩ <;> (intro e; rw [e] at this; revert this; decide)
theorem m_put : methF [80, 85, 84] = some 2 /\ (∀ c ∈ ([80, 85, 84] : List UInt8), c ≠ 32 /\ c ≠ 13) := by decide
theorem m_get : methF [71, 69, 84] = some 0 /\ (∀ c ∈ ([71, 69, 84] : List UInt8), c ≠ 32 /\ c ≠ 13) := by decide
theorem m_del : methF [68, 69, 76, 69, 84, 69] = some 3 /\ (∀ c ∈ ([68, 69, 76, 69, 84, 69] : List UInt8), c ≠ 32 /\ c ≠ 13) := by decide
theorem reqB_len (a b c d : List UInt8) : (reqB a b c d).length = a.length + b.length + c.length + d.length + 5 := by simp [reqB, crlf]; omega
theorem trim_q (t : List UInt8) : Lib.trimS (34::t ++ [34]) [32, 9] = 34::t ++ [34] /\ Lib.trimS (32::(34::t ++ [34])) [32, 9] = 34::t ++ [34] := by
 constructor <;> simp [Lib.trimS, Lib.trimLeftS, Lib.trimRightS, List.dropWhile]
theorem tags_one {t : List UInt8} (h : okText t = true) : tagsV (34::t ++ [34]) = (false, true, [(false, t)]) := by
 unfold tagsV
 rw [(trim_q t).1]
 unfold tagsG
 rw [if_neg (by simp)]
 have := tagF_mk false t [] h
 simp only [mk] at this
 have e : tagsF ((34::t ++ [34]).length + 1) (34::t ++ [34]) = some [(false, t)] := by
  unfold tagsF
  rw [show (34::t ++ [34] : List UInt8) = (if false = true then [87, 47] else []) ++ [34] ++ t ++ [34] ++ [] by simp, this]
  simp
 rw [e]
theorem line_match {t : List UInt8} (h : okText t = true) (h2 : ∀ c ∈ t, c ≠ 13 /\ c ≠ 10) : lineF k0 ([73, 102, 45, 77, 97, 116, 99, 104, 58, 32] ++ (34::t ++ [34])) = some ⟨some (false, [(false, t)]), none, none, none⟩ := by
 have hc : Lib.cut ([73, 102, 45, 77, 97, 116, 99, 104, 58, 32] ++ (34::t ++ [34])) [58] = ([73, 102, 45, 77, 97, 116, 99, 104], 32::(34::t ++ [34]), true) := cut_clean [73, 102, 45, 77, 97, 116, 99, 104] (32::(34::t ++ [34])) [] 58 (by decide)
 have hn : (32::(34::t ++ [34]) : List UInt8).any crlfB = false := by
  rw [List.any_eq_false]
  intro c hcm
  simp at hcm
  rcases hcm with rfl | rfl | hcm | rfl
  ·decide
  ·decide
  ·have := h2 c hcm
   simp [crlfB, this]
  ·decide
 unfold lineF
 rw [hc]
 simp only
 rw [hn, (trim_q t).2, if_pos (by decide)]
 unfold fieldF
 rw [if_pos (by decide), tags_one h]
 rfl
theorem line_star : lineF k0 [73, 102, 45, 78, 111, 110, 101, 45, 77, 97, 116, 99, 104, 58, 32, 42] = some ⟨none, some (true, []), none, none⟩ := by
 have hc : Lib.cut [73, 102, 45, 78, 111, 110, 101, 45, 77, 97, 116, 99, 104, 58, 32, 42] [58] = ([73, 102, 45, 78, 111, 110, 101, 45, 77, 97, 116, 99, 104], [32, 42], true) := by decide
 unfold lineF
 rw [hc]
 simp only
 rw [if_pos (by decide), show Lib.trimS [32, 42] [32, 9] = [42] by decide]
 unfold fieldF
 rw [if_neg (by decide), if_pos (by decide), show tagsV [42] = (true, true, []) by decide]
 rfl
end Go.Proofs.YtmehkneofinmiabGreatDoor

namespace Go.Proofs
open Go.Shelf
def Tryz.lays166_ren : Go.Shelf.Ren := ⟨fun | 166 => 50 | 240 => 85 | 276 => 133 | n => n, fun | 70 => 116 | 72 => 118 | 0 => 0 | 3 => 3 | 4 => 4 | 5 => 5 | 9 => 9 | 20 => 20 | 37 => 95 | 75 => 120 | 80 => 53 | 164 => 127 | n => n, fun | n => n⟩
theorem Tryz.lays166 : Go.Proofs.Lays.n166 Tryz.prog Tryz.lays166_ren := {
 mixed := by kernel_rfl
 f166 := Tryz.func50.trans (congrArg some (by kernel_rfl))
 f240 := Tryz.func85.trans (congrArg some (by kernel_rfl))
 f276 := Tryz.func133.trans (congrArg some (by kernel_rfl))
 t0 := Tryz.underlying0
 a0 := Tryz.isAgg0
 z0 := Tryz.sizeOf0
 v0 := Tryz.zeroValue0
 t3 := Tryz.underlying3
 a3 := Tryz.isAgg3
 z3 := Tryz.sizeOf3
 v3 := Tryz.zeroValue3
 t4 := Tryz.underlying4
 a4 := Tryz.isAgg4
 z4 := Tryz.sizeOf4
 v4 := Tryz.zeroValue4
 t9 := Tryz.underlying9
 a9 := Tryz.isAgg9
 z9 := Tryz.sizeOf9
 v9 := Tryz.zeroValue9
 t20 := Tryz.underlying20
 a20 := Tryz.isAgg20
 z20 := Tryz.sizeOf20
 v20 := Tryz.zeroValue20
 t37 := Tryz.underlying95
 a37 := Tryz.isAgg95
 z37 := Tryz.sizeOf95
 v37 := Tryz.zeroValue95
 t70 := Tryz.underlying116
 a70 := Tryz.isAgg116
 z70 := Tryz.sizeOf116
 v70 := Tryz.zeroValue116
 t72 := Tryz.underlying118
 a72 := Tryz.isAgg118
 z72 := Tryz.sizeOf118
 v72 := Tryz.zeroValue118
 t75 := Tryz.underlying120
 a75 := Tryz.isAgg120
 z75 := Tryz.sizeOf120
 v75 := Tryz.zeroValue120
 t164 := Tryz.underlying127
 a164 := Tryz.isAgg127
 z164 := Tryz.sizeOf127
 v164 := Tryz.zeroValue127 }
theorem Tryz.Builder_Extra_166 : Builder.Extra Tryz.prog Tryz.lays166_ren := {
 sizeBuilder := by kernel_rfl
 liesBuilder := by kernel_rfl
 t5 := Tryz.underlying5
 a5 := Tryz.isAgg5
 z5 := Tryz.sizeOf5
 v5 := Tryz.zeroValue5
 infoByte := by kernel_rfl
 cellsByte := by kernel_rfl
 sizeByte := by kernel_rfl
 neB5 := by decide }
open Go.RowKit in
theorem Tryz.Builder_WriteString (B b : Nat) (bs : List Value) (s : ByteArray) (w : World) (h : Lib.IsBuilder 118 5 B b bs w) (hlen : bs.length + s.size <= 140737488355328) (hBw : B <= w.heap.size) :
 Calls Tryz.prog 50 #[.pointer (some ⟨b, 0, none⟩), .string s] w fun e w' => e = .returned (.tuple #[.int .i64 s.size, .nilIface]) /\ (Lib.BuilderAt 118 5 B b (.pointer (some ⟨b, 0, none⟩)) (bs ++ Lib.strCells s) w' /\ Below B w w') := Any.Builder_WriteString Tryz.lays166 Tryz.Builder_Extra_166 B b bs s w h hlen hBw
open Go.RowKit in
theorem Tryz.Builder_WriteString_k (B b : Nat) (bs : List Value) (s : ByteArray) (w : World) (h : Lib.IsBuilderF 118 5 B b bs w) (hlen : bs.length + s.size <= 140737488355328) (hBw : B <= w.heap.size) :
 Calls Tryz.prog 50 #[.pointer (some ⟨b, 0, none⟩), .string s] w fun e w' => e = .returned (.tuple #[.int .i64 s.size, .nilIface]) /\ (Lib.BuilderAtF 118 5 B b (.pointer (some ⟨b, 0, none⟩)) (bs ++ Lib.strCells s) w' /\ Below B w w' /\ Lib.OthersKept 5 (some b) w w') := Any.Builder_WriteString_k Tryz.lays166 Tryz.Builder_Extra_166 B b bs s w h hlen hBw
end Go.Proofs

namespace Go.Proofs
abbrev Tryz.muLink : Go.Conc.Locks.MuLink := { lock := 60, unlock := 61, ilock := 89, iunlock := 90, lockSlow := 135, unlockSlow := 136, disable := 53, enable := 56, acquire := 57, relMerge := 58, cas32 := 134, add32 := 86, tMutex := 88, tIMutex := 86, tPMutex := 128, tPIMutex := 227, tPI32 := 172, tUP := 127, tNoCopy := 83, tU32 := 84 }
theorem Tryz.muLib : Go.Conc.Locks.MuLib Tryz.prog Tryz.muLink :=
 ⟨Tryz.func60, Tryz.func61, Tryz.func89, Tryz.func90, Tryz.func53, Tryz.func56, Tryz.func57, Tryz.func58, Tryz.func134, Tryz.func86, Tryz.underlying86, Tryz.runUnderlying86, Tryz.sizeOf86, Tryz.isAgg86, Tryz.zeroValue86, Tryz.underlying88, Tryz.runUnderlying88, Tryz.sizeOf88, Tryz.isAgg88, Tryz.zeroValue88, Tryz.underlying128, Tryz.runUnderlying128, Tryz.sizeOf128, Tryz.isAgg128, Tryz.zeroValue128, Tryz.underlying227, Tryz.runUnderlying227, Tryz.sizeOf227, Tryz.isAgg227, Tryz.zeroValue227, Tryz.underlying172, Tryz.runUnderlying172, Tryz.sizeOf172, Tryz.isAgg172, Tryz.zeroValue172, Tryz.underlying127, Tryz.runUnderlying127, Tryz.sizeOf127, Tryz.isAgg127, Tryz.zeroValue127, Tryz.underlying83, Tryz.runUnderlying83, Tryz.sizeOf83, Tryz.isAgg83, Tryz.zeroValue83, Tryz.underlying21, Tryz.runUnderlying21, Tryz.sizeOf21, Tryz.isAgg21, Tryz.zeroValue21, (by kernel_rfl)⟩
abbrev Tryz.rwLink : Go.Conc.Locks.RwLink := { lock := 60, unlock := 61, ilock := 89, iunlock := 90, lockSlow := 135, unlockSlow := 136, disable := 53, enable := 56, acquire := 57, relMerge := 58, cas32 := 134, add32 := 86, tMutex := 88, tIMutex := 86, tPMutex := 128, tPIMutex := 227, tPI32 := 172, tUP := 127, tNoCopy := 83, tU32 := 84, rlock := 32, runlock := 33, wlock := 73, wunlock := 74, i32add := 54, raceRead := 52, release := 113, rUnlockSlow := 59, semacqR := 55, semacqW := 112, semrel := 88, sfatal := 87, tRW := 93, tPRW := 125, tAI32 := 91, tPAI32 := 170, tPU32 := 131, tANoCopy := 89 }
theorem Tryz.rwCore : Go.Conc.Locks.RwCore Tryz.prog Tryz.rwLink :=
 ⟨Tryz.func54, Tryz.func52, Tryz.func53, Tryz.func56, Tryz.func57, Tryz.func58, Tryz.func86, Tryz.underlying93, Tryz.runUnderlying93, Tryz.sizeOf93, Tryz.isAgg93, Tryz.zeroValue93, Tryz.underlying91, Tryz.runUnderlying91, Tryz.sizeOf91, Tryz.isAgg91, Tryz.zeroValue91, Tryz.underlying125, Tryz.runUnderlying125, Tryz.sizeOf125, Tryz.isAgg125, Tryz.zeroValue125, Tryz.underlying170, Tryz.runUnderlying170, Tryz.sizeOf170, Tryz.isAgg170, Tryz.zeroValue170, Tryz.underlying131, Tryz.runUnderlying131, Tryz.sizeOf131, Tryz.isAgg131, Tryz.zeroValue131, Tryz.underlying89, Tryz.runUnderlying89, Tryz.sizeOf89, Tryz.isAgg89, Tryz.zeroValue89, Tryz.underlying84, Tryz.runUnderlying84, Tryz.sizeOf84, Tryz.isAgg84, Tryz.zeroValue84, Tryz.underlying88, Tryz.runUnderlying88, Tryz.sizeOf88, Tryz.isAgg88, Tryz.zeroValue88, Tryz.underlying128, Tryz.runUnderlying128, Tryz.sizeOf128, Tryz.isAgg128, Tryz.zeroValue128, Tryz.underlying172, Tryz.runUnderlying172, Tryz.sizeOf172, Tryz.isAgg172, Tryz.zeroValue172, Tryz.underlying127, Tryz.runUnderlying127, Tryz.sizeOf127, Tryz.isAgg127, Tryz.zeroValue127, Tryz.underlying21, Tryz.runUnderlying21, Tryz.sizeOf21, Tryz.isAgg21, Tryz.zeroValue21, (by kernel_rfl), (by kernel_rfl)⟩
theorem Tryz.rwRLib : Go.Conc.Locks.RwRLib Tryz.prog Tryz.rwLink := ⟨Tryz.rwCore, Tryz.func32, Tryz.func33⟩
end Go.Proofs

namespace Go.Proofs.YtmehkneofinmiabGreatDoor
open Go.RowKit Go.MuLone
theorem setCell_back {w : World} {a : Addr} {v : Value} (h : w.cell? a = some v) (x : Value) : (w.setCell a x).setCell a v = w := by
 cases w with | mk heap tape drawn os output =>
 simp only [World.setCell, World.mk.injEq, and_true]
 apply Array.ext
 ·simp
 ·intro i h1 h2
  simp only [Array.getElem_modify]
  split
  ·rename_i e
   subst e
   simp only [World.cell?] at h
   rw [Array.getElem?_eq_getElem h2] at h
   revert h
   cases heap[a.block] with
   | cells c t f =>
     intro h
     simp only at h
     cases hs : a.spot with
     | some _ => rw [hs] at h; simp at h
     | none =>
       rw [hs] at h
       simp only [Option.isSome_none, Bool.false_eq_true, if_false] at h ⊢
       have hlt : a.off < c.size := (Array.getElem?_eq_some_iff.1 h).1
       have hv : c[a.off] = v := (Array.getElem?_eq_some_iff.1 h).2
       congr 1
       apply Array.ext
       ·simp
       ·intro j j1 j2
        by_cases hj : a.off = j
        ·subst hj; simp [hv]
        ·rw [Array.getElem_setIfInBounds_ne (by simpa using j2) hj, Array.getElem_setIfInBounds_ne j2 hj]
   | _ => simp
  ·rfl
theorem setCell_comm (w : World) {a b : Addr} (h : a ≠ b) (x y : Value) : (w.setCell a x).setCell b y = (w.setCell b y).setCell a x := by
 cases w with | mk heap tape drawn os output =>
 simp only [World.setCell, World.mk.injEq, and_true]
 apply Array.ext
 ·simp
 ·intro i h1 h2
  simp only [Array.getElem_modify]
  by_cases ha : a.block = i <;> by_cases hb : b.block = i <;> simp only [ha, hb, if_true, if_false]
  generalize heap[i]'(by simpa using h1) = o
  cases o with
  | cells c t f =>
    simp only
    congr 1
    cases hsa : a.spot <;> cases hsb : b.spot <;> simp
    have hne : a.off ≠ b.off := by
     intro e
     apply h
     cases a; cases b
     simp_all
    exact Array.setIfInBounds_comm _ _ hne
  | _ => rfl
structure Cmn (w : World) (b off : Nat) (t k : Int) : Prop where
 l : w.cell? ⟨b, off, none⟩ = some (.int .i32 0)
 t : w.cell? ⟨b, off + 2, none⟩ = some (.int .i64 t)
 k : w.cell? ⟨b, off + 3, none⟩ = some (.int .i64 k)
 f : ∀ j, w.frozen? ⟨b, j, none⟩ = false
theorem now_any (b off : Nat) (t k : Int) (w : World) (h : Cmn w b off t k) :
 Calls Tryz.prog 45 #[.pointer (some ⟨b, off, none⟩)] w fun e w' => e = .returned (.int .i64 t) /\ w' = w := by
 have h0 := h.l
 have h2 := h.t
 have f0 := h.f off
 have f2 := h.f (off + 2)
 go_enter_defers Tryz.func45, Tryz.ntmps45
 go_wp2_with (go_at_call 60; refine (lock_free Tryz.muLib ⟨b, off, none⟩ _ h0 f0).mono ?_; rintro e w' ⟨rfl, rfl⟩)
 refine leaves_cons (f := 61) (args := #[.pointer (some ⟨b, off, none⟩)]) (by simp) (by simp [go_sem]) ?_
 refine (unlock_deferred Tryz.muLib ⟨b, off, none⟩ .returning _ ?_ ?_).mono ?_
 ·exact World.cell?_setCell_same w ⟨b, off, none⟩ (.int .i32 1) h0
 ·simp [f0]
 rintro e u' w'' ⟨rfl, rfl, rfl⟩
 exact ⟨_, results_tmp rfl _ _ _, rfl, setCell_back h0 _⟩
theorem admit_yes (b off : Nat) (t k : Int) (w : World) (h : Cmn w b off t k) (hk0 : 0 <= k) (hk : k < 60) :
 Calls Tryz.prog 117 #[.pointer (some ⟨b, off, none⟩)] w fun e w' => e = .returned (.bool true) /\ w' = w.setCell ⟨b, off + 3, none⟩ (.int .i64 (k + 1)) := by
 have h0 := h.l
 have h2 := h.k
 have f0 := h.f off
 have f2 := h.f (off + 3)
 have hne : (k == 60) = false := beq_eq_false_iff_ne.2 (by omega)
 go_enter_defers Tryz.func117, Tryz.ntmps117
 go_wp2_with (go_at_call 60; refine (lock_free Tryz.muLib ⟨b, off, none⟩ _ h0 f0).mono ?_; rintro e w' ⟨rfl, rfl⟩)
 refine leaves_cons (f := 61) (args := #[.pointer (some ⟨b, off, none⟩)]) (by simp) (by simp [go_sem]) ?_
 refine (unlock_deferred Tryz.muLib ⟨b, off, none⟩ .returning _ ?_ ?_).mono ?_
 ·exact (World.cell?_setCell_other _ ⟨b, off + 3, none⟩ ⟨b, off, none⟩ _ (by simp)).trans (World.cell?_setCell_same w ⟨b, off, none⟩ (.int .i32 1) h0)
 ·simp [f0]
 rintro e u' w'' ⟨rfl, rfl, rfl⟩
 refine ⟨_, results_tmp rfl _ _ _, rfl, ?_⟩
 rw [setCell_comm w (by simp), setCell_back]
 rw [World.cell?_setCell_other _ _ _ _ (by simp)]
 exact h0
theorem admit_no (b off : Nat) (t : Int) (w : World) (h : Cmn w b off t 60) :
 Calls Tryz.prog 117 #[.pointer (some ⟨b, off, none⟩)] w fun e w' => e = .returned (.bool false) /\ w' = w := by
 have h0 := h.l
 have h2 := h.k
 have f0 := h.f off
 have f2 := h.f (off + 3)
 go_enter_defers Tryz.func117, Tryz.ntmps117
 go_wp2_with (go_at_call 60; refine (lock_free Tryz.muLib ⟨b, off, none⟩ _ h0 f0).mono ?_; rintro e w' ⟨rfl, rfl⟩)
 refine leaves_cons (f := 61) (args := #[.pointer (some ⟨b, off, none⟩)]) (by simp) (by simp [go_sem]) ?_
 refine (unlock_deferred Tryz.muLib ⟨b, off, none⟩ .returning _ ?_ ?_).mono ?_
 ·exact World.cell?_setCell_same w ⟨b, off, none⟩ (.int .i32 1) h0
 ·simp [f0]
 rintro e u' w'' ⟨rfl, rfl, rfl⟩
 exact ⟨_, results_tmp rfl _ _ _, rfl, setCell_back h0 _⟩
theorem pass_yes (b off : Nat) (t k s : Int) (w : World) (h : Cmn w b off t k) (ht0 : 0 <= t) (ht : t <= 253402300799) (hs0 : 0 <= s) (hs : s <= 253402300799 - t) :
 Calls Tryz.prog 46 #[.pointer (some ⟨b, off, none⟩), .int .i64 s] w fun e w' => e = .returned (.int .i64 0) /\ w' = w.setCell ⟨b, off + 2, none⟩ (.int .i64 (t + s)) := by
 have h0 := h.l
 have h2 := h.t
 have f0 := h.f off
 have f2 := h.f (off + 2)
 go_enter_defers Tryz.func46, Tryz.ntmps46
 go_wp2_with (go_at_call 60; refine (lock_free Tryz.muLib ⟨b, off, none⟩ _ h0 f0).mono ?_; rintro e w' ⟨rfl, rfl⟩)
 refine leaves_cons (f := 61) (args := #[.pointer (some ⟨b, off, none⟩)]) (by simp) (by simp [go_sem]) ?_
 refine (unlock_deferred Tryz.muLib ⟨b, off, none⟩ .returning _ ?_ ?_).mono ?_
 ·exact (World.cell?_setCell_other _ ⟨b, off + 2, none⟩ ⟨b, off, none⟩ _ (by simp)).trans (World.cell?_setCell_same w ⟨b, off, none⟩ (.int .i32 1) h0)
 ·simp [f0]
 rintro e u' w'' ⟨rfl, rfl, rfl⟩
 refine ⟨_, results_tmp rfl _ _ _, rfl, ?_⟩
 rw [setCell_comm w (by simp), setCell_back]
 rw [World.cell?_setCell_other _ _ _ _ (by simp)]
 exact h0
end Go.Proofs.YtmehkneofinmiabGreatDoor
namespace Go.Proofs.YtmehkneofinmiabGreatDoor
open Go.RowKit
structure Ver where
 num : Nat
 time : Nat
 mark : Bool
 body : List UInt8
structure Ent where
 key : List UInt8
 last : Nat
 vers : List Ver
def verCells (v : Ver) : List Value := [.int .i64 v.num, .int .i64 v.time, .bool v.mark, .string ⟨v.body.toArray⟩]
def verAgg (v : Ver) : Value := .agg #[.int .i64 v.num, .int .i64 v.time, .bool v.mark, .string ⟨v.body.toArray⟩]
def verZero : Value := .agg #[.int .i64 0, .int .i64 0, .bool false, .string ⟨#[]⟩]
def rowOf (l : List Ver) : List Value := l.flatMap verCells
theorem rowOf_length (l : List Ver) : (rowOf l).length = l.length * 4 := by
 induction l with
 | nil => rfl
 | cons a l ih => simp only [rowOf, List.flatMap_cons, List.length_append] at ih ⊢; rw [ih]; simp [verCells]; omega
theorem rowOf_get (l : List Ver) (i : Nat) (v : Ver) (h : l[i]? = some v) (j : Nat) (hj : j < 4) : (rowOf l)[i * 4 + j]? = (verCells v)[j]? := by
 induction l generalizing i with
 | nil => simp at h
 | cons a l ih =>
   simp only [rowOf, List.flatMap_cons]
   cases i with
   | zero =>
     simp at h; subst h
     rw [List.getElem?_append_left (by simp [verCells]; omega)]
     simp
   | succ i =>
     rw [List.getElem?_append_right (by simp [verCells]; omega)]
     have e : (i + 1) * 4 + j - (verCells a).length = i * 4 + j := by simp [verCells]; omega
     rw [e]
     exact ih i (by simpa using h)
structure EntAt (w : World) (p : Nat) (E : Ent) (vs : Value) : Prop where
 blk : w.heap[p]? = some (.cells #[.string ⟨E.key.toArray⟩, .int .i64 E.last, vs] 183 (0, 0))
 row : w.ownsRow 0 147 4 vs E.vers.length (rowOf E.vers)
theorem EntAt.c0 {w : World} {p : Nat} {E : Ent} {vs : Value} (h : EntAt w p E vs) : w.cell? ⟨p, 0, none⟩ = some (.string ⟨E.key.toArray⟩) := by simp [World.cell?, h.blk]
theorem EntAt.c1 {w : World} {p : Nat} {E : Ent} {vs : Value} (h : EntAt w p E vs) : w.cell? ⟨p, 1, none⟩ = some (.int .i64 E.last) := by simp [World.cell?, h.blk]
theorem EntAt.c2 {w : World} {p : Nat} {E : Ent} {vs : Value} (h : EntAt w p E vs) : w.cell? ⟨p, 2, none⟩ = some vs := by simp [World.cell?, h.blk]
theorem EntAt.fz {w : World} {p : Nat} {E : Ent} {vs : Value} (h : EntAt w p E vs) (j : Nat) : w.frozen? ⟨p, j, none⟩ = false := by simp [World.frozen?, h.blk]
theorem EntAt.lt {w : World} {p : Nat} {E : Ent} {vs : Value} (h : EntAt w p E vs) : p < w.heap.size := (Array.getElem?_eq_some_iff.1 h.blk).1
theorem row_cells {w : World} {vs : Value} {l : List Ver} (h : w.ownsRow 0 147 4 vs l.length (rowOf l)) (i : Nat) (v : Ver) (hi : l[i]? = some v) :
 ∃ g cap, vs = .slice (some ⟨g, 0, none⟩) l.length cap /\ l.length <= cap /\ cap <= maxLen /\ g < w.heap.size /\ w.frozen? ⟨g, 0, none⟩ = false /\ (∀ j, w.frozen? ⟨g, j, none⟩ = false) /\
  w.cell? ⟨g, i * 4, none⟩ = some (.int .i64 v.num) /\ w.cell? ⟨g, i * 4 + 1, none⟩ = some (.int .i64 v.time) /\ w.cell? ⟨g, i * 4 + 2, none⟩ = some (.bool v.mark) /\ w.cell? ⟨g, i * 4 + 3, none⟩ = some (.string ⟨v.body.toArray⟩) := by
 have hlt : i < l.length := (List.getElem?_eq_some_iff.1 hi).1
 rcases h.2 with ⟨_, h0⟩ | ⟨g, cap, cur, hv, _, hg, hn, hm, hs, htk⟩
 ·omega
 ·refine ⟨g, cap, hv, hn, hm, (Array.getElem?_eq_some_iff.1 hg).1, by simp [World.frozen?, hg], fun j => by simp [World.frozen?, hg], ?_⟩
  have key : ∀ j, j < 4 -> w.cell? ⟨g, i * 4 + j, none⟩ = (verCells v)[j]? := by
   intro j hj
   rw [<- rowOf_get l i v hi j hj, <- htk, List.getElem?_take_of_lt (by omega)]
   simp [World.cell?, hg]
  exact ⟨key 0 (by omega), key 1 (by omega), key 2 (by omega), key 3 (by omega)⟩
theorem isFull_any (p : Nat) (E : Ent) (vs : Value) (w : World) (h : EntAt w p E vs) :
 Calls Tryz.prog 199 #[.pointer (some ⟨p, 0, none⟩)] w fun e w' => e = .returned (.bool (decide (20 <= (E.vers.length : Int)))) /\ w' = w := by
 have h2 := h.c2
 rcases h.row.2 with ⟨rfl, h0⟩ | ⟨g, cap, cur, rfl, _, hg, hn, hm, hs, htk⟩
 ·rw [h0]
  go_enter Tryz.func199, Tryz.ntmps199
  go_wp2
  go_ret
  exact ⟨rfl, rfl⟩
 ·clear htk hs
  go_enter Tryz.func199, Tryz.ntmps199
  go_wp2
  go_ret
  exact ⟨rfl, rfl⟩
theorem isKnown_any (p : Nat) (E : Ent) (vs : Value) (w : World) (h : EntAt w p E vs) :
 Calls Tryz.prog 150 #[.pointer (some ⟨p, 0, none⟩)] w fun e w' => e = .returned (.bool (decide (0 < E.last))) /\ w' = w := by
 have h2 := h.c1
 go_enter Tryz.func150, Tryz.ntmps150
 go_wp2
 go_ret
 exact ⟨rfl, rfl⟩
theorem results_row_tmp {P : Program} {fn : Func} {p u : Tmp} {ty : TypeId} (h : fn.results = #[.cell p ty, .tmp u]) (tmps : Array Value) (w : World) (g : Nat) (t : TypeId) (cs : Array Value) (fr : Nat × Nat) (d : TypeDesc)
 (hp : tmps.getD p undef = .pointer (some ⟨g, 0, none⟩)) (hg : w.heap[g]? = some (.cells cs t fr))
 (hu : P.underlying ty = some d) (hd : (match d with | .struct _ | .array _ _ => true | _ => false) = true) (hi : (P.info? ty).map (·.size) = some cs.size) :
 (results fn tmps).run P w = .ok (.tuple #[.agg cs, tmps.getD u undef]) w := by
 have hp' : tmps[p]?.getD undef = .pointer (some ⟨g, 0, none⟩) := by simpa using hp
 simp [results, h, hp', asAddr, run_loadVar_row w g t ty cs fr d hg hu hd hi]
theorem hi154 : (Tryz.prog.info? 147).map (·.size) = some 4 := by kernel_rfl
theorem current_none (p : Nat) (E : Ent) (vs : Value) (w : World) (h : EntAt w p E vs) (h0 : E.vers = []) :
 Calls Tryz.prog 94 #[.pointer (some ⟨p, 0, none⟩)] w fun e w' => e = .returned (.tuple #[verZero, .bool false]) /\ Below w.heap.size w w' := by
 have h2 := h.c2
 have hlt := h.lt
 have hr := h.row
 rw [h0] at hr
 have hlen : ∃ a c, vs = .slice a 0 c := by
  rcases hr.2 with ⟨rfl, _⟩ | ⟨g, cap, cur, rfl, _⟩
  ·exact ⟨_, _, rfl⟩
  ·exact ⟨_, _, rfl⟩
 obtain ⟨a, c, rfl⟩ := hlen
 clear hr h
 go_enter Tryz.func94, Tryz.ntmps94
 go_wp2
 exact bodyPost_ret (v := .tuple #[verZero, .bool false]) (results_row_tmp Tryz.results94 _ _ w.heap.size _ _ _ _ rfl (heap_alloc_last _ _) Tryz.underlying147 rfl hi154) rfl ⟨rfl, (Below.refl _ _).alloc (Nat.le_refl _) _⟩
theorem heap_two (w : World) (a b : Obj) : ((w.alloc a).alloc b).drew.drew.heap[w.heap.size]? = some a :=
 (heap_alloc_old (w.alloc a) b (by simp)).trans (heap_alloc_new w a)
theorem below_two (w : World) (a b : Obj) : Below w.heap.size w ((w.alloc a).alloc b).drew.drew := by
 have h := ((Below.refl w.heap.size w).alloc (Nat.le_refl _) a).alloc (by simp) b
 exact ⟨h.os, h.tape, h.output, h.size, h.block⟩
theorem current_some (p : Nat) (E : Ent) (vs : Value) (w : World) (h : EntAt w p E vs) (v : Ver) (i : Nat) (hi : E.vers.length = i + 1) (hv : E.vers[i]? = some v) (hb : i < 1000) :
 Calls Tryz.prog 94 #[.pointer (some ⟨p, 0, none⟩)] w fun e w' => e = .returned (.tuple #[verAgg v, .bool (!v.mark)]) /\ Below w.heap.size w w' := by
 have h2 := h.c2
 have hlt := h.lt
 obtain ⟨g, cap, rfl, hn, hm, hg, _, hf, c0, c1, c2, c3⟩ := row_cells h.row i v hv
 rw [hi] at h2 hn
 have hsub : ((i + 1 : Nat) : Int) - 1 = (i : Int) := by omega
 clear h hv
 go_enter Tryz.func94, Tryz.ntmps94
 go_wp2
 go_region
 go_wp2
 go_region
 go_wp2
 exact bodyPost_ret (v := .tuple #[verAgg v, .bool (!v.mark)]) (results_row_tmp Tryz.results94 _ _ w.heap.size _ _ _ _ rfl (heap_two _ _ _) Tryz.underlying147 rfl hi154) rfl ⟨rfl, below_two _ _ _⟩
end Go.Proofs.YtmehkneofinmiabGreatDoor

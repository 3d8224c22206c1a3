/-
  Texts of this proof, part 15.
-/
import Derived.Test.YtmehkneofinmiabGreatDoorP14
import Derived.Test.YtmehkneofinmiabGreatDoorP05
import Derived.Test.YtmehkneofinmiabGreatDoorP02
import Derived.Test.YtmehkneofinmiabGreatDoorP03
import Derived.Test.YtmehkneofinmiabGreatDoorProg
import Derived.Shelf.Strings.BuilderK
import Derived.Conc.RwLib
import Derived.KernelRfl
import Derived.Conc.RwLone
import Derived.WalkKit
import Derived.WalkSpells
namespace Go.Proofs.YtmehkneofinmiabGreatDoor
theorem numF_lt {l : List UInt8} {n : Nat} (h : numF l = some n) : n < 1000000000 := by
  unfold numF at h
  split at h
  · cases h
  · rename_i hc
    cases h
    simp only [Bool.or_eq_true, not_or, decide_eq_true_eq, Bool.not_eq_true', Bool.not_eq_true] at hc
    obtain ⟨_, h9, _, hd⟩ := hc
    have hd' : l.all digB = true := by simpa using hd
    have h1 := numV_lt l hd'
    have h2 : 10 ^ l.length ≤ 10 ^ 9 := Nat.pow_le_pow_right (by omega) (by omega)
    omega
theorem target_ok {l : List UInt8} {t : Tgt} (h : targetF l = some t) : (t.kind ≠ 0 → keyOK t.key = true) ∧ t.key.length ≤ 40 ∧ t.num < 1000000000 := by
  have kl : ∀ {k : List UInt8}, keyOK k = true → k.length ≤ 40 := by
    intro k hk
    unfold keyOK at hk
    simp at hk
    exact hk.2.1
  unfold targetF at h
  split at h
  · unfold pathF at h
    split at h
    · cases h
      simp
    · split at h
      · split at h
        · rename_i hk
          cases h
          exact ⟨fun h => absurd rfl h, kl hk, by simp⟩
        · cases h
      · split at h
        · rename_i hk
          split at h
          · unfold queryF at h
            split at h
            · cases h
              exact ⟨fun _ => hk, kl hk, by simp⟩
            · split at h
              · obtain ⟨n, hn, rfl⟩ := Option.map_eq_some_iff.1 h
                exact ⟨fun _ => hk, kl hk, numF_lt hn⟩
              · cases h
          · cases h
            exact ⟨fun _ => hk, kl hk, by simp⟩
        · cases h
  · cases h
theorem fieldsM {l : List UInt8} {m : Nat} {t : Tgt} {k : Cnd} {body : List UInt8} (h : parseF l = some (m, t, k, body)) : ∃ mt tt, methF mt = some m ∧ targetF tt = some t := by
  unfold parseF at h
  split at h
  · split at h
    · split at h
      · cases h
      · rename_i m' hm
        split at h
        · cases h
        · rename_i t' ht
          split at h
          · cases h
          · cases h
            exact ⟨_, _, hm, ht⟩
    · cases h
  · cases h
theorem read_ok {l : List UInt8} {m : Nat} {t : Tgt} {k : Cnd} {body : List UInt8} (h : readF l = .ok (m, t, k, body)) : (t.kind ≠ 0 → keyOK t.key = true) ∧ t.key.length ≤ 40 ∧ t.num < 1000000000 ∧ body.length ≤ 400 := by
  unfold readF at h
  split at h
  · cases h
  · split at h
    · cases h
    · rename_i m' t' k' b' hp
      split at h
      · cases h
      · split at h
        · cases h
        · rename_i hb
          split at h
          · injection h with h
            injection h with h1 h2
            injection h2 with h2 h3
            injection h3 with h3 h4
            subst h2
            subst h4
            obtain ⟨mt, tt, _, ht⟩ := fieldsM hp
            have := target_ok ht
            exact ⟨this.1, this.2.1, this.2.2, by omega⟩
          · cases h
theorem read_no {l : List UInt8} {n : Nat} (h : readF l = .error n) : n < 1000 := by
  unfold readF at h
  repeat' split at h
  all_goals (cases h)
  all_goals omega
theorem read_no0 {l : List UInt8} {n : Nat} (h : readF l = .error n) : n ≠ 0 := by
  unfold readF at h
  repeat' split at h
  all_goals (cases h)
  all_goals omega
end Go.Proofs.YtmehkneofinmiabGreatDoor

namespace Go.Proofs.YtmehkneofinmiabGreatDoor
def mk (wk : Bool) (t : List UInt8) : List UInt8 := (if wk then [87, 47] else []) ++ [34] ++ t ++ [34]
def body : List (Bool × List UInt8 × List UInt8) → List UInt8 → List UInt8
  | [], fin => fin
  | [(wk, t, _)], fin => mk wk t ++ fin
  | (wk, t, g) :: (wk', t', g') :: r, fin => mk wk t ++ (g ++ (44 :: (g' ++ body ((wk', t', g') :: r) fin)))
end Go.Proofs.YtmehkneofinmiabGreatDoor

namespace Go.Proofs.YtmehkneofinmiabGreatDoor
theorem index_clean (t rest p : List UInt8) (b : UInt8) (h : ∀ c ∈ t, c ≠ b) : Lib.index (t ++ (b :: p) ++ rest) (b :: p) = t.length := by
  induction t with
  | nil => simp [Lib.index]
  | cons c t ih =>
    have hc : c ≠ b := h c (by simp)
    have ih' := ih (fun x hx => h x (by simp [hx]))
    have hne : (b == c) = false := by simp; exact fun e => hc e.symm
    simp only [List.cons_append, Lib.index, List.isPrefixOf, hne, Bool.false_and]
    rw [List.append_assoc, List.cons_append] at ih'
    rw [List.append_assoc, List.cons_append]
    simp only [ih']
    simp
theorem cut_clean (t rest p : List UInt8) (b : UInt8) (h : ∀ c ∈ t, c ≠ b) : Lib.cut (t ++ (b :: p) ++ rest) (b :: p) = (t, rest, true) := by
  unfold Lib.cut
  rw [index_clean t rest p b h, if_pos (by omega)]
  simp
theorem index_out (t p : List UInt8) (b : UInt8) (h : ∀ c ∈ t, c ≠ b) : Lib.index t (b :: p) = -1 := by
  induction t with
  | nil => rfl
  | cons c t ih =>
    have hne : (b == c) = false := by simp; exact fun e => h c (by simp) e.symm
    simp only [Lib.index, List.isPrefixOf, hne, Bool.false_and]
    rw [ih (fun x hx => h x (by simp [hx]))]
    simp
theorem cut_out (t p : List UInt8) (b : UInt8) (h : ∀ c ∈ t, c ≠ b) : Lib.cut t (b :: p) = (t, [], false) := by
  unfold Lib.cut
  rw [index_out t p b h, if_neg (by omega)]
theorem parse_req0 {mt tt body : List UInt8} {m : Nat} {t : Tgt} (hm : methF mt = some m) (h32 : ∀ c ∈ mt, c ≠ 32 ∧ c ≠ 13) (h13 : ∀ c ∈ tt, c ≠ 13) (ht : targetF tt = some t) : parseF (reqB mt tt [] body) = some (m, t, k0, body) := by
  have h1 : Lib.cut (reqB mt tt [] body) [13, 10] = (mt ++ [32] ++ tt, [13, 10] ++ body, true) := by
    have := cut_clean (mt ++ [32] ++ tt) ([13, 10] ++ body) [10] 13 (by
      intro c hc
      simp only [List.mem_append, List.mem_singleton] at hc
      rcases hc with (hc | hc) | hc
      · exact (h32 c hc).2
      · rw [hc]; decide
      · exact h13 c hc)
    simpa [reqB, crlf] using this
  have h2 : Lib.cut (mt ++ [32] ++ tt) [32] = (mt, tt, true) := cut_clean mt tt [] 32 (fun c hc => (h32 c hc).1)
  refine pf6 h1 h2 hm ht ?_
  have h3 : Lib.cut ([13, 10] ++ body) [13, 10] = ([], body, true) := cut_clean [] body [10] 13 (by simp)
  unfold fieldsF
  rw [h3]
  simp
theorem key_no {key : List UInt8} (h : keyOK key = true) : key ≠ [] ∧ key.length ≤ 40 ∧ ∀ c ∈ key, c ≠ 13 ∧ c ≠ 63 ∧ c ≠ 32 ∧ c ≠ 47 ∧ c ≠ 10 := by
  unfold keyOK at h
  simp only [Bool.and_eq_true, decide_eq_true_eq, List.all_eq_true] at h
  obtain ⟨h1, h2, h3⟩ := h
  refine ⟨by intro e; rw [e] at h1; simp at h1, h2, fun c hc => ?_⟩
  have := h3 c hc
  refine ⟨?_, ?_, ?_, ?_, ?_⟩ <;> (intro e; rw [e] at this; revert this; decide)
theorem pre_not {key : List UInt8} (rest : List UInt8) (hne : key ≠ []) (h : ∀ c ∈ key, c ≠ 63) : Lib.hasPrefix (key ++ rest) afterW = false := by
  cases key with
  | nil => exact absurd rfl hne
  | cons a k =>
    have : a ≠ 63 := h a (by simp)
    have h2 : ((63 : UInt8) == a) = false := by simp; exact fun e => this e.symm
    simp [Lib.hasPrefix, afterW, List.isPrefixOf, h2]
theorem trim_slash (p : List UInt8) : Lib.hasPrefix (47 :: p) [47] = true ∧ Lib.trimPrefix (47 :: p) [47] = p := by simp [Lib.hasPrefix, Lib.trimPrefix]
theorem target_key {key : List UInt8} (h : keyOK key = true) : targetF (47 :: key) = some ⟨1, key, 0⟩ := by
  obtain ⟨hne, _, hc⟩ := key_no h
  have hp := pre_not [] hne (fun c hx => (hc c hx).2.1)
  rw [List.append_nil] at hp
  unfold targetF pathF
  rw [(trim_slash _).1, (trim_slash _).2, if_pos rfl, if_neg hne, hp, cut_out key [] 63 (fun c hx => (hc c hx).2.1)]
  simp [h]
theorem target_query {key q : List UInt8} (h : keyOK key = true) : targetF (47 :: (key ++ [63] ++ q)) = queryF key q := by
  obtain ⟨hne, _, hc⟩ := key_no h
  have hp := pre_not ([63] ++ q) hne (fun c hx => (hc c hx).2.1)
  rw [← List.append_assoc] at hp
  unfold targetF pathF
  rw [(trim_slash _).1, (trim_slash _).2, if_pos rfl, if_neg (by simp), hp, cut_clean key q [] 63 (fun c hx => (hc c hx).2.1)]
  simp [h]
theorem target_versions {key : List UInt8} (h : keyOK key = true) : targetF (47 :: (key ++ [63] ++ [118, 101, 114, 115, 105, 111, 110, 115])) = some ⟨3, key, 0⟩ := by
  rw [target_query h]
  rfl
theorem target_list : targetF [47] = some ⟨0, [], 0⟩ := rfl
theorem dec_len10 {n k : Nat} (h : n < 10 ^ k) (hk : 0 < k) : (Lib.decDigits n).length ≤ k := by
  induction k generalizing n with
  | zero => omega
  | succ k ih =>
    rw [Lib.decDigits]
    split
    · simp
    · rename_i h10
      rw [Nat.pow_succ] at h
      cases k with
      | zero => simp at h; omega
      | succ k =>
        have := ih (n := n / 10) (by omega) (by omega)
        simp
        omega
theorem m_put : methF [80, 85, 84] = some 2 ∧ (∀ c ∈ ([80, 85, 84] : List UInt8), c ≠ 32 ∧ c ≠ 13) := by decide
theorem m_get : methF [71, 69, 84] = some 0 ∧ (∀ c ∈ ([71, 69, 84] : List UInt8), c ≠ 32 ∧ c ≠ 13) := by decide
theorem reqB_len (a b c d : List UInt8) : (reqB a b c d).length = a.length + b.length + c.length + d.length + 5 := by simp [reqB, crlf]; omega
end Go.Proofs.YtmehkneofinmiabGreatDoor

namespace Go.Proofs
open Go.Shelf
def Tryz.lays166_ren : Go.Shelf.Ren := ⟨fun | 166 => 50 | 240 => 85 | 276 => 133 | n => n, fun | 70 => 116 | 72 => 118 | 0 => 0 | 3 => 3 | 4 => 4 | 5 => 5 | 9 => 9 | 20 => 20 | 37 => 95 | 75 => 120 | 80 => 53 | 164 => 127 | n => n, fun | n => n⟩
theorem Tryz.lays166 : Go.Proofs.Lays.n166 Tryz.prog Tryz.lays166_ren := {
  mixed := by kernel_rfl
  f166 := Tryz.func50.trans (congrArg some (by kernel_rfl))
  f240 := Tryz.func85.trans (congrArg some (by kernel_rfl))
  f276 := Tryz.func133.trans (congrArg some (by kernel_rfl))
  t0 := Tryz.underlying0
  a0 := Tryz.isAgg0
  z0 := Tryz.sizeOf0
  v0 := Tryz.zeroValue0
  t3 := Tryz.underlying3
  a3 := Tryz.isAgg3
  z3 := Tryz.sizeOf3
  v3 := Tryz.zeroValue3
  t4 := Tryz.underlying4
  a4 := Tryz.isAgg4
  z4 := Tryz.sizeOf4
  v4 := Tryz.zeroValue4
  t9 := Tryz.underlying9
  a9 := Tryz.isAgg9
  z9 := Tryz.sizeOf9
  v9 := Tryz.zeroValue9
  t20 := Tryz.underlying20
  a20 := Tryz.isAgg20
  z20 := Tryz.sizeOf20
  v20 := Tryz.zeroValue20
  t37 := Tryz.underlying95
  a37 := Tryz.isAgg95
  z37 := Tryz.sizeOf95
  v37 := Tryz.zeroValue95
  t70 := Tryz.underlying116
  a70 := Tryz.isAgg116
  z70 := Tryz.sizeOf116
  v70 := Tryz.zeroValue116
  t72 := Tryz.underlying118
  a72 := Tryz.isAgg118
  z72 := Tryz.sizeOf118
  v72 := Tryz.zeroValue118
  t75 := Tryz.underlying120
  a75 := Tryz.isAgg120
  z75 := Tryz.sizeOf120
  v75 := Tryz.zeroValue120
  t164 := Tryz.underlying127
  a164 := Tryz.isAgg127
  z164 := Tryz.sizeOf127
  v164 := Tryz.zeroValue127 }
theorem Tryz.Builder_Extra_166 : Builder.Extra Tryz.prog Tryz.lays166_ren := {
  sizeBuilder := by kernel_rfl
  liesBuilder := by kernel_rfl
  t5 := Tryz.underlying5
  a5 := Tryz.isAgg5
  z5 := Tryz.sizeOf5
  v5 := Tryz.zeroValue5
  infoByte := by kernel_rfl
  cellsByte := by kernel_rfl
  sizeByte := by kernel_rfl
  neB5 := by decide }
open Go.RowKit in
theorem Tryz.Builder_WriteString (B b : Nat) (bs : List Value) (s : ByteArray) (w : World) (h : Lib.IsBuilder 118 5 B b bs w) (hlen : bs.length + s.size ≤ 140737488355328) (hBw : B ≤ w.heap.size) :
    Calls Tryz.prog 50 #[.pointer (some ⟨b, 0, none⟩), .string s] w fun e w' => e = .returned (.tuple #[.int .i64 s.size, .nilIface]) ∧ (Lib.BuilderAt 118 5 B b (.pointer (some ⟨b, 0, none⟩)) (bs ++ Lib.strCells s) w' ∧ Below B w w') := Any.Builder_WriteString Tryz.lays166 Tryz.Builder_Extra_166 B b bs s w h hlen hBw
open Go.RowKit in
theorem Tryz.Builder_WriteString_k (B b : Nat) (bs : List Value) (s : ByteArray) (w : World) (h : Lib.IsBuilderF 118 5 B b bs w) (hlen : bs.length + s.size ≤ 140737488355328) (hBw : B ≤ w.heap.size) :
    Calls Tryz.prog 50 #[.pointer (some ⟨b, 0, none⟩), .string s] w fun e w' => e = .returned (.tuple #[.int .i64 s.size, .nilIface]) ∧ (Lib.BuilderAtF 118 5 B b (.pointer (some ⟨b, 0, none⟩)) (bs ++ Lib.strCells s) w' ∧ Below B w w' ∧ Lib.OthersKept 5 (some b) w w') := Any.Builder_WriteString_k Tryz.lays166 Tryz.Builder_Extra_166 B b bs s w h hlen hBw
end Go.Proofs

namespace Go.Proofs
abbrev Tryz.muLink : Go.Conc.Locks.MuLink := { lock := 60, unlock := 61, ilock := 89, iunlock := 90, lockSlow := 135, unlockSlow := 136, disable := 53, enable := 56, acquire := 57, relMerge := 58, cas32 := 134, add32 := 86, tMutex := 88, tIMutex := 86, tPMutex := 128, tPIMutex := 227, tPI32 := 172, tUP := 127, tNoCopy := 83, tU32 := 84 }
theorem Tryz.muLib : Go.Conc.Locks.MuLib Tryz.prog Tryz.muLink :=
  ⟨Tryz.func60, Tryz.func61, Tryz.func89, Tryz.func90, Tryz.func53, Tryz.func56, Tryz.func57, Tryz.func58, Tryz.func134, Tryz.func86, Tryz.underlying86, Tryz.runUnderlying86, Tryz.sizeOf86, Tryz.isAgg86, Tryz.zeroValue86, Tryz.underlying88, Tryz.runUnderlying88, Tryz.sizeOf88, Tryz.isAgg88, Tryz.zeroValue88, Tryz.underlying128, Tryz.runUnderlying128, Tryz.sizeOf128, Tryz.isAgg128, Tryz.zeroValue128, Tryz.underlying227, Tryz.runUnderlying227, Tryz.sizeOf227, Tryz.isAgg227, Tryz.zeroValue227, Tryz.underlying172, Tryz.runUnderlying172, Tryz.sizeOf172, Tryz.isAgg172, Tryz.zeroValue172, Tryz.underlying127, Tryz.runUnderlying127, Tryz.sizeOf127, Tryz.isAgg127, Tryz.zeroValue127, Tryz.underlying83, Tryz.runUnderlying83, Tryz.sizeOf83, Tryz.isAgg83, Tryz.zeroValue83, Tryz.underlying21, Tryz.runUnderlying21, Tryz.sizeOf21, Tryz.isAgg21, Tryz.zeroValue21, (by kernel_rfl)⟩
abbrev Tryz.rwLink : Go.Conc.Locks.RwLink := { lock := 60, unlock := 61, ilock := 89, iunlock := 90, lockSlow := 135, unlockSlow := 136, disable := 53, enable := 56, acquire := 57, relMerge := 58, cas32 := 134, add32 := 86, tMutex := 88, tIMutex := 86, tPMutex := 128, tPIMutex := 227, tPI32 := 172, tUP := 127, tNoCopy := 83, tU32 := 84, rlock := 32, runlock := 33, wlock := 73, wunlock := 74, i32add := 54, raceRead := 52, release := 113, rUnlockSlow := 59, semacqR := 55, semacqW := 112, semrel := 88, sfatal := 87, tRW := 93, tPRW := 125, tAI32 := 91, tPAI32 := 170, tPU32 := 131, tANoCopy := 89 }
theorem Tryz.rwCore : Go.Conc.Locks.RwCore Tryz.prog Tryz.rwLink :=
  ⟨Tryz.func54, Tryz.func52, Tryz.func53, Tryz.func56, Tryz.func57, Tryz.func58, Tryz.func86, Tryz.underlying93, Tryz.runUnderlying93, Tryz.sizeOf93, Tryz.isAgg93, Tryz.zeroValue93, Tryz.underlying91, Tryz.runUnderlying91, Tryz.sizeOf91, Tryz.isAgg91, Tryz.zeroValue91, Tryz.underlying125, Tryz.runUnderlying125, Tryz.sizeOf125, Tryz.isAgg125, Tryz.zeroValue125, Tryz.underlying170, Tryz.runUnderlying170, Tryz.sizeOf170, Tryz.isAgg170, Tryz.zeroValue170, Tryz.underlying131, Tryz.runUnderlying131, Tryz.sizeOf131, Tryz.isAgg131, Tryz.zeroValue131, Tryz.underlying89, Tryz.runUnderlying89, Tryz.sizeOf89, Tryz.isAgg89, Tryz.zeroValue89, Tryz.underlying84, Tryz.runUnderlying84, Tryz.sizeOf84, Tryz.isAgg84, Tryz.zeroValue84, Tryz.underlying88, Tryz.runUnderlying88, Tryz.sizeOf88, Tryz.isAgg88, Tryz.zeroValue88, Tryz.underlying128, Tryz.runUnderlying128, Tryz.sizeOf128, Tryz.isAgg128, Tryz.zeroValue128, Tryz.underlying172, Tryz.runUnderlying172, Tryz.sizeOf172, Tryz.isAgg172, Tryz.zeroValue172, Tryz.underlying127, Tryz.runUnderlying127, Tryz.sizeOf127, Tryz.isAgg127, Tryz.zeroValue127, Tryz.underlying21, Tryz.runUnderlying21, Tryz.sizeOf21, Tryz.isAgg21, Tryz.zeroValue21, (by kernel_rfl), (by kernel_rfl)⟩
theorem Tryz.rwRLib : Go.Conc.Locks.RwRLib Tryz.prog Tryz.rwLink := ⟨Tryz.rwCore, Tryz.func32, Tryz.func33⟩
end Go.Proofs

namespace Go.Proofs.YtmehkneofinmiabGreatDoor
open Go.RowKit Go.MuLone
theorem setCell_back {w : World} {a : Addr} {v : Value} (h : w.cell? a = some v) (x : Value) : (w.setCell a x).setCell a v = w := by
  cases w with | mk heap tape drawn os output =>
  simp only [World.setCell, World.mk.injEq, and_true]
  apply Array.ext
  · simp
  · intro i h1 h2
    simp only [Array.getElem_modify]
    split
    · rename_i e
      subst e
      simp only [World.cell?] at h
      rw [Array.getElem?_eq_getElem h2] at h
      revert h
      cases heap[a.block] with
      | cells c t f =>
        intro h
        simp only at h
        cases hs : a.spot with
        | some _ => rw [hs] at h; simp at h
        | none =>
          rw [hs] at h
          simp only [Option.isSome_none, Bool.false_eq_true, if_false] at h ⊢
          have hlt : a.off < c.size := (Array.getElem?_eq_some_iff.1 h).1
          have hv : c[a.off] = v := (Array.getElem?_eq_some_iff.1 h).2
          congr 1
          apply Array.ext
          · simp
          · intro j j1 j2
            by_cases hj : a.off = j
            · subst hj; simp [hv]
            · rw [Array.getElem_setIfInBounds_ne (by simpa using j2) hj, Array.getElem_setIfInBounds_ne j2 hj]
      | _ => simp
    · rfl
theorem setCell_comm (w : World) {a b : Addr} (h : a ≠ b) (x y : Value) : (w.setCell a x).setCell b y = (w.setCell b y).setCell a x := by
  cases w with | mk heap tape drawn os output =>
  simp only [World.setCell, World.mk.injEq, and_true]
  apply Array.ext
  · simp
  · intro i h1 h2
    simp only [Array.getElem_modify]
    by_cases ha : a.block = i <;> by_cases hb : b.block = i <;> simp only [ha, hb, if_true, if_false]
    generalize heap[i]'(by simpa using h1) = o
    cases o with
    | cells c t f =>
      simp only
      congr 1
      cases hsa : a.spot <;> cases hsb : b.spot <;> simp
      have hne : a.off ≠ b.off := by
        intro e
        apply h
        cases a; cases b
        simp_all
      exact Array.setIfInBounds_comm _ _ hne
    | _ => rfl
structure Cmn (w : World) (b off : Nat) (t k : Int) : Prop where
  l : w.cell? ⟨b, off, none⟩ = some (.int .i32 0)
  t : w.cell? ⟨b, off + 2, none⟩ = some (.int .i64 t)
  k : w.cell? ⟨b, off + 3, none⟩ = some (.int .i64 k)
  f : ∀ j, w.frozen? ⟨b, j, none⟩ = false
set_option maxHeartbeats 1000000 in
theorem now_any (b off : Nat) (t k : Int) (w : World) (h : Cmn w b off t k) :
    Calls Tryz.prog 45 #[.pointer (some ⟨b, off, none⟩)] w fun e w' => e = .returned (.int .i64 t) ∧ w' = w := by
  have h0 := h.l
  have h2 := h.t
  have f0 := h.f off
  have f2 := h.f (off + 2)
  go_enter_defers Tryz.func45, Tryz.ntmps45
  go_wp2_with (go_at_call 60; refine (lock_free Tryz.muLib ⟨b, off, none⟩ _ h0 f0).mono ?_; rintro e w' ⟨rfl, rfl⟩)
  refine leaves_cons (f := 61) (args := #[.pointer (some ⟨b, off, none⟩)]) (by simp) (by simp [go_sem]) ?_
  refine (unlock_deferred Tryz.muLib ⟨b, off, none⟩ .returning _ ?_ ?_).mono ?_
  · exact World.cell?_setCell_same w ⟨b, off, none⟩ (.int .i32 1) h0
  · simp [f0]
  rintro e u' w'' ⟨rfl, rfl, rfl⟩
  exact ⟨_, results_tmp rfl _ _ _, rfl, setCell_back h0 _⟩
set_option maxHeartbeats 1000000 in
theorem admit_yes (b off : Nat) (t k : Int) (w : World) (h : Cmn w b off t k) (hk0 : 0 ≤ k) (hk : k < 60) :
    Calls Tryz.prog 117 #[.pointer (some ⟨b, off, none⟩)] w fun e w' => e = .returned (.bool true) ∧ w' = w.setCell ⟨b, off + 3, none⟩ (.int .i64 (k + 1)) := by
  have h0 := h.l
  have h2 := h.k
  have f0 := h.f off
  have f2 := h.f (off + 3)
  have hne : (k == 60) = false := beq_eq_false_iff_ne.2 (by omega)
  go_enter_defers Tryz.func117, Tryz.ntmps117
  go_wp2_with (go_at_call 60; refine (lock_free Tryz.muLib ⟨b, off, none⟩ _ h0 f0).mono ?_; rintro e w' ⟨rfl, rfl⟩)
  refine leaves_cons (f := 61) (args := #[.pointer (some ⟨b, off, none⟩)]) (by simp) (by simp [go_sem]) ?_
  refine (unlock_deferred Tryz.muLib ⟨b, off, none⟩ .returning _ ?_ ?_).mono ?_
  · exact (World.cell?_setCell_other _ ⟨b, off + 3, none⟩ ⟨b, off, none⟩ _ (by simp)).trans (World.cell?_setCell_same w ⟨b, off, none⟩ (.int .i32 1) h0)
  · simp [f0]
  rintro e u' w'' ⟨rfl, rfl, rfl⟩
  refine ⟨_, results_tmp rfl _ _ _, rfl, ?_⟩
  rw [setCell_comm w (by simp), setCell_back]
  rw [World.cell?_setCell_other _ _ _ _ (by simp)]
  exact h0
set_option maxHeartbeats 1000000 in
theorem admit_no (b off : Nat) (t : Int) (w : World) (h : Cmn w b off t 60) :
    Calls Tryz.prog 117 #[.pointer (some ⟨b, off, none⟩)] w fun e w' => e = .returned (.bool false) ∧ w' = w := by
  have h0 := h.l
  have h2 := h.k
  have f0 := h.f off
  have f2 := h.f (off + 3)
  go_enter_defers Tryz.func117, Tryz.ntmps117
  go_wp2_with (go_at_call 60; refine (lock_free Tryz.muLib ⟨b, off, none⟩ _ h0 f0).mono ?_; rintro e w' ⟨rfl, rfl⟩)
  refine leaves_cons (f := 61) (args := #[.pointer (some ⟨b, off, none⟩)]) (by simp) (by simp [go_sem]) ?_
  refine (unlock_deferred Tryz.muLib ⟨b, off, none⟩ .returning _ ?_ ?_).mono ?_
  · exact World.cell?_setCell_same w ⟨b, off, none⟩ (.int .i32 1) h0
  · simp [f0]
  rintro e u' w'' ⟨rfl, rfl, rfl⟩
  exact ⟨_, results_tmp rfl _ _ _, rfl, setCell_back h0 _⟩
set_option maxHeartbeats 1000000 in
theorem pass_yes (b off : Nat) (t k s : Int) (w : World) (h : Cmn w b off t k) (ht0 : 0 ≤ t) (ht : t ≤ 253402300799) (hs0 : 0 ≤ s) (hs : s ≤ 253402300799 - t) :
    Calls Tryz.prog 46 #[.pointer (some ⟨b, off, none⟩), .int .i64 s] w fun e w' => e = .returned (.int .i64 0) ∧ w' = w.setCell ⟨b, off + 2, none⟩ (.int .i64 (t + s)) := by
  have h0 := h.l
  have h2 := h.t
  have f0 := h.f off
  have f2 := h.f (off + 2)
  go_enter_defers Tryz.func46, Tryz.ntmps46
  go_wp2_with (go_at_call 60; refine (lock_free Tryz.muLib ⟨b, off, none⟩ _ h0 f0).mono ?_; rintro e w' ⟨rfl, rfl⟩)
  refine leaves_cons (f := 61) (args := #[.pointer (some ⟨b, off, none⟩)]) (by simp) (by simp [go_sem]) ?_
  refine (unlock_deferred Tryz.muLib ⟨b, off, none⟩ .returning _ ?_ ?_).mono ?_
  · exact (World.cell?_setCell_other _ ⟨b, off + 2, none⟩ ⟨b, off, none⟩ _ (by simp)).trans (World.cell?_setCell_same w ⟨b, off, none⟩ (.int .i32 1) h0)
  · simp [f0]
  rintro e u' w'' ⟨rfl, rfl, rfl⟩
  refine ⟨_, results_tmp rfl _ _ _, rfl, ?_⟩
  rw [setCell_comm w (by simp), setCell_back]
  rw [World.cell?_setCell_other _ _ _ _ (by simp)]
  exact h0
end Go.Proofs.YtmehkneofinmiabGreatDoor

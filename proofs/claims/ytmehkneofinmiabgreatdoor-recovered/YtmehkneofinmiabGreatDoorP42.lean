/-
 Texts of this proof, part 42.
-/
import Derived.Test.YtmehkneofinmiabGreatDoorP41
set_option maxRecDepth 100000
set_option maxHeartbeats 4000000
namespace Go.Proofs.YtmehkneofinmiabGreatDoor
def unbe (l : List UInt8) : Nat := l.foldl (fun n c => n * 256 + c.toNat) 0
theorem unbe_snoc (l : List UInt8) (c : UInt8) : unbe (l ++ [c]) = unbe l * 256 + c.toNat := by
 unfold unbe
 rw [List.foldl_append, List.foldl_cons, List.foldl_nil]
theorem unbe_from (l : List UInt8) (x : Nat) : l.foldl (fun n c => n * 256 + c.toNat) x = x * 256 ^ l.length + unbe l := by
 unfold unbe
 induction l generalizing x with
 | nil => simp
 | cons c l ih =>
   rw [List.foldl_cons, ih, List.foldl_cons, ih (0 * 256 + c.toNat), List.length_cons, Nat.pow_succ]
   rw [Nat.add_mul, Nat.zero_mul, Nat.zero_add, Nat.add_assoc, Nat.mul_assoc, Nat.mul_comm 256]
theorem unbe_cons (c : UInt8) (l : List UInt8) : unbe (c::l) = c.toNat * 256 ^ l.length + unbe l := by
 have := unbe_from l c.toNat
 rw [<- this]
 show List.foldl _ (0 * 256 + c.toNat) l = _
 rw [Nat.zero_mul, Nat.zero_add]
theorem unbe_lt (l : List UInt8) : unbe l < 256 ^ l.length := by
 induction l with
 | nil => simp [unbe]
 | cons c l ih =>
   rw [unbe_cons, List.length_cons, Nat.pow_succ]
   have hc := c.toNat_lt
   have h1 : c.toNat * 256 ^ l.length <= 255 * 256 ^ l.length := Nat.mul_le_mul_right _ (by omega)
   omega
theorem be_unbe (l : List UInt8) : ∀ x : Nat, be (x * 256 ^ l.length + unbe l) l.length = l := by
 induction l with
 | nil => intro x; rfl
 | cons c l ih =>
   intro x
   have hlt := unbe_lt l
   have hc := c.toNat_lt
   have hp : 0 < 256 ^ l.length := Nat.pow_pos (by omega)
   rw [List.length_cons, unbe_cons]
   have e : x * 256 ^ (l.length + 1) + (c.toNat * 256 ^ l.length + unbe l) = (x * 256 + c.toNat) * 256 ^ l.length + unbe l := by
    rw [Nat.pow_succ, Nat.add_mul, Nat.mul_assoc x 256, Nat.mul_comm 256]
    omega
   rw [e]
   show UInt8.ofNat _::be _ _ = _
   rw [ih]
   congr 1
   rw [Nat.mul_comm _ (256 ^ l.length), Nat.mul_add_div hp, Nat.div_eq_of_lt hlt, Nat.add_zero, Nat.add_comm, Nat.add_mul_mod_self_right, Nat.mod_eq_of_lt hc]
   simp
theorem be_of {l : List UInt8} {n k : Nat} (hk : l.length = k) (hn : unbe l = n) : be n k = l := by
 have := be_unbe l 0
 rw [Nat.zero_mul, Nat.zero_add, hk, hn] at this
 exact this
theorem unbe_be (n k : Nat) : unbe (be n k) = n % 256 ^ k := by
 induction k with
 | zero => simp [be, unbe, Nat.mod_one]
 | succ k ih =>
   rw [be, unbe_cons, be_len, ih, Nat.pow_succ, Nat.mod_mul]
   have : (UInt8.ofNat (n / 256 ^ k % 256)).toNat = n / 256 ^ k % 256 := by simp
   rw [this, Nat.mul_comm]
   omega
structure Rec where
 kind : Nat
 time : Nat
 key : List UInt8
 num : Nat
 body : List UInt8
structure Rdr where
 rest : List UInt8
 short : Bool
def Rdr.text (s : Rdr) (n : Nat) : List UInt8 := if s.rest.length < n then [] else s.rest.take n
def Rdr.go (s : Rdr) (n : Nat) : Rdr := if s.rest.length < n then ⟨[], true⟩ else ⟨s.rest.drop n, s.short⟩
def kfitF (k : Nat) (body : List UInt8) : Bool := if k = 1 then decide (body.length <= 400) else if k = 2 \/ k = 3 then body.isEmpty else false
def pay1 (p : List UInt8) : Rdr := (Rdr.mk p false).go 1
def pay2 (p : List UInt8) : Rdr := (pay1 p).go 8
def pay3 (p : List UInt8) : Rdr := (pay2 p).go 1
def pay4 (p : List UInt8) : Rdr := (pay3 p).go (unbe ((pay2 p).text 1))
def pay5 (p : List UInt8) : Rdr := (pay4 p).go 4
def payRec (p : List UInt8) : Rec := ⟨unbe ((Rdr.mk p false).text 1), unbe ((pay1 p).text 8), (pay3 p).text (unbe ((pay2 p).text 1)), unbe ((pay4 p).text 4), (pay5 p).rest⟩
def payOK (p : List UInt8) : Bool := !(pay5 p).short && (decide ((payRec p).time <= 253402300799) && (keyOK (payRec p).key && kfitF (payRec p).kind (payRec p).body))
def cut1 (t : List UInt8) : Rdr := (Rdr.mk t false).go 2
def cutP (t : List UInt8) : List UInt8 := (cut1 t).text (unbe ((Rdr.mk t false).text 2))
def cut2 (t : List UInt8) : Rdr := (cut1 t).go (unbe ((Rdr.mk t false).text 2))
def cut3 (t : List UInt8) : Rdr := (cut2 t).go 4
def cutF (t : List UInt8) : Option (Rec × List UInt8) :=
 if (cut3 t).short = true \/ unbe ((cut2 t).text 4) ≠ chkF (cutP t) then none
 else if payOK (cutP t) = true then some (payRec (cutP t), (cut3 t).rest) else none
theorem go_not {s : Rdr} {n : Nat} (h : (s.go n).short = false) : s.short = false /\ n <= s.rest.length /\ s.rest = s.text n ++ (s.go n).rest /\ (s.text n).length = n := by
 unfold Rdr.go at h ⊢
 unfold Rdr.text
 split at h
 ·cases h
 ·rename_i hn
  rw [if_neg hn, if_neg hn]
  refine ⟨h, by omega, (List.take_append_drop _ _).symm, ?_⟩
  rw [List.length_take]
  omega
theorem go_app (a b : List UInt8) (s : Bool) : (Rdr.mk (a ++ b) s).go a.length = ⟨b, s⟩ /\ (Rdr.mk (a ++ b) s).text a.length = a := by
 unfold Rdr.go Rdr.text
 rw [if_neg (by simp), if_neg (by simp)]
 simp
structure RecOK (r : Rec) : Prop where
 kind : r.kind = 1 \/ r.kind = 2 \/ r.kind = 3
 time : r.time <= 253402300799
 key : keyOK r.key = true
 num : r.num < 4294967296
 body : r.body.length <= 400
 none : r.kind ≠ 1 -> r.body = []
theorem kfit_ok {k : Nat} {b : List UInt8} (h : kfitF k b = true) : (k = 1 \/ k = 2 \/ k = 3) /\ b.length <= 400 /\ (k ≠ 1 -> b = []) := by
 unfold kfitF at h
 split at h
 ·rename_i e
  exact ⟨Or.inl e, by simpa using h, fun h => absurd e h⟩
 ·split at h
  ·rename_i e
   have : b = [] := by simpa using h
   exact ⟨Or.inr e, by rw [this]; simp, fun _ => this⟩
  ·cases h
theorem ok_kfit {r : Rec} (h : RecOK r) : kfitF r.kind r.body = true := by
 unfold kfitF
 split
 ·simpa using h.body
 ·rename_i e
  have h2 : r.kind = 2 \/ r.kind = 3 := by rcases h.kind with h | h | h <;> omega
  rw [if_pos h2, h.none e]
  rfl
theorem pay_of {p : List UInt8} (h : payOK p = true) : RecOK (payRec p) /\ p = payF (payRec p).kind (payRec p).time (payRec p).key (payRec p).num (payRec p).body := by
 unfold payOK at h
 simp only [Bool.and_eq_true, Bool.not_eq_true', decide_eq_true_eq] at h
 obtain ⟨hs, ht, hk, hf⟩ := h
 obtain ⟨hs4, h5, e5, l5⟩ := go_not (s := pay4 p) (n := 4) hs
 obtain ⟨hs3, h4, e4, l4⟩ := go_not (s := pay3 p) hs4
 obtain ⟨hs2, h3, e3, l3⟩ := go_not (s := pay2 p) (n := 1) hs3
 obtain ⟨hs1, h2, e2, l2⟩ := go_not (s := pay1 p) (n := 8) hs2
 obtain ⟨_, h1, e1, l1⟩ := go_not (s := Rdr.mk p false) (n := 1) hs1
 have hf' := kfit_ok hf
 refine ⟨⟨hf'.1, ht, hk, ?_, hf'.2.1, hf'.2.2⟩, ?_⟩
 ·have := unbe_lt ((pay4 p).text 4)
  rw [l5] at this
  exact this
 ·have b1 : be (unbe ((Rdr.mk p false).text 1)) 1 = (Rdr.mk p false).text 1 := be_of l1 rfl
  have b2 : be (unbe ((pay1 p).text 8)) 8 = (pay1 p).text 8 := be_of l2 rfl
  have b3 : be (unbe ((pay2 p).text 1)) 1 = (pay2 p).text 1 := be_of l3 rfl
  have b5 : be (unbe ((pay4 p).text 4)) 4 = (pay4 p).text 4 := be_of l5 rfl
  have a5 : (pay4 p).rest = (pay4 p).text 4 ++ (pay5 p).rest := e5
  have a4 : (pay3 p).rest = (pay3 p).text (unbe ((pay2 p).text 1)) ++ (pay4 p).rest := e4
  have a3 : (pay2 p).rest = (pay2 p).text 1 ++ (pay3 p).rest := e3
  have a2 : (pay1 p).rest = (pay1 p).text 8 ++ (pay2 p).rest := e2
  have a1 : p = (Rdr.mk p false).text 1 ++ (pay1 p).rest := e1
  have c : payF (unbe ((Rdr.mk p false).text 1)) (unbe ((pay1 p).text 8)) ((pay3 p).text (unbe ((pay2 p).text 1))) (unbe ((pay4 p).text 4)) (pay5 p).rest = p := by
   unfold payF
   rw [b1, b2, l4, b3, b5, <- a5, <- a4, <- a3, <- a2]
   exact a1.symm
  dsimp only [payRec]
  exact c.symm
theorem keyOK_le {k : List UInt8} (h : keyOK k = true) : k.length <= 40 := by
 unfold keyOK at h
 simp only [Bool.and_eq_true, decide_eq_true_eq] at h
 exact h.2.1
theorem of_pay {r : Rec} (h : RecOK r) : payOK (payF r.kind r.time r.key r.num r.body) = true /\ payRec (payF r.kind r.time r.key r.num r.body) = r := by
 have hkl := keyOK_le h.key
 have hk3 : r.kind < 256 := by rcases h.kind with h | h | h <;> omega
 obtain ⟨p, hp⟩ : ∃ p, payF r.kind r.time r.key r.num r.body = p := ⟨_, rfl⟩
 rw [hp]
 unfold payF at hp
 have g1 := go_app (be r.kind 1) (be r.time 8 ++ (be r.key.length 1 ++ (r.key ++ (be r.num 4 ++ r.body)))) false
 rw [hp, be_len] at g1
 have g2 := go_app (be r.time 8) (be r.key.length 1 ++ (r.key ++ (be r.num 4 ++ r.body))) false
 rw [be_len] at g2
 have g3 := go_app (be r.key.length 1) (r.key ++ (be r.num 4 ++ r.body)) false
 rw [be_len] at g3
 have g4 := go_app r.key (be r.num 4 ++ r.body) false
 have g5 := go_app (be r.num 4) r.body false
 rw [be_len] at g5
 have e1 : pay1 p = ⟨be r.time 8 ++ (be r.key.length 1 ++ (r.key ++ (be r.num 4 ++ r.body))), false⟩ := g1.1
 have e2 : pay2 p = ⟨be r.key.length 1 ++ (r.key ++ (be r.num 4 ++ r.body)), false⟩ := by unfold pay2; rw [e1]; exact g2.1
 have e3 : pay3 p = ⟨r.key ++ (be r.num 4 ++ r.body), false⟩ := by unfold pay3; rw [e2]; exact g3.1
 have t2 : unbe ((pay2 p).text 1) = r.key.length := by
  rw [e2, g3.2, unbe_be]
  exact Nat.mod_eq_of_lt (by omega)
 have e4 : pay4 p = ⟨be r.num 4 ++ r.body, false⟩ := by unfold pay4; rw [t2, e3]; exact g4.1
 have e5 : pay5 p = ⟨r.body, false⟩ := by unfold pay5; rw [e4]; exact g5.1
 have hr : payRec p = r := by
  unfold payRec
  rw [t2, e5, e4, g5.2, e3, g4.2, e1, g2.2, g1.2, unbe_be, unbe_be, unbe_be, Nat.mod_eq_of_lt (show r.kind < 256 ^ 1 by omega), Nat.mod_eq_of_lt (show r.time < 256 ^ 8 by have := h.time; omega), Nat.mod_eq_of_lt (show r.num < 256 ^ 4 by have := h.num; omega)]
 refine ⟨?_, hr⟩
 unfold payOK
 rw [hr, e5]
 simp [h.time, h.key, ok_kfit h]
theorem cut_of {t rest : List UInt8} {r : Rec} (h : cutF t = some (r, rest)) : RecOK r /\ t = recF r.kind r.time r.key r.num r.body ++ rest := by
 unfold cutF at h
 split at h
 ·cases h
 ·rename_i hn
  split at h
  ·rename_i hp
   injection h with h
   injection h with h1 h2
   rw [not_or] at hn
   obtain ⟨hs, hc⟩ := hn
   have hs' : (cut3 t).short = false := by simpa using hs
   have hc' : unbe ((cut2 t).text 4) = chkF (cutP t) := by simpa using hc
   have ⟨hok, hpe⟩ := pay_of hp
   rw [h1] at hok hpe
   refine ⟨hok, ?_⟩
   obtain ⟨hs2, k3, e3, l3⟩ := go_not (s := cut2 t) (n := 4) hs'
   obtain ⟨hs1, k2, e2, l2⟩ := go_not (s := cut1 t) hs2
   obtain ⟨_, k1, e1, l1⟩ := go_not (s := Rdr.mk t false) (n := 2) hs1
   have a3 : (cut2 t).rest = (cut2 t).text 4 ++ (cut3 t).rest := e3
   have a2 : (cut1 t).rest = cutP t ++ (cut2 t).rest := e2
   have a1 : t = (Rdr.mk t false).text 2 ++ (cut1 t).rest := e1
   have lp : (cutP t).length = unbe ((Rdr.mk t false).text 2) := l2
   unfold recF
   rw [<- hpe, lp, be_of l1 rfl, be_of l3 hc', List.append_assoc, List.append_assoc, <- h2, <- a3, <- a2]
   exact a1
  ·cases h
theorem of_cut {r : Rec} (h : RecOK r) (rest : List UInt8) : cutF (recF r.kind r.time r.key r.num r.body ++ rest) = some (r, rest) := by
 have hkl := keyOK_le h.key
 have hbl := h.body
 obtain ⟨hp, hr⟩ := of_pay h
 have hpl := payF_len r.kind r.time r.key r.num r.body
 obtain ⟨p, hpe⟩ : ∃ p, payF r.kind r.time r.key r.num r.body = p := ⟨_, rfl⟩
 unfold recF
 rw [hpe] at hp hr hpl ⊢
 obtain ⟨t, ht⟩ : ∃ t, be p.length 2 ++ (p ++ be (chkF p) 4) ++ rest = t := ⟨_, rfl⟩
 rw [ht]
 have ht' : be p.length 2 ++ (p ++ (be (chkF p) 4 ++ rest)) = t := by rw [<- ht]; simp
 have g1 := go_app (be p.length 2) (p ++ (be (chkF p) 4 ++ rest)) false
 rw [ht', be_len] at g1
 have g2 := go_app p (be (chkF p) 4 ++ rest) false
 have g3 := go_app (be (chkF p) 4) rest false
 rw [be_len] at g3
 have t1 : unbe ((Rdr.mk t false).text 2) = p.length := by rw [g1.2, unbe_be]; exact Nat.mod_eq_of_lt (by omega)
 have e1 : cut1 t = ⟨p ++ (be (chkF p) 4 ++ rest), false⟩ := g1.1
 have e2 : cut2 t = ⟨be (chkF p) 4 ++ rest, false⟩ := by unfold cut2; rw [t1, e1]; exact g2.1
 have ep : cutP t = p := by unfold cutP; rw [t1, e1]; exact g2.2
 have e3 : cut3 t = ⟨rest, false⟩ := by unfold cut3; rw [e2]; exact g3.1
 have hc : unbe ((cut2 t).text 4) = chkF p := by rw [e2, g3.2, unbe_be]; exact Nat.mod_eq_of_lt (chk_lt p)
 unfold cutF
 rw [ep, e3, hc, if_neg (by simp), if_pos hp, hr]
def redoF (σ : St) (r : Rec) : Option St :=
 if r.time < σ.time \/ (r.kind ≠ 3 /\ r.num ≠ (findE σ.ents r.key).last + 1) then none
 else (chgF ⟨r.time, σ.ents, σ.log⟩ r.key r.kind r.num r.body).2
def replayF : Nat -> St -> List UInt8 -> St × List UInt8
 | 0, σ, t => (σ, t)
 | m + 1, σ, t => match cutF t with
   | none => (σ, t)
   | some (r, rest) => match redoF σ r with
     | none => (σ, t)
     | some σ' => replayF m σ' rest
theorem redo_log {σ σ' : St} {r : Rec} (h : redoF σ r = some σ') : σ'.log = σ.log ++ recF r.kind r.time r.key r.num r.body := by
 unfold redoF at h
 split at h
 ·cases h
 ·unfold chgF at h
  split at h
  ·cases h
  ·split at h
   ·cases h
   ·injection h with h
    rw [<- h]
theorem cut_nil : cutF [] = none := by
 unfold cutF
 rw [if_pos (Or.inl (by decide))]
theorem replay_of : ∀ (m : Nat) (σ σ' : St) (t rest : List UInt8), replayF m σ t = (σ', rest) -> ∃ c, t = c ++ rest /\ σ'.log = σ.log ++ c /\ ∀ k, c.length <= k -> replayF k σ c = (σ', []) := by
 intro m
 induction m with
 | zero =>
   intro σ σ' t rest h
   injection h with h1 h2
   refine ⟨[], by rw [h2]; rfl, by rw [h1]; simp, fun k _ => ?_⟩
   cases k with
   | zero => rw [<- h1]; rfl
   | succ k => unfold replayF; rw [cut_nil, h1]
 | succ m ih =>
   intro σ σ' t rest h
   have stop : (σ, t) = (σ', rest) -> ∃ c, t = c ++ rest /\ σ'.log = σ.log ++ c /\ ∀ k, c.length <= k -> replayF k σ c = (σ', []) := by
    intro h
    injection h with h1 h2
    refine ⟨[], by rw [h2]; rfl, by rw [h1]; simp, fun k _ => ?_⟩
    cases k with
    | zero => rw [<- h1]; rfl
    | succ k => unfold replayF; rw [cut_nil, h1]
   unfold replayF at h
   cases hc : cutF t with
   | none => rw [hc] at h; exact stop h
   | some x =>
     obtain ⟨r, rs⟩ := x
     rw [hc] at h
     cases hr : redoF σ r with
     | none => simp only [hr] at h; exact stop h
     | some σ1 =>
       simp only [hr] at h
       obtain ⟨c, hc1, hc2, hc3⟩ := ih σ1 σ' rs rest h
       have ⟨hok, ht⟩ := cut_of hc
       refine ⟨recF r.kind r.time r.key r.num r.body ++ c, by rw [ht, hc1, List.append_assoc], by rw [hc2, redo_log hr, List.append_assoc], fun k hk => ?_⟩
       rw [List.length_append, recF_len] at hk
       cases k with
       | zero => omega
       | succ k =>
         unfold replayF
         rw [of_cut hok]
         simp only [hr]
         exact hc3 k (by omega)
end Go.Proofs.YtmehkneofinmiabGreatDoor
namespace Go.Proofs.YtmehkneofinmiabGreatDoor
open Go.RowKit
theorem off_set {S : Nat -> Prop} {w w' : World} {s i : Nat} {v : Value} (h : Off S w w') (hs : S s) : Off S (w.setCell ⟨s, i, none⟩ v) w' :=
 ⟨h.os, h.tape, h.output, by have := h.size; simpa using this, fun k hk hn => by
   have hne : k ≠ s := fun e => hn (e ▸ hs)
   rw [heap_set_far hne]
   exact h.block k (by simpa using hk) hn⟩
theorem pchange_store {s n : Nat} {rd : Int} {lk : Nat -> Int} {σ : St} {M : Mem} (key : List UInt8) (p : Nat) (vs : Value) (k t num : Nat) (body : List UInt8) (w : World) (h : StoreAt w s n rd lk σ M) (hf : Found w M n σ key p vs)
 (hk : k = 1 \/ k = 2 \/ k = 3) (hn : k ≠ 3 -> num = (findE σ.ents key).last + 1) (hnum : num < 1000000000000000) (hkey : keyOK key = true) (hb : body.length <= 400) (hlog : σ.log.length < 140000000000000) (ht0 : σ.time <= t) (ht : t <= 253402300799) :
 Calls Tryz.prog 102 #[.pointer (some ⟨M.g, hashK key % n * 3, none⟩), .pointer (some ⟨p, 0, none⟩), recA k t key num body, bookP s] w fun e w' =>
  match (chgF ⟨t, σ.ents, σ.log⟩ key k num body).2 with
  | none => e = .returned (.tuple #[.int .i64 ((chgF ⟨t, σ.ents, σ.log⟩ key k num body).1 : Nat), .bool false]) /\ Below w.heap.size w w'
  | some σ' => e = .returned (.tuple #[.int .i64 ((chgF ⟨t, σ.ents, σ.log⟩ key k num body).1 : Nat), .bool true]) /\ ∃ M', Chd w w' s n rd lk σ' M M' p := by
 have hkl := keyOK_le hkey
 have hekey := findE_key σ.ents key
 have hll := (h.found hf).2.2.2.2.2
 have h2 := h.tick t ht
 have hsp : p ≠ s := ne_of_types hf.ent.blk h.blk (by decide)
 have hf2 : Found (w.setCell ⟨s, 9, none⟩ (.int .i64 t)) M n ⟨t, σ.ents, σ.log⟩ key p vs :=
  ⟨hf.ent.off ((Off.refl (fun k => k = s) _).set s 9 _ (Or.inl rfl)) hsp (fun g hg e => own_far hf.ent.row h.blk (by decide) (e ▸ hg)), hf.at'⟩
 have hsz : (w.setCell ⟨s, 9, none⟩ (.int .i64 (t : Int))).heap.size = w.heap.size := by simp
 have core := chg_core (fun P => Calls Tryz.prog 102 #[.pointer (some ⟨M.g, hashK key % n * 3, none⟩), .pointer (some ⟨p, 0, none⟩), recA k t key num body, bookP s] w P) (fun P Q hP hPQ => hP.mono hPQ) (fun w' => Below w.heap.size w w') key p vs k num body _ h2 hf2 hk hn hkey hb
  (fun f5 ho => pchange_no1 M.g _ p s (findE σ.ents key) vs k t num key body w hf.ent (Nat.lt_of_le_of_lt f5 (by omega)) ho)
  (fun f5 ho hl h60 => by
    have hblk := h.blk
    have h60' : σ.ents.length = 60 := h60
    rw [h60'] at hblk
    exact pchange_no2 M.g _ p s _ _ σ.time (findE σ.ents key) vs k t num key body w hf.ent (Nat.lt_of_le_of_lt f5 (by omega)) ho hl hblk rfl rfl rfl)
  (fun f5 i hk3 hv hl => by
    subst hk3
    refine (pchange_rm M.g _ p s _ σ.time M.jr σ.log (findE σ.ents key) vs t num i key body w hf.ent (Nat.lt_of_le_of_lt f5 (by omega)) hv hl h.blk rfl rfl (σ.ents.length : Int) rfl rfl h.jrn ht0 ht (by omega) (by omega) (by omega) hlog).mono ?_
    rintro e w' ⟨rfl, jr', vs', hJ, hE, hvo, hof⟩
    exact ⟨rfl, jr', vs', ⟨hJ.blk, hJ.byt, by rw [hsz]; exact hJ.at'⟩, hE, hvo, off_set hof (Or.inl rfl)⟩)
  (fun f5 ho hk3 hl => by
    refine (pchange_known M.g _ p s _ σ.time M.jr σ.log (findE σ.ents key) vs k t num key body w hf.ent (Nat.lt_of_le_of_lt f5 (by omega)) ho hk3 (by omega) hl h.blk rfl rfl (σ.ents.length : Int) rfl rfl h.jrn ht0 ht (by omega) (by omega) (by omega) hlog).mono ?_
    rintro e w' ⟨rfl, jr', g2, cap2, hJ, hE, hvo, hof⟩
    exact ⟨rfl, jr', g2, cap2, ⟨hJ.blk, hJ.byt, by rw [hsz]; exact hJ.at'⟩, hE, by rw [hsz]; exact hvo, off_set hof (Or.inl rfl)⟩)
  (fun f5 ho hk3 hl h60 hvn cs j hc hr hri hpsl hpos => by
    have hgs : M.g ≠ s := ne_of_types hc (heap_set (i := 9) (v := .int .i64 (t : Int)) h.blk) (by decide)
    rw [heap_set_far hgs] at hc
    refine (pchange_new M.g _ p s cs _ (M.es (hashK key % n)) (M.ps (hashK key % n)) (M.keys (hashK key % n)) j σ.time (σ.ents.length : Int) M.jr σ.log (findE σ.ents key) vs k t num key body w hf.ent (Nat.lt_of_le_of_lt f5 (by omega)) ho hk3 (by omega) hl hc hr (h.kt _ (Nat.mod_lt _ h.n1)) hri hpsl (by rw [hekey]; omega) hpos (fun g hg => by rw [hvn] at hg; cases hg) h.blk rfl rfl rfl (by omega) (Int.ofNat_lt.2 h60) rfl h.jrn ht0 ht (by omega) (by omega) (by omega) hlog).mono ?_
    rintro e w' ⟨rfl, jr', g1, cap1, g2, cap2, hJ, hg, hrow, hg1, hE, hg2, hof⟩
    exact ⟨rfl, jr', g1, cap1, g2, cap2, ⟨hJ.blk, hJ.byt, by rw [hsz]; exact hJ.at'⟩, hg, hrow, by rw [hsz]; exact hg1, hE, by rw [hsz]; exact hg2, off_set hof (Or.inl rfl)⟩)
 refine Calls.mono core ?_
 intro e w' hw
 cases hc : (chgF ⟨t, σ.ents, σ.log⟩ key k num body).2 with
 | none => rw [hc] at hw; exact hw
 | some σ' =>
   rw [hc] at hw
   obtain ⟨he, M', hM⟩ := hw
   refine ⟨he, M', hM.st, ?_, fun k hk => ?_, hM.g⟩
   ·exact ((Off.refl (fun k => M.own s n k \/ k = p) w).set s 9 _ (Or.inl (Or.inl (Or.inl rfl)))).trans hM.off
   ·have := hM.own k hk
    rw [hsz] at this
    exact this
theorem wrapU64 (n : Int) (h0 : 0 <= n) (h1 : n < 2 ^ 64) : IntKind.u64.wrap n = n := by
 have : IntKind.u64.wrap n = n % 18446744073709551616 := by simp [IntKind.wrap, IntKind.bits, IntKind.signed]
 rw [this]
 omega
theorem or8 (F c : Nat) (hF : F < 72057594037927936) (hc : c < 256) : bits .or .u64 ((F : Int) * 256) (c : Int) = ((F * 256 + c : Nat) : Int) := by
 rw [bits_join .u64 64 (by decide) wrapU64 8 ((F : Int) * 256) c (by omega) (by omega) (by omega) (by omega) (by omega) (by omega)]
 omega
theorem extL (L : List UInt8) (a b : Nat) : (⟨L.toArray⟩ : ByteArray).extract a b = ⟨((L.drop a).take (b - a)).toArray⟩ := by
 apply ByteArray.ext
 apply Array.toList_inj.1
 rw [Lib.extract_data]
def RdrAt (w : World) (p : Nat) (s : Rdr) : Prop := w.heap[p]? = some (.cells #[.string ⟨s.rest.toArray⟩, .bool s.short] 213 (0, 0))
theorem rdr_cells {w : World} {p : Nat} {s : Rdr} (h : RdrAt w p s) : w.cell? ⟨p, 0, none⟩ = some (.string ⟨s.rest.toArray⟩) /\ w.cell? ⟨p, 1, none⟩ = some (.bool s.short) := by
 unfold RdrAt at h
 simp [World.cell?, h]
theorem rtext_any (p n : Nat) (s : Rdr) (w : World) (h : RdrAt w p s) (hn : n <= 9223372036854775807) :
 Calls Tryz.prog 124 #[.pointer (some ⟨p, 0, none⟩), .int .i64 n] w fun e w' => e = .returned (.string ⟨(s.text n).toArray⟩) /\ RdrAt w' p (s.go n) /\ Off (fun k => k = p) w w' /\ w'.heap.size = w.heap.size := by
 obtain ⟨c0, c1⟩ := rdr_cells h
 have f0 : w.frozen? ⟨p, 0, none⟩ = false := by simp [World.frozen?, show w.heap[p]? = _ from h]
 have f1 : w.frozen? ⟨p, 1, none⟩ = false := by simp [World.frozen?, show w.heap[p]? = _ from h]
 have HR : Hid _ := h
 have hlt : p < w.heap.size := (Array.getElem?_eq_some_iff.1 h).1
 clear h
 have hsz : (⟨s.rest.toArray⟩ : ByteArray).size = s.rest.length := by rw [Lib.size_eq]
 go_enter Tryz.func124, Tryz.ntmps124
 by_cases hs : s.rest.length < n
 ·have hsI : (s.rest.length : Int) < (n : Int) := by omega
  have HT : Hid (s.text n = []) := by show _ = _; unfold Rdr.text; rw [if_pos hs]
  have HG : Hid (s.go n = ⟨[], true⟩) := by show _ = _; unfold Rdr.go; rw [if_pos hs]
  go_wp2
  go_ret
  exact ⟨by rw [HT.out]; rfl, by rw [HG.out]; exact heap_set (heap_set HR.out), ((Off.refl (fun k => k = p) _).set p 0 _ (Or.inl rfl)).set p 1 _ (Or.inl rfl), by simp⟩
 ·have hsI : ¬ (s.rest.length : Int) < (n : Int) := by omega
  have HT : Hid (s.text n = s.rest.take n) := by show _ = _; unfold Rdr.text; rw [if_neg hs]
  have HG : Hid (s.go n = ⟨s.rest.drop n, s.short⟩) := by show _ = _; unfold Rdr.go; rw [if_neg hs]
  go_wp2
  go_ret
  refine ⟨?_, ?_, (Off.refl (fun k => k = p) _).set p 0 _ (Or.inl rfl), by simp⟩
  ·rw [HT.out, extL]
   simp
  ·rw [HG.out]
   have := heap_set (i := 0) (v := .string ⟨(s.rest.drop n).toArray⟩) HR.out
   have e : (⟨s.rest.toArray⟩ : ByteArray).extract n s.rest.length = ⟨(s.rest.drop n).toArray⟩ := by
    rw [extL, List.take_of_length_le (by simp)]
   rw [e]
   exact this
theorem rnumber_any (p n : Nat) (s : Rdr) (w : World) (h : RdrAt w p s) (hn : n <= 8) :
 Calls Tryz.prog 125 #[.pointer (some ⟨p, 0, none⟩), .int .i64 n] w fun e w' => e = .returned (.int .u64 (unbe (s.text n) : Nat)) /\ RdrAt w' p (s.go n) /\ Off (fun k => k = p) w w' /\ w'.heap.size = w.heap.size := by
 have HT : Hid _ := rtext_any p n s w h (by omega)
 have htl : (s.text n).length <= 8 := by
  unfold Rdr.text
  split
  ·simp
  ·rw [List.length_take]
   omega
 obtain ⟨T, hT⟩ : ∃ T, s.text n = T := ⟨_, rfl⟩
 rw [hT] at htl HT ⊢
 obtain ⟨S, hS⟩ : ∃ S : ByteArray, S = ⟨T.toArray⟩ := ⟨_, rfl⟩
 have hd : S.data.toList = T := by rw [hS]
 have hsz : S.size = T.length := by rw [hS]; exact List.size_toArray
 rw [<- hS] at HT
 rw [<- hd]
 have hsl : S.size <= 8 := by omega
 clear hS hsz hd htl hT h
 go_enter Tryz.func125, Tryz.ntmps125
 go_wp2_with (go_at_call 124; refine Calls.mono HT.out ?_; rintro e w1 ⟨rfl, r1, o1, z1⟩)
 have HR : Hid _ := r1
 have HO : Hid _ := o1
 have HZ : Hid _ := z1
 clear r1 o1 z1 HT
 go_loop [6, 13] (fun nn i => ∃ k : Nat, k <= S.size /\ i = .int .i64 k /\ nn = .int .u64 ((unbe (S.data.toList.take k) : Nat) : Int)) (fun _ i => S.size - (intOf i).toNat)
 case atStart => exact ⟨0, Nat.zero_le _, rfl, rfl⟩
 case round =>
  obtain ⟨k, hk, rfl, rfl⟩ := hrel
  by_cases hlt : k < S.size
  ·have hF7 : unbe (S.data.toList.take k) < 72057594037927936 := by
    have h1 := unbe_lt (S.data.toList.take k)
    have h2 : (S.data.toList.take k).length <= 7 := by rw [List.length_take]; omega
    have h3 : 256 ^ (S.data.toList.take k).length <= 256 ^ 7 := Nat.pow_le_pow_right (by omega) h2
    omega
   have HX : Hid (unbe (S.data.toList.take (k + 1)) = unbe (S.data.toList.take k) * 256 + S[k].toNat) := by
    show _ = _
    rw [take_snoc S k hlt, unbe_snoc]
   obtain ⟨F, hF⟩ : ∃ F, unbe (S.data.toList.take k) = F := ⟨_, rfl⟩
   rw [hF] at hF7 HX ⊢
   have hc := (S[k]).toNat_lt
   have HB : Hid _ := or8 F S[k].toNat hF7 (by omega)
   go_wp2
   exact ⟨⟨k + 1, by omega, by go_num, by rw [HB.out, HX.out]⟩, by simp [intOf]; omega⟩
  ·obtain rfl : k = S.size := by omega
   rw [List.take_of_length_le (by rw [Lib.size_eq]; exact Nat.le_refl _)]
   go_wp2
   go_ret
   exact ⟨rfl, HR.out, HO.out, HZ.out⟩
end Go.Proofs.YtmehkneofinmiabGreatDoor

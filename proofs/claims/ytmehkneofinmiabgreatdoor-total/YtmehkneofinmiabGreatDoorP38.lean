/-
  Texts of this proof, part 38.
-/
import Derived.Test.YtmehkneofinmiabGreatDoorP37
import Derived.Laws.MakeOwn
namespace Go.Proofs.YtmehkneofinmiabGreatDoor
open Go.RowKit Go.MuLone
theorem infoStp : (Tryz.prog.info? 137).map (fun i => (i.zero, i.size, i.bytes)) = some (some (.agg #[.int .i32 0, .int .u32 0, .slice none 0 0]), 3, 32) := by kernel_rfl
def st0 : St := ⟨0, [], []⟩
theorem made3 (a b c : Value) (n i : Nat) (h : i < n) : (madeCells #[a, b, c] (n * 3))[i * 3]? = some a ∧ (madeCells #[a, b, c] (n * 3))[i * 3 + 2]? = some c := by
  have r1 : (Array.range (n * 3))[i * 3]? = some (i * 3) := by rw [Array.getElem?_range]; simp; omega
  have r2 : (Array.range (n * 3))[i * 3 + 2]? = some (i * 3 + 2) := by rw [Array.getElem?_range, if_pos (by omega)]
  have h1 : i * 3 % 3 = 0 := by omega
  have h2 : (i * 3 + 2) % 3 = 2 := by omega
  constructor
  · unfold madeCells
    rw [Array.getElem?_map, r1, Option.map_some]
    show some (#[a, b, c][i * 3 % 3]!) = _
    rw [h1]
    rfl
  · unfold madeCells
    rw [Array.getElem?_map, r2, Option.map_some]
    show some (#[a, b, c][(i * 3 + 2) % 3]!) = _
    rw [h2]
    rfl
set_option maxRecDepth 100000 in
set_option maxHeartbeats 4000000 in
theorem new_yes (n : Nat) (w : World) (h1 : 1 ≤ n) (h8 : n ≤ 8) : Calls Tryz.prog 27 #[.int .i64 n] w fun e w' => ∃ s M, e = .returned (.tuple #[.pointer (some ⟨s, 0, none⟩), .int .i64 0]) ∧ StoreAt w' s n 0 (fun _ => 0) st0 M ∧ Below w.heap.size w w' ∧ ∀ k, M.own s n k → w.heap.size ≤ k := by
  have i1 : ¬ (n : Int) < 1 := by omega
  have i8 : ¬ (8 : Int) < (n : Int) := by omega
  obtain ⟨i0, hi0, hz0, hz1, hz2⟩ := info_parts infoStp
  have hmk := run_makeSlice (P := Tryz.prog) w 94 137 i0 _ Tryz.underlying94 hi0 hz0 .i64 .i64 n n (by omega) (by omega) (by rw [hz1]; omega) (by rw [hz2]; omega) (by omega)
  rw [hz1] at hmk
  simp only [Int.toNat_natCast] at hmk
  obtain ⟨cs, hcs⟩ : ∃ x, madeCells (Value.agg #[.int .i32 0, .int .u32 0, .slice none 0 0]).cells (n * 3) = x := ⟨_, rfl⟩
  rw [hcs] at hmk
  have HCS : Hid _ := hcs
  clear hcs
  go_enter Tryz.func27, Tryz.ntmps27
  go_wp2
  refine bodyPost_ret (results_tmp2 rfl _ _ _) rfl ?_
  refine ⟨w.heap.size + 1, rfl, ⟨w.heap.size, n, fun _ => .slice none 0 0, fun _ => [], fun _ => ⟨[], 0, []⟩, fun _ => .slice none 0 0, .slice none 0 0⟩, ⟨h1, h8, ?_, ⟨cs, (heap_alloc_old _ _ (by simp)).trans (heap_alloc_new _ _), fun i hi => ?_⟩, fun i _ => ⟨⟨⟨rfl, Or.inl ⟨rfl, rfl⟩⟩, rfl, fun a p k hp => by simp at hp, fun p hp => by simp at hp⟩, fun q hq => by simp at hq⟩, fun i _ p hp => by simp at hp, fun i _ => rfl, ⟨rfl, Or.inl ⟨rfl, rfl⟩⟩, fun i j _ _ _ b hb => by simp [Value.ownBlock] at hb, fun i j p q _ _ hp => by simp at hp, List.Pairwise.nil, fun E hE => by simp [st0] at hE, by simp [st0], by simp [st0], fun E hE => by simp [st0] at hE⟩, ?_, ?_⟩
  · have := heap_alloc_new (w.alloc (.cells cs 137)) (.cells (storeCells 0 w.heap.size n n 0 0 (.slice none 0 0)) 99)
    rw [World.size_alloc] at this
    exact this
  · have := made3 (.int .i32 0) (.int .u32 0) (.slice none 0 0) n i hi
    rw [← HCS.out]
    exact this
  · exact ((Below.refl _ _).alloc (Nat.le_refl _) _).alloc (by simp) _
  · intro k
    rintro (e | e | ⟨i, _, hb⟩ | ⟨i, _, hb⟩ | ⟨i, p, _, hp, _⟩ | hb)
    · omega
    · change k = w.heap.size at e
      omega
    · simp [Value.ownBlock] at hb
    · simp at hb
    · simp at hp
    · simp [Value.ownBlock] at hb
theorem StoreAt.cmn {w : World} {s n : Nat} {rd : Int} {lk : Nat → Int} {σ : St} {M : Mem} (h : StoreAt w s n rd lk σ M) : Cmn w s 7 σ.time σ.ents.length := cmn_of h.blk rfl rfl rfl
set_option maxHeartbeats 2000000 in
theorem clock_any {s n : Nat} {rd : Int} {lk : Nat → Int} {σ : St} {M : Mem} (w : World) (h : StoreAt w s n rd lk σ M) : Calls Tryz.prog 25 #[.pointer (some ⟨s, 0, none⟩)] w fun e w' => e = .returned (.int .i64 σ.time) ∧ w' = w := by
  go_enter Tryz.func25, Tryz.ntmps25
  go_wp2_with fail
  refine (now_any s 7 σ.time σ.ents.length _ h.cmn).mono ?_
  rintro e w1 ⟨rfl, rfl⟩
  go_wp2
  go_ret
  exact ⟨rfl, rfl⟩
theorem StoreAt.tick {w : World} {s n : Nat} {rd : Int} {lk : Nat → Int} {σ : St} {M : Mem} (h : StoreAt w s n rd lk σ M) (t : Nat) (ht : t ≤ 253402300799) : StoreAt (w.setCell ⟨s, 9, none⟩ (.int .i64 (t : Int))) s n rd lk ⟨t, σ.ents, σ.log⟩ M := by
  have ho : Off (fun k => k = s) w (w.setCell ⟨s, 9, none⟩ (.int .i64 (t : Int))) := (Off.refl (fun k => k = s) w).set s 9 _ (Or.inl rfl)
  obtain ⟨cs, hc, hr⟩ := h.row
  exact ⟨h.n1, h.n8, heap_set h.blk, ⟨cs, (ho.block _ (Array.getElem?_eq_some_iff.1 hc).1 (ne_of_types hc h.blk (by decide))).trans hc, hr⟩,
    fun j hj => (h.kt j hj).off ho (fun b hb e => own_far (h.kt j hj).k.row h.blk (by decide) (e ▸ hb)) (fun q hq e => by obtain ⟨cq, hq'⟩ := (h.kt j hj).t q hq; exact ne_of_types hq' h.blk (by decide) e),
    fun j hj p hp => (h.ent j hj p hp).off ho (fun e => ne_of_types (h.ent j hj p hp).blk h.blk (by decide) e) (fun b hb e => own_far (h.ent j hj p hp).row h.blk (by decide) (e ▸ hb)),
    h.lst, Byt.off (base := 0) h.jrn ho (fun b hb e => own_far h.jrn h.blk (by decide) (e ▸ hb)), h.des, h.dvs, h.rise, h.ok, h.many, ht, h.lastB⟩
set_option maxRecDepth 100000 in
set_option maxHeartbeats 4000000 in
theorem log_store {s n : Nat} {lk : Nat → Int} {σ : St} {M : Mem} (w : World) (h : StoreAt w s n 0 lk σ M) :
    Calls Tryz.prog 22 #[.pointer (some ⟨s, 0, none⟩)] w fun e w' => e = .returned (.string ⟨σ.log.toArray⟩) ∧ StoreAt w' s n 0 lk σ M ∧ Off (fun k => k = s) w w' := by
  have x0 : w.cell? ⟨s, 0, none⟩ = some (.int .i32 0) := by simp [World.cell?, h.blk, storeCells]
  have x3 : w.cell? ⟨s, 3, none⟩ = some (.int .u32 0) := by simp [World.cell?, h.blk, storeCells]
  have x4 : w.cell? ⟨s, 4, none⟩ = some (.int .i32 0) := by simp [World.cell?, h.blk, storeCells]
  have xf : w.frozen? ⟨s, 4, none⟩ = false := by simp [World.frozen?, h.blk]
  have HH : Hid _ := h
  clear h
  go_enter_defers Tryz.func22, Tryz.ntmps22
  go_wp2_with fail
  refine (Go.RwLone.rlock_open Tryz.rwRLib s 0 0 _ _ w x0 x3 x4 xf (by rw [wrap_up]; decide)).mono ?_
  rintro e w2 ⟨rfl, hw2⟩
  rw [wrap_up, Nat.zero_add] at hw2
  have hS2 : StoreAt w2 s n 1 lk σ M := by rw [hw2]; exact HH.out.readers 1
  have hO2 : Off (fun k => k = s) w w2 := by rw [hw2]; exact (Off.refl (fun k => k = s) _).set s 4 _ (Or.inl rfl)
  have HS2 : Hid _ := hS2
  have HO2 : Hid _ := hO2
  clear hw2 hS2 hO2 x0 x3 x4 xf
  go_wp2_with fail
  refine (log_any s 7 _ 99 M.jr σ.log _ HS2.out.blk rfl rfl HS2.out.jrn (own_far HS2.out.jrn HS2.out.blk (by decide))).mono ?_
  rintro e y ⟨rfl, hy⟩
  rw [hy]
  clear hy y
  have hSy : StoreAt w2 s n 1 lk σ M := HS2.out
  have u0 : w2.cell? ⟨s, 0, none⟩ = some (.int .i32 0) := by simp [World.cell?, hSy.blk, storeCells]
  have u2 : w2.cell? ⟨s, 2, none⟩ = some (.int .u32 0) := by simp [World.cell?, hSy.blk, storeCells]
  have u4 : w2.cell? ⟨s, 4, none⟩ = some (.int .i32 1) := by simp [World.cell?, hSy.blk, storeCells]
  have uf : w2.frozen? ⟨s, 4, none⟩ = false := by simp [World.frozen?, hSy.blk]
  have HSy : Hid _ := hSy
  have HOy : Hid (Off (fun k => k = s) w w2) := HO2.out
  clear hSy
  go_wp2
  refine leaves_cons (f := 33) (args := #[.pointer (some ⟨s, 0, none⟩)]) (by simp) (by simp [go_sem]) ?_
  refine (Go.RwLone.runlock_deferred Tryz.rwRLib s 0 1 _ _ .returning _ u0 u2 u4 uf (by rw [wrap_down]; decide)).mono ?_
  rintro e u' w'' ⟨rfl, rfl, hw''⟩
  rw [wrap_down, Nat.zero_add] at hw''
  subst hw''
  exact ⟨_, results_tmp rfl _ _ _, rfl, HSy.out.readers 0, HOy.out.set s 4 _ (Or.inl rfl)⟩
end Go.Proofs.YtmehkneofinmiabGreatDoor

namespace Go.Proofs.YtmehkneofinmiabGreatDoor
open Go.RowKit
theorem condF_lt (wt : Bool) (k : Cnd) (v : Option Ver) : condF wt k v < 1000 := by
  unfold condF Jd.jd
  repeat' split
  all_goals decide
theorem obstF_lt (E : Ent) (k n : Nat) : obstF E k n < 1000 := by
  unfold obstF
  repeat' split
  all_goals decide
theorem succF_lt (E : Ent) (k : Nat) : succF E k < 1000 := by
  unfold succF
  repeat' split
  all_goals decide
theorem chgF_lt (σ : St) (key : List UInt8) (k n : Nat) (body : List UInt8) : (chgF σ key k n body).1 < 1000 := by
  unfold chgF
  split
  · exact obstF_lt _ _ _
  · split
    · decide
    · exact succF_lt _ _
theorem dec15 {n : Nat} (h : n < 1000000000000000) : (Lib.decDigits n).length ≤ 15 := dec_len_pow 14 n h
theorem flatU_len {α : Type} (l : List α) (f : α → List UInt8) (b : Nat) (h : ∀ x ∈ l, (f x).length ≤ b) : (l.flatMap f).length ≤ l.length * b := by
  induction l with
  | nil => simp
  | cons a l ih =>
    rw [List.flatMap_cons, List.length_append, List.length_cons]
    have h1 := h a List.mem_cons_self
    have h2 := ih fun x hx => h x (List.mem_cons_of_mem _ hx)
    rw [Nat.add_mul]
    omega
theorem lineU_len {v : Ver} (hn : v.num < 1000000000000000) (ht : v.time < 1000000000000000) : (lineF2 v).length ≤ 60 := by
  have h1 := dec15 hn
  have h2 := dec15 ht
  have h3 := qTag_len v.body
  unfold lineF2
  simp only [List.length_append, List.length_cons, List.length_nil]
  split
  · simp
    omega
  · omega
theorem lineK_len {x : List UInt8 × List UInt8} (h : x.1.length ≤ 40) : (lineK x).length ≤ 60 := by
  have h3 := qTag_len x.2
  unfold lineK
  simp only [List.length_append, List.length_cons, List.length_nil]
  omega
theorem keyOK_len {k : List UInt8} (h : keyOK k = true) : k.length ≤ 40 := by
  unfold keyOK at h
  simp at h
  exact h.2.1
theorem findE_facts {w : World} {s n : Nat} {rd : Int} {lk : Nat → Int} {σ : St} {M : Mem} (h : StoreAt w s n rd lk σ M) (key : List UInt8) :
    (∀ v ∈ (findE σ.ents key).vers, v.num ≤ σ.log.length ∧ v.time ≤ 253402300799 ∧ v.body.length ≤ 400) ∧ (findE σ.ents key).vers.length ≤ 20 ∧ (findE σ.ents key).last ≤ σ.log.length := by
  by_cases hl : (findE σ.ents key).last = 0
  · rw [(findE_none (fun E hE => (h.ok E hE).last) hl).2]
    simp
  · have hm := findE_mem hl
    have ho := h.ok _ hm
    have hb := h.lastB _ hm
    exact ⟨fun v hv => ⟨Nat.le_trans (ho.num v hv) hb, ho.time v hv, ho.body v hv⟩, ho.len, hb⟩
theorem listC_mem {σ : St} {after : List UInt8} {x : List UInt8 × List UInt8} (h : x ∈ listC σ after) : ∃ E ∈ σ.ents, x.1 = E.key := by
  unfold listC at h
  obtain ⟨E, hE, hx⟩ := List.mem_filterMap.1 h
  obtain ⟨v, _, rfl⟩ := Option.map_eq_some_iff.1 hx
  exact ⟨E, (List.mem_filter.1 hE).1, rfl⟩
theorem ans_ok {w : World} {s n : Nat} {rd : Int} {lk : Nat → Int} {σ : St} {M : Mem} (h : StoreAt w s n rd lk σ M) (hlog : σ.log.length < 140000000000000) (l : List UInt8) : AnsOK (ansF σ l).1 := by
  unfold ansF
  split
  · rename_i nn hr
    have := read_no hr
    exact ⟨by show nn < _; omega, by simp, fun f hf => by simp at hf, by simp⟩
  · rename_i m t k body hr
    obtain ⟨r1, r2, r3, r4⟩ := read_ok hr
    split
    · -- the list
      have hlc : ∀ x ∈ listC σ t.key, x.1.length ≤ 40 := fun x hx => by
        obtain ⟨E, hE, e⟩ := listC_mem hx
        rw [e]
        exact keyOK_len (h.ok E hE).key
      refine ⟨by show 200 < _; omega, ?_, ?_, ?_⟩
      · show (if _ then _ else _ : List Fld).length < 1000
        split <;> simp
      · intro f hf
        change f ∈ (if _ then _ else _ : List Fld) at hf
        split at hf
        · simp at hf
          rw [hf]
          refine ⟨by simp [moreF], ?_⟩
          show (lastK _).length < 1000
          unfold lastK
          split
          · simp
          · rename_i x hx
            have := hlc x (List.mem_of_mem_take (List.mem_of_getLast? hx))
            omega
        · simp at hf
      · show (linesK _).length < 1000000
        have := flatU_len ((listC σ t.key).take 50) lineK 60 (fun x hx => lineK_len (hlc x (List.mem_of_mem_take hx)))
        have h2 : ((listC σ t.key).take 50).length ≤ 50 := by rw [List.length_take]; omega
        unfold linesK
        omega
    · obtain ⟨f1, f2, f3⟩ := findE_facts h t.key
      have fv : ∀ f : Fld, f = ⟨[86, 101, 114, 115, 105, 111, 110], Lib.decDigits (wantF (findE σ.ents t.key) m t body).2.1⟩ → f.name.length < 1000 ∧ f.value.length < 1000 := by
        rintro f rfl
        have : (wantF (findE σ.ents t.key) m t body).2.1 < 1000000000000000 := by
          unfold wantF
          split
          · show (findE σ.ents t.key).last + 1 < _
            omega
          · split
            · show t.num < _
              omega
            · show (findE σ.ents t.key).last + 1 < _
              omega
        have := dec15 this
        exact ⟨by simp, by show (Lib.decDigits _).length < _; omega⟩
      unfold askF
      split
      · -- the versions
        split
        · exact ⟨by show 404 < _; omega, by simp, fun f hf => by simp at hf, by simp⟩
        · refine ⟨by show 200 < _; omega, by simp, fun f hf => by simp at hf, ?_⟩
          have := flatU_len (findE σ.ents t.key).vers.reverse lineF2 60 (fun v hv => by
            have hv' := f1 v (List.mem_reverse.1 hv)
            exact lineU_len (by omega) (by omega))
          rw [List.length_reverse] at this
          show (List.flatMap _ _).length < _
          omega
      · split
        · have := condF_lt (isW m) k (aimF (findE σ.ents t.key) t)
          exact ⟨by show condF _ _ _ < _; omega, by simp, fun f hf => by simp at hf, by simp⟩
        · split
          · have hlt := chgF_lt σ t.key (wantF (findE σ.ents t.key) m t body).1 (wantF (findE σ.ents t.key) m t body).2.1 (wantF (findE σ.ents t.key) m t body).2.2
            split
            · rename_i told hc
              rw [hc] at hlt
              exact ⟨by show told < _; simp only at hlt; omega, by simp, fun f hf => by simp at hf, by simp⟩
            · rename_i told σ' hc
              rw [hc] at hlt
              refine ⟨by show told < _; simp only at hlt; omega, ?_, ?_, by simp⟩
              · show (if _ then _ else _ : List Fld).length < 1000
                split <;> simp
              · intro f hf
                change f ∈ (if _ then _ else _ : List Fld) at hf
                split at hf
                · simp only [List.mem_cons, List.not_mem_nil, or_false] at hf
                  rcases hf with e | e
                  · rw [e]
                    have := qTag_len body
                    exact ⟨by simp, by show (qTag body).length < _; omega⟩
                  · exact fv f e
                · simp only [List.mem_cons, List.not_mem_nil, or_false] at hf
                  exact fv f hf
          · split
            · exact ⟨by show 404 < _; omega, by simp, fun f hf => by simp at hf, by simp⟩
            · rename_i v hv
              have hv' := f1 v (aim_mem hv)
              refine ⟨by show 200 < _; omega, by simp [verFlds], ?_, ?_⟩
              · intro f hf
                simp only [verFlds, List.mem_cons, List.not_mem_nil, or_false] at hf
                rcases hf with e | e | e
                · rw [e]
                  have := qTag_len v.body
                  exact ⟨by simp, by show (qTag v.body).length < _; omega⟩
                · rw [e]
                  refine ⟨by simp, ?_⟩
                  show (stampL v.time).length < 1000
                  unfold stampL
                  rw [List.length_take]
                  omega
                · rw [e]
                  have := dec15 (n := v.num) (by omega)
                  exact ⟨by simp, by show (Lib.decDigits _).length < _; omega⟩
              · show (if _ then _ else _ : List UInt8).length < _
                split
                · omega
                · simp
end Go.Proofs.YtmehkneofinmiabGreatDoor

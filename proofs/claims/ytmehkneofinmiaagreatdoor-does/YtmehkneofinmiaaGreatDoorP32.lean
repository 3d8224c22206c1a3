/-
 Texts of this proof, part 32.
-/
import Derived.Test.YtmehkneofinmiaaGreatDoorP29
import Derived.Test.YtmehkneofinmiaaGreatDoorP30
import Derived.Test.YtmehkneofinmiaaGreatDoorP31
set_option maxRecDepth 100000
set_option maxHeartbeats 8000000
namespace Go.Proofs.YtmehkneofinmiaaGreatDoor
open Go.RowKit Go.MuLone
theorem yields_row {P:Program}{ops:Array Oper}{S:World->Prop}{op:Oper}{a:Act}(hw:Region.wanted op (yielded ops a.tmps)=true)(ty:TypeId)(x:Operand)(ho:op.op=.load ty x)
 (g:Nat)(hx:a.eval x=.pointer (some ⟨g,0,none⟩))(t:TypeId)(cs:Array Value)(fr:Nat×Nat)(d:TypeDesc)(hS:∀ w:World,S w->w.heap[g]?=some (.cells cs t fr))
 (hu:P.underlying ty=some d)(hd:(match d with|.struct _|.array _ _=>true|_=>false)=true)(hi:(P.info? ty).map (·.size)=some cs.size):YieldsIf P ops S op (.agg cs) a :=
 .inl ⟨hw,fun w hw'=>by
  unfold execOp
  simp only[ho,hx,Instr.loadAt,Instr.sureAddr,Sem.run_bind,Sem.run_pure,Result.andThen_ok,run_loadVar_row w g t ty cs fr d (hS w hw') hu hd hi]⟩
theorem own_typedQ {w:World}{s n:Nat}{rd:Int}{lk:Nat->Int}{σ:St}{M:Mem}(h:StoreAt w s n rd lk σ M){k:Nat}(hk:M.own s n k){c:Array Value}{f:Nat×Nat}:w.heap[k]?≠some (.cells c 95 f):=by
 intro e
 rcases hk with rfl|rfl|⟨i,hi,hb⟩|⟨i,hi,hb⟩|⟨i,p,hi,hp,hb⟩|hb
 ·exact ne_of_types h.blk e (by decide) rfl
 ·obtain⟨cs,hc,_⟩:=h.row
  exact ne_of_types hc e (by decide) rfl
 ·exact own_far (h.kt i hi).k.row e (by decide) hb
 ·exact ne_of_types (h.ent i hi k hb).blk e (by decide) rfl
 ·exact own_far (h.ent i hi p hp).row e (by decide) hb
 ·exact own_far h.jrn e (by decide) hb
def AnsOK (a:Ans):Prop:=a.told<100000/\a.flds.length<1000/\(∀ f∈a.flds,f.name.length<1000/\f.value.length<1000)/\a.body.length<1000000
theorem StoreAt.readers {w:World}{s n:Nat}{rd:Int}{lk:Nat->Int}{σ:St}{M:Mem}(h:StoreAt w s n rd lk σ M)(r:Int):StoreAt (w.setCell ⟨s,4,none⟩ (.int .i32 r)) s n r lk σ M:=by
 have ho:Off (fun k=>k=s) w (w.setCell ⟨s,4,none⟩ (.int .i32 r)):=(Off.refl (fun k=>k=s) w).set s 4 _ (Or.inl rfl)
 obtain⟨cs,hc,hr⟩:=h.row
 refine⟨h.n1,h.n8,heap_set h.blk,⟨cs,(ho.block _ (Array.getElem?_eq_some_iff.1 hc).1 (ne_of_types hc h.blk (by decide))).trans hc,hr⟩,
  fun j hj=>(h.kt j hj).off ho (fun b hb e=>own_far (h.kt j hj).k.row h.blk (by decide) (e ▸ hb)) (fun q hq e=>by obtain⟨cq,hq'⟩:=(h.kt j hj).t q hq;exact ne_of_types hq' h.blk (by decide) e),
  fun j hj p hp=>(h.ent j hj p hp).off ho (fun e=>ne_of_types (h.ent j hj p hp).blk h.blk (by decide) e) (fun b hb e=>own_far (h.ent j hj p hp).row h.blk (by decide) (e ▸ hb)),
  h.lst,Byt.off (base:=0) h.jrn ho (fun b hb e=>own_far h.jrn h.blk (by decide) (e ▸ hb)),h.des,h.dvs,h.rise,h.ok,h.many,h.time,h.lastB⟩
theorem wrap_up:wrap32 (0+1)=1:=by simp[wrap32]
theorem wrap_down:wrap32 (1 + -1)=0:=by simp[wrap32]
def listC (σ:St)(after:List UInt8):List (List UInt8×List UInt8):=(σ.ents.filter fun E=>cmpB E.key after==1).filterMap fun E=>(curOf E).map fun v=>(E.key,v.body)
def listA (σ:St)(after:List UInt8):Ans:=⟨200,if 50<(listC σ after).length then [moreF (lastK ((listC σ after).take 50))] else [],linesK ((listC σ after).take 50)⟩
def ListIs:Prop:=∀ {s n:Nat} {rd:Int} {σ:St} {M:Mem} (after:List UInt8) (w:World),StoreAt w s n rd (fun _=>0) σ M->Tbl w->(∀ k,M.own s n k->High k)->after.length<1000000 ->
 Calls Tryz.prog 45 #[.pointer (some ⟨s,0,none⟩),.string ⟨after.toArray⟩] w fun e w'=>Done w w' e s n rd (fun _=>0) M (listA σ after,σ)
noncomputable def ansF (σ:St)(l:List UInt8):Ans×St:=match readF l with
 | .error n=>(⟨n,[],[]⟩,σ)
 | .ok (m,t,k,body)=>if t.kind=0 then (listA σ t.key,σ) else askF σ m t k body
noncomputable def doF (σ:St)(l:List UInt8):List UInt8×St:=(textF (ansF σ l).1.told (ansF σ l).1.flds (ansF σ l).1.body,(ansF σ l).2)
theorem do_any {s n:Nat}{σ:St}{M:Mem}(l:List UInt8)(w:World)(h:StoreAt w s n 0 (fun _=>0) σ M)(hM:MaxIs w)(hT:Tbl w)(hHi:∀ k,M.own s n k->High k)(hlog:σ.log.length<140000000000000)(hLI:ListIs)(hAns:AnsOK (ansF σ l).1)(hl:l.length<=9223372036854775807) :
 Calls Tryz.prog 15 #[.pointer (some ⟨s,0,none⟩),.string ⟨l.toArray⟩] w fun e w'=>e=.returned (.string ⟨(doF σ l).1.toArray⟩)/\∃ M',StoreAt w' s n 0 (fun _=>0) (doF σ l).2 M'/\Off (M.own s n) w w'/\∀ k,M'.own s n k->M.own s n k\/w.heap.size<=k:=by
 have HH:Hid _:=h
 clear h
 go_enter_defers Tryz.func15,Tryz.ntmps15
 go_wp2_with fail
 refine (read_any anyIs l w hM hl).mono ?_
 rintro e w1 ⟨hb1,⟨m,t,k,body,c,g0,hrd,rfl,hg1,hg2,rq⟩|⟨nn,hrd,rfl⟩⟩
 ·obtain⟨a1,m1,p1,e1⟩:=rq.m.list.2.2.2
  obtain⟨a2,m2,p2,e2⟩:=rq.n.list.2.2.2
  unfold reqV
  rw[e1,e2]
  have HRQ:Hid _:=rq
  have HB1:Hid _:=hb1
  clear rq hb1
  go_wp2_with (first|(refine wpList_store_row rfl 95 (.tmp 5) (.tmp 10) rfl w1.heap.size #[.int .i64 (m:Int),.int .i64 (t.kind:Int),.string ⟨t.key.toArray⟩,.int .i64 (t.num:Int),.bool (isW m),.bool c.hm,.bool c.am,.slice a1 m1 p1,.bool c.hn,.bool c.an,.slice a2 m2 p2,.bool c.hs,.int .i64 c.si,.bool c.hu,.int .i64 c.ul,.bool false,.string ⟨#[]⟩,.int .i64 0,.string ⟨body.toArray⟩] rfl rfl 95 #[.int .i64 0,.int .i64 0,.string ⟨#[]⟩,.int .i64 0,.bool false,.bool false,.bool false,.slice none 0 0,.bool false,.bool false,.slice none 0 0,.bool false,.int .i64 0,.bool false,.int .i64 0,.bool false,.string ⟨#[]⟩,.int .i64 0,.string ⟨#[]⟩] (heap_alloc_last _ _) hi77 rfl (by simp[Value.oneCell']) ?_;rw[World.setRow_alloc_new]))
  generalize (Value.agg #[.int .i64 (m:Int),.int .i64 (t.kind:Int),.string ⟨t.key.toArray⟩,.int .i64 (t.num:Int),.bool (isW m),.bool c.hm,.bool c.am,.slice a1 m1 p1,.bool c.hn,.bool c.an,.slice a2 m2 p2,.bool c.hs,.int .i64 c.si,.bool c.hu,.int .i64 c.ul,.bool false,.string ⟨#[]⟩,.int .i64 0,.string ⟨body.toArray⟩])=Qv
  obtain⟨X,hX⟩:∃ X,X=w1.alloc (.cells #[.int .i64 (m:Int),.int .i64 (t.kind:Int),.string ⟨t.key.toArray⟩,.int .i64 (t.num:Int),.bool (isW m),.bool c.hm,.bool c.am,.slice a1 m1 p1,.bool c.hn,.bool c.an,.slice a2 m2 p2,.bool c.hs,.int .i64 c.si,.bool c.hu,.int .i64 c.ul,.bool false,.string ⟨#[]⟩,.int .i64 0,.string ⟨body.toArray⟩] 95):=⟨_,rfl⟩
  rw[<- hX]
  have hbX:Below w.heap.size w X:=by rw[hX];exact HB1.out.alloc HB1.out.size _
  have hQX:X.heap[w1.heap.size]?=some (.cells #[.int .i64 (m:Int),.int .i64 (t.kind:Int),.string ⟨t.key.toArray⟩,.int .i64 (t.num:Int),.bool (isW m),.bool c.hm,.bool c.am,.slice a1 m1 p1,.bool c.hn,.bool c.an,.slice a2 m2 p2,.bool c.hs,.int .i64 c.si,.bool c.hu,.int .i64 c.ul,.bool false,.string ⟨#[]⟩,.int .i64 0,.string ⟨body.toArray⟩] 95 (0,0)):=by rw[hX];exact heap_alloc_new _ _
  have hRX:Rq X g0 c k:=by rw[hX];exact HRQ.out.below hg2 ((Below.refl _ _).alloc (Nat.le_refl _) _)
  have hXs:w1.heap.size<X.heap.size:=by rw[hX];simp
  clear hX
  have hSX:=HH.out.below hbX
  have x0:X.cell? ⟨s,0,none⟩=some (.int .i32 0):=by simp[World.cell?,hSX.blk,storeCells]
  have x3:X.cell? ⟨s,3,none⟩=some (.int .u32 0):=by simp[World.cell?,hSX.blk,storeCells]
  have x4:X.cell? ⟨s,4,none⟩=some (.int .i32 0):=by simp[World.cell?,hSX.blk,storeCells]
  have xf:X.frozen? ⟨s,4,none⟩=false:=by simp[World.frozen?,hSX.blk]
  have hsq:s≠w1.heap.size:=ne_of_types hSX.blk hQX (by decide)
  have HSX:Hid _:=hSX
  have HQX:Hid _:=hQX
  have HBX:Hid _:=hbX
  have HRX:Hid _:=hRX
  clear hSX hQX hbX hRX
  refine (Go.RwLone.rlock_open Tryz.rwRLib s 0 0 _ _ X x0 x3 x4 xf (by rw[wrap_up];decide)).mono ?_
  rintro e w2 ⟨rfl,hw2⟩
  rw[wrap_up,Nat.zero_add] at hw2
  have hQ2:w2.heap[w1.heap.size]?=some (.cells #[.int .i64 (m:Int),.int .i64 (t.kind:Int),.string ⟨t.key.toArray⟩,.int .i64 (t.num:Int),.bool (isW m),.bool c.hm,.bool c.am,.slice a1 m1 p1,.bool c.hn,.bool c.an,.slice a2 m2 p2,.bool c.hs,.int .i64 c.si,.bool c.hu,.int .i64 c.ul,.bool false,.string ⟨#[]⟩,.int .i64 0,.string ⟨body.toArray⟩] 95 (0,0)):=by rw[hw2,heap_set_far hsq.symm];exact HQX.out
  have q1:w2.cell? ⟨w1.heap.size,1,none⟩=some (.int .i64 (t.kind:Int)):=by simp[World.cell?,hQ2]
  have q2:w2.cell? ⟨w1.heap.size,2,none⟩=some (.string ⟨t.key.toArray⟩):=by simp[World.cell?,hQ2]
  have hS2:StoreAt w2 s n 1 (fun _=>0) σ M:=by rw[hw2];exact HSX.out.readers 1
  have hT2:Tbl w2:=by rw[hw2];exact (hT.below HBX.out).off ((Off.refl (fun k=>k=s) _).set s 4 _ (Or.inl rfl)) (fun k e=>e ▸ hHi s (Or.inl rfl))
  have hR2:Rq w2 g0 c k:=by rw[hw2];exact HRX.out.set (by have:=own_lt HH.out (Or.inl rfl:M.own s n s);omega)
  have hO2:Off (M.own s n) w w2:=by rw[hw2];exact (Off.of_below HBX.out).set s 4 _ (Or.inl (Or.inl rfl))
  have hsz2:X.heap.size=w2.heap.size:=by rw[hw2];simp
  have HQ2:Hid _:=hQ2
  have HS2:Hid _:=hS2
  have HR2:Hid _:=hR2
  have HO2:Hid _:=hO2
  clear hw2 hQ2 x0 x3 x4 xf hS2 hR2 hO2 HSX HQX HRX
  by_cases hkd:t.kind=0
  ·have hkdi:((t.kind:Int)==0)=true:=by rw[hkd];rfl
   go_wp2_with fail
   have hRR:ansF σ l=(listA σ t.key,σ):=by
    unfold ansF
    rw[hrd]
    simp only
    rw[if_pos hkd]
   obtain⟨rr,hrr⟩:∃ x,(listA σ t.key,σ)=x:=⟨_,rfl⟩
   rw[hrr] at hRR
   have HD:Hid (doF σ l=(textF rr.1.told rr.1.flds rr.1.body,rr.2)):=by
    show _=_
    unfold doF
    rw[hRR]
   rw[hRR] at hAns
   have hok:=read_ok hrd
   have hlk:=hLI t.key w2 HS2.out hT2 hHi (by have:=hok.2.1;omega)
   rw[hrr] at hlk
   refine Calls.mono hlk ?_
   rintro e w3 ⟨fs,M',rfl,hrow,hSt,hOf,hOw⟩
   have hT3:Tbl w3:=hT2.off hOf hHi
   have HROW:Hid _:=hrow
   have HOF:Hid _:=hOf
   have HST:Hid _:=hSt
   clear hlk hok hRR hrr hrow hOf hSt
   go_wp2_with fail
   refine (text_any rr.1.told fs rr.1.flds rr.1.body w3 hT3.b hAns.1 HROW.out hAns.2.1 hAns.2.2.1 hAns.2.2.2).mono ?_
   rintro e y ⟨rfl,hby⟩
   have hSt:=HST.out
   have hOf:=HOF.out
   have hSy:StoreAt y s n 1 (fun _=>0) rr.2 M':=hSt.below hby
   have u0:y.cell? ⟨s,0,none⟩=some (.int .i32 0):=by simp[World.cell?,hSy.blk,storeCells]
   have u2:y.cell? ⟨s,2,none⟩=some (.int .u32 0):=by simp[World.cell?,hSy.blk,storeCells]
   have u4:y.cell? ⟨s,4,none⟩=some (.int .i32 1):=by simp[World.cell?,hSy.blk,storeCells]
   have uf:y.frozen? ⟨s,4,none⟩=false:=by simp[World.frozen?,hSy.blk]
   have HSy:Hid _:=hSy
   have HOy:Hid (Off (M.own s n) w y):=(HO2.out.trans hOf).trans (Off.of_below hby)
   have HOw:Hid _:=hOw
   clear hSy
   clear hSt hOf hby
   go_wp2
   refine leaves_cons (f:=44) (args:=#[.pointer (some ⟨s,0,none⟩)]) (by simp) (by simp[go_sem]) ?_
   refine (Go.RwLone.runlock_deferred Tryz.rwRLib s 0 1 _ _ .returning _ u0 u2 u4 uf (by rw[wrap_down];decide)).mono ?_
   rintro e u' w'' ⟨rfl,rfl,hw''⟩
   rw[wrap_down,Nat.zero_add] at hw''
   subst hw''
   refine⟨_,results_tmp rfl _ _ _,by rw[HD.out];rfl,M',?_,HOy.out.set s 4 _ (Or.inl (Or.inl rfl)),fun k hk=>(HOw.out k hk).imp_right (fun h=>Nat.le_trans HO2.out.size h)⟩
   have:=HSy.out.readers 0
   rw[HD.out]
   exact this
  ·have hkdi:((t.kind:Int)==0)=false:=beq_eq_false_iff_ne.2 (by omega)
   go_wp2_with fail
   have hRR:ansF σ l=askF σ m t k body:=by
    unfold ansF
    rw[hrd]
    simp only
    rw[if_neg hkd]
   obtain⟨rr,hrr⟩:∃ x,askF σ m t k body=x:=⟨_,rfl⟩
   rw[hrr] at hRR
   have HD:Hid (doF σ l=(textF rr.1.told rr.1.flds rr.1.body,rr.2)):=by
    show _=_
    unfold doF
    rw[hRR]
   rw[hRR] at hAns
   have hok:=read_ok hrd
   have hdr:Below w2.heap.size w2 w2.drew:=(Below.refl _ _).drew
   have hMgl:M.g<w.heap.size:=own_lt HH.out (Or.inr (Or.inl rfl))
   have hak:=askKey_any m t c body w2.drew (HS2.out.below hdr) rfl k g0 (HR2.out.below (by omega) hdr) (by show g0<=w2.heap.size;omega) (by omega) (hT2.below hdr) hHi (hok.1 hkd) hok.2.2.2 (by have:=hok.2.2.1;omega) hlog
   unfold reqV at hak
   rw[e1,e2,hrr] at hak
   have HAK:Hid _:=hak
   clear hak hrr hRR hok
   refine wp_region_noPanic ?_
   refine wp_region_held_drew (S:=(fun y=>y.heap[w1.heap.size]?=some (.cells #[.int .i64 (m:Int),.int .i64 (t.kind:Int),.string ⟨t.key.toArray⟩,.int .i64 (t.num:Int),.bool (isW m),.bool c.hm,.bool c.am,.slice a1 m1 p1,.bool c.hn,.bool c.an,.slice a2 m2 p2,.bool c.hs,.int .i64 c.si,.bool c.hu,.int .i64 c.ul,.bool false,.string ⟨#[]⟩,.int .i64 0,.string ⟨body.toArray⟩] 95 (0,0)))) (by kernel_rfl) HQ2.out (fun hHeld=>?_)
   refine tkH 0 rfl (by kernel_rfl) (fun _ _ _ h=>h) (Or.inl ⟨by rfl,fun y hSw=>by go_simp;try with_reducible rfl⟩) hHeld ?_
   try simp only[Act.put]
   refine tkH 1 rfl (by kernel_rfl) (fun _ _ _ h=>h) (yields_row (by rfl) 95 (.tmp 5) rfl w1.heap.size rfl 95 #[.int .i64 (m:Int),.int .i64 (t.kind:Int),.string ⟨t.key.toArray⟩,.int .i64 (t.num:Int),.bool (isW m),.bool c.hm,.bool c.am,.slice a1 m1 p1,.bool c.hn,.bool c.an,.slice a2 m2 p2,.bool c.hs,.int .i64 c.si,.bool c.hu,.int .i64 c.ul,.bool false,.string ⟨#[]⟩,.int .i64 0,.string ⟨body.toArray⟩] (0,0) _ (fun y hy=>hy) Tryz.underlying95 rfl hi77) hHeld ?_
   try simp only[Act.put]
   refine tkH 2 rfl (by kernel_rfl) (fun _ _ _ h=>h) (Or.inl ⟨by rfl,fun y hSw=>by go_simp;try with_reducible rfl⟩) hHeld ?_
   try simp only[Act.put]
   refine tkH 3 rfl (by kernel_rfl) (fun _ _ _ h=>h) (Or.inl ⟨by rfl,fun y hSw=>by go_simp;try with_reducible rfl⟩) hHeld ?_
   try simp only[Act.put]
   refine tkH 4 rfl (by kernel_rfl) (fun _ _ _ h=>h) (Or.inl ⟨by rfl,fun y hSw=>by go_simp;try with_reducible rfl⟩) hHeld ?_
   try simp only[Act.put]
   refine tkH 5 rfl (by kernel_rfl) (fun _ _ _ h=>h) (Or.inl ⟨by rfl,fun y hSw=>by go_simp;try with_reducible rfl⟩) hHeld ?_
   try simp only[Act.put]
   refine wpAnyH_ready (rs:=[6]) (by kernel_rfl) (by simp) ?_
   refine AllReadyH.cons rfl (fun K hK=>?_) AllReadyH.nil
   go_simp
   refine Calls.mono HAK.out ?_
   rintro e w3 ⟨fs,M',rfl,hrow,hSt,hOf,hOw⟩
   have hOf:Off (M.own s n) w2 w3:=⟨hOf.os,hOf.tape,hOf.output,hOf.size,hOf.block⟩
   have hQ3:w3.heap[w1.heap.size]?=some (.cells #[.int .i64 (m:Int),.int .i64 (t.kind:Int),.string ⟨t.key.toArray⟩,.int .i64 (t.num:Int),.bool (isW m),.bool c.hm,.bool c.am,.slice a1 m1 p1,.bool c.hn,.bool c.an,.slice a2 m2 p2,.bool c.hs,.int .i64 c.si,.bool c.hu,.int .i64 c.ul,.bool false,.string ⟨#[]⟩,.int .i64 0,.string ⟨body.toArray⟩] 95 (0,0)):=(hOf.block _ (by omega) (fun ho=>own_typedQ HS2.out ho HQ2.out)).trans HQ2.out
   have hT3:Tbl w3:=hT2.off hOf hHi
   try go_wp2_with fail
   refine hK.out _ _ hQ3 (fun hHeld=>?_)
   clear hK K
   try simp only[Act.put]
   refine wpAnyH_ready (rs:=[7]) (by kernel_rfl) (by simp) ?_
   refine AllReadyH.cons rfl (fun K hK=>?_) AllReadyH.nil
   go_simp
   refine (text_any rr.1.told fs rr.1.flds rr.1.body w3 hT3.b hAns.1 hrow hAns.2.1 hAns.2.2.1 hAns.2.2.2).mono ?_
   rintro e y ⟨rfl,hby⟩
   have hSy:StoreAt y s n 1 (fun _=>0) rr.2 M':=hSt.below hby
   have u0:y.cell? ⟨s,0,none⟩=some (.int .i32 0):=by simp[World.cell?,hSy.blk,storeCells]
   have u2:y.cell? ⟨s,2,none⟩=some (.int .u32 0):=by simp[World.cell?,hSy.blk,storeCells]
   have u4:y.cell? ⟨s,4,none⟩=some (.int .i32 1):=by simp[World.cell?,hSy.blk,storeCells]
   have uf:y.frozen? ⟨s,4,none⟩=false:=by simp[World.frozen?,hSy.blk]
   have HSy:Hid _:=hSy
   have HOy:Hid (Off (M.own s n) w y):=(HO2.out.trans hOf).trans (Off.of_below hby)
   have HOw:Hid _:=hOw
   clear hSy
   try go_wp2_with fail
   refine hK.out _ _ ((hby.block _ (Array.getElem?_eq_some_iff.1 hQ3).1).trans hQ3) (fun hHeld=>?_)
   clear hK K
   try simp only[Act.put]
   refine wpAnyH_ready (rs:=[8]) (by kernel_rfl) (by simp) ?_
   refine AllReadyH.cons rfl (fun K hK=>?_) AllReadyH.nil
   go_simp
   refine hK.out _ _ ((hby.block _ (Array.getElem?_eq_some_iff.1 hQ3).1).trans hQ3) (fun hHeld=>?_)
   clear hK K
   try simp only[Act.put]
   refine wpAnyH_done (by kernel_rfl) ?_ _
   refine NoPanic.normal ?_
   go_wp2
   refine leaves_cons (f:=44) (args:=#[.pointer (some ⟨s,0,none⟩)]) (by simp) (by simp[go_sem]) ?_
   refine (Go.RwLone.runlock_deferred Tryz.rwRLib s 0 1 _ _ .returning _ u0 u2 u4 uf (by rw[wrap_down];decide)).mono ?_
   rintro e u' w'' ⟨rfl,rfl,hw''⟩
   rw[wrap_down,Nat.zero_add] at hw''
   subst hw''
   refine⟨_,results_tmp rfl _ _ _,by rw[HD.out];rfl,M',?_,HOy.out.set s 4 _ (Or.inl (Or.inl rfl)),fun k hk=>(HOw.out k hk).imp_right (fun h=>Nat.le_trans HO2.out.size h)⟩
   have:=HSy.out.readers 0
   rw[HD.out]
   exact this
 ·have HD:Hid (doF σ l=(textF nn [] [],σ)):=by
   show _=_
   unfold doF ansF
   rw[hrd]
  have hn1:=read_no hrd
  have hn0:nn≠0:=read_no0 hrd
  have hni:((nn:Int)==0)=false:=beq_eq_false_iff_ne.2 (by omega)
  have HB1:Hid _:=hb1
  clear hb1
  go_wp2_with (first|(refine wpList_store_row rfl 95 (.tmp 5) (.tmp 10) rfl w1.heap.size #[.int .i64 0,.int .i64 0,.string ⟨#[]⟩,.int .i64 0,.bool false,.bool false,.bool false,.slice none 0 0,.bool false,.bool false,.slice none 0 0,.bool false,.int .i64 0,.bool false,.int .i64 0,.bool false,.string ⟨#[]⟩,.int .i64 0,.string ⟨#[]⟩] rfl rfl 95 #[.int .i64 0,.int .i64 0,.string ⟨#[]⟩,.int .i64 0,.bool false,.bool false,.bool false,.slice none 0 0,.bool false,.bool false,.slice none 0 0,.bool false,.int .i64 0,.bool false,.int .i64 0,.bool false,.string ⟨#[]⟩,.int .i64 0,.string ⟨#[]⟩] (heap_alloc_last _ _) hi77 rfl allZ ?_;rw[World.setRow_alloc_new]))
  generalize (Value.agg #[.int .i64 0,.int .i64 0,.string ⟨#[]⟩,.int .i64 0,.bool false,.bool false,.bool false,.slice none 0 0,.bool false,.bool false,.slice none 0 0,.bool false,.int .i64 0,.bool false,.int .i64 0,.bool false,.string ⟨#[]⟩,.int .i64 0,.string ⟨#[]⟩])=Qv
  have hbX:Below w.heap.size w (w1.alloc (.cells #[.int .i64 0,.int .i64 0,.string ⟨#[]⟩,.int .i64 0,.bool false,.bool false,.bool false,.slice none 0 0,.bool false,.bool false,.slice none 0 0,.bool false,.int .i64 0,.bool false,.int .i64 0,.bool false,.string ⟨#[]⟩,.int .i64 0,.string ⟨#[]⟩] 95)):=HB1.out.alloc HB1.out.size _
  refine (refuse_any nn _).mono ?_
  rintro e w2 ⟨rfl,hb2⟩
  have HB2:Hid (Below w.heap.size w w2):=hbX.trans (hb2.mono hbX.size)
  clear hb2 hbX
  go_wp2_with fail
  refine (text_any nn (.slice none 0 0) [] [] w2 (hT.below HB2.out).b (by omega) ⟨rfl,Or.inl ⟨rfl,rfl⟩⟩ (by simp) (fun f hf=>by simp at hf) (by simp)).mono ?_
  rintro e y ⟨rfl,hby⟩
  have HBy:Hid (Below w.heap.size w y):=HB2.out.trans (hby.mono HB2.out.size)
  clear hby
  go_wp2
  refine⟨_,results_tmp rfl _ _ _,by rw[HD.out];rfl,M,?_,Off.of_below HBy.out,fun k hk=>Or.inl hk⟩
  rw[HD.out]
  exact HH.out.below HBy.out
end Go.Proofs.YtmehkneofinmiaaGreatDoor
namespace Go.Proofs.YtmehkneofinmiaaGreatDoor
theorem drop_behind {l:List Ent}{t:List UInt8}{d:Nat}(h:IsBehind (l.map Ent.key) t d):l.drop d=l.filter fun E=>cmpB E.key t==1:=by
 have h1:(l.take d).filter (fun E=>cmpB E.key t==1)=[]:=by
  rw[List.filter_eq_nil_iff]
  intro E hE hc
  obtain⟨j,hj,rfl⟩:=List.mem_iff_getElem.1 hE
  rw[List.length_take] at hj
  have:=h.lo j (l[j]'(by omega)).key (by omega) (by rw[List.getElem?_map,List.getElem?_eq_getElem (by omega)];rfl)
  rw[List.getElem_take] at hc
  simp at hc
  omega
 have h2:(l.drop d).filter (fun E=>cmpB E.key t==1)=l.drop d:=by
  rw[List.filter_eq_self]
  intro E hE
  obtain⟨j,hj,rfl⟩:=List.mem_iff_getElem.1 hE
  rw[List.length_drop] at hj
  have:=h.hi (d+j) (l[d+j]'(by omega)).key (by omega) (by rw[List.getElem?_map,List.getElem?_eq_getElem (by omega)];rfl)
  rw[List.getElem_drop]
  simp[this]
 have h3:l.filter (fun E=>cmpB E.key t==1)=(l.take d++l.drop d).filter (fun E=>cmpB E.key t==1):=by rw[List.take_append_drop]
 rw[h3,List.filter_append,h1,h2]
 rfl
theorem parts_perm (L:List Ent)(f:Ent->Nat):∀ n,((List.range n).flatMap fun j=>L.filter fun E=>f E==j).Perm (L.filter fun E=>decide (f E<n))
 | 0=>by simp
 | n+1=>by
   rw[List.range_succ,List.flatMap_append]
   have h:=List.filter_append_perm (fun E=>decide (f E<n)) (L.filter fun E=>decide (f E<n+1))
   rw[List.filter_filter,List.filter_filter] at h
   have e1:(L.filter fun E=>decide (f E<n)&&decide (f E<n+1))=L.filter fun E=>decide (f E<n):=by
    apply List.filter_congr
    intro E _
    by_cases hx:f E<n
    ·simp[hx,Nat.lt_succ_of_lt hx]
    ·simp[hx]
   have e2:(L.filter fun E=>!decide (f E<n)&&decide (f E<n+1))=L.filter fun E=>f E==n:=by
    apply List.filter_congr
    intro E _
    rw[Bool.eq_iff_iff]
    simp
    omega
   rw[e1,e2] at h
   refine List.Perm.trans ?_ h
   have e3:(List.flatMap (fun j=>List.filter (fun E=>f E==j) L) [n])=L.filter fun E=>f E==n:=by simp
   rw[e3]
   exact (parts_perm L f n).append_right _
theorem perm_rise {a b:List Ent}(hp:a.Perm b)(ha:a.Pairwise fun x y=>leB x.key y.key)(hb:RiseL b):a=b:=by
 induction b generalizing a with
 | nil=>exact List.Perm.eq_nil hp
 | cons y b ih =>
   have ⟨hb1,hb2⟩:=List.pairwise_cons.1 hb
   cases a with
   | nil=>exact absurd hp.symm.eq_nil (by simp)
   | cons x a =>
     have ⟨ha1,ha2⟩:=List.pairwise_cons.1 ha
     have hxy:x=y:=by
      have hx:x∈y::b:=hp.mem_iff.1 List.mem_cons_self
      rcases List.mem_cons.1 hx with h|h
      ·exact h
      ·have h1:=hb1 x h
       have hy:y∈x::a:=hp.mem_iff.2 List.mem_cons_self
       rcases List.mem_cons.1 hy with h'|h'
       ·exact h'.symm
       ·have h2:=ha1 y h'
        unfold leB at h2
        rw[cmpB_swap,h1] at h2
        omega
     subst hxy
     rw[ih ((List.perm_cons x).1 hp) ha2 hb2]
end Go.Proofs.YtmehkneofinmiaaGreatDoor
namespace Go.Proofs.YtmehkneofinmiaaGreatDoor
open Go.RowKit Go.MuLone
theorem infoStp:(Tryz.prog.info? 164).map (fun i=>(i.zero,i.size,i.bytes))=some (some (.agg #[.int .i32 0,.int .u32 0,.slice none 0 0]),3,32):=by kernel_rfl
def st0:St:=⟨0,[],[]⟩
theorem new_no (n:Int)(w:World)(h:n<1\/8<n):Calls Tryz.prog 28 #[.int .i64 n] w fun e w'=>e=.returned (.tuple #[.pointer none,.int .i64 1])/\w'=w:=by
 rcases h with h|h
 ·go_enter Tryz.func28,Tryz.ntmps28
  go_wp2
  refine bodyPost_ret (results_tmp2 rfl _ _ _) rfl ?_
  exact⟨rfl,rfl⟩
 ·have h1:¬ n<1:=by omega
  go_enter Tryz.func28,Tryz.ntmps28
  go_wp2
  refine bodyPost_ret (results_tmp2 rfl _ _ _) rfl ?_
  exact⟨rfl,rfl⟩
theorem made3 (a b c:Value)(n i:Nat)(h:i<n):(madeCells #[a,b,c] (n*3))[i*3]?=some a/\(madeCells #[a,b,c] (n*3))[i*3+2]?=some c:=by
 have r1:(Array.range (n*3))[i*3]?=some (i*3):=by rw[Array.getElem?_range];simp;omega
 have r2:(Array.range (n*3))[i*3+2]?=some (i*3+2):=by rw[Array.getElem?_range,if_pos (by omega)]
 have h1:i*3%3=0:=by omega
 have h2:(i*3+2)%3=2:=by omega
 constructor
 ·unfold madeCells
  rw[Array.getElem?_map,r1,Option.map_some]
  show some (#[a,b,c][i*3%3]!)=_
  rw[h1]
  rfl
 ·unfold madeCells
  rw[Array.getElem?_map,r2,Option.map_some]
  show some (#[a,b,c][(i*3+2)%3]!)=_
  rw[h2]
  rfl
theorem new_yes (n:Nat)(w:World)(h1:1<=n)(h8:n<=8):Calls Tryz.prog 28 #[.int .i64 n] w fun e w'=>∃ s M,e=.returned (.tuple #[.pointer (some ⟨s,0,none⟩),.int .i64 0])/\StoreAt w' s n 0 (fun _=>0) st0 M/\Below w.heap.size w w'/\∀ k,M.own s n k->w.heap.size<=k:=by
 have i1:¬ (n:Int)<1:=by omega
 have i8:¬ (8:Int)<(n:Int):=by omega
 obtain⟨i0,hi0,hz0,hz1,hz2⟩:=info_parts infoStp
 have hmk:=run_makeSlice (P:=Tryz.prog) w 114 164 i0 _ Tryz.underlying114 hi0 hz0 .i64 .i64 n n (by omega) (by omega) (by rw[hz1];omega) (by rw[hz2];omega) (by omega)
 rw[hz1] at hmk
 simp only[Int.toNat_natCast] at hmk
 obtain⟨cs,hcs⟩:∃ x,madeCells (Value.agg #[.int .i32 0,.int .u32 0,.slice none 0 0]).cells (n*3)=x:=⟨_,rfl⟩
 rw[hcs] at hmk
 have HCS:Hid _:=hcs
 clear hcs
 go_enter Tryz.func28,Tryz.ntmps28
 go_wp2
 refine bodyPost_ret (results_tmp2 rfl _ _ _) rfl ?_
 refine⟨w.heap.size+1,rfl,⟨w.heap.size,n,fun _=>.slice none 0 0,fun _=>[],fun _=>⟨[],0,[]⟩,fun _=>.slice none 0 0,.slice none 0 0⟩,⟨h1,h8,?_,⟨cs,(heap_alloc_old _ _ (by simp)).trans (heap_alloc_new _ _),fun i hi=>?_⟩,fun i _=>⟨⟨⟨rfl,Or.inl ⟨rfl,rfl⟩⟩,rfl,fun a p k hp=>by simp at hp,fun p hp=>by simp at hp⟩,fun q hq=>by simp at hq⟩,fun i _ p hp=>by simp at hp,fun i _=>rfl,⟨rfl,Or.inl ⟨rfl,rfl⟩⟩,fun i j _ _ _ b hb=>by simp[Value.ownBlock] at hb,fun i j p q _ _ hp=>by simp at hp,List.Pairwise.nil,fun E hE=>by simp[st0] at hE,by simp[st0],by simp[st0],fun E hE=>by simp[st0] at hE⟩,?_,?_⟩
 ·have:=heap_alloc_new (w.alloc (.cells cs 164)) (.cells (storeCells 0 w.heap.size n n 0 0 (.slice none 0 0)) 119)
  rw[World.size_alloc] at this
  exact this
 ·have:=made3 (.int .i32 0) (.int .u32 0) (.slice none 0 0) n i hi
  rw[<- HCS.out]
  exact this
 ·exact ((Below.refl _ _).alloc (Nat.le_refl _) _).alloc (by simp) _
 ·intro k
  rintro (e|e|⟨i,_,hb⟩|⟨i,_,hb⟩|⟨i,p,_,hp,_⟩|hb)
  ·omega
  ·change k=w.heap.size at e
   omega
  ·simp[Value.ownBlock] at hb
  ·simp at hb
  ·simp at hp
  ·simp[Value.ownBlock] at hb
theorem StoreAt.cmn {w:World}{s n:Nat}{rd:Int}{lk:Nat->Int}{σ:St}{M:Mem}(h:StoreAt w s n rd lk σ M):Cmn w s 7 σ.time σ.ents.length:=cmn_of h.blk rfl rfl rfl
theorem clock_any {s n:Nat}{rd:Int}{lk:Nat->Int}{σ:St}{M:Mem}(w:World)(h:StoreAt w s n rd lk σ M):Calls Tryz.prog 35 #[.pointer (some ⟨s,0,none⟩)] w fun e w'=>e=.returned (.int .i64 σ.time)/\w'=w:=by
 go_enter Tryz.func35,Tryz.ntmps35
 go_wp2_with fail
 refine (now_any s 7 σ.time σ.ents.length _ h.cmn).mono ?_
 rintro e w1 ⟨rfl,rfl⟩
 go_wp2
 go_ret
 exact⟨rfl,rfl⟩
theorem StoreAt.tick {w:World}{s n:Nat}{rd:Int}{lk:Nat->Int}{σ:St}{M:Mem}(h:StoreAt w s n rd lk σ M)(t:Nat)(ht:t<=253402300799):StoreAt (w.setCell ⟨s,9,none⟩ (.int .i64 (t:Int))) s n rd lk ⟨t,σ.ents,σ.log⟩ M:=by
 have ho:Off (fun k=>k=s) w (w.setCell ⟨s,9,none⟩ (.int .i64 (t:Int))):=(Off.refl (fun k=>k=s) w).set s 9 _ (Or.inl rfl)
 obtain⟨cs,hc,hr⟩:=h.row
 exact⟨h.n1,h.n8,heap_set h.blk,⟨cs,(ho.block _ (Array.getElem?_eq_some_iff.1 hc).1 (ne_of_types hc h.blk (by decide))).trans hc,hr⟩,
  fun j hj=>(h.kt j hj).off ho (fun b hb e=>own_far (h.kt j hj).k.row h.blk (by decide) (e ▸ hb)) (fun q hq e=>by obtain⟨cq,hq'⟩:=(h.kt j hj).t q hq;exact ne_of_types hq' h.blk (by decide) e),
  fun j hj p hp=>(h.ent j hj p hp).off ho (fun e=>ne_of_types (h.ent j hj p hp).blk h.blk (by decide) e) (fun b hb e=>own_far (h.ent j hj p hp).row h.blk (by decide) (e ▸ hb)),
  h.lst,Byt.off (base:=0) h.jrn ho (fun b hb e=>own_far h.jrn h.blk (by decide) (e ▸ hb)),h.des,h.dvs,h.rise,h.ok,h.many,ht,h.lastB⟩
theorem tick_yes {s n:Nat}{lk:Nat->Int}{σ:St}{M:Mem}(d:Nat)(w:World)(h:StoreAt w s n 0 lk σ M)(hd:σ.time+d<=253402300799) :
 Calls Tryz.prog 33 #[.pointer (some ⟨s,0,none⟩),.int .i64 d] w fun e w'=>e=.returned (.int .i64 0)/\StoreAt w' s n 0 lk ⟨σ.time+d,σ.ents,σ.log⟩ M/\Off (fun k=>k=s) w w':=by
 have x0:w.cell? ⟨s,0,none⟩=some (.int .i32 0):=by simp[World.cell?,h.blk,storeCells]
 have x3:w.cell? ⟨s,3,none⟩=some (.int .u32 0):=by simp[World.cell?,h.blk,storeCells]
 have x4:w.cell? ⟨s,4,none⟩=some (.int .i32 0):=by simp[World.cell?,h.blk,storeCells]
 have xf:w.frozen? ⟨s,4,none⟩=false:=by simp[World.frozen?,h.blk]
 have HH:Hid _:=h
 clear h
 go_enter_defers Tryz.func33,Tryz.ntmps33
 go_wp2_with fail
 refine (Go.RwLone.rlock_open Tryz.rwRLib s 0 0 _ _ w x0 x3 x4 xf (by rw[wrap_up];decide)).mono ?_
 rintro e w2 ⟨rfl,hw2⟩
 rw[wrap_up,Nat.zero_add] at hw2
 have hS2:StoreAt w2 s n 1 lk σ M:=by rw[hw2];exact HH.out.readers 1
 have hO2:Off (fun k=>k=s) w w2:=by rw[hw2];exact (Off.refl (fun k=>k=s) _).set s 4 _ (Or.inl rfl)
 have HS2:Hid _:=hS2
 have HO2:Hid _:=hO2
 clear hw2 hS2 hO2 x0 x3 x4 xf
 go_wp2_with fail
 refine (pass_yes s 7 σ.time σ.ents.length d _ HS2.out.cmn (by omega) (by omega) (by omega) (by omega)).mono ?_
 rintro e y ⟨rfl,hy0⟩
 have hy:y=w2.setCell ⟨s,9,none⟩ (.int .i64 ((σ.time+d:Nat):Int)):=hy0
 clear hy0
 have hSy:StoreAt y s n 1 lk ⟨σ.time+d,σ.ents,σ.log⟩ M:=by rw[hy];exact HS2.out.tick (σ.time+d) hd
 have u0:y.cell? ⟨s,0,none⟩=some (.int .i32 0):=by simp[World.cell?,hSy.blk,storeCells]
 have u2:y.cell? ⟨s,2,none⟩=some (.int .u32 0):=by simp[World.cell?,hSy.blk,storeCells]
 have u4:y.cell? ⟨s,4,none⟩=some (.int .i32 1):=by simp[World.cell?,hSy.blk,storeCells]
 have uf:y.frozen? ⟨s,4,none⟩=false:=by simp[World.frozen?,hSy.blk]
 have HSy:Hid _:=hSy
 have HOy:Hid (Off (fun k=>k=s) w y):=by rw[hy];exact HO2.out.set s 9 _ (Or.inl rfl)
 clear hSy hy
 go_wp2
 refine leaves_cons (f:=44) (args:=#[.pointer (some ⟨s,0,none⟩)]) (by simp) (by simp[go_sem]) ?_
 refine (Go.RwLone.runlock_deferred Tryz.rwRLib s 0 1 _ _ .returning _ u0 u2 u4 uf (by rw[wrap_down];decide)).mono ?_
 rintro e u' w'' ⟨rfl,rfl,hw''⟩
 rw[wrap_down,Nat.zero_add] at hw''
 subst hw''
 exact⟨_,results_tmp rfl _ _ _,rfl,HSy.out.readers 0,HOy.out.set s 4 _ (Or.inl rfl)⟩
theorem tick_no {s n:Nat}{lk:Nat->Int}{σ:St}{M:Mem}(d:Int)(w:World)(h:StoreAt w s n 0 lk σ M)(hd:d<0\/253402300799-(σ.time:Int)<d) :
 Calls Tryz.prog 33 #[.pointer (some ⟨s,0,none⟩),.int .i64 d] w fun e w'=>e=.returned (.int .i64 1)/\StoreAt w' s n 0 lk σ M/\Off (fun k=>k=s) w w':=by
 have x0:w.cell? ⟨s,0,none⟩=some (.int .i32 0):=by simp[World.cell?,h.blk,storeCells]
 have x3:w.cell? ⟨s,3,none⟩=some (.int .u32 0):=by simp[World.cell?,h.blk,storeCells]
 have x4:w.cell? ⟨s,4,none⟩=some (.int .i32 0):=by simp[World.cell?,h.blk,storeCells]
 have xf:w.frozen? ⟨s,4,none⟩=false:=by simp[World.frozen?,h.blk]
 have HH:Hid _:=h
 clear h
 go_enter_defers Tryz.func33,Tryz.ntmps33
 go_wp2_with fail
 refine (Go.RwLone.rlock_open Tryz.rwRLib s 0 0 _ _ w x0 x3 x4 xf (by rw[wrap_up];decide)).mono ?_
 rintro e w2 ⟨rfl,hw2⟩
 rw[wrap_up,Nat.zero_add] at hw2
 have hS2:StoreAt w2 s n 1 lk σ M:=by rw[hw2];exact HH.out.readers 1
 have hO2:Off (fun k=>k=s) w w2:=by rw[hw2];exact (Off.refl (fun k=>k=s) _).set s 4 _ (Or.inl rfl)
 have HS2:Hid _:=hS2
 have HO2:Hid _:=hO2
 clear hw2 hS2 hO2 x0 x3 x4 xf
 go_wp2_with fail
 refine (pass_no s 7 σ.time σ.ents.length d _ HS2.out.cmn (by omega) (by have:=HH.out.time;omega) hd).mono ?_
 rintro e y ⟨rfl,hy⟩
 rw[hy]
 clear hy y
 have hSy:StoreAt w2 s n 1 lk σ M:=HS2.out
 have u0:w2.cell? ⟨s,0,none⟩=some (.int .i32 0):=by simp[World.cell?,hSy.blk,storeCells]
 have u2:w2.cell? ⟨s,2,none⟩=some (.int .u32 0):=by simp[World.cell?,hSy.blk,storeCells]
 have u4:w2.cell? ⟨s,4,none⟩=some (.int .i32 1):=by simp[World.cell?,hSy.blk,storeCells]
 have uf:w2.frozen? ⟨s,4,none⟩=false:=by simp[World.frozen?,hSy.blk]
 have HSy:Hid _:=hSy
 have HOy:Hid (Off (fun k=>k=s) w w2):=HO2.out
 clear hSy
 go_wp2
 refine leaves_cons (f:=44) (args:=#[.pointer (some ⟨s,0,none⟩)]) (by simp) (by simp[go_sem]) ?_
 refine (Go.RwLone.runlock_deferred Tryz.rwRLib s 0 1 _ _ .returning _ u0 u2 u4 uf (by rw[wrap_down];decide)).mono ?_
 rintro e u' w'' ⟨rfl,rfl,hw''⟩
 rw[wrap_down,Nat.zero_add] at hw''
 subst hw''
 exact⟨_,results_tmp rfl _ _ _,rfl,HSy.out.readers 0,HOy.out.set s 4 _ (Or.inl rfl)⟩
end Go.Proofs.YtmehkneofinmiaaGreatDoor

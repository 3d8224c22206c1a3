/-part 28-/
import Derived.Test.YtmehkneofinmiaaGreatDoorP25
import Derived.Test.YtmehkneofinmiaaGreatDoorP26
import Derived.Test.YtmehkneofinmiaaGreatDoorP27
set_option maxRecDepth 100000
set_option maxHeartbeats 8000000
namespace Go.Proofs.YtmehkneofinmiaaGreatDoor
open Go.RowKit Go.MuLone
theorem sF {P:Program}{ops:Array Oper}{S:World->Prop}{op:Oper}{a:Act}(hw:Region.wanted op (yielded ops a.tmps)=true)(ty:TypeId)(x:Operand)(ho:op.op=.load ty x)
 (g:Nat)(hx:a.eval x=.pointer (some ⟨g,0,none⟩))(t:TypeId)(cs:Array Value)(fr:Nat×Nat)(d:TypeDesc)(hS:∀ w:World,S w->w.heap[g]?=some (.cells cs t fr))
 (hu:P.underlying ty=some d)(hd:(match d with|.struct _|.array _ _=>true|_=>false)=true)(hi:(P.info? ty).map (·.size)=some cs.size):YieldsIf P ops S op (.agg cs) a :=
 .inl ⟨hw,λ w hw'=>by
  unfold execOp
  simp only[ho,hx,Instr.loadAt,Instr.sureAddr,Sem.run_bind,Sem.run_pure,Result.andThen_ok,run_loadVar_row w g t ty cs fr d (hS w hw') hu hd hi]⟩
theorem rY {w:World}{s n:Nat}{rd:Int}{lk:Nat->Int}{σ:St}{M:Mem}(h:ak w s n rd lk σ M){k:Nat}(hk:M.own s n k){c:Array Value}{f:Nat×Nat}:w.heap[k]?≠some (.cells c 95 f):=by
 intro e;rcases hk with rfl|rfl|⟨i,hi,hb⟩|⟨i,hi,hb⟩|⟨i,p,hi,hp,hb⟩|hb
 ·exact ad h.blk e (by decide) rfl
 ·obtain⟨cs,hc,_⟩:=h.row;exact ad hc e (by decide) rfl
 ·exact ai (h.kt i hi).k.row e (by decide) hb
 ·exact ad (h.ent i hi k hb).blk e (by decide) rfl
 ·exact ai (h.ent i hi p hp).row e (by decide) hb
 ·exact ai h.jrn e (by decide) hb
def Ah (a:Ans):Prop:=a.told<100000/\a.flds.length<1000/\(∀ f∈a.flds,f.name.length<1000/\f.value.length<1000)/\a.body.length<1000000
theorem ak.readers {w:World}{s n:Nat}{rd:Int}{lk:Nat->Int}{σ:St}{M:Mem}(h:ak w s n rd lk σ M)(r:Int):ak (w.setCell ⟨s,4,none⟩ (.int .i32 r)) s n r lk σ M:=by
 have ho:Off (λ k=>k=s) w (w.setCell ⟨s,4,none⟩ (.int .i32 r)):=(Off.refl (λ k=>k=s) w).set s 4 _ (Or.inl rfl);obtain⟨cs,hc,hr⟩:=h.row
 refine⟨h.n1,h.n8,ah h.blk,⟨cs,(ho.block _ (gL hc) (ad hc h.blk (by decide))).trans hc,hr⟩,
  λ j hj=>(h.kt j hj).off ho (λ b hb e=>ai (h.kt j hj).k.row h.blk (by decide) (e ▸ hb)) (λ q hq e=>by obtain⟨cq,A0⟩:=(h.kt j hj).t q hq;exact ad A0 h.blk (by decide) e),
  λ j hj p hp=>(h.ent j hj p hp).off ho (λ e=>ad (h.ent j hj p hp).blk h.blk (by decide) e) (λ b hb e=>ai (h.ent j hj p hp).row h.blk (by decide) (e ▸ hb)),
  h.lst,Byt.off (base:=0) h.jrn ho (λ b hb e=>ai h.jrn h.blk (by decide) (e ▸ hb)),h.des,h.dvs,h.rise,h.ok,h.many,h.time,h.lastB⟩
theorem lN:wrap32 (0+1)=1:=by simp[wrap32]
theorem eX:wrap32 (1 + -1)=0:=by simp[wrap32]
def bE (σ:St)(after:List UInt8):List (List UInt8×List UInt8):=(σ.ents.filter λ E=>aE E.key after==1).filterMap λ E=>(aU E).map λ v=>(E.key,v.body)
def el (σ:St)(after:List UInt8):Ans:=⟨200,if 50<(bE σ after).length then [uP (dB ((bE σ after).take 50))] else [],bU ((bE σ after).take 50)⟩
def xX:Prop:=∀ {s n:Nat} {rd:Int} {σ:St} {M:Mem} (after:List UInt8) (w:World),ak w s n rd (λ _=>0) σ M->Tbl w->(∀ k,M.own s n k->ju k)->after.length<1000000 ->
 Calls Tryz.prog 45 #[.pointer (some ⟨s,0,none⟩),.string ⟨after.toArray⟩] w λ e w'=>Done w w' e s n rd (λ _=>0) M (el σ after,σ)
noncomputable def gQ (σ:St)(l:List UInt8):Ans×St:=match bM l with
 | .error n=>(⟨n,[],[]⟩,σ)
 | .ok (m,t,k,body)=>if t.kind=0 then (el σ t.key,σ) else eP σ m t k body
noncomputable def doF (σ:St)(l:List UInt8):List UInt8×St:=(ap (gQ σ l).1.told (gQ σ l).1.flds (gQ σ l).1.body,(gQ σ l).2)
theorem Ap {s n:Nat}{σ:St}{M:Mem}(l:List UInt8)(w:World)(h:ak w s n 0 (λ _=>0) σ M)(hM:bP w)(hT:Tbl w)(hHi:∀ k,M.own s n k->ju k)(hlog:σ.log.length<140000000000000)(hLI:xX)(hAns:Ah (gQ σ l).1)(hl:l.length<=9223372036854775807) :
 Calls Tryz.prog 15 #[.pointer (some ⟨s,0,none⟩),.string ⟨l.toArray⟩] w λ e w'=>e=.returned (.string ⟨(doF σ l).1.toArray⟩)/\∃ M',ak w' s n 0 (λ _=>0) (doF σ l).2 M'/\Off (M.own s n) w w'/\∀ k,M'.own s n k->M.own s n k\/w.heap.size<=k:=by
 have HH:Hid _:=h;clear h;go_enter_defers Tryz.func15,Tryz.ntmps15;go_wp2_with fail;refine (wG BJ l w hM hl).mono ?_;rintro e w1 ⟨Af,⟨m,t,k,body,c,g0,A7,rfl,Bj,Bf,rq⟩|⟨nn,A7,rfl⟩⟩
 ·obtain⟨a1,m1,p1,e1⟩:=rq.m.list.2.2.2;obtain⟨a2,m2,p2,e2⟩:=rq.n.list.2.2.2;unfold gb;rw[e1,e2];have Be:Hid _:=rq;have Ad:Hid _:=Af;clear rq Af;go_wp2_with (first|(refine wpList_store_row rfl 95 (.tmp 5) (.tmp 10) rfl w1.heap.size #[.int .i64 (m:Int),.int .i64 (t.kind:Int),.string ⟨t.key.toArray⟩,.int .i64 (t.num:Int),.bool (isW m),.bool c.hm,.bool c.am,.slice a1 m1 p1,.bool c.hn,.bool c.an,.slice a2 m2 p2,.bool c.hs,.int .i64 c.si,.bool c.hu,.int .i64 c.ul,.bool false,.string ⟨#[]⟩,.int .i64 0,.string ⟨body.toArray⟩] rfl rfl 95 #[.int .i64 0,.int .i64 0,.string ⟨#[]⟩,.int .i64 0,.bool false,.bool false,.bool false,.slice none 0 0,.bool false,.bool false,.slice none 0 0,.bool false,.int .i64 0,.bool false,.int .i64 0,.bool false,.string ⟨#[]⟩,.int .i64 0,.string ⟨#[]⟩] (heap_alloc_last _ _) dL rfl (by simp[Value.oneCell']) ?_;rw[World.setRow_alloc_new]));generalize (Value.agg #[.int .i64 (m:Int),.int .i64 (t.kind:Int),.string ⟨t.key.toArray⟩,.int .i64 (t.num:Int),.bool (isW m),.bool c.hm,.bool c.am,.slice a1 m1 p1,.bool c.hn,.bool c.an,.slice a2 m2 p2,.bool c.hs,.int .i64 c.si,.bool c.hu,.int .i64 c.ul,.bool false,.string ⟨#[]⟩,.int .i64 0,.string ⟨body.toArray⟩])=Qv;obtain⟨X,hX⟩:∃ X,X=w1.alloc (.cells #[.int .i64 (m:Int),.int .i64 (t.kind:Int),.string ⟨t.key.toArray⟩,.int .i64 (t.num:Int),.bool (isW m),.bool c.hm,.bool c.am,.slice a1 m1 p1,.bool c.hn,.bool c.an,.slice a2 m2 p2,.bool c.hs,.int .i64 c.si,.bool c.hu,.int .i64 c.ul,.bool false,.string ⟨#[]⟩,.int .i64 0,.string ⟨body.toArray⟩] 95):=⟨_,rfl⟩;rw[<- hX];(have Ac:Below w.heap.size w X:=by rw[hX];exact Ad.out.alloc Ad.out.size _);(have Am:X.heap[w1.heap.size]?=some (.cells #[.int .i64 (m:Int),.int .i64 (t.kind:Int),.string ⟨t.key.toArray⟩,.int .i64 (t.num:Int),.bool (isW m),.bool c.hm,.bool c.am,.slice a1 m1 p1,.bool c.hn,.bool c.an,.slice a2 m2 p2,.bool c.hs,.int .i64 c.si,.bool c.hu,.int .i64 c.ul,.bool false,.string ⟨#[]⟩,.int .i64 0,.string ⟨body.toArray⟩] 95 (0,0)):=by rw[hX];exact heap_alloc_new _ _);(have B5:Rq X g0 c k:=by rw[hX];exact Be.out.below Bf ((Below.refl _ _).alloc (Nat.le_refl _) _));(have Bm:w1.heap.size<X.heap.size:=by rw[hX];simp);clear hX;have Aa:=HH.out.below Ac;(have x0:X.cell? ⟨s,0,none⟩=some (.int .i32 0):=by simp[World.cell?,Aa.blk,az]);(have x3:X.cell? ⟨s,3,none⟩=some (.int .u32 0):=by simp[World.cell?,Aa.blk,az]);(have x4:X.cell? ⟨s,4,none⟩=some (.int .i32 0):=by simp[World.cell?,Aa.blk,az]);(have xf:X.frozen? ⟨s,4,none⟩=false:=by simp[World.frozen?,Aa.blk]);have Bd:s≠w1.heap.size:=ad Aa.blk Am (by decide);have B0:Hid _:=Aa;have B8:Hid _:=Am;have Az:Hid _:=Ac;have B6:Hid _:=B5;clear Aa Am Ac B5;refine (Go.RwLone.rlock_open Tryz.rwRLib s 0 0 _ _ X x0 x3 x4 xf (by rw[lN];decide)).mono ?_;rintro e w2 ⟨rfl,A6⟩;rw[lN,Nat.zero_add] at A6;(have Ag:w2.heap[w1.heap.size]?=some (.cells #[.int .i64 (m:Int),.int .i64 (t.kind:Int),.string ⟨t.key.toArray⟩,.int .i64 (t.num:Int),.bool (isW m),.bool c.hm,.bool c.am,.slice a1 m1 p1,.bool c.hn,.bool c.an,.slice a2 m2 p2,.bool c.hs,.int .i64 c.si,.bool c.hu,.int .i64 c.ul,.bool false,.string ⟨#[]⟩,.int .i64 0,.string ⟨body.toArray⟩] 95 (0,0)):=by rw[A6,ax Bd.symm];exact B8.out);(have q1:w2.cell? ⟨w1.heap.size,1,none⟩=some (.int .i64 (t.kind:Int)):=by simp[World.cell?,Ag]);(have q2:w2.cell? ⟨w1.heap.size,2,none⟩=some (.string ⟨t.key.toArray⟩):=by simp[World.cell?,Ag]);(have B2:ak w2 s n 1 (λ _=>0) σ M:=by rw[A6];exact B0.out.readers 1);(have Ai:Tbl w2:=by rw[A6];exact (hT.below Az.out).off ((Off.refl (λ k=>k=s) _).set s 4 _ (Or.inl rfl)) (λ k e=>e ▸ hHi s (Or.inl rfl)));(have B3:Rq w2 g0 c k:=by rw[A6];exact B6.out.set (by have:=gT HH.out (Or.inl rfl:M.own s n s);omega));(have B1:Off (M.own s n) w w2:=by rw[A6];exact (Off.of_below Az.out).set s 4 _ (Or.inl (Or.inl rfl)));(have Bi:X.heap.size=w2.heap.size:=by rw[A6];simp);have As:Hid _:=Ag;have Av:Hid _:=B2;have B9:Hid _:=B3;have Aj:Hid _:=B1;clear A6 Ag x0 x3 x4 xf B2 B3 B1 B0 B8 B6;by_cases hkd:t.kind=0
  ·(have Al:((t.kind:Int)==0)=true:=by rw[hkd];rfl);go_wp2_with fail;(have A5:gQ σ l=(el σ t.key,σ):=by unfold gQ;rw[A7];simp only;rw[if_pos hkd]);obtain⟨rr,Ab⟩:∃ x,(el σ t.key,σ)=x:=⟨_,rfl⟩;rw[Ab] at A5;(have HD:Hid (doF σ l=(ap rr.1.told rr.1.flds rr.1.body,rr.2)):=by show _=_;unfold doF;rw[A5]);rw[A5] at hAns;have A9:=jP A7;have Aw:=hLI t.key w2 Av.out Ai hHi (by have:=A9.2.1;omega);rw[Ab] at Aw;refine Calls.mono Aw ?_;rintro e w3 ⟨fs,M',rfl,A4,A8,A0,Ay⟩;have Au:Tbl w3:=Ai.off A0 hHi;have Ax:Hid _:=A4;have Bc:Hid _:=A0;have Ba:Hid _:=A8;clear Aw A9 A5 Ab A4 A0 A8;go_wp2_with fail;refine (lV rr.1.told fs rr.1.flds rr.1.body w3 Au.b hAns.1 Ax.out hAns.2.1 hAns.2.2.1 hAns.2.2.2).mono ?_;rintro e y ⟨rfl,A2⟩;have A8:=Ba.out;have A0:=Bc.out;have A1:ak y s n 1 (λ _=>0) rr.2 M':=A8.below A2;(have u0:y.cell? ⟨s,0,none⟩=some (.int .i32 0):=by simp[World.cell?,A1.blk,az]);(have u2:y.cell? ⟨s,2,none⟩=some (.int .u32 0):=by simp[World.cell?,A1.blk,az]);(have u4:y.cell? ⟨s,4,none⟩=some (.int .i32 1):=by simp[World.cell?,A1.blk,az]);(have uf:y.frozen? ⟨s,4,none⟩=false:=by simp[World.frozen?,A1.blk]);have At:Hid _:=A1;have Ao:Hid (Off (M.own s n) w y):=(Aj.out.trans A0).trans (Off.of_below A2);have Aq:Hid _:=Ay;clear A1;clear A8 A0 A2;go_wp2;refine leaves_cons (f:=44) (args:=#[.pointer (some ⟨s,0,none⟩)]) (by simp) (by simp[go_sem]) ?_;refine (Go.RwLone.runlock_deferred Tryz.rwRLib s 0 1 _ _ .returning _ u0 u2 u4 uf (by rw[eX];decide)).mono ?_;rintro e u' Bg ⟨rfl,rfl,A3⟩;rw[eX,Nat.zero_add] at A3;subst A3;refine⟨_,results_tmp rfl _ _ _,by rw[HD.out];rfl,M',?_,Ao.out.set s 4 _ (Or.inl (Or.inl rfl)),λ k hk=>(Aq.out k hk).imp_right (λ h=>Nat.le_trans Aj.out.size h)⟩;have:=At.out.readers 0;rw[HD.out];exact this
  ·have Al:((t.kind:Int)==0)=false:=beq_eq_false_iff_ne.2 (by omega);go_wp2_with fail;(have A5:gQ σ l=eP σ m t k body:=by unfold gQ;rw[A7];simp only;rw[if_neg hkd]);obtain⟨rr,Ab⟩:∃ x,eP σ m t k body=x:=⟨_,rfl⟩;rw[Ab] at A5;(have HD:Hid (doF σ l=(ap rr.1.told rr.1.flds rr.1.body,rr.2)):=by show _=_;unfold doF;rw[A5]);rw[A5] at hAns;have A9:=jP A7;have Ar:Below w2.heap.size w2 w2.drew:=(Below.refl _ _).drew;have Bb:M.g<w.heap.size:=gT HH.out (Or.inr (Or.inl rfl));have Ak:=sR m t c body w2.drew (Av.out.below Ar) rfl k g0 (B9.out.below (by omega) Ar) (by show g0<=w2.heap.size;omega) (by omega) (Ai.below Ar) hHi (A9.1 hkd) A9.2.2.2 (by have:=A9.2.2.1;omega) hlog;unfold gb at Ak;rw[e1,e2,Ab] at Ak;have Bh:Hid _:=Ak;clear Ak Ab A5 A9;refine wp_region_noPanic ?_;refine wp_region_held_drew (S:=(λ y=>y.heap[w1.heap.size]?=some (.cells #[.int .i64 (m:Int),.int .i64 (t.kind:Int),.string ⟨t.key.toArray⟩,.int .i64 (t.num:Int),.bool (isW m),.bool c.hm,.bool c.am,.slice a1 m1 p1,.bool c.hn,.bool c.an,.slice a2 m2 p2,.bool c.hs,.int .i64 c.si,.bool c.hu,.int .i64 c.ul,.bool false,.string ⟨#[]⟩,.int .i64 0,.string ⟨body.toArray⟩] 95 (0,0)))) (by kernel_rfl) As.out (λ hHeld=>?_);refine tkI 0 hHeld ?_;(try simp only[Act.put]);refine tkH 1 rfl (by kernel_rfl) (λ _ _ _ h=>h) (sF (by rfl) 95 (.tmp 5) rfl w1.heap.size rfl 95 #[.int .i64 (m:Int),.int .i64 (t.kind:Int),.string ⟨t.key.toArray⟩,.int .i64 (t.num:Int),.bool (isW m),.bool c.hm,.bool c.am,.slice a1 m1 p1,.bool c.hn,.bool c.an,.slice a2 m2 p2,.bool c.hs,.int .i64 c.si,.bool c.hu,.int .i64 c.ul,.bool false,.string ⟨#[]⟩,.int .i64 0,.string ⟨body.toArray⟩] (0,0) _ (λ y hy=>hy) Tryz.underlying95 rfl dL) hHeld ?_;(try simp only[Act.put]);refine tkI 2 hHeld ?_;(try simp only[Act.put]);refine tkI 3 hHeld ?_;(try simp only[Act.put]);refine tkI 4 hHeld ?_;(try simp only[Act.put]);refine tkI 5 hHeld ?_;(try simp only[Act.put]);refine rdI 6 (λ K hK=>?_);go_simp;refine Calls.mono Bh.out ?_;rintro e w3 ⟨fs,M',rfl,A4,A8,A0,Ay⟩;have A0:Off (M.own s n) w2 w3:=⟨A0.os,A0.tape,A0.output,A0.size,A0.block⟩;have Ae:w3.heap[w1.heap.size]?=some (.cells #[.int .i64 (m:Int),.int .i64 (t.kind:Int),.string ⟨t.key.toArray⟩,.int .i64 (t.num:Int),.bool (isW m),.bool c.hm,.bool c.am,.slice a1 m1 p1,.bool c.hn,.bool c.an,.slice a2 m2 p2,.bool c.hs,.int .i64 c.si,.bool c.hu,.int .i64 c.ul,.bool false,.string ⟨#[]⟩,.int .i64 0,.string ⟨body.toArray⟩] 95 (0,0)):=(A0.block _ (by omega) (λ ho=>rY Av.out ho As.out)).trans As.out;have Au:Tbl w3:=Ai.off A0 hHi;(try go_wp2_with fail);refine hK.out _ _ Ae (λ hHeld=>?_);clear hK K;(try simp only[Act.put]);refine rdI 7 (λ K hK=>?_);go_simp;refine (lV rr.1.told fs rr.1.flds rr.1.body w3 Au.b hAns.1 A4 hAns.2.1 hAns.2.2.1 hAns.2.2.2).mono ?_;rintro e y ⟨rfl,A2⟩;have A1:ak y s n 1 (λ _=>0) rr.2 M':=A8.below A2;(have u0:y.cell? ⟨s,0,none⟩=some (.int .i32 0):=by simp[World.cell?,A1.blk,az]);(have u2:y.cell? ⟨s,2,none⟩=some (.int .u32 0):=by simp[World.cell?,A1.blk,az]);(have u4:y.cell? ⟨s,4,none⟩=some (.int .i32 1):=by simp[World.cell?,A1.blk,az]);(have uf:y.frozen? ⟨s,4,none⟩=false:=by simp[World.frozen?,A1.blk]);have At:Hid _:=A1;have Ao:Hid (Off (M.own s n) w y):=(Aj.out.trans A0).trans (Off.of_below A2);have Aq:Hid _:=Ay;clear A1;(try go_wp2_with fail);refine hK.out _ _ ((A2.block _ (gL Ae)).trans Ae) (λ hHeld=>?_);clear hK K;(try simp only[Act.put]);refine rdI 8 (λ K hK=>?_);go_simp;refine hK.out _ _ ((A2.block _ (gL Ae)).trans Ae) (λ hHeld=>?_);clear hK K;(try simp only[Act.put]);refine wpAnyH_done (by kernel_rfl) ?_ _;refine NoPanic.normal ?_;go_wp2;refine leaves_cons (f:=44) (args:=#[.pointer (some ⟨s,0,none⟩)]) (by simp) (by simp[go_sem]) ?_;refine (Go.RwLone.runlock_deferred Tryz.rwRLib s 0 1 _ _ .returning _ u0 u2 u4 uf (by rw[eX];decide)).mono ?_;rintro e u' Bg ⟨rfl,rfl,A3⟩;rw[eX,Nat.zero_add] at A3;subst A3;refine⟨_,results_tmp rfl _ _ _,by rw[HD.out];rfl,M',?_,Ao.out.set s 4 _ (Or.inl (Or.inl rfl)),λ k hk=>(Aq.out k hk).imp_right (λ h=>Nat.le_trans Aj.out.size h)⟩;have:=At.out.readers 0;rw[HD.out];exact this
 ·(have HD:Hid (doF σ l=(ap nn [] [],σ)):=by show _=_;unfold doF gQ;rw[A7]);have Bn:=oP A7;have Bk:nn≠0:=qN A7;have Bl:((nn:Int)==0)=false:=beq_eq_false_iff_ne.2 (by omega);have Ad:Hid _:=Af;clear Af;go_wp2_with (first|(refine wpList_store_row rfl 95 (.tmp 5) (.tmp 10) rfl w1.heap.size #[.int .i64 0,.int .i64 0,.string ⟨#[]⟩,.int .i64 0,.bool false,.bool false,.bool false,.slice none 0 0,.bool false,.bool false,.slice none 0 0,.bool false,.int .i64 0,.bool false,.int .i64 0,.bool false,.string ⟨#[]⟩,.int .i64 0,.string ⟨#[]⟩] rfl rfl 95 #[.int .i64 0,.int .i64 0,.string ⟨#[]⟩,.int .i64 0,.bool false,.bool false,.bool false,.slice none 0 0,.bool false,.bool false,.slice none 0 0,.bool false,.int .i64 0,.bool false,.int .i64 0,.bool false,.string ⟨#[]⟩,.int .i64 0,.string ⟨#[]⟩] (heap_alloc_last _ _) dL rfl kh ?_;rw[World.setRow_alloc_new]));generalize (Value.agg #[.int .i64 0,.int .i64 0,.string ⟨#[]⟩,.int .i64 0,.bool false,.bool false,.bool false,.slice none 0 0,.bool false,.bool false,.slice none 0 0,.bool false,.int .i64 0,.bool false,.int .i64 0,.bool false,.string ⟨#[]⟩,.int .i64 0,.string ⟨#[]⟩])=Qv;have Ac:Below w.heap.size w (w1.alloc (.cells #[.int .i64 0,.int .i64 0,.string ⟨#[]⟩,.int .i64 0,.bool false,.bool false,.bool false,.slice none 0 0,.bool false,.bool false,.slice none 0 0,.bool false,.int .i64 0,.bool false,.int .i64 0,.bool false,.string ⟨#[]⟩,.int .i64 0,.string ⟨#[]⟩] 95)):=Ad.out.alloc Ad.out.size _;refine (fq nn _).mono ?_;rintro e w2 ⟨rfl,B7⟩;have An:Hid (Below w.heap.size w w2):=Ac.trans (B7.mono Ac.size);clear B7 Ac;go_wp2_with fail;refine (lV nn (.slice none 0 0) [] [] w2 (hT.below An.out).b (by omega) ⟨rfl,Or.inl ⟨rfl,rfl⟩⟩ (by simp) (λ f hf=>by simp at hf) (by simp)).mono ?_;rintro e y ⟨rfl,A2⟩;have B4:Hid (Below w.heap.size w y):=An.out.trans (A2.mono An.out.size);clear A2;go_wp2;refine⟨_,results_tmp rfl _ _ _,by rw[HD.out];rfl,M,?_,Off.of_below B4.out,λ k hk=>Or.inl hk⟩;rw[HD.out];exact HH.out.below B4.out
theorem qo {l:List Ent}{t:List UInt8}{d:Nat}(h:im (l.map Ent.key) t d):l.drop d=l.filter λ E=>aE E.key t==1:=by
 have h1:(l.take d).filter (λ E=>aE E.key t==1)=[]:=by rw[List.filter_eq_nil_iff];intro E hE hc;obtain⟨j,hj,rfl⟩:=List.mem_iff_getElem.1 hE;rw[List.length_take] at hj;have:=h.lo j (l[j]'(by omega)).key (by omega) (by rw[List.getElem?_map,List.getElem?_eq_getElem (by omega)];rfl);rw[List.getElem_take] at hc;simp at hc;omega
 have h2:(l.drop d).filter (λ E=>aE E.key t==1)=l.drop d:=by rw[List.filter_eq_self];intro E hE;obtain⟨j,hj,rfl⟩:=List.mem_iff_getElem.1 hE;rw[List.length_drop] at hj;have:=h.hi (d+j) (l[d+j]'(by omega)).key (by omega) (by rw[List.getElem?_map,List.getElem?_eq_getElem (by omega)];rfl);rw[List.getElem_drop];simp[this]
 have h3:l.filter (λ E=>aE E.key t==1)=(l.take d++l.drop d).filter (λ E=>aE E.key t==1):=by rw[List.take_append_drop]
 rw[h3,List.filter_append,h1,h2];rfl
theorem mY (L:List Ent)(f:Ent->Nat):∀ n,((List.range n).flatMap λ j=>L.filter λ E=>f E==j).Perm (L.filter λ E=>decide (f E<n))
 | 0=>by simp
 | n+1=>by
   rw[List.range_succ,List.flatMap_append]
   have h:=List.filter_append_perm (λ E=>decide (f E<n)) (L.filter λ E=>decide (f E<n+1))
   rw[List.filter_filter,List.filter_filter] at h
   have e1:(L.filter λ E=>decide (f E<n)&&decide (f E<n+1))=L.filter λ E=>decide (f E<n):=by
    apply List.filter_congr;intro E _;by_cases hx:f E<n
    ·simp[hx,Nat.lt_succ_of_lt hx]
    ·simp[hx]
   (have e2:(L.filter λ E=>!decide (f E<n)&&decide (f E<n+1))=L.filter λ E=>f E==n:=by apply List.filter_congr;intro E _;rw[Bool.eq_iff_iff];simp;omega);rw[e1,e2] at h;refine List.Perm.trans ?_ h;(have e3:(List.flatMap (λ j=>List.filter (λ E=>f E==j) L) [n])=L.filter λ E=>f E==n:=by simp);rw[e3];exact (mY L f n).append_right _
theorem vj {a b:List Ent}(hp:a.Perm b)(ha:a.Pairwise λ x y=>leB x.key y.key)(hb:cA b):a=b:=by
 induction b generalizing a with
 | nil=>exact List.Perm.eq_nil hp
 | cons y b ih =>
   have ⟨hb1,hb2⟩:=List.pairwise_cons.1 hb;cases a with
   | nil=>exact absurd hp.symm.eq_nil (by simp)
   | cons x a =>
     have ⟨ha1,ha2⟩:=List.pairwise_cons.1 ha;have A0:x=y:=by
      have hx:x∈y::b:=hp.mem_iff.1 List.mem_cons_self;rcases List.mem_cons.1 hx with h|h
      ·exact h
      ·have h1:=hb1 x h;have hy:y∈x::a:=hp.mem_iff.2 List.mem_cons_self;rcases List.mem_cons.1 hy with h'|h'
       ·exact h'.symm
       ·have h2:=ha1 y h';unfold leB at h2;rw[bS,h1] at h2;omega
     subst A0;rw[ih ((List.perm_cons x).1 hp) ha2 hb2]
open Go.RowKit Go.MuLone
theorem yV:(Tryz.prog.info? 164).map (λ i=>(i.zero,i.size,i.bytes))=some (some (.agg #[.int .i32 0,.int .u32 0,.slice none 0 0]),3,32):=by kernel_rfl
def st0:St:=⟨0,[],[]⟩
theorem AO (n:Int)(w:World)(h:n<1\/8<n):Calls Tryz.prog 28 #[.int .i64 n] w λ e w'=>e=.returned (.tuple #[.pointer none,.int .i64 1])/\w'=w:=by
 rcases h with h|h
 ·go_enter Tryz.func28,Tryz.ntmps28;go_wp2;refine bodyPost_ret (results_tmp2 rfl _ _ _) rfl ?_;exact⟨rfl,rfl⟩
 ·(have h1:¬ n<1:=by omega);go_enter Tryz.func28,Tryz.ntmps28;go_wp2;refine bodyPost_ret (results_tmp2 rfl _ _ _) rfl ?_;exact⟨rfl,rfl⟩
theorem Bh (a b c:Value)(n i:Nat)(h:i<n):(madeCells #[a,b,c] (n*3))[i*3]?=some a/\(madeCells #[a,b,c] (n*3))[i*3+2]?=some c:=by
 have r1:(Array.range (n*3))[i*3]?=some (i*3):=by rw[Array.getElem?_range];simp;omega
 have r2:(Array.range (n*3))[i*3+2]?=some (i*3+2):=by rw[Array.getElem?_range,if_pos (by omega)]
 have h1:i*3%3=0:=by omega
 have h2:(i*3+2)%3=2:=by omega
 constructor
 ·unfold madeCells;rw[Array.getElem?_map,r1,Option.map_some];show some (#[a,b,c][i*3%3]!)=_;rw[h1];rfl
 ·unfold madeCells;rw[Array.getElem?_map,r2,Option.map_some];show some (#[a,b,c][(i*3+2)%3]!)=_;rw[h2];rfl
theorem uF (n:Nat)(w:World)(h1:1<=n)(h8:n<=8):Calls Tryz.prog 28 #[.int .i64 n] w λ e w'=>∃ s M,e=.returned (.tuple #[.pointer (some ⟨s,0,none⟩),.int .i64 0])/\ak w' s n 0 (λ _=>0) st0 M/\Below w.heap.size w w'/\∀ k,M.own s n k->w.heap.size<=k:=by
 have i1:¬ (n:Int)<1:=by omega
 have i8:¬ (8:Int)<(n:Int):=by omega
 obtain⟨i0,A5,A6,A2,A3⟩:=info_parts yV;have A0:=run_makeSlice (P:=Tryz.prog) w 114 164 i0 _ Tryz.underlying114 A5 A6 .i64 .i64 n n (by omega) (by omega) (by rw[A2];omega) (by rw[A3];omega) (by omega);rw[A2] at A0;simp only[Int.toNat_natCast] at A0;obtain⟨cs,A1⟩:∃ x,madeCells (Value.agg #[.int .i32 0,.int .u32 0,.slice none 0 0]).cells (n*3)=x:=⟨_,rfl⟩;rw[A1] at A0;have A4:Hid _:=A1;clear A1;go_enter Tryz.func28,Tryz.ntmps28;go_wp2;refine bodyPost_ret (results_tmp2 rfl _ _ _) rfl ?_;refine⟨w.heap.size+1,rfl,⟨w.heap.size,n,λ _=>.slice none 0 0,λ _=>[],λ _=>⟨[],0,[]⟩,λ _=>.slice none 0 0,.slice none 0 0⟩,⟨h1,h8,?_,⟨cs,(heap_alloc_old _ _ (by simp)).trans (heap_alloc_new _ _),λ i hi=>?_⟩,λ i _=>⟨⟨⟨rfl,Or.inl ⟨rfl,rfl⟩⟩,rfl,λ a p k hp=>by simp at hp,λ p hp=>by simp at hp⟩,λ q hq=>by simp at hq⟩,λ i _ p hp=>by simp at hp,λ i _=>rfl,⟨rfl,Or.inl ⟨rfl,rfl⟩⟩,λ i j _ _ _ b hb=>by simp[Value.ownBlock] at hb,λ i j p q _ _ hp=>by simp at hp,List.Pairwise.nil,λ E hE=>by simp[st0] at hE,by simp[st0],by simp[st0],λ E hE=>by simp[st0] at hE⟩,?_,?_⟩
 ·have:=heap_alloc_new (w.alloc (.cells cs 164)) (.cells (az 0 w.heap.size n n 0 0 (.slice none 0 0)) 119);rw[World.size_alloc] at this;exact this
 ·have:=Bh (.int .i32 0) (.int .u32 0) (.slice none 0 0) n i hi;rw[<- A4.out];exact this
 ·exact ((Below.refl _ _).alloc (Nat.le_refl _) _).alloc (by simp) _
 ·intro k;rintro (e|e|⟨i,_,hb⟩|⟨i,_,hb⟩|⟨i,p,_,hp,_⟩|hb)
  ·omega
  ·change k=w.heap.size at e;omega
  ·simp[Value.ownBlock] at hb
  ·simp at hb
  ·simp at hp
  ·simp[Value.ownBlock] at hb
theorem ak.cmn {w:World}{s n:Nat}{rd:Int}{lk:Nat->Int}{σ:St}{M:Mem}(h:ak w s n rd lk σ M):Cmn w s 7 σ.time σ.ents.length:=kg h.blk rfl rfl rfl
theorem we {s n:Nat}{rd:Int}{lk:Nat->Int}{σ:St}{M:Mem}(w:World)(h:ak w s n rd lk σ M):Calls Tryz.prog 35 #[.pointer (some ⟨s,0,none⟩)] w λ e w'=>e=.returned (.int .i64 σ.time)/\w'=w:=by
 go_enter Tryz.func35,Tryz.ntmps35;go_wp2_with fail;refine (oI s 7 σ.time σ.ents.length _ h.cmn).mono ?_;rintro e w1 ⟨rfl,rfl⟩;go_wp2;go_ret;exact⟨rfl,rfl⟩
theorem ak.tick {w:World}{s n:Nat}{rd:Int}{lk:Nat->Int}{σ:St}{M:Mem}(h:ak w s n rd lk σ M)(t:Nat)(ht:t<=253402300799):ak (w.setCell ⟨s,9,none⟩ (.int .i64 (t:Int))) s n rd lk ⟨t,σ.ents,σ.log⟩ M:=by
 have ho:Off (λ k=>k=s) w (w.setCell ⟨s,9,none⟩ (.int .i64 (t:Int))):=(Off.refl (λ k=>k=s) w).set s 9 _ (Or.inl rfl);obtain⟨cs,hc,hr⟩:=h.row
 exact⟨h.n1,h.n8,ah h.blk,⟨cs,(ho.block _ (gL hc) (ad hc h.blk (by decide))).trans hc,hr⟩,
  λ j hj=>(h.kt j hj).off ho (λ b hb e=>ai (h.kt j hj).k.row h.blk (by decide) (e ▸ hb)) (λ q hq e=>by obtain⟨cq,A0⟩:=(h.kt j hj).t q hq;exact ad A0 h.blk (by decide) e),
  λ j hj p hp=>(h.ent j hj p hp).off ho (λ e=>ad (h.ent j hj p hp).blk h.blk (by decide) e) (λ b hb e=>ai (h.ent j hj p hp).row h.blk (by decide) (e ▸ hb)),
  h.lst,Byt.off (base:=0) h.jrn ho (λ b hb e=>ai h.jrn h.blk (by decide) (e ▸ hb)),h.des,h.dvs,h.rise,h.ok,h.many,ht,h.lastB⟩
theorem wb {s n:Nat}{lk:Nat->Int}{σ:St}{M:Mem}(w:World)(h:ak w s n 0 lk σ M) :
 Calls Tryz.prog 37 #[.pointer (some ⟨s,0,none⟩)] w λ e w'=>e=.returned (.string ⟨σ.log.toArray⟩)/\ak w' s n 0 lk σ M/\Off (λ k=>k=s) w w':=by
 have x0:w.cell? ⟨s,0,none⟩=some (.int .i32 0):=by simp[World.cell?,h.blk,az]
 have x3:w.cell? ⟨s,3,none⟩=some (.int .u32 0):=by simp[World.cell?,h.blk,az]
 have x4:w.cell? ⟨s,4,none⟩=some (.int .i32 0):=by simp[World.cell?,h.blk,az]
 have xf:w.frozen? ⟨s,4,none⟩=false:=by simp[World.frozen?,h.blk]
 have HH:Hid _:=h;clear h;go_enter_defers Tryz.func37,Tryz.ntmps37;go_wp2_with fail;refine (Go.RwLone.rlock_open Tryz.rwRLib s 0 0 _ _ w x0 x3 x4 xf (by rw[lN];decide)).mono ?_;rintro e w2 ⟨rfl,A3⟩;rw[lN,Nat.zero_add] at A3;have A4:ak w2 s n 1 lk σ M:=by rw[A3];exact HH.out.readers 1
 have A5:Off (λ k=>k=s) w w2:=by rw[A3];exact (Off.refl (λ k=>k=s) _).set s 4 _ (Or.inl rfl)
 have A1:Hid _:=A4;have A6:Hid _:=A5;clear A3 A4 A5 x0 x3 x4 xf;go_wp2_with fail;refine (zA s 7 _ 119 M.jr σ.log _ A1.out.blk rfl rfl A1.out.jrn (ai A1.out.jrn A1.out.blk (by decide))).mono ?_;rintro e y ⟨rfl,hy⟩;rw[hy];clear hy y;have A0:ak w2 s n 1 lk σ M:=A1.out;have u0:w2.cell? ⟨s,0,none⟩=some (.int .i32 0):=by simp[World.cell?,A0.blk,az]
 have u2:w2.cell? ⟨s,2,none⟩=some (.int .u32 0):=by simp[World.cell?,A0.blk,az]
 have u4:w2.cell? ⟨s,4,none⟩=some (.int .i32 1):=by simp[World.cell?,A0.blk,az]
 have uf:w2.frozen? ⟨s,4,none⟩=false:=by simp[World.frozen?,A0.blk]
 have A7:Hid _:=A0;have A8:Hid (Off (λ k=>k=s) w w2):=A6.out;clear A0;go_wp2;refine leaves_cons (f:=44) (args:=#[.pointer (some ⟨s,0,none⟩)]) (by simp) (by simp[go_sem]) ?_;refine (Go.RwLone.runlock_deferred Tryz.rwRLib s 0 1 _ _ .returning _ u0 u2 u4 uf (by rw[eX];decide)).mono ?_;rintro e u' A9 ⟨rfl,rfl,A2⟩;rw[eX,Nat.zero_add] at A2;subst A2;exact⟨_,results_tmp rfl _ _ _,rfl,A7.out.readers 0,A8.out.set s 4 _ (Or.inl rfl)⟩
open Go.RowKit
theorem gc (wt:Bool)(k:Cnd)(v:Option Ver):bB wt k v<1000:=by
 unfold bB Jd.jd;(repeat' split);all_goals decide
theorem yo (E:Ent)(k n:Nat):aJ E k n<1000:=by
 unfold aJ;(repeat' split);all_goals decide
theorem wO (E:Ent)(k:Nat):cK E k<1000:=by
 unfold cK;(repeat' split);all_goals decide
theorem zB (σ:St)(key:List UInt8)(k n:Nat)(body:List UInt8):(ca σ key k n body).1<1000:=by
 unfold ca;split
 ·exact yo _ _ _
 ·split
  ·decide
  ·exact wO _ _
theorem uG {n:Nat}(h:n<1000000000000000):(Lib.decDigits n).length<=15:=dO 14 n h
theorem nT {α:Type}(l:List α)(f:α->List UInt8)(b:Nat)(h:∀ x∈l,(f x).length<=b):(l.flatMap f).length<=l.length*b:=by
 induction l with
 | nil=>simp
 | cons a l ih =>rw[List.flatMap_cons,List.length_append,List.length_cons];have h1:=h a List.mem_cons_self;have h2:=ih λ x hx=>h x (List.mem_cons_of_mem _ hx);rw[Nat.add_mul];omega
theorem vI {v:Ver}(hn:v.num<1000000000000000)(ht:v.time<1000000000000000):(cg v).length<=60:=by
 have h1:=uG hn;have h2:=uG ht;have h3:=cn v.body;unfold cg;simp only[List.length_append,List.length_cons,List.length_nil];split
 ·simp;omega
 ·omega
theorem vf {x:List UInt8×List UInt8}(h:x.1.length<=40):(fO x).length<=60:=by
 have h3:=cn x.2;unfold fO;simp only[List.length_append,List.length_cons,List.length_nil];omega
theorem nU {k:List UInt8}(h:aA k=true):k.length<=40:=by
 unfold aA at h;simp at h;exact h.2.1
theorem rx {w:World}{s n:Nat}{rd:Int}{lk:Nat->Int}{σ:St}{M:Mem}(h:ak w s n rd lk σ M)(key:List UInt8) :
 (∀ v∈(aa σ.ents key).vers,v.num<=σ.log.length/\v.time<=253402300799/\v.body.length<=400)/\(aa σ.ents key).vers.length<=20/\(aa σ.ents key).last<=σ.log.length:=by
 by_cases hl:(aa σ.ents key).last=0
 ·rw[(df (λ E hE=>(h.ok E hE).last) hl).2];simp
 ·have hm:=cU hl;have ho:=h.ok _ hm;have hb:=h.lastB _ hm;exact⟨λ v hv=>⟨Nat.le_trans (ho.num v hv) hb,ho.time v hv,ho.body v hv⟩,ho.len,hb⟩
theorem vi {σ:St}{after:List UInt8}{x:List UInt8×List UInt8}(h:x∈bE σ after):∃ E∈σ.ents,x.1=E.key:=by
 unfold bE at h;obtain⟨E,hE,hx⟩:=List.mem_filterMap.1 h;obtain⟨v,_,rfl⟩:=Option.map_eq_some_iff.1 hx;exact⟨E,(List.mem_filter.1 hE).1,rfl⟩
theorem Av {w:World}{s n:Nat}{rd:Int}{lk:Nat->Int}{σ:St}{M:Mem}(h:ak w s n rd lk σ M)(hlog:σ.log.length<140000000000000)(l:List UInt8):Ah (gQ σ l).1:=by
 unfold gQ;split
 ·rename_i nn hr;have:=oP hr;exact⟨by show nn<_;omega,by simp,λ f hf=>by simp at hf,by simp⟩
 ·rename_i m t k body hr;obtain⟨r1,r2,r3,r4⟩:=jP hr;split
  ·-- the list
   (have A1:∀ x∈bE σ t.key,x.1.length<=40:=λ x hx=>by obtain⟨E,hE,e⟩:=vi hx;rw[e];exact nU (h.ok E hE).key);refine⟨by show 200<_;omega,?_,?_,?_⟩
   ·show (if _ then _ else _:List Fld).length<1000;split<;>simp
   ·intro f hf;change f∈(if _ then _ else _:List Fld) at hf;split at hf
    ·simp at hf;rw[hf];refine⟨by simp[uP],?_⟩;show (dB _).length<1000;unfold dB;split
     ·simp
     ·rename_i x hx;have:=A1 x (List.mem_of_mem_take (List.mem_of_getLast? hx));omega
    ·simp at hf
   ·show (bU _).length<1000000;have:=nT ((bE σ t.key).take 50) fO 60 (λ x hx=>vf (A1 x (List.mem_of_mem_take hx)));(have h2:((bE σ t.key).take 50).length<=50:=by rw[List.length_take];omega);unfold bU;omega
  ·obtain⟨f1,f2,f3⟩:=rx h t.key;have fv:∀ f:Fld,f=⟨[86,101,114,115,105,111,110],Lib.decDigits (bu (aa σ.ents t.key) m t body).2.1⟩->f.name.length<1000/\f.value.length<1000:=by
    rintro f rfl;have:(bu (aa σ.ents t.key) m t body).2.1<1000000000000000:=by
     unfold bu;split
     ·show (aa σ.ents t.key).last+1<_;omega
     ·split
      ·show t.num<_;omega
      ·show (aa σ.ents t.key).last+1<_;omega
    have:=uG this;exact⟨by simp,by show (Lib.decDigits _).length<_;omega⟩
   unfold eP;split
   ·-- the versions
    split
    ·exact⟨by show 404<_;omega,by simp,λ f hf=>by simp at hf,by simp⟩
    ·refine⟨by show 200<_;omega,by simp,λ f hf=>by simp at hf,?_⟩;have:=nT (aa σ.ents t.key).vers.reverse cg 60 (λ v hv=>by
      have A2:=f1 v (List.mem_reverse.1 hv)
      exact vI (by omega) (by omega))
     rw[List.length_reverse] at this;show (List.flatMap _ _).length<_;omega
   ·split
    ·have:=gc (isW m) k (d9 (aa σ.ents t.key) t);exact⟨by show bB _ _ _<_;omega,by simp,λ f hf=>by simp at hf,by simp⟩
    ·split
     ·have A0:=zB σ t.key (bu (aa σ.ents t.key) m t body).1 (bu (aa σ.ents t.key) m t body).2.1 (bu (aa σ.ents t.key) m t body).2.2;split
      ·rename_i told hc;rw[hc] at A0;exact⟨by show told<_;simp only at A0;omega,by simp,λ f hf=>by simp at hf,by simp⟩
      ·rename_i told σ' hc;rw[hc] at A0;refine⟨by show told<_;simp only at A0;omega,?_,?_,by simp⟩
       ·show (if _ then _ else _:List Fld).length<1000;split<;>simp
       ·intro f hf;change f∈(if _ then _ else _:List Fld) at hf;split at hf
        ·simp only[List.mem_cons,List.not_mem_nil,or_false] at hf;rcases hf with e|e
         ·rw[e];have:=cn body;exact⟨by simp,by show (cD body).length<_;omega⟩
         ·exact fv f e
        ·simp only[List.mem_cons,List.not_mem_nil,or_false] at hf;exact fv f hf
     ·split
      ·exact⟨by show 404<_;omega,by simp,λ f hf=>by simp at hf,by simp⟩
      ·rename_i v hv;have A2:=f1 v (un hv);refine⟨by show 200<_;omega,by simp[bI],?_,?_⟩
       ·intro f hf;simp only[bI,List.mem_cons,List.not_mem_nil,or_false] at hf;rcases hf with e|e|e
        ·rw[e];have:=cn v.body;exact⟨by simp,by show (cD v.body).length<_;omega⟩
        ·rw[e];refine⟨by simp,?_⟩;show (bn v.time).length<1000;unfold bn;rw[List.length_take];omega
        ·rw[e];have:=uG (n:=v.num) (by omega);exact⟨by simp,by show (Lib.decDigits _).length<_;omega⟩
       ·show (if _ then _ else _:List UInt8).length<_;split
        ·omega
        ·simp
end Go.Proofs.YtmehkneofinmiaaGreatDoor

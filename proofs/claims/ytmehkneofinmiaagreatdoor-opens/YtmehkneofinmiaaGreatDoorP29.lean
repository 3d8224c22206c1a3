/-part 29-/
import Derived.Test.YtmehkneofinmiaaGreatDoorP28
import Derived.Test.YtmehkneofinmiaaGreatDoorRows
import Derived.OpenShut
import Derived.Conc.HoldsTime
import Derived.Deep.DeepHandedRow
set_option maxRecDepth 100000
set_option maxHeartbeats 8000000
namespace Go.Proofs.YtmehkneofinmiaaGreatDoor
open Go.RowKit Go.MuLone
def unl (g:Nat):Nat->List Deferred
 | 0=>[]
 | j+1=>{ target:=.fn (.func 84) #[],args:=#[.pointer (some ⟨g,j*3,none⟩)] }::unl g j
theorem zH (i:Nat):(λ j=>if j=i then (0:Int) else if j<i+1 then 1 else 0)=λ j=>if j<i then 1 else 0:=by
 funext j;by_cases h:j=i
 ·subst h;simp
 ·by_cases h2:j<i
  ·simp[h,h2,Nat.lt_succ_of_lt h2]
  ·simp[h,h2,show ¬ j<i+1 by omega]
theorem Br (i:Nat):(λ j=>if j=i then (1:Int) else if j<i then 1 else 0)=λ j=>if j<i+1 then 1 else 0:=by
 funext j;by_cases h:j=i
 ·subst h;simp
 ·by_cases h2:j<i
  ·simp[h,h2,Nat.lt_succ_of_lt h2]
  ·simp[h,h2,show ¬ j<i+1 by omega]
theorem sH {fn:Func}{tmps:Array Value}{R:Ending->World->Prop}{s n:Nat}{rd:Int}{σ:St}{M:Mem}(i:Nat):∀ (x:World),i<=n->ak x s n rd (λ j=>if j<i then 1 else 0) σ M ->
 (∀ y,ak y s n rd (λ _=>0) σ M->Off (λ k=>k=M.g) x y->Leaves Tryz.prog fn tmps R [] .returning y)->Leaves Tryz.prog fn tmps R (unl M.g i) .returning x:=by
 induction i with
 | zero=>exact λ x _ h hk=>hk x (by simpa using h) (Off.refl _ _)
 | succ i ih =>intro x hi h hk;obtain⟨cs,hc,hr⟩:=h.row;(have l1:x.cell? ⟨M.g,i*3,none⟩=some (.int .i32 1):=by simp only[World.cell?,hc];simp[(hr i (by omega)).1]);(have lf:x.frozen? ⟨M.g,i*3,none⟩=false:=by simp[World.frozen?,hc]);refine leaves_cons (f:=84) (args:=#[.pointer (some ⟨M.g,i*3,none⟩)]) (by simp) (by simp[go_sem]) ?_;refine (unlock_deferred Tryz.muLib ⟨M.g,i*3,none⟩ .returning _ l1 lf).mono ?_;rintro e u' A0 ⟨rfl,rfl,rfl⟩;have h2:=h.lock i (by omega) 0;rw[zH] at h2;have ho:Off (λ k=>k=M.g) x (x.setCell ⟨M.g,i*3,none⟩ (.int .i32 0)):=(Off.refl (λ k=>k=M.g) x).set _ _ _ (Or.inl rfl);exact ih _ (by omega) h2 (λ y hy hoy=>hk y hy (ho.trans hoy))
theorem Lst.off {w x:World}{v:Value}{qs:List Nat}{S:Nat->Prop}(h:Lst w v qs)(ho:Off S w x)(hS:∀ g cs f,w.heap[g]?=some (.cells cs 170 f)->¬ S g):Lst x v qs:=by
 obtain⟨a,c,h1,h2,h3,h4⟩:=h.is;refine⟨⟨a,c,h1,h2,h3,λ j q hq=>?_⟩⟩;obtain⟨g,o,e1,⟨cs,f,hc⟩,e3⟩:=h4 j q hq;have hb:=ho.block g (gL hc) (hS g cs f hc);refine⟨g,o,e1,⟨cs,f,hb.trans hc⟩,?_⟩;simp only[World.cell?] at e3 ⊢;rw[hb];exact e3
theorem tM {w:World}{s n:Nat}{rd:Int}{lk:Nat->Int}{σ:St}{M:Mem}(h:ak w s n rd lk σ M){k:Nat}(hk:M.own s n k){c:Array Value}{f:Nat×Nat}:w.heap[k]?≠some (.cells c 162 f):=by
 intro e;rcases hk with rfl|rfl|⟨i,hi,hb⟩|⟨i,hi,hb⟩|⟨i,p,hi,hp,hb⟩|hb
 ·exact ad h.blk e (by decide) rfl
 ·obtain⟨cs,hc,_⟩:=h.row;exact ad hc e (by decide) rfl
 ·exact ai (h.kt i hi).k.row e (by decide) hb
 ·exact ad (h.ent i hi k hb).blk e (by decide) rfl
 ·exact ai (h.ent i hi p hp).row e (by decide) hb
 ·exact ai h.jrn e (by decide) hb
structure Lk (w x:World)(s n:Nat)(rd:Int)(σ:St)(M:Mem)(after:List UInt8)(i:Nat)(lv:Value)(rows:List Value)(Qs:List (List Nat)):Prop where
 st:ak x s n rd (λ j=>if j<i then 1 else 0) σ M
 off:Off (M.own s n) w x
 ans:x.heap[w.heap.size]?=some (.cells #[.int .i64 0,.slice none 0 0,.string ⟨#[]⟩] 100 (0,0))
 row:x.ownsRow (w.heap.size+1) 162 1 lv i rows
 len:Qs.length=i
 lst:∀ (j:Nat) (v:Value) (qs:List Nat),rows[j]?=some v->Qs[j]?=some qs->Lst x v qs
 beh:∀ (j:Nat) (qs:List Nat),Qs[j]?=some qs->∃ d,qs=(M.ps j).drop d/\im (M.keys j) after d
theorem sQ {α β:Type}{l:List α}{f g:α->List β}(h:∀ a∈l,f a=g a):l.flatMap f=l.flatMap g:=by
 rw[List.flatMap_def,List.flatMap_def,List.map_congr_left h]
theorem Lk.perm {w x:World}{s n:Nat}{rd:Int}{σ:St}{M:Mem}{after:List UInt8}{lv:Value}{rows:List Value}{Qs:List (List Nat)}(h:Lk w x s n rd σ M after n lv rows Qs):(Qs.flatten.map M.en).Perm (σ.ents.filter λ E=>aE E.key after==1):=by
 have hq:Qs=(List.range n).map λ j=>Qs.getD j []:=by
  apply List.ext_getElem?;intro j;rw[List.getElem?_map];by_cases hj:j<n
  ·rw[List.getElem?_range hj,Option.map_some,List.getD_eq_getElem?_getD,List.getElem?_eq_getElem (by rw[h.len];exact hj)];rfl
  ·rw[List.getElem?_eq_none (by rw[h.len];omega),List.getElem?_eq_none (by simp;omega)];rfl
 have e1:Qs.flatten.map M.en=(List.range n).flatMap λ j=>(σ.ents.filter λ E=>aE E.key after==1).filter λ E=>ao E.key%n==j:=by rw[hq,<- List.flatMap_def,List.map_flatMap];apply sQ;intro j hj;have A0:j<n:=List.mem_range.1 hj;obtain⟨d,hd,hb⟩:=h.beh j (Qs.getD j []) (by rw[List.getD_eq_getElem?_getD,List.getElem?_eq_getElem (by rw[h.len];exact A0)];rfl);rw[hd,List.map_drop,h.st.lst j A0,List.filter_filter];rw[h.st.keys_eq A0] at hb;rw[qo hb,List.filter_filter];apply List.filter_congr;intro E _;rw[Bool.and_comm]
 rw[e1];refine (mY _ (λ E=>ao E.key%n) n).trans ?_;rw[List.filter_eq_self.2 (λ E _=>by simpa using Nat.mod_lt _ h.st.n1)]
theorem Lk.list {w x:World}{s n:Nat}{rd:Int}{σ:St}{M:Mem}{after:List UInt8}{lv:Value}{rows:List Value}{Qs:List (List Nat)}(h:Lk w x s n rd σ M after n lv rows Qs){xs:List Nat}(hp:xs.Perm Qs.flatten)(hr:fW (λ q=>(M.en q).key) xs):ce M.en xs=bE σ after:=by
 have e:xs.map M.en=σ.ents.filter λ E=>aE E.key after==1:=by refine vj ((hp.map M.en).trans h.perm) ?_ (h.st.rise.filter _);rw[List.pairwise_map];exact hr
 unfold bE ce;rw[<- e,List.filterMap_map];rfl
theorem pv:xX:=by
 intro s n rd σ M A0 w h hT Cz Aq;have D3:w.cell? ⟨s,6,none⟩=some (.slice (some ⟨M.g,0,none⟩) n M.cap):=by simp[World.cell?,h.blk,az]
 have HH:Hid _:=h;have D5:s<w.heap.size:=(gL h.blk);obtain⟨ti,Co,Ci,Cr,Cg⟩:=info_parts qX;obtain⟨rr,Av⟩:∃ x,(el σ A0,σ)=x:=⟨_,rfl⟩;rw[Av];have Cu:Hid _:=Av;clear Av;have L0:Lk w (w.alloc (.cells #[.int .i64 0,.slice none 0 0,.string ⟨#[]⟩] 100)) s n rd σ M A0 0 (.slice none 0 0) [] []:=by have Aq:Below w.heap.size w (w.alloc (.cells #[.int .i64 0,.slice none 0 0,.string ⟨#[]⟩] 100)):=(Below.refl _ _).alloc (Nat.le_refl _) _;refine⟨?_,Off.of_below Aq,heap_alloc_new _ _,⟨rfl,Or.inl ⟨rfl,rfl⟩⟩,rfl,λ j v qs hv=>by simp at hv,λ j qs hq=>by simp at hq⟩;have:=h.below Aq;simpa using this
 clear h;go_enter_defers Tryz.func45,Tryz.ntmps45;go_wp2_with fail;refine wp_loop (λ a x=>∃ (i:Nat) (lv:Value) (rows:List Value) (Qs:List (List Nat)) (u6 u7 C8 Ba Bd B7 Bq Bn C1 Bv B8 C7 C2 Bs Bm C4 Bc Bf Bb Bk Bi C5 Bl Bu:Value),i<=n/\Lk w x s n rd σ M A0 i lv rows Qs/\a=⟨#[.pointer (some ⟨s,0,none⟩),.string ⟨A0.toArray⟩,undef,undef,.pointer (some ⟨w.heap.size,0,none⟩),lv,u6,u7,.pointer (some ⟨s,0,none⟩),.pointer (some ⟨s,0,none⟩),.pointer (some ⟨s,6,none⟩),.slice (some ⟨M.g,0,none⟩) n M.cap,.int .i64 n,.int .i64 i,C8,Ba,Bd,B7,Bq,Bn,C1,Bv,B8,C7,C2,Bs,Bm,C4,Bc,Bf,Bb,Bk,Bi,C5,Bl,Bu,undef,undef],unl M.g i⟩) (λ a _=>n-(intOf (a.tmps.getD 13 undef)).toNat) ⟨0,.slice none 0 0,[],[],undef,undef,undef,undef,undef,undef,undef,undef,undef,undef,undef,undef,undef,undef,undef,undef,undef,undef,undef,undef,undef,undef,undef,undef,by omega,L0,rfl⟩ ?_;rintro a x ⟨i,lv,rows,Qs,u6,u7,C8,Ba,Bd,B7,Bq,Bn,C1,Bv,B8,C7,C2,Bs,Bm,C4,Bc,Bf,Bb,Bk,Bi,C5,Bl,Bu,hi,L,rfl⟩;have HL:Hid _:=L;clear L0 L;have Al:=HL.out.st;have n8:=Al.n8;have x6:x.cell? ⟨s,6,none⟩=some (.slice (some ⟨M.g,0,none⟩) n M.cap):=by simp[World.cell?,Al.blk,az]
 by_cases A1:i<n
 ·obtain⟨cs,hc,hr⟩:=Al.row;(have l0:x.cell? ⟨M.g,i*3,none⟩=some (.int .i32 0):=by simp only[World.cell?,hc];simp[(hr i A1).1]);(have lf:x.frozen? ⟨M.g,i*3,none⟩=false:=by simp[World.frozen?,hc]);clear hr Al;go_wp2_with (go_at_call 83;refine (lock_free Tryz.muLib ⟨M.g,i*3,none⟩ _ l0 lf).mono ?_;rintro e x2 ⟨rfl,C9⟩;have By:Hid _:=C9;clear C9 l0 lf);(have A6:ak x2 s n rd (λ j=>if j<i+1 then 1 else 0) σ M:=by rw[By.out];have:=HL.out.st.lock i A1 1;rw[Br] at this;exact this);(have Ae:Off (λ k=>k=M.g) x x2:=by rw[By.out];exact (Off.refl (λ k=>k=M.g) x).set _ _ _ (Or.inl rfl));obtain⟨D9,Ar,Ao⟩:=A6.row;(have Be:x2.cell? ⟨M.g,i*3+2,none⟩=some (M.es i):=by simp only[World.cell?,Ar];simp[(Ao i A1).2]);(have B1:(M.ps i).length<1000000:=by (have h1:((M.ps i).map M.en).length<=σ.ents.length:=by rw[A6.lst _ A1];exact List.length_filter_le _ _);rw[List.length_map] at h1;have:=A6.many;omega);(have C3:dK (M.keys i):=by rw[A6.keys_eq A1];exact (A6.rise.filter _).rising);refine (sA M.g (i*3) (M.es i) (M.ps i) (M.keys i) A0 x2 Be (A6.kt i A1).k C3 B1 (gL Ar)).mono ?_;rintro e x3 ⟨⟨d,v,Bw,rfl,B3⟩,Ac⟩;obtain⟨va,vc,hv,D1,D7,_⟩:=B3.is;have Cy:w.heap.size<x.heap.size:=(gL HL.out.ans);have B2:x.heap.size<=x2.heap.size:=Ae.size;have Bj:x2.heap.size<=x3.heap.size:=Ac.size;have A2:x3.ownsRow (w.heap.size+1) 162 1 lv i rows:=by
   have h0:=HL.out.row;refine⟨h0.1,?_⟩;rcases h0.2 with e|⟨g,cap,A3,Cj,h1,hg,h2⟩
   ·exact Or.inl e
   ·refine Or.inr ⟨g,cap,A3,Cj,h1,(Ac.block g (Nat.lt_of_lt_of_le (gL hg) B2)).trans ((Ae.block g (gL hg) (ad hg hc (by decide))).trans hg),h2⟩
  have A7:x3.heap[w.heap.size]?=some (.cells #[.int .i64 0,.slice none 0 0,.string ⟨#[]⟩] 100 (0,0)):=(Ac.block _ (by omega)).trans ((Ae.block _ Cy (ad HL.out.ans hc (by decide))).trans HL.out.ans);(have Ct:lv.ownBlock≠some w.heap.size:=λ e=>by have:=(A2.lt _ e).1;omega);subst hv;have Ce:Hid _:=B3;have An:Hid _:=A2;have Cs:Hid _:=A7;have Bz:Hid _:=A6.below Ac;have Cn:Hid (Off (M.own s n) w x3):=((HL.out.off.trans' Ae (λ k _ e=>Or.inr (Or.inl e))).trans (Off.of_below Ac));have Cl:Hid (∀ (j:Nat) (v:Value) (qs:List Nat),rows[j]?=some v->Qs[j]?=some qs->Lst x3 v qs):=λ j v qs h1 h2=>((HL.out.lst j v qs h1 h2).off Ae (λ g cs f hg e=>ad hg hc (by decide) e)).below Ac;have Ch:Hid _:=Bw;(have B9:rows.length=i:=by simpa using HL.out.row.1);(have Cp:w.heap.size<x3.heap.size:=by omega);clear B3 A2 A7 A6 Ac Bw Ae Ar Ao Be C3 hc;go_wp2_with (at_builtin;refine wpList_append_lies _ rfl (.tmp 29) (.tmp 33) 160 rfl (w.heap.size+1) 162 ti (.slice none 0 0) 1 24 Tryz.underlying160 Co Ci Cr Cg rfl (by omega) lv i rows rfl (World.ownsRow.alloc An.out _) ⟨x3.heap.size,0,none⟩ 1 1 [.slice va ((M.ps i).drop d).length vc] rfl rfl (by intro j u hj;cases j with|zero=>(simp at hj;subst hj;simp[Addr.add])|succ j=>simp at hj) (by intro u hu;simp at hu;subst hu;rfl) (by omega) (by unfold maxLen;omega) (by omega) (by simp;omega) _ rfl ?_;intro g2 Ax x4 Aj Az Cx Cc);have Cm:Below x3.heap.size x3 (x3.alloc (.cells #[.slice va ((M.ps i).drop d).length vc] 162)):=(Below.refl _ _).alloc (Nat.le_refl _) _;have Ai:Off (λ k=>lv.ownBlock=some k) x3 x4:=((Off.refl _ _).alloc _).grown Az (λ k hk=>Or.inl hk);have Af:∀ g cs f,x3.heap[g]?=some (.cells cs 170 f)->¬ lv.ownBlock=some g:=λ g cs f hg e=>ai An.out hg (by decide) e;have L4:Lk w x4 s n rd σ M A0 (i+1) (.slice (some ⟨g2,0,none⟩) (i+1) Ax) (rows++[.slice va ((M.ps i).drop d).length vc]) (Qs++[(M.ps i).drop d]):=by
   refine⟨Bz.out.off Ai (λ k hk e=>?_),Cn.out.trans' Ai (λ k hk e=>?_),(Ai.block _ Cp Ct).trans Cs.out,Aj,by rw[List.length_append,HL.out.len];rfl,λ j v qs h1 h2=>?_,λ j qs h2=>?_⟩
   ·obtain⟨A3,A4⟩:=kD An.out e;exact tM Bz.out hk A4
   ·have:=(World.ownsRow.lt An.out k e).1;omega
   ·by_cases hj:j<i
    ·rw[List.getElem?_append_left (by omega)] at h1;rw[List.getElem?_append_left (by rw[HL.out.len];exact hj)] at h2;exact (Cl.out j v qs h1 h2).off Ai Af
    ·(have Aw:j=i:=by have:=(List.getElem?_eq_some_iff.1 h1).1;simp at this;omega);subst Aw;rw[List.getElem?_append_right (by omega),B9,Nat.sub_self] at h1;rw[List.getElem?_append_right (by rw[HL.out.len];omega),HL.out.len,Nat.sub_self] at h2;simp at h1 h2;rw[<- h1,<- h2,<- List.length_drop];exact Ce.out.off Ai Af
   ·by_cases hj:j<i
    ·rw[List.getElem?_append_left (by rw[HL.out.len];exact hj)] at h2;exact HL.out.beh j qs h2
    ·(have Aw:j=i:=by have:=(List.getElem?_eq_some_iff.1 h2).1;rw[List.length_append,HL.out.len] at this;simp at this;omega);subst Aw;rw[List.getElem?_append_right (by rw[HL.out.len];omega),HL.out.len,Nat.sub_self] at h2;simp at h2;exact⟨d,h2.symm,Ch.out⟩
  refine⟨⟨i+1,_,_,_,_,_,_,_,_,_,_,_,_,_,_,_,_,_,_,_,_,_,_,_,_,_,_,_,by omega,L4,rfl⟩,?_⟩;show n-(intOf (.int .i64 ((i:Int)+1))).toNat<n-(intOf (.int .i64 (i:Int))).toNat;simp only[intOf];omega
 ·(have Cq:i=n:=by omega);subst Cq;clear A1;have Ap:∃ a c,lv=.slice a i c:=by
   rcases HL.out.row.2 with ⟨e,h0⟩|⟨g,cap,A3,e,_⟩
   ·rw[h0];exact⟨_,_,e⟩
   ·exact⟨_,_,e⟩
  obtain⟨la,lc,rfl⟩:=Ap;go_wp2_with fail;have A5:=HL.out.len;(have A9:∀ qs∈Qs,∃ j,j<i/\∀ q∈qs,q∈M.ps j:=by intro qs hq;obtain⟨j,hj,rfl⟩:=List.mem_iff_getElem.1 hq;obtain⟨d,hd,_⟩:=HL.out.beh j _ (List.getElem?_eq_getElem hj);exact⟨j,by omega,λ q hq=>by rw[hd] at hq;exact List.mem_of_mem_drop hq⟩);have C0:LLs x (.slice la Qs.length lc) Qs (λ q=>(M.en q).key):=by
   rw[A5];refine⟨?_,λ j qs hj=>?_,λ qs hq q As=>?_⟩
   ·rw[A5];rcases HL.out.row.2 with ⟨e,h0⟩|⟨g,cap,A3,e,_,_,h1,h2,_⟩
    ·cases e;exact⟨_,_,rfl,by omega,by omega⟩
    ·cases e;exact⟨_,_,rfl,h1,h2⟩
   ·(have D4:j<i:=by have:=(List.getElem?_eq_some_iff.1 hj).1;omega);rcases HL.out.row.2 with ⟨e,h0⟩|⟨g,cap,A3,e,_,hg,h1,h2,h3,h4⟩
    ·omega
    ·cases e;(have B9:rows.length=i:=by simpa using HL.out.row.1);obtain⟨v,hv⟩:∃ v,rows[j]?=some v:=⟨_,List.getElem?_eq_getElem (by omega)⟩;refine⟨g,0,lc,v,by rw[A5],(gL hg),?_,HL.out.lst j _ qs hv hj⟩;rw[<- h4,List.getElem?_take_of_lt (by omega)] at hv;simpa [World.cell?,hg] using hv
   ·obtain⟨j,hj,hm⟩:=A9 qs hq;have hE:=HL.out.st.ent j hj q (hm q As);exact⟨hE.lt,hE.c0⟩
  (have B0:∀ q∈Qs.flatten,∃ j,j<i/\q∈M.ps j:=by intro q hq;obtain⟨qs,Cf,As⟩:=List.mem_flatten.1 hq;obtain⟨j,hj,hm⟩:=A9 qs Cf;exact⟨j,hj,hm q As⟩);(have A1:∀ q∈Qs.flatten,M.en q∈σ.ents:=by intro q hq;have:=HL.out.perm.mem_iff.1 (List.mem_map_of_mem (f:=M.en) hq);exact (List.mem_filter.1 this).1);have Bt:zX x Qs M.en M.vs:=by
   refine⟨λ q hq=>?_,λ q hq g hg=>?_,λ q hq=>?_,λ q hq=>?_,λ q hq v hv=>?_⟩
   ·obtain⟨j,hj,hm⟩:=B0 q hq;exact HL.out.st.ent j hj q hm
   ·obtain⟨j,hj,hm⟩:=B0 q hq;exact ((HL.out.st.ent j hj q hm).row.lt g hg).2
   ·have:=nU (HL.out.st.ok _ (A1 q hq)).key;omega
   ·have:=(HL.out.st.ok _ (A1 q hq)).len;omega
   ·have:=(HL.out.st.ok _ (A1 q hq)).body v hv;omega
  (have Ak:Qs.flatten.length<1000000:=by have h1:=HL.out.perm.length_eq;rw[List.length_map] at h1;have h2:=List.length_filter_le (λ E:Ent=>aE E.key A0==1) σ.ents;have:=HL.out.st.many;omega);(have Bx:∀ qs∈Qs,fW (λ q=>(M.en q).key) qs:=by intro qs hq;obtain⟨j,hj,rfl⟩:=List.mem_iff_getElem.1 hq;obtain⟨d,hd,_⟩:=HL.out.beh j _ (List.getElem?_eq_getElem hj);rw[hd];have hr:=HL.out.st.rise.filter λ E=>ao E.key%i==j;rw[<- HL.out.st.lst j (by omega)] at hr;have Ao:(M.ps j).Pairwise λ a b=>aE (M.en a).key (M.en b).key = -1:=List.pairwise_map.1 hr;exact (Ao.sublist (List.drop_sublist d _)).imp (λ {a b} (h:aE (M.en a).key (M.en b).key = -1)=>by show aE (M.en a).key (M.en b).key<=0;omega));have Cv:Tbl x:=hT.off HL.out.off Cz;have B6:=pm Qs M.en M.vs la lc x C0 (by omega) Bx Ak Bt Cv.z;rw[A5] at B6;have Bh:Hid _:=B6;clear B6 C0 Bt Ak Bx A1 B0 A9;refine Calls.mono Bh.out ?_;rintro e y ⟨Am,xs,fv,Ah,Ag,rfl,Ad⟩;have A4:=HL.out.list Ah Ag;rw[A4] at Ad ⊢;have Aa:y.ownsRow 0 151 2 fv (el σ A0).flds.length (cM (el σ A0).flds):=by
   by_cases h50:50<(bE σ A0).length
   ·rw[if_pos h50] at Ad;(have e:(el σ A0).flds=[uP (dB ((bE σ A0).take 50))]:=by simp[el,h50]);rw[e];exact Ad
   ·rw[if_neg h50] at Ad;(have e:(el σ A0).flds=[]:=by simp[el,h50]);rw[e,Ad];exact⟨rfl,Or.inl ⟨rfl,rfl⟩⟩
  have Ca:=HL.out.st.below Am;have A8:=(Am.block _ (gL HL.out.ans)).trans HL.out.ans;have Bo:Off (M.own s i) w y:=HL.out.off.trans (Off.of_below Am);(have a0:y.cell? ⟨w.heap.size,0,none⟩=some (.int .i64 0):=by simp[World.cell?,A8]);(have a1:y.cell? ⟨w.heap.size,1,none⟩=some (.slice none 0 0):=by simp[World.cell?,A8]);(have a2:y.cell? ⟨w.heap.size,2,none⟩=some (.string ⟨#[]⟩):=by simp[World.cell?,A8]);(have D6:y.frozen? ⟨w.heap.size,0,none⟩=false:=by simp[World.frozen?,A8]);(have D2:y.frozen? ⟨w.heap.size,1,none⟩=false:=by simp[World.frozen?,A8]);(have D8:y.frozen? ⟨w.heap.size,2,none⟩=false:=by simp[World.frozen?,A8]);have Cw:∃ a b c,fv=.slice a b c:=by
   rcases Aa.2 with ⟨e,_⟩|⟨g,cap,A3,e,_⟩
   ·exact⟨_,_,_,e⟩
   ·exact⟨_,_,_,e⟩
  obtain⟨fa,fb,fc,rfl⟩:=Cw;have B4:Hid _:=Aa;have Bp:Hid _:=Ca;have B5:Hid _:=A8;have Cd:Hid _:=Bo;obtain⟨tx,Ay⟩:∃ t,bU ((bE σ A0).take 50)=t:=⟨_,rfl⟩;have Cb:Hid _:=Ay;rw[Ay];clear Aa Ca A8 Bo Ad A4 Ah Ag Am Ay Bh;go_wp2;obtain⟨Y,hY⟩:∃ Y,Y=(((y.setCell ⟨w.heap.size,0,none⟩ (.int .i64 200)).setCell ⟨w.heap.size,1,none⟩ (.slice fa fb fc)).setCell ⟨w.heap.size,2,none⟩ (.string ⟨tx.toArray⟩)):=⟨_,rfl⟩;rw[<- hY];(have Au:Y.heap[w.heap.size]?=some (.cells #[.int .i64 200,.slice fa fb fc,.string ⟨tx.toArray⟩] 100 (0,0)):=by rw[hY,ah (ah (ah B5.out))];rfl);(have At:Off (λ k=>k=w.heap.size) y Y:=by rw[hY];exact (((Off.refl (λ k=>k=w.heap.size) _).set _ 0 _ (Or.inl rfl)).set _ 1 _ (Or.inl rfl)).set _ 2 _ (Or.inl rfl));have C6:=Bp.out.off At (λ k hk e=>iK Bp.out hk (e ▸ B5.out));have D0:Off (M.own s i) w Y:=Cd.out.trans' At (λ k hk e=>by omega);have Bg:Y.ownsRow 0 151 2 (.slice fa fb fc) (el σ A0).flds.length (cM (el σ A0).flds):=by
   have h0:=B4.out;refine⟨h0.1,?_⟩;rcases h0.2 with h0|⟨g,cap,A3,hv,h1,Ab,h2⟩
   ·exact Or.inl h0
   ·exact Or.inr ⟨g,cap,A3,hv,h1,(At.block g (gL Ab) (ad Ab B5.out (by decide))).trans Ab,h2⟩
  obtain⟨cs,hc,_⟩:=C6.row;refine sH i Y (Nat.le_refl _) C6 (λ z hSz hoz=>?_);have Ck:=(hoz.block _ (gL Au) (ad Au hc (by decide))).trans Au;refine⟨_,aq Tryz.results45 _ _ w.heap.size 100 _ (0,0) _ rfl Ck Tryz.underlying100 rfl dW,?_⟩;rw[<- Cu.out];refine⟨.slice fa fb fc,M,?_,?_,hSz,D0.trans' hoz (λ k _ e=>Or.inr (Or.inl e)),λ k hk=>Or.inl hk⟩
  ·rw[<- Cb.out];rfl
  ·refine⟨Bg.1,?_⟩;rcases Bg.2 with h0|⟨g,cap,A3,hv,h1,Ab,h2⟩
   ·exact Or.inl h0
   ·exact Or.inr ⟨g,cap,A3,hv,h1,(hoz.block g (gL Ab) (ad Ab hc (by decide))).trans Ab,h2⟩
theorem wY {s n:Nat}{σ:St}{M:Mem}(l:List UInt8)(w:World)(h:ak w s n 0 (λ _=>0) σ M)(hM:bP w)(hT:Tbl w)(hHi:∀ k,M.own s n k->ju k)(hlog:σ.log.length<140000000000000)(hl:l.length<=9223372036854775807) :
 Calls Tryz.prog 15 #[.pointer (some ⟨s,0,none⟩),.string ⟨l.toArray⟩] w λ e w'=>e=.returned (.string ⟨(doF σ l).1.toArray⟩)/\∃ M',ak w' s n 0 (λ _=>0) (doF σ l).2 M'/\Off (M.own s n) w w'/\∀ k,M'.own s n k->M.own s n k\/w.heap.size<=k :=
 Ap l w h hM hT hHi hlog pv (Av h hlog l) hl
open Go.RowKit
theorem cQ (a:Ent)(l:List Ent)(key:List UInt8):aa (a::l) key=if a.key=key then a else aa l key:=by
 unfold aa;rw[List.find?_cons];by_cases h:a.key=key
 ·simp[h]
 ·have:(a.key==key)=false:=beq_eq_false_iff_ne.2 h;rw[this,if_neg h]
theorem oc {l:List Ent}(hr:cA l)(E:Ent)(key:List UInt8):aa (bJ l E) key=if E.key=key then E else aa l key:=by
 induction l with
 | nil =>rw[show bJ [] E=[E] from rfl,cQ]
 | cons a l ih =>
   have ⟨h1,h2⟩:=List.pairwise_cons.1 hr;rw[cT];by_cases e:a.key=E.key
   ·rw[if_pos e,cQ];by_cases hk:E.key=key
    ·rw[if_pos hk,if_pos hk]
    ·rw[if_neg hk,if_neg hk,cQ,if_neg (by rw[e];exact hk)]
   ·rw[if_neg e];by_cases hlt:aE E.key a.key = -1
    ·rw[if_pos hlt,cQ]
    ·rw[if_neg hlt,cQ,ih h2];by_cases ha:a.key=key
     ·rw[if_pos ha,if_neg (by rw[<- ha];exact λ h=>e h.symm),cQ,if_pos ha]
     ·rw[if_neg ha,cQ,if_neg ha]
theorem AX {σ:St}{l body:List UInt8}{m:Nat}{t:Tgt}{k:Cnd}(hr:bM l=.ok (m,t,k,body))(h0:t.kind≠0):gQ σ l=eP σ m t k body:=by
 unfold gQ;rw[hr];simp only;rw[if_neg h0]
theorem oM {σ:St}{m:Nat}{t:Tgt}{k:Cnd}{body:List UInt8}{told a n:Nat}{bd:List UInt8}(h3:t.kind≠3)(hw:isW m=true)(h:bB true k (d9 (aa σ.ents t.key) t)=0)(hn:bu (aa σ.ents t.key) m t body=(a,n,bd))(hc:ca σ t.key a n bd=(told,none)):eP σ m t k body=(⟨told,[],[]⟩,σ):=by
 unfold eP;rw[if_neg h3,hw,if_neg (by simp[h]),if_pos rfl,hn];simp only[hc]
theorem pl {σ σ':St}{m:Nat}{t:Tgt}{k:Cnd}{body:List UInt8}{told a n:Nat}{bd:List UInt8}(h3:t.kind≠3)(hw:isW m=true)(h:bB true k (d9 (aa σ.ents t.key) t)=0)(hn:bu (aa σ.ents t.key) m t body=(a,n,bd))(hc:ca σ t.key a n bd=(told,some σ')):eP σ m t k body=(⟨told,if m=2 then [⟨[69,84,97,103],cD body⟩,⟨[86,101,114,115,105,111,110],Lib.decDigits n⟩] else [⟨[86,101,114,115,105,111,110],Lib.decDigits n⟩],[]⟩,σ'):=by
 unfold eP;rw[if_neg h3,hw,if_neg (by simp[h]),if_pos rfl,hn];simp only[hc]
theorem pq {σ:St}{key body:List UInt8}{k n told:Nat}(ho:aJ (aa σ.ents key) k n=told)(h:told≠0):ca σ key k n body=(told,none):=by
 unfold ca;rw[ho,if_pos h]
theorem rM (l:List Ver)(n:Nat)(h:l.Pairwise λ a b=>a.num<b.num):(cV l n=none->l.filter (λ v=>v.num != n)=l)/\∀ i,cV l n=some i->l.eraseIdx i=l.filter (λ v=>v.num != n)/\(l.filter (λ v=>v.num != n)).length<l.length:=by
 induction l with
 | nil=>simp[cV]
 | cons a l ih =>
   have ⟨h1,h2⟩:=List.pairwise_cons.1 h;have A0:=ih h2;unfold cV at A0 ⊢;rw[List.findIdx?_cons];by_cases e:a.num=n
   ·(have e1:((a.num:Int)==(n:Int))=true:=by simp[e]);rw[e1,if_pos rfl];refine⟨λ h=>by simp at h,λ i hi=>?_⟩;(have:i=0:=by simpa using hi.symm);subst this;have hf:l.filter (λ v=>v.num != n)=l:=List.filter_eq_self.2 (λ b hb=>by have:=h1 b hb;simp;omega);rw[List.filter_cons,if_neg (by simp[e]),hf];simp
   ·have e1:((a.num:Int)==(n:Int))=false:=beq_eq_false_iff_ne.2 (by omega);rw[e1,if_neg (by simp)];rw[List.filter_cons,if_pos (by simp[e])];refine⟨λ h=>?_,λ i hi=>?_⟩
    ·rw[Option.map_eq_none_iff] at h;rw[A0.1 h]
    ·obtain⟨j,hj,rfl⟩:=Option.map_eq_some_iff.1 hi;have:=A0.2 j hj;rw[List.eraseIdx_cons_succ,this.1];exact⟨rfl,Nat.succ_lt_succ this.2⟩
open Go.RowKit
structure Env (B:Nat->Prop)(w:World):Prop where
 mx:bP w
 tb:Tbl w
 hm:∀ k,B k->1<k
 hi:∀ k,B k->ju k
 sz:∀ k,w.heap.size<=k->B k
theorem Env.high {B:Nat->Prop}{w:World}(h:Env B w){k:Nat}(hk:B k):ju k:=h.hi k hk
theorem Env.off {B:Nat->Prop}{w x:World}(h:Env B w)(ho:Off B w x):Env B x:=by
 refine⟨?_,h.tb.off ho (λ k hk=>h.high hk),h.hm,h.hi,λ k hk=>h.sz k (Nat.le_trans ho.size hk)⟩;obtain⟨m,hm⟩:=h.mx;refine⟨m,?_⟩;have A0:=eV hm;simp only[World.cell?] at hm ⊢;rw[ho.block _ A0 (λ hB=>Nat.lt_irrefl _ (h.hm _ hB))];exact hm
theorem Env.made {w:World}(hM:bP w)(hT:Tbl w):Env (λ k=>w.heap.size<=k) w:=by
 obtain⟨m,hm⟩:=hM;exact⟨⟨m,hm⟩,hT,λ k hk=>Nat.lt_of_lt_of_le (eV hm) hk,λ k hk=>hT.high hk,λ k hk=>hk⟩
theorem Env.below {B:Nat->Prop}{w x:World}(h:Env B w)(hb:Below w.heap.size w x):Env B x:=h.off (Off.of_below hb)
open Go.ChangeShapes Go.WideShapes Go.ChangeAt Go.RowKit
theorem own:ownKnob Tryz.prog.godebug=none:=by kernel_rfl
theorem yT:laidOutB Tryz.prog=true:=by kernel_rfl
theorem Bw : Tryz.prog.globalNamed "math/bits.deBruijn64tab" = some 3 := by kernel_rfl
theorem wA:(Tryz.prog.globals[3]?).map (·.type)=some 346:=by kernel_rfl
theorem yJ:Tryz.prog.cellsOf 346=64:=by kernel_rfl
theorem Aa:Tryz.prog.cellsOf 5=1:=by kernel_rfl
theorem An : Tryz.prog.globalNamed "internal/strconv.uint64pow10" = some 0 := by kernel_rfl
theorem xi:(Tryz.prog.globals[0]?).map (·.type)=some 293:=by kernel_rfl
theorem yH:Tryz.prog.cellsOf 293=20:=by kernel_rfl
theorem xL:Tryz.prog.cellsOf 240=1:=by kernel_rfl
def Ae:List Int:=[0,1,56,2,57,49,28,3,61,58,42,50,38,29,17,4,62,47,59,36,45,43,51,22,53,39,33,30,24,18,12,5,63,55,48,27,60,41,37,16,46,35,44,21,52,32,23,11,54,26,40,15,34,20,31,10,25,14,19,9,13,8,7,6]
theorem xj:Rows.laid_math_bits_deBruijn64tab=(Lib.tabData .u8 Ae:DataW Unit):=by kernel_rfl
theorem wX:Rows.laid_internal_strconv_uint64pow10=(Lib.tabData .u64 Lib.pow10Tab:DataW Unit):=by kernel_rfl
theorem Bn {W:World}(h:W.ShapedOpen Tryz.prog):bP W :=
 Go.Proofs.cell_of_shapedOpen_int (zero:=#[.int .i64 0]) (t:=3) h (of_decide_eq_true (by kernel_rfl)) (by kernel_rfl) rfl (by kernel_rfl) (by kernel_rfl) Tryz.underlying3
def Ag : List (String × DataW Unit) := [("math/bits.deBruijn32tab", Rows.laid_math_bits_deBruijn32tab), ("math/bits.deBruijn64tab", Rows.laid_math_bits_deBruijn64tab), ("internal/strconv.uint64pow10", Rows.laid_internal_strconv_uint64pow10), ("unicode/utf8.acceptRanges", Rows.laid_unicode_utf8_acceptRanges), ("unicode.CaseRanges", Rows.laid_unicode_CaseRanges), ("unicode/utf8.first", Rows.laid_unicode_utf8_first)]
theorem tables {W:World}(h:laidMetH Tryz.prog Ag W):Tbl W:=by
 have h':laidMet Tryz.prog Ag W:=h;obtain⟨ps,⟨_,_,_,_,_,_,_,_,_,_,t1,_⟩,_⟩:=h';obtain⟨_,_,_,_,_,_,_,_,_,_,t2,_⟩:=id t1;obtain⟨g',t',cs,A7,p,q,A6,A9,A2,hd,_,_⟩:=t1;obtain rfl:=Option.some.inj (Bw.symm.trans A6);obtain rfl:=Option.some.inj (wA.symm.trans A9);rw[xj] at hd;have A8 : Lib.TabIs Tryz.prog W "math/bits.deBruijn64tab" .u8 Ae := by unfold Lib.TabIs;rw[A2,<- Lib.cells_of_tab Tryz.underlying346 Tryz.underlying5 Aa yJ hd]
 obtain⟨g2,u2,Ac,A3,p2,q2,A5,Ab,A1,A4,_,_⟩:=t2;obtain rfl:=Option.some.inj (An.symm.trans A5);obtain rfl:=Option.some.inj (xi.symm.trans Ab);rw[wX] at A4;have A0 : Lib.TabIs Tryz.prog W "internal/strconv.uint64pow10" .u64 Lib.pow10Tab := by unfold Lib.TabIs;rw[A1,<- Lib.cells_of_tab Tryz.underlying293 Tryz.underlying240 xL yH A4]
 exact⟨A8.cell Bw 15 (by decide),⟨A0,World.block_lt_of_cell? _ _ (A0.cell An 0 (by decide))⟩⟩
open Go Go.Conc Go.ConcM
theorem nL {P:Program}{f:FuncId}{args:Array Value}{w:World}{R:Value->World->Prop}(h:Calls P f args w fun|.returned v,w'=>R v w'|_,_=>False)(hi:P.inits.idxOf? f=none) :
 ∃ M last o w' t',runNT P (M+1) (solo (G (Frame.enter P f args .normal) []) w) #[]=(.ended o w',t')/\runN P M (solo (G (Frame.enter P f args .normal) []) w)=.next last/\step P last=.ended o w'/\Conc.Good P R last o w' t':=by
 obtain⟨n,v,w',fr,hn,A0,hp⟩:=h.done_lone hi;refine⟨n,lone fr [] w',.done v,w',(runNT P (n+1) (lone (Frame.enter P f args .normal) [] w) #[]).2,?_,hn,step_of_runs hn A0,v,rfl,hp,λ said=>(no_race_of_lone P n _ _ hn (by simp[lone]) rfl).2,handedOver_of_lone hn,⟨?_,rfl⟩,?_⟩
 ·refine Prod.ext ?_ rfl;rw[runNT_fst];exact A0
 ·intro g hg;simp[lone] at hg
 ·intro i g hg hi;cases i with
  | zero=>exact absurd rfl hi
  | succ k=>simp[lone] at hg
open Go Go.Conc Go.ConcM
section
variable {H:Type} {enc:TypeId×Value->H}
theorem l9 {a:Assume}{C:Checked}{os:Os}{f:FuncId}{fn:Func}{s:ChangeSpec}{F:Stop.Interp}{conds:List PathCond}{apart fresh handsOn:Bool}{laid:List (String×DataW Unit)}
 (own:ownKnob C.prog.godebug=none)(started:os.Started)(noInit:C.prog.inits.idxOf? f=none)(hfn:C.prog.funcs[f]?=some fn)
 (witness:∃ (w:World) (tape:Tape) (i:Input),w.os=os/\(w.forCall tape i).Shaped C.prog/\i.vars=[]/\Input.okWide C.prog (w.forCall tape i) .any w.heap.size f i /\
   (OpenSpec.ofChange s).preRow enc C.prog fn conds apart laid (w.forCall tape i).memory i.args/\a.holds C.prog (lone (Frame.enter C.prog f i.args .normal) [] (w.forCall tape i)))
 (mG:∀ (W:World) (base:Nat) (args:Array Value) (ds gs:List (DataW H)) (before:List MemPlace),
   (∀ (j:Nat) t v,fn.params[j]?=some t->args[j]?=some v->Value.okWide C.prog W .any base t v) ->
   DataW.Whole enc C.prog fn.params.toList s.vars apart W args.toList ds gs before ->
   laidMetH C.prog laid W ->
   W.ShapedOpen C.prog ->
   Calls C.prog f args W λ e W'=>∃ v,e=.returned v/\s.post enc C.prog fn apart fresh handsOn false W args v W'/\W'.os=W.os) :
 ReturnsInLeavingWide a C os f .any ((OpenSpec.ofChange s).preRow enc C.prog fn conds apart laid) ((OpenSpec.ofChange s).postWith enc C.prog fn F (outsideKept [.timePasses]) apart fresh handsOn):=by
 refine returnsInLeavingWide_of_good own started witness ?_;intro w tape i _ A8 _ A7 A3 A2;obtain⟨_,_,_,A5,A6,_,_,_,_,A1⟩:=A7;have e:A5=fn:=Option.some.inj (A6.symm.trans hfn);subst e;obtain⟨⟨hp,hl⟩,hz⟩:=A3;obtain⟨ds,gs,before,hw,hc,hk⟩:=OpenSpec.pre_parts hp;have A9:=DataW.Whole.of_heap (w':=w.forCall tape i) (by rfl) hw;have A0:=mG (w.forCall tape i) w.heap.size i.args ds gs before A1 A9 (hl.of_heap (by rfl)) A8;obtain⟨M,A4,o,w',t',h1,h2,h3,h4⟩:=nL (R:=λ v W'=>s.post enc C.prog A5 apart fresh handsOn false (w.forCall tape i) i.args v W'/\W'.os=(w.forCall tape i).os) (A0.mono λ e W' ⟨v,he,hp⟩=>by subst he;exact hp) noInit;obtain⟨v,e,hp,r1,r2,r3,r4⟩:=h4;refine⟨M,A4,o,w',t',h1,h2,h3,v,e,postWith_blind (postWith_of_post (?_:s.post enc C.prog A5 apart fresh handsOn false (w.forCall tape i) i.args v { w' with os:=(w.forCall tape i).os }) ?_),r1,r2,r3,r4⟩
 ·(have e2:({ w' with os:=(w.forCall tape i).os }:World)=w':=by rw[<- hp.2]);rw[e2];exact hp.1
 ·rw[hp.2];exact⟨0,rfl⟩
end
open Go.RowKit
theorem o7 (x:World)(c:UInt8)(v:Int)(hv:v=(c.toNat:Int)):(convert 115 9 (.slice (some ⟨x.heap.size,0,none⟩) 1 1)).run Tryz.prog (x.alloc (.cells #[.int .u8 v] 5))=.ok (.string ⟨#[c]⟩) (x.alloc (.cells #[.int .u8 v] 5)):=by
 subst hv;have:=run_convert_bytes_back (P:=Tryz.prog) (x.alloc (.cells #[.int .u8 (c.toNat:Int)] 5)) 115 9 5 ⟨x.heap.size,0,none⟩ 1 [c] Tryz.underlying115 Tryz.underlying5 Tryz.underlying9 (λ j hj=>by
  (obtain rfl:j=0:=by simpa using hj);rw[Go.WideShapes.add_plain]
  simp)
 simpa using this
theorem cP (n k:Nat)(w:World)(hn:n<4611686018427387904)(hk:k<=8):Calls Tryz.prog 163 #[.int .i64 n,.int .i64 k] w λ e w'=>e=.returned (.string ⟨(be n k).toArray⟩)/\Below w.heap.size w w':=by
 go_enter Tryz.func163,Tryz.ntmps163;go_wp2;go_loopw [0,5,6] (λ nv ov iv wr=>∃ i:Nat,i<=k/\iv=.int .i64 i/\nv=.int .i64 (n/256 ^ i:Nat)/\ov=.string ⟨(be n i).toArray⟩/\Below w.heap.size w wr) (λ _ _ iv _=>k-(intOf iv).toNat);case atStart=>exact⟨0,Nat.zero_le _,rfl,by simp,rfl,Below.refl _ _⟩
 case round =>
  obtain⟨i,hi,rfl,rfl,rfl,hb⟩:=hrel;have HB:Hid _:=hb;clear hb;by_cases hik:i<k
  ·(have A5:(i:Int)<(k:Int):=by omega);have A1:=aR n i;(have A3:(⟨(be n i).toArray⟩:ByteArray).size=i:=by rw[Lib.size_eq];exact A1);(have HM:Hid (n/256 ^ (i+1)=n/256 ^ i/256):=by show _=_;rw[Nat.div_div_eq_div_mul,Nat.pow_succ]);have A2:n/256 ^ i<=n:=Nat.div_le_self _ _;have A0:Hid (be n (i+1)=UInt8.ofNat (n/256 ^ i%256)::be n i):=rfl;obtain⟨m,hm⟩:∃ m,n/256 ^ i=m:=⟨_,rfl⟩;rw[hm] at HM A2 A0 ⊢;clear hm;have A4:=o7 wr (UInt8.ofNat (m%256)) ((m:Int)%256) (by simp);go_wp2_with fail;refine⟨⟨i+1,by omega,by go_num,?_,?_,HB.out.trans (((Below.refl _ _).alloc (Nat.le_refl _) _).mono HB.out.size)⟩,by simp[intOf];omega⟩
   ·rw[HM.out];go_num
   ·rw[A0.out];exact congrArg Value.string (by apply ByteArray.ext;simp[ByteArray.data_append])
  ·(obtain rfl:i=k:=by omega);go_wp2;go_ret;exact⟨rfl,HB.out⟩
end Go.Proofs.YtmehkneofinmiaaGreatDoor

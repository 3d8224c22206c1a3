/-
 Texts of this proof, part 25.
-/
import Derived.Test.YtmehkneofinmiaaGreatDoorP24
namespace Go.Proofs.YtmehkneofinmiaaGreatDoor
open Go.RowKit
structure Mem where
 g:Nat
 cap:Nat
 es:Nat->Value
 ps:Nat->List Nat
 en:Nat->Ent
 vs:Nat->Value
 jr:Value
def storeCells (rd:Int)(g n cap t k:Nat)(jr:Value):Array Value :=
 #[.int .i32 0,.int .u32 0,.int .u32 0,.int .u32 0,.int .i32 rd,.int .i32 0,.slice (some ⟨g,0,none⟩) n cap,.int .i32 0,.int .u32 0,.int .i64 t,.int .i64 k,jr]
def Mem.keys (M:Mem)(i:Nat):List (List UInt8):=(M.ps i).map fun p=>(M.en p).key
structure StoreAt (w:World)(s n:Nat)(rd:Int)(lk:Nat->Int)(σ:St)(M:Mem):Prop where
 n1:1<=n
 n8:n<=8
 blk:w.heap[s]?=some (.cells (storeCells rd M.g n M.cap σ.time σ.ents.length M.jr) 119 (0,0))
 row:∃ cs,w.heap[M.g]?=some (.cells cs 164 (0,0))/\∀ i,i<n->cs[i*3]?=some (.int .i32 (lk i))/\cs[i*3+2]?=some (M.es i)
 kt:∀ i,i<n->Kt w (M.es i) (M.ps i) (M.keys i)
 ent:∀ i,i<n->∀ p∈M.ps i,EntAt w p (M.en p) (M.vs p)
 lst:∀ i,i<n->(M.ps i).map M.en=σ.ents.filter fun E=>hashK E.key%n==i
 jrn:Byt w 0 M.jr σ.log
 des:∀ i j,i<n->j<n->i≠j->∀ b,(M.es i).ownBlock=some b->(M.es j).ownBlock≠some b
 dvs:∀ i j p q,i<n->j<n->p∈M.ps i->q∈M.ps j->p≠q->∀ b,(M.vs p).ownBlock=some b->(M.vs q).ownBlock≠some b
 rise:RiseL σ.ents
 ok:∀ E∈σ.ents,EntOK E
 many:σ.ents.length<=60
 time:σ.time<=253402300799
 lastB:∀ E∈σ.ents,E.last<=σ.log.length
def Mem.own (M:Mem)(s n k:Nat):Prop :=
 k=s\/k=M.g\/(∃ i,i<n/\(M.es i).ownBlock=some k)\/(∃ i,i<n/\k∈M.ps i)\/(∃ i p,i<n/\p∈M.ps i/\(M.vs p).ownBlock=some k)\/M.jr.ownBlock=some k
theorem StoreAt.off {w x:World}{s n:Nat}{rd:Int}{lk:Nat->Int}{σ:St}{M:Mem}{S:Nat->Prop}(h:StoreAt w s n rd lk σ M)(ho:Off S w x)(hS:∀ k,M.own s n k->¬ S k):StoreAt x s n rd lk σ M:=by
 obtain⟨cs,hc,hr⟩:=h.row
 refine⟨h.n1,h.n8,(ho.block s (Array.getElem?_eq_some_iff.1 h.blk).1 (hS s (Or.inl rfl))).trans h.blk,
  ⟨cs,(ho.block _ (Array.getElem?_eq_some_iff.1 hc).1 (hS _ (Or.inr (Or.inl rfl)))).trans hc,hr⟩,
  fun i hi=>(h.kt i hi).off ho (fun b hb=>hS b (Or.inr (Or.inr (Or.inl ⟨i,hi,hb⟩)))) (fun q hq=>hS q (Or.inr (Or.inr (Or.inr (Or.inl ⟨i,hi,hq⟩))))),
  fun i hi p hp=>(h.ent i hi p hp).off ho (hS p (Or.inr (Or.inr (Or.inr (Or.inl ⟨i,hi,hp⟩))))) (fun b hb=>hS b (Or.inr (Or.inr (Or.inr (Or.inr (Or.inl ⟨i,p,hi,hp,hb⟩)))))),
  h.lst,Byt.off (base:=0) h.jrn ho (fun b hb=>hS b (Or.inr (Or.inr (Or.inr (Or.inr (Or.inr hb)))))),h.des,h.dvs,h.rise,h.ok,h.many,h.time,h.lastB⟩
theorem StoreAt.below {w x:World}{s n:Nat}{rd:Int}{lk:Nat->Int}{σ:St}{M:Mem}(h:StoreAt w s n rd lk σ M)(hb:Below w.heap.size w x):StoreAt x s n rd lk σ M :=
 h.off (Off.of_below (S:=fun _=>False) hb) (fun _ _ h=>h)
theorem StoreAt.lock {w:World}{s n:Nat}{rd:Int}{lk:Nat->Int}{σ:St}{M:Mem}(h:StoreAt w s n rd lk σ M)(i:Nat)(hi:i<n)(v:Int) :
 StoreAt (w.setCell ⟨M.g,i*3,none⟩ (.int .i32 v)) s n rd (fun j=>if j=i then v else lk j) σ M:=by
 obtain⟨cs,hc,hr⟩:=h.row
 have ho:Off (fun k=>k=M.g) w (w.setCell ⟨M.g,i*3,none⟩ (.int .i32 v)):=(Off.refl (fun k=>k=M.g) w).set M.g (i*3) _ (Or.inl rfl)
 refine⟨h.n1,h.n8,(ho.block s (Array.getElem?_eq_some_iff.1 h.blk).1 (ne_of_types h.blk hc (by decide))).trans h.blk,⟨cs.setIfInBounds (i*3) (.int .i32 v),heap_set hc,fun j hj=>?_⟩,
  fun j hj=>(h.kt j hj).off ho (fun b hb e=>own_far (h.kt j hj).k.row hc (by decide) (e ▸ hb)) (fun q hq e=>by obtain⟨cq,hq'⟩:=(h.kt j hj).t q hq;exact ne_of_types hq' hc (by decide) e),
  fun j hj p hp=>(h.ent j hj p hp).off ho (fun e=>ne_of_types (h.ent j hj p hp).blk hc (by decide) e) (fun b hb e=>own_far (h.ent j hj p hp).row hc (by decide) (e ▸ hb)),
  h.lst,Byt.off (base:=0) h.jrn ho (fun b hb e=>own_far h.jrn hc (by decide) (e ▸ hb)),h.des,h.dvs,h.rise,h.ok,h.many,h.time,h.lastB⟩
 have h1:=hr j hj
 have hlt:i*3<cs.size:=(Array.getElem?_eq_some_iff.1 (hr i hi).1).1
 refine⟨?_,?_⟩
 ·by_cases e:j=i
  ·subst e
   simp[hlt]
  ·rw[if_neg e,Array.getElem?_setIfInBounds_ne (by omega)]
   exact h1.1
 ·rw[Array.getElem?_setIfInBounds_ne (by omega)]
  exact h1.2
theorem isPos_at {l:List Ent}(hr:RiseL l){j:Nat}{A:Ent}(h:l[j]?=some A):IsPos (l.map Ent.key) A.key j:=by
 have hlt:=(List.getElem?_eq_some_iff.1 h).1
 have hR:=hr.rising
 have hj:(l.map Ent.key)[j]?=some A.key:=by rw[List.getElem?_map,h];rfl
 refine⟨by simp;omega,fun i a hi ha=>hR i j a A.key hi ha hj,fun i a hi ha=>?_⟩
 by_cases e:i=j
 ·subst e
  rw[hj] at ha
  cases ha
  rw[cmpB_refl]
  omega
 ·have:=hR j i A.key a (by omega) hj ha
  rw[cmpB_swap,this]
  decide
theorem StoreAt.keys_eq {w:World}{s n:Nat}{rd:Int}{lk:Nat->Int}{σ:St}{M:Mem}(h:StoreAt w s n rd lk σ M){i:Nat}(hi:i<n):M.keys i=(σ.ents.filter fun E=>hashK E.key%n==i).map Ent.key:=by
 rw[<- h.lst i hi,List.map_map]
 rfl
theorem StoreAt.look_yes {w:World}{s n:Nat}{rd:Int}{lk:Nat->Int}{σ:St}{M:Mem}(h:StoreAt w s n rd lk σ M)(key:List UInt8)(hf:(findE σ.ents key).last≠0) :
 ∃ j p,IsPos (M.keys (hashK key%n)) key j/\(M.keys (hashK key%n))[j]?=some key/\(M.ps (hashK key%n))[j]?=some p/\M.en p=findE σ.ents key:=by
 have hi:hashK key%n<n:=Nat.mod_lt _ h.n1
 have hm:=findE_mem hf
 have hk:=findE_key σ.ents key
 have hmf:findE σ.ents key∈σ.ents.filter fun E=>hashK E.key%n==hashK key%n:=List.mem_filter.2 ⟨hm,by rw[hk];simp⟩
 rw[<- h.lst _ hi] at hmf
 obtain⟨j,hjl,hj⟩:=List.mem_iff_getElem.1 hmf
 have hj':((M.ps (hashK key%n)).map M.en)[j]?=some (findE σ.ents key):=by rw[List.getElem?_eq_getElem hjl,hj]
 rw[List.getElem?_map] at hj'
 obtain⟨p,hp,he⟩:=Option.map_eq_some_iff.1 hj'
 have hfl:(σ.ents.filter fun E=>hashK E.key%n==hashK key%n)[j]?=some (findE σ.ents key):=by rw[<- h.lst _ hi,List.getElem?_map,hp,Option.map_some,he]
 refine⟨j,p,?_,?_,hp,he⟩
 ·have:=isPos_at (h.rise.filter _) hfl
  rw[hk] at this
  rw[h.keys_eq hi]
  exact this
 ·rw[Mem.keys,List.getElem?_map,hp,Option.map_some,he,hk]
theorem StoreAt.look_no {w:World}{s n:Nat}{rd:Int}{lk:Nat->Int}{σ:St}{M:Mem}(h:StoreAt w s n rd lk σ M)(key:List UInt8)(hf:(findE σ.ents key).last=0) :
 ∃ j,IsPos (M.keys (hashK key%n)) key j/\(M.keys (hashK key%n))[j]?≠some key:=by
 have hi:hashK key%n<n:=Nat.mod_lt _ h.n1
 obtain⟨j,hj⟩:=isPos_ex (h.rise.filter fun E=>hashK E.key%n==hashK key%n) key
 rw[h.keys_eq hi]
 refine⟨j,hj,fun e=>?_⟩
 rw[List.getElem?_map] at e
 obtain⟨A,hA,he⟩:=Option.map_eq_some_iff.1 e
 have:=(List.mem_filter.1 (List.mem_of_getElem? hA)).1
 exact (findE_none (fun E hE=>(h.ok E hE).last) hf).1 A this he
theorem putE_len {l:List Ent}{E A:Ent}{i:Nat}(hr:RiseL l)(h:l[i]?=some A)(hk:A.key=E.key):(putE l E).length=l.length:=by
 rw[putE_at hr h hk,List.length_set]
def upd {α:Type}(f:Nat->α)(p:Nat)(x:α):Nat->α:=fun q=>if q=p then x else f q
theorem upd_same {α:Type}(f:Nat->α)(p:Nat)(x:α):upd f p x p=x:=by simp[upd]
theorem upd_other {α:Type}{f:Nat->α}{p q:Nat}{x:α}(h:q≠p):upd f p x q=f q:=by simp[upd,h]
theorem StoreAt.hash {w:World}{s n:Nat}{rd:Int}{lk:Nat->Int}{σ:St}{M:Mem}(h:StoreAt w s n rd lk σ M){i p:Nat}(hi:i<n)(hp:p∈M.ps i):hashK (M.en p).key%n=i:=by
 have:M.en p∈(M.ps i).map M.en:=List.mem_map_of_mem hp
 rw[h.lst i hi] at this
 simpa using (List.mem_filter.1 this).2
theorem StoreAt.once {w:World}{s n:Nat}{rd:Int}{lk:Nat->Int}{σ:St}{M:Mem}(h:StoreAt w s n rd lk σ M){i p a b:Nat}(hi:i<n)(ha:(M.ps i)[a]?=some p)(hb:(M.ps i)[b]?=some p):a=b:=by
 have hr:=h.rise.filter fun E=>hashK E.key%n==i
 rw[<- h.lst i hi] at hr
 have hr2:=hr.rising
 have ea:(((M.ps i).map M.en).map Ent.key)[a]?=some (M.en p).key:=by simp[ha]
 have eb:(((M.ps i).map M.en).map Ent.key)[b]?=some (M.en p).key:=by simp[hb]
 rcases Nat.lt_trichotomy a b with hlt|rfl|hlt
 ·exact absurd (hr2 a b _ _ hlt ea eb) (by rw[cmpB_refl];decide)
 ·rfl
 ·exact absurd (hr2 b a _ _ hlt eb ea) (by rw[cmpB_refl];decide)
theorem map_upd {l:List Nat}{f:Nat->Ent}{p j:Nat}{E:Ent}(hj:l[j]?=some p)(h1:∀ a,l[a]?=some p->a=j):l.map (upd f p E)=(l.map f).set j E:=by
 apply List.ext_getElem?
 intro a
 rw[List.getElem?_map]
 by_cases e:a=j
 ·subst e
  rw[hj,Option.map_some,upd_same,List.getElem?_set_self (by simpa using (List.getElem?_eq_some_iff.1 hj).1)]
 ·rw[List.getElem?_set_ne (fun h=>e h.symm),List.getElem?_map]
  cases h:l[a]? with
  | none=>rfl
  | some q=>rw[Option.map_some,Option.map_some,upd_other (fun hq:q=p=>e (h1 a (by rw[h,hq])))]
theorem map_upd_no {l:List Nat}{f:Nat->Ent}{p:Nat}{E:Ent}(h:p ∉ l):l.map (upd f p E)=l.map f:=by
 apply List.map_congr_left
 intro q hq
 exact upd_other (fun e=>h (e ▸ hq))
theorem StoreAt.chg {w w':World}{s n:Nat}{rd:Int}{lk:Nat->Int}{σ:St}{M:Mem}(h:StoreAt w s n rd lk σ M){i p:Nat}(hi:i<n)(hp:p∈M.ps i){E':Ent}{vs' jr':Value}{log':List UInt8}(hk:E'.key=(M.en p).key)(hok:EntOK E')(hl1:E'.last<=log'.length)(hl2:σ.log.length<=log'.length)
 (hE:EntAt w' p E' vs')(hvs:∀ b,vs'.ownBlock=some b->(M.vs p).ownBlock=some b\/w.heap.size<=b)
 (hJ:Jrn w' s ((storeCells rd M.g n M.cap σ.time σ.ents.length M.jr).setIfInBounds 11 jr') M.jr jr' log' w.heap.size)
 (ho:Off (fun k=>k=s\/M.jr.ownBlock=some k\/k=p\/(M.vs p).ownBlock=some k) w w') :
 StoreAt w' s n rd lk ⟨σ.time,putE σ.ents E',log'⟩ { M with en:=upd M.en p E',vs:=upd M.vs p vs',jr:=jr' }:=by
 obtain⟨cs,hc,hr⟩:=h.row
 have hEp:=h.ent i hi p hp
 obtain⟨j0,hjl,hje⟩:=List.mem_iff_getElem.1 hp
 have hj':(M.ps i)[j0]?=some p:=by rw[List.getElem?_eq_getElem hjl,hje]
 have hfl:(σ.ents.filter fun E=>hashK E.key%n==i)[j0]?=some (M.en p):=by rw[<- h.lst i hi,List.getElem?_map,hj',Option.map_some]
 obtain⟨a,ha,hae⟩:=List.mem_iff_getElem.1 (List.mem_filter.1 (List.mem_of_getElem? hfl)).1
 have ha':σ.ents[a]?=some (M.en p):=by rw[List.getElem?_eq_getElem ha,hae]
 have hlen:(putE σ.ents E').length=σ.ents.length:=putE_len h.rise ha' hk.symm
 have hhash:hashK E'.key%n=i:=by rw[hk];exact h.hash hi hp
 have far:∀ j,j<n->∀ q∈M.ps j,q≠p->¬ (q=s\/M.jr.ownBlock=some q\/q=p\/(M.vs p).ownBlock=some q):=by
  intro j hj q hq hne
  have hb:=(h.ent j hj q hq).blk
  rintro (e|e|e|e)
  ·exact ne_of_types hb h.blk (by decide) e
  ·exact own_far h.jrn hb (by decide) e
  ·exact hne e
  ·exact own_far hEp.row hb (by decide) e
 have hother:∀ j,j<n->∀ q∈M.ps j,q≠p->EntAt w' q (M.en q) (M.vs q):=by
  intro j hj q hq hne
  refine (h.ent j hj q hq).off ho (far j hj q hq hne) (fun b hb=>?_)
  rintro (e|e|e|e)
  ·exact own_far (h.ent j hj q hq).row h.blk (by decide) (e ▸ hb)
  ·exact own_apart (h.ent j hj q hq).row h.jrn (by decide) b hb e
  ·exact own_far (h.ent j hj q hq).row hEp.blk (by decide) (e ▸ hb)
  ·exact h.dvs i j p q hi hj hp hq (Ne.symm hne) b e hb
 have hrowO:∀ j,j<n->w'.ownsRow 0 170 1 (M.es j) (M.ps j).length (ptrs (M.ps j)):=by
  intro j hj
  have h0:=(h.kt j hj).k.row
  refine⟨h0.1,?_⟩
  rcases h0.2 with e|⟨g,cap,cur,hv,h1,hg,h2⟩
  ·exact Or.inl e
  ·refine Or.inr ⟨g,cap,cur,hv,h1,(ho.block g (Array.getElem?_eq_some_iff.1 hg).1 ?_).trans hg,h2⟩
   rintro (e|e|e|e)
   ·exact ne_of_types hg h.blk (by decide) e
   ·exact own_far h.jrn hg (by decide) e
   ·exact ne_of_types hg hEp.blk (by decide) e
   ·exact own_far hEp.row hg (by decide) e
 have hent:∀ j,j<n->∀ q∈M.ps j,EntAt w' q (upd M.en p E' q) (upd M.vs p vs' q):=by
  intro j hj q hq
  by_cases e:q=p
  ·subst e
   rw[upd_same,upd_same]
   exact hE
  ·rw[upd_other e,upd_other e]
   exact hother j hj q hq e
 refine⟨h.n1,h.n8,?_,⟨cs,(ho.block _ (Array.getElem?_eq_some_iff.1 hc).1 ?_).trans hc,hr⟩,fun j hj=>⟨⟨hrowO j hj,by simp[Mem.keys],fun a q k ha hk=>?_,fun q hq=>(hent j hj q hq).lt⟩,fun q hq=>⟨_,(hent j hj q hq).blk⟩⟩,hent,fun j hj=>?_,hJ.byt,h.des,?_,putE_rise h.rise E',?_,by rw[hlen];exact h.many,h.time,?_⟩
 ·rw[hJ.blk,hlen]
  rfl
 ·rintro (e|e|e|e)
  ·exact ne_of_types hc h.blk (by decide) e
  ·exact own_far h.jrn hc (by decide) e
  ·exact ne_of_types hc hEp.blk (by decide) e
  ·exact own_far hEp.row hc (by decide) e
 ·have hm:=List.mem_of_getElem? ha
  have:=(hent j hj q hm).c0
  simp only[Mem.keys,List.getElem?_map,ha,Option.map_some,Option.some.injEq] at hk
  rw[<- hk]
  exact this
 ·by_cases e:j=i
  ·subst e
   show (M.ps j).map (upd M.en p E')=_
   rw[map_upd hj' (fun a ha=>h.once hj ha hj'),h.lst j hj]
   rw[putE_filter_yes h.rise E' (fun k=>hashK k%n==j) (by simp[hhash])]
   rw[putE_at (h.rise.filter _) hfl hk.symm]
  ·show (M.ps j).map (upd M.en p E')=_
   have hnp:p ∉ M.ps j:=fun hm=>e ((h.hash hj hm).symm.trans (h.hash hi hp))
   rw[map_upd_no hnp,h.lst j hj,putE_filter_no E' (fun k=>hashK k%n==j) (by simp[hhash];exact fun h=>e h.symm)]
 ·intro a b q r ha hb hq hr hne c hc1 hc2
  change (upd M.vs p vs' q).ownBlock=some c at hc1
  change (upd M.vs p vs' r).ownBlock=some c at hc2
  by_cases e1:q=p
  ·subst e1
   rw[upd_same] at hc1
   rw[upd_other (Ne.symm hne)] at hc2
   rcases hvs c hc1 with h1|h1
   ·exact h.dvs a b q r ha hb hq hr hne c h1 hc2
   ·have:=((h.ent b hb r hr).row.lt c hc2).2
    omega
  ·by_cases e2:r=p
   ·subst e2
    rw[upd_same] at hc2
    rw[upd_other e1] at hc1
    rcases hvs c hc2 with h1|h1
    ·exact h.dvs a b q r ha hb hq hr hne c hc1 h1
    ·have:=((h.ent a ha q hq).row.lt c hc1).2
     omega
   ·rw[upd_other e1] at hc1
    rw[upd_other e2] at hc2
    exact h.dvs a b q r ha hb hq hr hne c hc1 hc2
 ·intro A hA
  rcases putE_mem hA with e|hA
  ·rw[e];exact hok
  ·exact h.ok A hA
 ·intro A hA
  rcases putE_mem hA with e|hA
  ·rw[e];exact hl1
  ·exact Nat.le_trans (h.lastB A hA) hl2
theorem putE_len_new {l:List Ent}{E:Ent}{i:Nat}(hr:RiseL l)(hp:IsPos (l.map Ent.key) E.key i)(hn:∀ A∈l,A.key≠E.key):(putE l E).length=l.length+1:=by
 have hle:=hp.le
 rw[putE_new hr hp hn,List.length_append,List.length_cons,List.length_take,List.length_drop]
 simp at hle
 omega
theorem mem_put {l:List Nat}{p q i:Nat}(h:q∈l.take i++p::l.drop i):q=p\/q∈l:=by
 rcases List.mem_append.1 h with h|h
 ·exact Or.inr (List.mem_of_mem_take h)
 ·rcases List.mem_cons.1 h with h|h
  ·exact Or.inl h
  ·exact Or.inr (List.mem_of_mem_drop h)
theorem StoreAt.add {w w':World}{s n:Nat}{rd:Int}{lk:Nat->Int}{σ:St}{M:Mem}(h:StoreAt w s n rd lk σ M){i p j:Nat}{E':Ent}{vs' es' jr':Value}{log':List UInt8}{cs:Array Value}{cp:Array Value}(hi:i=hashK E'.key%n)(hpn:∀ j,j<n->p ∉ M.ps j)(hpb:w.heap[p]?=some (.cells cp 230 (0,0)))
 (hkn:∀ A∈σ.ents,A.key≠E'.key)(hpos:IsPos (M.keys i) E'.key j)(hok:EntOK E')(hl1:E'.last<=log'.length)(hl2:σ.log.length<=log'.length)(hmany:σ.ents.length<60)
 (hc:w.heap[M.g]?=some (.cells cs 164 (0,0)))(hr:∀ i,i<n->cs[i*3]?=some (.int .i32 (lk i))/\cs[i*3+2]?=some (M.es i))
 (hE:EntAt w' p E' vs')(hvs:∀ b,vs'.ownBlock=some b->w.heap.size<=b)
 (hJ:Jrn w' s (((storeCells rd M.g n M.cap σ.time σ.ents.length M.jr).setIfInBounds 10 (.int .i64 ((σ.ents.length:Int)+1))).setIfInBounds 11 jr') M.jr jr' log' w.heap.size)
 (hg:w'.heap[M.g]?=some (.cells (cs.setIfInBounds (i*3+2) es') 164 (0,0)))
 (hrow:w'.ownsRow 0 170 1 es' ((M.ps i).length+1) (ptrs ((M.ps i).take j++p::(M.ps i).drop j)))(hes:∀ b,es'.ownBlock=some b->(M.es i).ownBlock=some b\/w.heap.size<=b)
 (ho:Off (fun k=>k=s\/M.jr.ownBlock=some k\/k=M.g\/k=p\/(M.es i).ownBlock=some k) w w') :
 StoreAt w' s n rd lk ⟨σ.time,putE σ.ents E',log'⟩ { M with es:=upd M.es i es',ps:=upd M.ps i ((M.ps i).take j++p::(M.ps i).drop j),en:=upd M.en p E',vs:=upd M.vs p vs',jr:=jr' }:=by
 have hin:i<n:=by rw[hi];exact Nat.mod_lt _ h.n1
 obtain⟨j0,hj0⟩:=isPos_ex h.rise E'.key
 have hlen:(putE σ.ents E').length=σ.ents.length+1:=putE_len_new h.rise hj0 hkn
 have hother:∀ a,a<n->∀ q∈M.ps a,EntAt w' q (M.en q) (M.vs q):=by
  intro a ha q hq
  have hb:=h.ent a ha q hq
  refine hb.off ho ?_ (fun b hbo=>?_)
  ·rintro (e|e|e|e|e)
   ·exact ne_of_types hb.blk h.blk (by decide) e
   ·exact own_far h.jrn hb.blk (by decide) e
   ·exact ne_of_types hb.blk hc (by decide) e
   ·exact hpn a ha (e ▸ hq)
   ·exact own_far (h.kt i hin).k.row hb.blk (by decide) e
  ·rintro (e|e|e|e|e)
   ·exact own_far hb.row h.blk (by decide) (e ▸ hbo)
   ·exact own_apart hb.row h.jrn (by decide) b hbo e
   ·exact own_far hb.row hc (by decide) (e ▸ hbo)
   ·exact own_far hb.row hpb (by decide) (e ▸ hbo)
   ·exact own_apart hb.row (h.kt i hin).k.row (by decide) b hbo e
 have hpsm:∀ a,a<n->∀ q∈upd M.ps i ((M.ps i).take j++p::(M.ps i).drop j) a,q=p\/q∈M.ps a:=by
  intro a ha q hq
  by_cases e:a=i
  ·subst e
   rw[upd_same] at hq
   exact mem_put hq
  ·rw[upd_other e] at hq
   exact Or.inr hq
 have hent:∀ a,a<n->∀ q∈upd M.ps i ((M.ps i).take j++p::(M.ps i).drop j) a,EntAt w' q (upd M.en p E' q) (upd M.vs p vs' q):=by
  intro a ha q hq
  by_cases e:q=p
  ·subst e
   rw[upd_same,upd_same]
   exact hE
  ·rw[upd_other e,upd_other e]
   exact hother a ha q ((hpsm a ha q hq).resolve_left e)
 have hrowO:∀ a,a<n->w'.ownsRow 0 170 1 (upd M.es i es' a) (upd M.ps i ((M.ps i).take j++p::(M.ps i).drop j) a).length (ptrs (upd M.ps i ((M.ps i).take j++p::(M.ps i).drop j) a)):=by
  intro a ha
  by_cases e:a=i
  ·subst e
   rw[upd_same,upd_same]
   have hl:((M.ps a).take j++p::(M.ps a).drop j).length=(M.ps a).length+1:=by
    have:=hpos.le
    simp[Mem.keys] at this
    simp
    omega
   rw[hl]
   exact hrow
  ·rw[upd_other e,upd_other e]
   have h0:=(h.kt a ha).k.row
   refine⟨h0.1,?_⟩
   rcases h0.2 with e0|⟨g,cap,cur,hv,h1,hgg,h2⟩
   ·exact Or.inl e0
   ·refine Or.inr ⟨g,cap,cur,hv,h1,(ho.block g (Array.getElem?_eq_some_iff.1 hgg).1 ?_).trans hgg,h2⟩
    rintro (e'|e'|e'|e'|e')
    ·exact ne_of_types hgg h.blk (by decide) e'
    ·exact own_far h.jrn hgg (by decide) e'
    ·exact ne_of_types hgg hc (by decide) e'
    ·exact ne_of_types hgg hpb (by decide) e'
    ·exact h.des a i ha hin e g (by rw[hv];rfl) e'
 refine⟨h.n1,h.n8,?_,⟨cs.setIfInBounds (i*3+2) es',hg,fun a ha=>?_⟩,fun a ha=>⟨⟨hrowO a ha,by simp[Mem.keys],fun b q k hb hk=>?_,fun q hq=>(hent a ha q hq).lt⟩,fun q hq=>⟨_,(hent a ha q hq).blk⟩⟩,hent,fun a ha=>?_,hJ.byt,?_,?_,putE_rise h.rise E',?_,by rw[hlen];omega,h.time,?_⟩
 ·rw[hJ.blk,hlen]
  rfl
 ·have h1:=hr a ha
  have hlt:i*3+2<cs.size:=(Array.getElem?_eq_some_iff.1 (hr i hin).2).1
  refine⟨?_,?_⟩
  ·rw[Array.getElem?_setIfInBounds_ne (by omega)]
   exact h1.1
  ·show _=some (upd M.es i es' a)
   by_cases e:a=i
   ·subst e
    rw[upd_same]
    simp[hlt]
   ·rw[upd_other e,Array.getElem?_setIfInBounds_ne (by omega)]
    exact h1.2
 ·have hm:=List.mem_of_getElem? hb
  have:=(hent a ha q hm).c0
  have hk':((upd M.ps i ((M.ps i).take j++p::(M.ps i).drop j) a).map fun p_1=>(upd M.en p E' p_1).key)[b]?=some k:=hk
  have hb':(upd M.ps i ((M.ps i).take j++p::(M.ps i).drop j) a)[b]?=some q:=hb
  rw[List.getElem?_map,hb',Option.map_some] at hk'
  injection hk' with hk'
  rw[<- hk']
  exact this
 ·show (upd M.ps i ((M.ps i).take j++p::(M.ps i).drop j) a).map (upd M.en p E')=_
  by_cases e:a=i
  ·subst e
   rw[upd_same,putE_filter_yes h.rise E' (fun k=>hashK k%n==a) (by simp[hi])]
   have hpos':IsPos ((σ.ents.filter fun E=>hashK E.key%n==a).map Ent.key) E'.key j:=by rw[<- h.keys_eq ha];exact hpos
   rw[putE_new (h.rise.filter _) hpos' (fun A hA=>hkn A (List.mem_filter.1 hA).1),<- h.lst a ha,List.map_append,List.map_cons,upd_same,<- List.map_take,<- List.map_drop]
   rw[map_upd_no (fun hm=>hpn a ha (List.mem_of_mem_take hm)),map_upd_no (fun hm=>hpn a ha (List.mem_of_mem_drop hm))]
  ·rw[upd_other e,map_upd_no (hpn a ha),h.lst a ha,putE_filter_no E' (fun k=>hashK k%n==a) (by rw[<- hi];simpa using fun h=>e h.symm)]
 ·intro a b ha hb hne c h1 h2
  change (upd M.es i es' a).ownBlock=some c at h1
  change (upd M.es i es' b).ownBlock=some c at h2
  by_cases e1:a=i
  ·subst e1
   rw[upd_same] at h1
   rw[upd_other (Ne.symm hne)] at h2
   rcases hes c h1 with h3|h3
   ·exact h.des a b ha hb hne c h3 h2
   ·have:=((h.kt b hb).k.row.lt c h2).2
    omega
  ·by_cases e2:b=i
   ·subst e2
    rw[upd_same] at h2
    rw[upd_other e1] at h1
    rcases hes c h2 with h3|h3
    ·exact h.des a b ha hb hne c h1 h3
    ·have:=((h.kt a ha).k.row.lt c h1).2
     omega
   ·rw[upd_other e1] at h1
    rw[upd_other e2] at h2
    exact h.des a b ha hb hne c h1 h2
 ·intro a b q r ha hb hq hrr hne c hc1 hc2
  change (upd M.vs p vs' q).ownBlock=some c at hc1
  change (upd M.vs p vs' r).ownBlock=some c at hc2
  by_cases e1:q=p
  ·subst e1
   rw[upd_same] at hc1
   rw[upd_other (Ne.symm hne)] at hc2
   have hr':=(hpsm b hb r hrr).resolve_left (Ne.symm hne)
   have h1:=hvs c hc1
   have h2:=((h.ent b hb r hr').row.lt c hc2).2
   omega
  ·by_cases e2:r=p
   ·subst e2
    rw[upd_same] at hc2
    rw[upd_other e1] at hc1
    have hq':=(hpsm a ha q hq).resolve_left e1
    have h1:=hvs c hc2
    have h2:=((h.ent a ha q hq').row.lt c hc1).2
    omega
   ·rw[upd_other e1] at hc1
    rw[upd_other e2] at hc2
    exact h.dvs a b q r ha hb ((hpsm a ha q hq).resolve_left e1) ((hpsm b hb r hrr).resolve_left e2) hne c hc1 hc2
 ·intro A hA
  rcases putE_mem hA with e|hA
  ·rw[e];exact hok
  ·exact h.ok A hA
 ·intro A hA
  rcases putE_mem hA with e|hA
  ·rw[e];exact hl1
  ·exact Nat.le_trans (h.lastB A hA) hl2
end Go.Proofs.YtmehkneofinmiaaGreatDoor

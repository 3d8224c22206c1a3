/-part 22-/
import Derived.Test.YtmehkneofinmiaaGreatDoorP21
namespace Go.Proofs.YtmehkneofinmiaaGreatDoor
open Go.RowKit
structure Mem where
 g:Nat
 cap:Nat
 es:Nat->Value
 ps:Nat->List Nat
 en:Nat->Ent
 vs:Nat->Value
 jr:Value
def az (rd:Int)(g n cap t k:Nat)(jr:Value):Array Value :=
 #[.int .i32 0,.int .u32 0,.int .u32 0,.int .u32 0,.int .i32 rd,.int .i32 0,.slice (some ⟨g,0,none⟩) n cap,.int .i32 0,.int .u32 0,.int .i64 t,.int .i64 k,jr]
def Mem.keys (M:Mem)(i:Nat):List (List UInt8):=(M.ps i).map λ p=>(M.en p).key
structure ak (w:World)(s n:Nat)(rd:Int)(lk:Nat->Int)(σ:St)(M:Mem):Prop where
 n1:1<=n
 n8:n<=8
 blk:w.heap[s]?=some (.cells (az rd M.g n M.cap σ.time σ.ents.length M.jr) 119 (0,0))
 row:∃ cs,w.heap[M.g]?=some (.cells cs 164 (0,0))/\∀ i,i<n->cs[i*3]?=some (.int .i32 (lk i))/\cs[i*3+2]?=some (M.es i)
 kt:∀ i,i<n->Kt w (M.es i) (M.ps i) (M.keys i)
 ent:∀ i,i<n->∀ p∈M.ps i,al w p (M.en p) (M.vs p)
 lst:∀ i,i<n->(M.ps i).map M.en=σ.ents.filter λ E=>ao E.key%n==i
 jrn:Byt w 0 M.jr σ.log
 des:∀ i j,i<n->j<n->i≠j->∀ b,(M.es i).ownBlock=some b->(M.es j).ownBlock≠some b
 dvs:∀ i j p q,i<n->j<n->p∈M.ps i->q∈M.ps j->p≠q->∀ b,(M.vs p).ownBlock=some b->(M.vs q).ownBlock≠some b
 rise:cA σ.ents
 ok:∀ E∈σ.ents,ld E
 many:σ.ents.length<=60
 time:σ.time<=253402300799
 lastB:∀ E∈σ.ents,E.last<=σ.log.length
def Mem.own (M:Mem)(s n k:Nat):Prop :=
 k=s\/k=M.g\/(∃ i,i<n/\(M.es i).ownBlock=some k)\/(∃ i,i<n/\k∈M.ps i)\/(∃ i p,i<n/\p∈M.ps i/\(M.vs p).ownBlock=some k)\/M.jr.ownBlock=some k
theorem ak.off {w x:World}{s n:Nat}{rd:Int}{lk:Nat->Int}{σ:St}{M:Mem}{S:Nat->Prop}(h:ak w s n rd lk σ M)(ho:Off S w x)(hS:∀ k,M.own s n k->¬ S k):ak x s n rd lk σ M:=by
 obtain⟨cs,hc,hr⟩:=h.row
 refine⟨h.n1,h.n8,(ho.block s (gL h.blk) (hS s (Or.inl rfl))).trans h.blk,
  ⟨cs,(ho.block _ (gL hc) (hS _ (Or.inr (Or.inl rfl)))).trans hc,hr⟩,
  λ i hi=>(h.kt i hi).off ho (λ b hb=>hS b (Or.inr (Or.inr (Or.inl ⟨i,hi,hb⟩)))) (λ q hq=>hS q (Or.inr (Or.inr (Or.inr (Or.inl ⟨i,hi,hq⟩))))),
  λ i hi p hp=>(h.ent i hi p hp).off ho (hS p (Or.inr (Or.inr (Or.inr (Or.inl ⟨i,hi,hp⟩))))) (λ b hb=>hS b (Or.inr (Or.inr (Or.inr (Or.inr (Or.inl ⟨i,p,hi,hp,hb⟩)))))),
  h.lst,Byt.off (base:=0) h.jrn ho (λ b hb=>hS b (Or.inr (Or.inr (Or.inr (Or.inr (Or.inr hb)))))),h.des,h.dvs,h.rise,h.ok,h.many,h.time,h.lastB⟩
theorem ak.below {w x:World}{s n:Nat}{rd:Int}{lk:Nat->Int}{σ:St}{M:Mem}(h:ak w s n rd lk σ M)(hb:Below w.heap.size w x):ak x s n rd lk σ M :=
 h.off (Off.of_below (S:=λ _=>False) hb) (λ _ _ h=>h)
theorem ak.lock {w:World}{s n:Nat}{rd:Int}{lk:Nat->Int}{σ:St}{M:Mem}(h:ak w s n rd lk σ M)(i:Nat)(hi:i<n)(v:Int) :
 ak (w.setCell ⟨M.g,i*3,none⟩ (.int .i32 v)) s n rd (λ j=>if j=i then v else lk j) σ M:=by
 obtain⟨cs,hc,hr⟩:=h.row;have ho:Off (λ k=>k=M.g) w (w.setCell ⟨M.g,i*3,none⟩ (.int .i32 v)):=(Off.refl (λ k=>k=M.g) w).set M.g (i*3) _ (Or.inl rfl)
 refine⟨h.n1,h.n8,(ho.block s (gL h.blk) (ad h.blk hc (by decide))).trans h.blk,⟨cs.setIfInBounds (i*3) (.int .i32 v),ah hc,λ j hj=>?_⟩,
  λ j hj=>(h.kt j hj).off ho (λ b hb e=>ai (h.kt j hj).k.row hc (by decide) (e ▸ hb)) (λ q hq e=>by obtain⟨cq,A1⟩:=(h.kt j hj).t q hq;exact ad A1 hc (by decide) e),
  λ j hj p hp=>(h.ent j hj p hp).off ho (λ e=>ad (h.ent j hj p hp).blk hc (by decide) e) (λ b hb e=>ai (h.ent j hj p hp).row hc (by decide) (e ▸ hb)),
  h.lst,Byt.off (base:=0) h.jrn ho (λ b hb e=>ai h.jrn hc (by decide) (e ▸ hb)),h.des,h.dvs,h.rise,h.ok,h.many,h.time,h.lastB⟩
 have h1:=hr j hj;have A0:i*3<cs.size:=(Array.getElem?_eq_some_iff.1 (hr i hi).1).1;refine⟨?_,?_⟩
 ·by_cases e:j=i
  ·subst e;simp[A0]
  ·rw[if_neg e,Array.getElem?_setIfInBounds_ne (by omega)];exact h1.1
 ·rw[Array.getElem?_setIfInBounds_ne (by omega)];exact h1.2
theorem xx {l:List Ent}(hr:cA l){j:Nat}{A:Ent}(h:l[j]?=some A):cX (l.map Ent.key) A.key j:=by
 have A0:=(List.getElem?_eq_some_iff.1 h).1;have hR:=hr.rising;have hj:(l.map Ent.key)[j]?=some A.key:=by rw[List.getElem?_map,h];rfl
 refine⟨by simp;omega,λ i a hi ha=>hR i j a A.key hi ha hj,λ i a hi ha=>?_⟩;by_cases e:i=j
 ·subst e;rw[hj] at ha;cases ha;rw[ci];omega
 ·have:=hR j i A.key a (by omega) hj ha;rw[bS,this];decide
theorem ak.keys_eq {w:World}{s n:Nat}{rd:Int}{lk:Nat->Int}{σ:St}{M:Mem}(h:ak w s n rd lk σ M){i:Nat}(hi:i<n):M.keys i=(σ.ents.filter λ E=>ao E.key%n==i).map Ent.key:=by
 rw[<- h.lst i hi,List.map_map];rfl
theorem ak.look_yes {w:World}{s n:Nat}{rd:Int}{lk:Nat->Int}{σ:St}{M:Mem}(h:ak w s n rd lk σ M)(key:List UInt8)(hf:(aa σ.ents key).last≠0) :
 ∃ j p,cX (M.keys (ao key%n)) key j/\(M.keys (ao key%n))[j]?=some key/\(M.ps (ao key%n))[j]?=some p/\M.en p=aa σ.ents key:=by
 have hi:ao key%n<n:=Nat.mod_lt _ h.n1;have hm:=cU hf;have hk:=cF σ.ents key;have A0:aa σ.ents key∈σ.ents.filter λ E=>ao E.key%n==ao key%n:=List.mem_filter.2 ⟨hm,by rw[hk];simp⟩;rw[<- h.lst _ hi] at A0;obtain⟨j,A2,hj⟩:=List.mem_iff_getElem.1 A0;have A1:((M.ps (ao key%n)).map M.en)[j]?=some (aa σ.ents key):=by rw[List.getElem?_eq_getElem A2,hj]
 rw[List.getElem?_map] at A1;obtain⟨p,hp,he⟩:=Option.map_eq_some_iff.1 A1;have A3:(σ.ents.filter λ E=>ao E.key%n==ao key%n)[j]?=some (aa σ.ents key):=by rw[<- h.lst _ hi,List.getElem?_map,hp,Option.map_some,he]
 refine⟨j,p,?_,?_,hp,he⟩
 ·have:=xx (h.rise.filter _) A3;rw[hk] at this;rw[h.keys_eq hi];exact this
 ·rw[Mem.keys,List.getElem?_map,hp,Option.map_some,he,hk]
theorem ak.look_no {w:World}{s n:Nat}{rd:Int}{lk:Nat->Int}{σ:St}{M:Mem}(h:ak w s n rd lk σ M)(key:List UInt8)(hf:(aa σ.ents key).last=0) :
 ∃ j,cX (M.keys (ao key%n)) key j/\(M.keys (ao key%n))[j]?≠some key:=by
 have hi:ao key%n<n:=Nat.mod_lt _ h.n1;obtain⟨j,hj⟩:=qu (h.rise.filter λ E=>ao E.key%n==ao key%n) key;rw[h.keys_eq hi];refine⟨j,hj,λ e=>?_⟩;rw[List.getElem?_map] at e;obtain⟨A,hA,he⟩:=Option.map_eq_some_iff.1 e;have:=(List.mem_filter.1 (List.mem_of_getElem? hA)).1;exact (df (λ E hE=>(h.ok E hE).last) hf).1 A this he
theorem xW {l:List Ent}{E A:Ent}{i:Nat}(hr:cA l)(h:l[i]?=some A)(hk:A.key=E.key):(bJ l E).length=l.length:=by
 rw[uK hr h hk,List.length_set]
def upd {α:Type}(f:Nat->α)(p:Nat)(x:α):Nat->α:=λ q=>if q=p then x else f q
theorem aY {α:Type}(f:Nat->α)(p:Nat)(x:α):upd f p x p=x:=by simp[upd]
theorem aB {α:Type}{f:Nat->α}{p q:Nat}{x:α}(h:q≠p):upd f p x q=f q:=by simp[upd,h]
theorem ak.hash {w:World}{s n:Nat}{rd:Int}{lk:Nat->Int}{σ:St}{M:Mem}(h:ak w s n rd lk σ M){i p:Nat}(hi:i<n)(hp:p∈M.ps i):ao (M.en p).key%n=i:=by
 have:M.en p∈(M.ps i).map M.en:=List.mem_map_of_mem hp;rw[h.lst i hi] at this;simpa using (List.mem_filter.1 this).2
theorem ak.once {w:World}{s n:Nat}{rd:Int}{lk:Nat->Int}{σ:St}{M:Mem}(h:ak w s n rd lk σ M){i p a b:Nat}(hi:i<n)(ha:(M.ps i)[a]?=some p)(hb:(M.ps i)[b]?=some p):a=b:=by
 have hr:=h.rise.filter λ E=>ao E.key%n==i;rw[<- h.lst i hi] at hr;have A1:=hr.rising;have ea:(((M.ps i).map M.en).map Ent.key)[a]?=some (M.en p).key:=by simp[ha]
 have eb:(((M.ps i).map M.en).map Ent.key)[b]?=some (M.en p).key:=by simp[hb]
 rcases Nat.lt_trichotomy a b with A0|rfl|A0
 ·exact absurd (A1 a b _ _ A0 ea eb) (by rw[ci];decide)
 ·rfl
 ·exact absurd (A1 b a _ _ A0 eb ea) (by rw[ci];decide)
theorem zq {l:List Nat}{f:Nat->Ent}{p j:Nat}{E:Ent}(hj:l[j]?=some p)(h1:∀ a,l[a]?=some p->a=j):l.map (upd f p E)=(l.map f).set j E:=by
 apply List.ext_getElem?;intro a;rw[List.getElem?_map];by_cases e:a=j
 ·subst e;rw[hj,Option.map_some,aY,List.getElem?_set_self (by simpa using (List.getElem?_eq_some_iff.1 hj).1)]
 ·rw[List.getElem?_set_ne (λ h=>e h.symm),List.getElem?_map];cases h:l[a]? with
  | none=>rfl
  | some q=>rw[Option.map_some,Option.map_some,aB (λ hq:q=p=>e (h1 a (by rw[h,hq])))]
theorem gr {l:List Nat}{f:Nat->Ent}{p:Nat}{E:Ent}(h:p ∉ l):l.map (upd f p E)=l.map f:=by
 apply List.map_congr_left;intro q hq;exact aB (λ e=>h (e ▸ hq))
theorem ak.chg {w w':World}{s n:Nat}{rd:Int}{lk:Nat->Int}{σ:St}{M:Mem}(h:ak w s n rd lk σ M){i p:Nat}(hi:i<n)(hp:p∈M.ps i){E':Ent}{vs' jr':Value}{log':List UInt8}(hk:E'.key=(M.en p).key)(hok:ld E')(hl1:E'.last<=log'.length)(hl2:σ.log.length<=log'.length)
 (hE:al w' p E' vs')(hvs:∀ b,vs'.ownBlock=some b->(M.vs p).ownBlock=some b\/w.heap.size<=b)
 (hJ:Jrn w' s ((az rd M.g n M.cap σ.time σ.ents.length M.jr).setIfInBounds 11 jr') M.jr jr' log' w.heap.size)
 (ho:Off (λ k=>k=s\/M.jr.ownBlock=some k\/k=p\/(M.vs p).ownBlock=some k) w w') :
 ak w' s n rd lk ⟨σ.time,bJ σ.ents E',log'⟩ { M with en:=upd M.en p E',vs:=upd M.vs p vs',jr:=jr' }:=by
 obtain⟨cs,hc,hr⟩:=h.row;have A6:=h.ent i hi p hp;obtain⟨j0,Af,Ag⟩:=List.mem_iff_getElem.1 hp;have A9:(M.ps i)[j0]?=some p:=by rw[List.getElem?_eq_getElem Af,Ag]
 have Aa:(σ.ents.filter λ E=>ao E.key%n==i)[j0]?=some (M.en p):=by rw[<- h.lst i hi,List.getElem?_map,A9,Option.map_some]
 obtain⟨a,ha,Ac⟩:=List.mem_iff_getElem.1 (List.mem_filter.1 (List.mem_of_getElem? Aa)).1;have Ah:σ.ents[a]?=some (M.en p):=by rw[List.getElem?_eq_getElem ha,Ac]
 have A8:(bJ σ.ents E').length=σ.ents.length:=xW h.rise Ah hk.symm;have A2:ao E'.key%n=i:=by rw[hk];exact h.hash hi hp
 have Ab:∀ j,j<n->∀ q∈M.ps j,q≠p->¬ (q=s\/M.jr.ownBlock=some q\/q=p\/(M.vs p).ownBlock=some q):=by
  intro j hj q hq A1;have hb:=(h.ent j hj q hq).blk;rintro (e|e|e|e)
  ·exact ad hb h.blk (by decide) e
  ·exact ai h.jrn hb (by decide) e
  ·exact A1 e
  ·exact ai A6.row hb (by decide) e
 have A5:∀ j,j<n->∀ q∈M.ps j,q≠p->al w' q (M.en q) (M.vs q):=by
  intro j hj q hq A1;refine (h.ent j hj q hq).off ho (Ab j hj q hq A1) (λ b hb=>?_);rintro (e|e|e|e)
  ·exact ai (h.ent j hj q hq).row h.blk (by decide) (e ▸ hb)
  ·exact aX (h.ent j hj q hq).row h.jrn (by decide) b hb e
  ·exact ai (h.ent j hj q hq).row A6.blk (by decide) (e ▸ hb)
  ·exact h.dvs i j p q hi hj hp hq (Ne.symm A1) b e hb
 have A7:∀ j,j<n->w'.ownsRow 0 170 1 (M.es j) (M.ps j).length (fM (M.ps j)):=by
  intro j hj;have h0:=(h.kt j hj).k.row;refine⟨h0.1,?_⟩;rcases h0.2 with e|⟨g,cap,Ad,hv,h1,hg,h2⟩
  ·exact Or.inl e
  ·refine Or.inr ⟨g,cap,Ad,hv,h1,(ho.block g (gL hg) ?_).trans hg,h2⟩;rintro (e|e|e|e)
   ·exact ad hg h.blk (by decide) e
   ·exact ai h.jrn hg (by decide) e
   ·exact ad hg A6.blk (by decide) e
   ·exact ai A6.row hg (by decide) e
 have A0:∀ j,j<n->∀ q∈M.ps j,al w' q (upd M.en p E' q) (upd M.vs p vs' q):=by
  intro j hj q hq;by_cases e:q=p
  ·subst e;rw[aY,aY];exact hE
  ·rw[aB e,aB e];exact A5 j hj q hq e
 refine⟨h.n1,h.n8,?_,⟨cs,(ho.block _ (gL hc) ?_).trans hc,hr⟩,λ j hj=>⟨⟨A7 j hj,by simp[Mem.keys],λ a q k ha hk=>?_,λ q hq=>(A0 j hj q hq).lt⟩,λ q hq=>⟨_,(A0 j hj q hq).blk⟩⟩,A0,λ j hj=>?_,hJ.byt,h.des,?_,iJ h.rise E',?_,by rw[A8];exact h.many,h.time,?_⟩
 ·rw[hJ.blk,A8];rfl
 ·rintro (e|e|e|e)
  ·exact ad hc h.blk (by decide) e
  ·exact ai h.jrn hc (by decide) e
  ·exact ad hc A6.blk (by decide) e
  ·exact ai A6.row hc (by decide) e
 ·have hm:=List.mem_of_getElem? ha;have:=(A0 j hj q hm).c0;simp only[Mem.keys,List.getElem?_map,ha,Option.map_some,Option.some.injEq] at hk;rw[<- hk];exact this
 ·by_cases e:j=i
  ·subst e;show (M.ps j).map (upd M.en p E')=_;rw[zq A9 (λ a ha=>h.once hj ha A9),h.lst j hj];rw[gK h.rise E' (λ k=>ao k%n==j) (by simp[A2])];rw[uK (h.rise.filter _) Aa hk.symm]
  ·show (M.ps j).map (upd M.en p E')=_;have Ae:p ∉ M.ps j:=λ hm=>e ((h.hash hj hm).symm.trans (h.hash hi hp));rw[gr Ae,h.lst j hj,iw E' (λ k=>ao k%n==j) (by simp[A2];exact λ h=>e h.symm)]
 ·intro a b q r ha hb hq hr A1 c A4 A3;change (upd M.vs p vs' q).ownBlock=some c at A4;change (upd M.vs p vs' r).ownBlock=some c at A3;by_cases e1:q=p
  ·subst e1;rw[aY] at A4;rw[aB (Ne.symm A1)] at A3;rcases hvs c A4 with h1|h1
   ·exact h.dvs a b q r ha hb hq hr A1 c h1 A3
   ·have:=((h.ent b hb r hr).row.lt c A3).2;omega
  ·by_cases e2:r=p
   ·subst e2;rw[aY] at A3;rw[aB e1] at A4;rcases hvs c A3 with h1|h1
    ·exact h.dvs a b q r ha hb hq hr A1 c A4 h1
    ·have:=((h.ent a ha q hq).row.lt c A4).2;omega
   ·rw[aB e1] at A4;rw[aB e2] at A3;exact h.dvs a b q r ha hb hq hr A1 c A4 A3
 ·intro A hA;rcases fw hA with e|hA
  ·rw[e];exact hok
  ·exact h.ok A hA
 ·intro A hA;rcases fw hA with e|hA
  ·rw[e];exact hl1
  ·exact Nat.le_trans (h.lastB A hA) hl2
theorem oF {l:List Ent}{E:Ent}{i:Nat}(hr:cA l)(hp:cX (l.map Ent.key) E.key i)(hn:∀ A∈l,A.key≠E.key):(bJ l E).length=l.length+1:=by
 have A0:=hp.le;rw[rK hr hp hn,List.length_append,List.length_cons,List.length_take,List.length_drop];simp at A0;omega
theorem oV {l:List Nat}{p q i:Nat}(h:q∈l.take i++p::l.drop i):q=p\/q∈l:=by
 rcases List.mem_append.1 h with h|h
 ·exact Or.inr (List.mem_of_mem_take h)
 ·rcases List.mem_cons.1 h with h|h
  ·exact Or.inl h
  ·exact Or.inr (List.mem_of_mem_drop h)
theorem ak.add {w w':World}{s n:Nat}{rd:Int}{lk:Nat->Int}{σ:St}{M:Mem}(h:ak w s n rd lk σ M){i p j:Nat}{E':Ent}{vs' es' jr':Value}{log':List UInt8}{cs:Array Value}{cp:Array Value}(hi:i=ao E'.key%n)(hpn:∀ j,j<n->p ∉ M.ps j)(hpb:w.heap[p]?=some (.cells cp 230 (0,0)))
 (hkn:∀ A∈σ.ents,A.key≠E'.key)(hpos:cX (M.keys i) E'.key j)(hok:ld E')(hl1:E'.last<=log'.length)(hl2:σ.log.length<=log'.length)(hmany:σ.ents.length<60)
 (hc:w.heap[M.g]?=some (.cells cs 164 (0,0)))(hr:∀ i,i<n->cs[i*3]?=some (.int .i32 (lk i))/\cs[i*3+2]?=some (M.es i))
 (hE:al w' p E' vs')(hvs:∀ b,vs'.ownBlock=some b->w.heap.size<=b)
 (hJ:Jrn w' s (((az rd M.g n M.cap σ.time σ.ents.length M.jr).setIfInBounds 10 (.int .i64 ((σ.ents.length:Int)+1))).setIfInBounds 11 jr') M.jr jr' log' w.heap.size)
 (hg:w'.heap[M.g]?=some (.cells (cs.setIfInBounds (i*3+2) es') 164 (0,0)))
 (hrow:w'.ownsRow 0 170 1 es' ((M.ps i).length+1) (fM ((M.ps i).take j++p::(M.ps i).drop j)))(hes:∀ b,es'.ownBlock=some b->(M.es i).ownBlock=some b\/w.heap.size<=b)
 (ho:Off (λ k=>k=s\/M.jr.ownBlock=some k\/k=M.g\/k=p\/(M.es i).ownBlock=some k) w w') :
 ak w' s n rd lk ⟨σ.time,bJ σ.ents E',log'⟩ { M with es:=upd M.es i es',ps:=upd M.ps i ((M.ps i).take j++p::(M.ps i).drop j),en:=upd M.en p E',vs:=upd M.vs p vs',jr:=jr' }:=by
 have Ab:i<n:=by rw[hi];exact Nat.mod_lt _ h.n1
 obtain⟨j0,Af⟩:=qu h.rise E'.key;have A9:(bJ σ.ents E').length=σ.ents.length+1:=oF h.rise Af hkn;have A4:∀ a,a<n->∀ q∈M.ps a,al w' q (M.en q) (M.vs q):=by
  intro a ha q hq;have hb:=h.ent a ha q hq;refine hb.off ho ?_ (λ b hbo=>?_)
  ·rintro (e|e|e|e|e)
   ·exact ad hb.blk h.blk (by decide) e
   ·exact ai h.jrn hb.blk (by decide) e
   ·exact ad hb.blk hc (by decide) e
   ·exact hpn a ha (e ▸ hq)
   ·exact ai (h.kt i Ab).k.row hb.blk (by decide) e
  ·rintro (e|e|e|e|e)
   ·exact ai hb.row h.blk (by decide) (e ▸ hbo)
   ·exact aX hb.row h.jrn (by decide) b hbo e
   ·exact ai hb.row hc (by decide) (e ▸ hbo)
   ·exact ai hb.row hpb (by decide) (e ▸ hbo)
   ·exact aX hb.row (h.kt i Ab).k.row (by decide) b hbo e
 have A0:∀ a,a<n->∀ q∈upd M.ps i ((M.ps i).take j++p::(M.ps i).drop j) a,q=p\/q∈M.ps a:=by
  intro a ha q hq;by_cases e:a=i
  ·subst e;rw[aY] at hq;exact oV hq
  ·rw[aB e] at hq;exact Or.inr hq
 have A1:∀ a,a<n->∀ q∈upd M.ps i ((M.ps i).take j++p::(M.ps i).drop j) a,al w' q (upd M.en p E' q) (upd M.vs p vs' q):=by
  intro a ha q hq;by_cases e:q=p
  ·subst e;rw[aY,aY];exact hE
  ·rw[aB e,aB e];exact A4 a ha q ((A0 a ha q hq).resolve_left e)
 have A7:∀ a,a<n->w'.ownsRow 0 170 1 (upd M.es i es' a) (upd M.ps i ((M.ps i).take j++p::(M.ps i).drop j) a).length (fM (upd M.ps i ((M.ps i).take j++p::(M.ps i).drop j) a)):=by
  intro a ha;by_cases e:a=i
  ·subst e;rw[aY,aY];(have hl:((M.ps a).take j++p::(M.ps a).drop j).length=(M.ps a).length+1:=by have:=hpos.le;simp[Mem.keys] at this;simp;omega);rw[hl];exact hrow
  ·rw[aB e,aB e];have h0:=(h.kt a ha).k.row;refine⟨h0.1,?_⟩;rcases h0.2 with e0|⟨g,cap,Ae,hv,h1,A6,h2⟩
   ·exact Or.inl e0
   ·refine Or.inr ⟨g,cap,Ae,hv,h1,(ho.block g (gL A6) ?_).trans A6,h2⟩;rintro (e'|e'|e'|e'|e')
    ·exact ad A6 h.blk (by decide) e'
    ·exact ai h.jrn A6 (by decide) e'
    ·exact ad A6 hc (by decide) e'
    ·exact ad A6 hpb (by decide) e'
    ·exact h.des a i ha Ab e g (by rw[hv];rfl) e'
 refine⟨h.n1,h.n8,?_,⟨cs.setIfInBounds (i*3+2) es',hg,λ a ha=>?_⟩,λ a ha=>⟨⟨A7 a ha,by simp[Mem.keys],λ b q k hb hk=>?_,λ q hq=>(A1 a ha q hq).lt⟩,λ q hq=>⟨_,(A1 a ha q hq).blk⟩⟩,A1,λ a ha=>?_,hJ.byt,?_,?_,iJ h.rise E',?_,by rw[A9];omega,h.time,?_⟩
 ·rw[hJ.blk,A9];rfl
 ·have h1:=hr a ha;have Ah:i*3+2<cs.size:=(Array.getElem?_eq_some_iff.1 (hr i Ab).2).1;refine⟨?_,?_⟩
  ·rw[Array.getElem?_setIfInBounds_ne (by omega)];exact h1.1
  ·show _=some (upd M.es i es' a);by_cases e:a=i
   ·subst e;rw[aY];simp[Ah]
   ·rw[aB e,Array.getElem?_setIfInBounds_ne (by omega)];exact h1.2
 ·have hm:=List.mem_of_getElem? hb;have:=(A1 a ha q hm).c0;have Aa:((upd M.ps i ((M.ps i).take j++p::(M.ps i).drop j) a).map λ p_1=>(upd M.en p E' p_1).key)[b]?=some k:=hk;have Ad:(upd M.ps i ((M.ps i).take j++p::(M.ps i).drop j) a)[b]?=some q:=hb;rw[List.getElem?_map,Ad,Option.map_some] at Aa;injection Aa with Aa;rw[<- Aa];exact this
 ·show (upd M.ps i ((M.ps i).take j++p::(M.ps i).drop j) a).map (upd M.en p E')=_;by_cases e:a=i
  ·subst e;rw[aY,gK h.rise E' (λ k=>ao k%n==a) (by simp[hi])];(have A8:cX ((σ.ents.filter λ E=>ao E.key%n==a).map Ent.key) E'.key j:=by rw[<- h.keys_eq ha];exact hpos);rw[rK (h.rise.filter _) A8 (λ A hA=>hkn A (List.mem_filter.1 hA).1),<- h.lst a ha,List.map_append,List.map_cons,aY,<- List.map_take,<- List.map_drop];rw[gr (λ hm=>hpn a ha (List.mem_of_mem_take hm)),gr (λ hm=>hpn a ha (List.mem_of_mem_drop hm))]
  ·rw[aB e,gr (hpn a ha),h.lst a ha,iw E' (λ k=>ao k%n==a) (by rw[<- hi];simpa using λ h=>e h.symm)]
 ·intro a b ha hb A2 c h1 h2;change (upd M.es i es' a).ownBlock=some c at h1;change (upd M.es i es' b).ownBlock=some c at h2;by_cases e1:a=i
  ·subst e1;rw[aY] at h1;rw[aB (Ne.symm A2)] at h2;rcases hes c h1 with h3|h3
   ·exact h.des a b ha hb A2 c h3 h2
   ·have:=((h.kt b hb).k.row.lt c h2).2;omega
  ·by_cases e2:b=i
   ·subst e2;rw[aY] at h2;rw[aB e1] at h1;rcases hes c h2 with h3|h3
    ·exact h.des a b ha hb A2 c h1 h3
    ·have:=((h.kt a ha).k.row.lt c h1).2;omega
   ·rw[aB e1] at h1;rw[aB e2] at h2;exact h.des a b ha hb A2 c h1 h2
 ·intro a b q r ha hb hq Ac A2 c A5 A3;change (upd M.vs p vs' q).ownBlock=some c at A5;change (upd M.vs p vs' r).ownBlock=some c at A3;by_cases e1:q=p
  ·subst e1;rw[aY] at A5;rw[aB (Ne.symm A2)] at A3;have Ai:=(A0 b hb r Ac).resolve_left (Ne.symm A2);have h1:=hvs c A5;have h2:=((h.ent b hb r Ai).row.lt c A3).2;omega
  ·by_cases e2:r=p
   ·subst e2;rw[aY] at A3;rw[aB e1] at A5;have Ag:=(A0 a ha q hq).resolve_left e1;have h1:=hvs c A3;have h2:=((h.ent a ha q Ag).row.lt c A5).2;omega
   ·rw[aB e1] at A5;rw[aB e2] at A3;exact h.dvs a b q r ha hb ((A0 a ha q hq).resolve_left e1) ((A0 b hb r Ac).resolve_left e2) A2 c A5 A3
 ·intro A hA;rcases fw hA with e|hA
  ·rw[e];exact hok
  ·exact h.ok A hA
 ·intro A hA;rcases fw hA with e|hA
  ·rw[e];exact hl1
  ·exact Nat.le_trans (h.lastB A hA) hl2
end Go.Proofs.YtmehkneofinmiaaGreatDoor

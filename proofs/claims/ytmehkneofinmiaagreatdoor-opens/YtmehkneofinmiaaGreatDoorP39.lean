/-part 39-/
import Derived.Test.YtmehkneofinmiaaGreatDoorP38
namespace Go.Proofs.YtmehkneofinmiaaGreatDoor
theorem ng {l:List Ent}(hr:cA l){E:Ent}(h:E∈l):aa l E.key=E:=by
 induction l with
 | nil=>cases h
 | cons a l ih =>
   have ⟨h1,h2⟩:=List.pairwise_cons.1 hr;rw[cQ];rcases List.mem_cons.1 h with rfl|h
   ·rw[if_pos rfl]
   ·rw[if_neg (iF (h1 E h))];exact ih h2 h
theorem lU:∀ (l:List Ent) (E:Ent),cA l->(∀ A∈l,0<A.last)->((bJ l E).map Ent.last).sum+(aa l E.key).last=(l.map Ent.last).sum+E.last/\(bJ l E).length=l.length+(if (aa l E.key).last=0 then 1 else 0)
 | [],E,_,_=>by
   rw[show bJ [] E=[E] from rfl,show aa [] E.key=⟨E.key,0,[]⟩ from rfl]
   simp
 | a::l,E,hr,hp=>by
   have ⟨h1,h2⟩:=List.pairwise_cons.1 hr
   have ih:=lU l E h2 (λ A hA=>hp A (List.mem_cons_of_mem _ hA))
   rw[cT,cQ]
   by_cases e:a.key=E.key
   ·have:=hp a List.mem_cons_self
    rw[if_pos e,if_pos e,if_neg (by omega)]
    refine⟨?_,?_⟩
    ·simp only[List.map_cons,List.sum_cons]
     omega
    ·simp only[List.length_cons]
   ·rw[if_neg e,if_neg e]
    by_cases hlt:aE E.key a.key = -1
    ·have hn:aa l E.key=⟨E.key,0,[]⟩:=by
      unfold aa;(have:l.find? (λ A=>A.key==E.key)=none:=by rw[List.find?_eq_none];intro A hA hk;(have A0:A.key=E.key:=by simpa using hk);exact absurd A0.symm (iF (bK _ _ _ hlt (h1 A hA))));rw[this];rfl
     rw[if_pos hlt,hn];simp;omega
    ·rw[if_neg hlt];simp only[List.map_cons,List.sum_cons,List.length_cons];omega
theorem qG (key:List UInt8)(l:List Itm)(it:Itm)(hg:it.gone=false):bN key (l++[it])=bN key l++(if it.key=key then [it] else []):=by
 unfold bN;rw[List.filter_append];congr 1;by_cases h:it.key=key
 ·simp[h,hg]
 ·simp[h]
theorem lT (key:List UInt8)(l:List Itm)(it:Itm):aH key (l++[it])=mD key (aH key l) it:=by
 unfold aH;rw[List.foldl_append];rfl
theorem wn (key:List UInt8)(l:List Itm)(it:Itm):aH key l<=aH key (l++[it]):=by
 rw[lT];unfold mD;split<;>omega
structure fK (σ:St):Prop where
 rise:cA σ.ents
 ok:∀ E∈σ.ents,ld E
 time:σ.time<=253402300799
theorem fK.pos {σ:St}(h:fK σ):∀ E∈σ.ents,0<E.last:=λ E hE=>(h.ok E hE).last
theorem cH.come {B:Nat}{σ:St}{s:Rst}(h:cH B σ s)(ho:fK σ)(key body:List UInt8)(k:Nat)(mark:Bool)(hk:k≠3)(hm:(k==2)=mark)(hkey:aA key=true)(hb:body.length<=400) :
 cH B ⟨σ.time,bJ σ.ents (bf (aa σ.ents key) k σ.time ((aa σ.ents key).last+1) body),σ.log++aF k σ.time key ((aa σ.ents key).last+1) body⟩ ⟨s.l++[⟨key,aH key s.l+1,σ.time,mark,body,false⟩],s.J++aF k σ.time key (aH key s.l+1) body⟩:=by
 have hl:=h.same.last key;obtain⟨N,hN⟩:∃ N,(aa σ.ents key).last=N:=⟨_,rfl⟩;have A2:bf (aa σ.ents key) k σ.time (N+1) body=⟨key,N+1,(aa σ.ents key).vers++[⟨N+1,σ.time,mark,body⟩]⟩:=by unfold bf;rw[if_neg hk,cF,hm]
 have A4:aA key=true->key.length<=40:=λ h=>by unfold aA at h;simp at h;exact h.2.1
 rw[hN] at hl ⊢;rw[hl,A2];have hf:∀ key',aa (bJ σ.ents ⟨key,N+1,(aa σ.ents key).vers++[⟨N+1,σ.time,mark,body⟩]⟩) key'=if key=key' then ⟨key,N+1,(aa σ.ents key).vers++[⟨N+1,σ.time,mark,body⟩]⟩ else aa σ.ents key':=λ key'=>oc ho.rise _ key';have A0:=lU σ.ents ⟨key,N+1,(aa σ.ents key).vers++[⟨N+1,σ.time,mark,body⟩]⟩ ho.rise ho.pos;simp only[hN] at A0;refine⟨⟨?_,λ key'=>?_,λ key'=>?_,?_,λ key'=>?_⟩,?_,?_,?_,?_,?_,?_,?_,?_⟩
 ·show s.J++_=σ.log++_;rw[h.same.log]
 ·show aH key' (s.l++_)=_;rw[lT,hf];unfold mD;by_cases e:key=key'
  ·subst e;rw[if_pos ⟨rfl,by show aH key s.l<N+1;omega⟩,if_pos rfl]
  ·rw[if_neg (λ hh=>e hh.1),if_neg e];exact h.same.last key'
 ·show (bN key' (s.l++_)).map cJ=_;rw[qG _ _ _ rfl,hf,List.map_append,h.same.vers key'];by_cases e:key=key'
  ·subst e;rw[if_pos rfl,if_pos rfl];rfl
  ·rw[if_neg e,if_neg e,List.map_nil,List.append_nil]
 ·show iA (s.l++_)=(bJ σ.ents _).length;rw[A0.2];unfold iA;rw[List.countP_append,<- h.same.known];unfold iA;congr 1;rw[List.countP_singleton];by_cases e:N=0
  ·subst e;rfl
  ·rw[if_neg (by simpa using e),if_neg e]
 ·show (bN key' (s.l++_)).Pairwise _;rw[qG _ _ _ rfl];by_cases e:key=key'
  ·subst e;rw[if_pos rfl,List.pairwise_append];refine⟨h.same.rise key,List.pairwise_singleton _ _,λ a ha b hb=>?_⟩;(have A1:b=⟨key,N+1,σ.time,mark,body,false⟩:=by simpa using hb);rw[A1];obtain⟨h1,h2,_⟩:=eI ha;have:=h.num a h1;rw[h2,hl] at this;show a.num<N+1;omega
  ·rw[if_neg e,List.append_nil];exact h.same.rise key'
 ·intro it hit;rcases List.mem_append.1 hit with hh|hh
  ·exact h.pos it hh
  ·rw[List.mem_singleton.1 hh];exact Nat.succ_pos _
 ·intro it hit;rcases List.mem_append.1 hit with hh|hh
  ·exact h.time it hh
  ·rw[List.mem_singleton.1 hh];exact ho.time
 ·intro it hit;rcases List.mem_append.1 hit with hh|hh
  ·exact h.body it hh
  ·rw[List.mem_singleton.1 hh];exact hb
 ·intro it hit;rcases List.mem_append.1 hit with hh|hh
  ·exact h.key it hh
  ·rw[List.mem_singleton.1 hh];exact hkey
 ·intro it hit;show it.num<=aH it.key (s.l++_);rcases List.mem_append.1 hit with hh|hh
  ·exact Nat.le_trans (h.num it hh) (wn _ _ _)
  ·rw[List.mem_singleton.1 hh,lT];unfold mD;rw[if_pos ⟨rfl,by show aH key s.l<N+1;omega⟩];exact Nat.le_refl _
 ·intro key' n hB h0 hn;rw[hf] at hn ⊢;by_cases e:key=key'
  ·subst e;rw[if_pos rfl] at hn ⊢;have A5:n<=N+1:=hn;by_cases e2:n=N+1
   ·exact⟨⟨N+1,σ.time,mark,body⟩,by simp,e2.symm⟩
   ·obtain⟨v,hv,A3⟩:=h.hold key n hB h0 (by omega);exact⟨v,List.mem_append_left _ hv,A3⟩
  ·rw[if_neg e] at hn ⊢;exact h.hold key' n hB h0 hn
 ·show (s.l++_).length=((bJ σ.ents _).map Ent.last).sum;have:=h.len;rw[List.length_append,List.length_singleton];omega
 ·show (s.J++_).length<=460*(s.l++_).length+60*(s.l++_).countP _;have h1:=h.log;have h2:=A4 hkey;rw[List.length_append,List.length_append,List.countP_append,de,List.length_singleton];omega
theorem rL {f:Nat->Itm->Nat}{it:Itm}(h:∀ n,f n it=f n ⟨it.key,it.num,it.time,it.mark,it.body,true⟩):∀ (l:List Itm) (i n:Nat),l[i]?=some it->(l.set i ⟨it.key,it.num,it.time,it.mark,it.body,true⟩).foldl f n=l.foldl f n
 | [],i,n,hi=>by simp at hi
 | a::l,0,n,hi=>by
   have:a=it:=by simpa using hi
   rw[this,List.set_cons_zero,List.foldl_cons,List.foldl_cons,<- h]
 | a::l,i+1,n,hi=>by
   rw[List.set_cons_succ,List.foldl_cons,List.foldl_cons]
   exact rL h l i _ (by simpa using hi)
theorem nj (key:List UInt8):∀ (l:List Itm) (i:Nat) (it:Itm),l[i]?=some it->it.key≠key->bN key (l.set i ⟨it.key,it.num,it.time,it.mark,it.body,true⟩)=bN key l
 | [],i,it,hi,_=>by simp at hi
 | a::l,0,it,hi,hk=>by
   have:a=it:=by simpa using hi
   subst this
   unfold bN
   rw[List.set_cons_zero,List.filter_cons,List.filter_cons]
   simp[hk]
 | a::l,i+1,it,hi,hk=>by
   have ih:=nj key l i it (by simpa using hi) hk
   unfold bN at ih ⊢
   rw[List.set_cons_succ,List.filter_cons,List.filter_cons,ih]
theorem iE:∀ (l:List Itm) (i:Nat) (it:Itm),l[i]?=some it->it.gone=false->(bN it.key l).Pairwise (λ a b=>a.num<b.num)->bN it.key (l.set i ⟨it.key,it.num,it.time,it.mark,it.body,true⟩)=(bN it.key l).filter (λ v=>v.num != it.num)
 | [],i,it,hi,_,_=>by simp at hi
 | a::l,0,it,hi,hg,hr=>by
   have:a=it:=by simpa using hi
   subst this
   unfold bN at hr ⊢
   rw[List.set_cons_zero,List.filter_cons,List.filter_cons]
   rw[List.filter_cons] at hr
   have e1:(a.key==a.key&&!a.gone)=true:=by simp[hg]
   rw[if_pos e1] at hr ⊢
   rw[if_neg (by simp),List.filter_cons,if_neg (by simp)]
   have ⟨h1,_⟩:=List.pairwise_cons.1 hr
   symm
   rw[List.filter_eq_self]
   intro v hv
   have:=h1 v hv
   simp
   omega
 | a::l,i+1,it,hi,hg,hr=>by
   have hi':l[i]?=some it:=by simpa using hi
   unfold bN at hr
   rw[List.filter_cons] at hr
   by_cases ha:(a.key==it.key&&!a.gone)=true
   ·rw[if_pos ha] at hr
    have ⟨h1,h2⟩:=List.pairwise_cons.1 hr
    have ih:=iE l i it hi' hg h2
    have hmem:it∈l.filter (λ v=>v.key==it.key&&!v.gone):=by
     rw[List.mem_filter];exact⟨List.mem_of_getElem? hi',by simp[hg]⟩
    have A0:=h1 it hmem;unfold bN at ih ⊢;rw[List.set_cons_succ,List.filter_cons,List.filter_cons,if_pos ha,if_pos ha,ih,List.filter_cons,if_pos (by simp;omega)]
   ·rw[if_neg ha] at hr;have ih:=iE l i it hi' hg hr;unfold bN at ih ⊢;rw[List.set_cons_succ,List.filter_cons,List.filter_cons,if_neg ha,if_neg ha,ih]
theorem ke (p:Itm->Bool):∀ (l:List Itm) (i:Nat) (it it':Itm),l[i]?=some it->(l.set i it').countP p+(if p it then 1 else 0)=l.countP p+(if p it' then 1 else 0)
 | [],i,it,it',hi=>by simp at hi
 | a::l,0,it,it',hi=>by
   have:a=it:=by simpa using hi
   subst this
   rw[List.set_cons_zero,List.countP_cons,List.countP_cons]
   omega
 | a::l,i+1,it,it',hi=>by
   have ih:=ke p l i it it' (by simpa using hi)
   rw[List.set_cons_succ,List.countP_cons,List.countP_cons]
   omega
theorem jM {l:List Itm}{i:Nat}{x y:Itm}(h:x∈l.set i y):x∈l\/x=y:=List.mem_or_eq_of_mem_set h
theorem cH.leave {B:Nat}{σ:St}{s:Rst}(h:cH B σ s)(ho:fK σ)(key:List UInt8)(n i:Nat)(it:Itm)(hf:bH key (n:Int) s.l=some i)(hi:s.l[i]?=some it)(hB:n<B) :
 cH B ⟨σ.time,bJ σ.ents (bf (aa σ.ents key) 3 σ.time n []),σ.log++aF 3 σ.time key n []⟩ ⟨s.l.set i ⟨it.key,it.num,it.time,it.mark,it.body,true⟩,s.J++aF 3 σ.time it.key it.num []⟩:=by
 have hp:=List.findIdx?_eq_some_iff_getElem.1 hf;obtain⟨Ae,A0,_⟩:=hp;have A9:s.l[i]=it:=by have:=List.getElem?_eq_getElem Ae;rw[hi] at this;exact (Option.some.inj this).symm
 rw[A9] at A0;simp only[Bool.and_eq_true,beq_iff_eq,Bool.not_eq_true'] at A0;obtain⟨⟨hk,hn⟩,hg⟩:=A0;have Aa:it.num=n:=by omega
 subst hk;subst Aa;have hit:it∈s.l:=List.mem_of_getElem? hi;have A8:0<(aa σ.ents it.key).last:=by have h1:=h.num it hit;have h2:=h.pos it hit;rw[h.same.last] at h1;omega
 have hw:=jc h it.key it.num;rw[hf] at hw;obtain⟨j,hj⟩:∃ j,cV (aa σ.ents it.key).vers (it.num:Int)=some j:=Option.isSome_iff_exists.1 hw.symm;have Ac:bf (aa σ.ents it.key) 3 σ.time it.num []=⟨it.key,(aa σ.ents it.key).last,(aa σ.ents it.key).vers.filter λ v=>v.num != it.num⟩:=by unfold bf;rw[if_pos rfl,cF,hj];have:=(rM (aa σ.ents it.key).vers it.num (h.vrise it.key)).2 j hj;rw[Option.getD_some,this.1]
 rw[Ac];obtain⟨VS,A2⟩:∃ V,(aa σ.ents it.key).vers.filter (λ v=>v.num != it.num)=V:=⟨_,rfl⟩;rw[A2];have A1:∀ key',aa (bJ σ.ents ⟨it.key,(aa σ.ents it.key).last,VS⟩) key'=if it.key=key' then ⟨it.key,(aa σ.ents it.key).last,VS⟩ else aa σ.ents key':=λ key'=>oc ho.rise _ key';have A4:=lU σ.ents ⟨it.key,(aa σ.ents it.key).last,VS⟩ ho.rise ho.pos;simp only at A4;have A3:∀ key',aH key' (s.l.set i ⟨it.key,it.num,it.time,it.mark,it.body,true⟩)=aH key' s.l:=λ key'=>rL (λ n=>rfl) s.l i 0 hi;have A5:=ke (λ x=>x.gone) s.l i it ⟨it.key,it.num,it.time,it.mark,it.body,true⟩ hi;have Ab:=ke (λ x=>x.num==1) s.l i it ⟨it.key,it.num,it.time,it.mark,it.body,true⟩ hi;have A6:it.key.length<=40:=by have:=h.key it hit;unfold aA at this;simp at this;exact this.2.1
 refine⟨⟨?_,λ key'=>?_,λ key'=>?_,?_,λ key'=>?_⟩,?_,?_,?_,?_,?_,?_,?_,?_⟩
 ·show s.J++_=σ.log++_;rw[h.same.log]
 ·show aH key' _=_;rw[A3,A1,h.same.last key'];by_cases e:it.key=key'
  ·rw[if_pos e,e]
  ·rw[if_neg e]
 ·show (bN key' _).map cJ=_;rw[A1];by_cases e:it.key=key'
  ·subst e;rw[if_pos rfl,iE s.l i it hi hg (h.same.rise it.key),<- A2,<- h.same.vers it.key,List.filter_map];rfl
  ·rw[if_neg e,nj key' s.l i it hi e];exact h.same.vers key'
 ·show iA _=(bJ σ.ents _).length;rw[A4.2,if_neg (by omega),Nat.add_zero,<- h.same.known];unfold iA;exact Nat.add_right_cancel Ab
 ·show (bN key' _).Pairwise _;by_cases e:it.key=key'
  ·subst e;rw[iE s.l i it hi hg (h.same.rise it.key)];exact (h.same.rise it.key).filter _
  ·rw[nj key' s.l i it hi e];exact h.same.rise key'
 ·intro x hx;rcases jM hx with hh|rfl
  ·exact h.pos x hh
  ·exact h.pos it hit
 ·intro x hx;rcases jM hx with hh|rfl
  ·exact h.time x hh
  ·exact h.time it hit
 ·intro x hx;rcases jM hx with hh|rfl
  ·exact h.body x hh
  ·exact h.body it hit
 ·intro x hx;rcases jM hx with hh|rfl
  ·exact h.key x hh
  ·exact h.key it hit
 ·intro x hx;show x.num<=aH x.key _;rw[A3];rcases jM hx with hh|rfl
  ·exact h.num x hh
  ·exact h.num it hit
 ·intro key' n A7 h0 hn;rw[A1] at hn ⊢;by_cases e:it.key=key'
  ·subst e;rw[if_pos rfl] at hn ⊢;obtain⟨v,hv,Ad⟩:=h.hold it.key n A7 h0 hn;refine⟨v,?_,Ad⟩;show v∈VS;rw[<- A2,List.mem_filter];exact⟨hv,by simp;omega⟩
  ·rw[if_neg e] at hn ⊢;exact h.hold key' n A7 h0 hn
 ·show (s.l.set i _).length=((bJ σ.ents _).map Ent.last).sum;have:=h.len;rw[List.length_set];omega
 ·show (s.J++_).length<=460*(s.l.set i _).length+60*(s.l.set i _).countP _;have h1:=h.log;rw[List.length_append,List.length_set,de];rw[hg] at A5;simp only[Bool.false_eq_true,if_false,if_true] at A5;simp only[List.length_nil];omega
theorem p7 {l:List Ver}(hr:l.Pairwise λ a b=>a.num<b.num)(B:Nat):∀ j,(∀ n,B<=n->n<B+j->∃ v∈l,v.num=n+1)->j<=(l.filter λ v=>decide (v.num<=B+j)).length
 | 0,_=>Nat.zero_le _
 | j+1,h=>by
   have ih:=p7 hr B j (λ n h1 h2=>h n h1 (by omega))
   rw[show B+(j+1)=B+j+1 by omega,gV l (B+j) hr,List.length_append]
   obtain⟨v,hv,hn⟩:=h (B+j) (by omega) (by omega)
   cases hf:l.find? (λ v=>v.num==B+j+1) with
   | none =>
     have:=List.find?_eq_none.1 hf v hv
     simp[hn] at this
   | some u =>
     simp only[Option.toList_some,List.length_singleton]
     omega
theorem cH.bound {B:Nat}{σ:St}{s:Rst}(h:cH B σ s)(ho:fK σ)(key:List UInt8):(aa σ.ents key).last<=B+20:=by
 by_cases h0:(aa σ.ents key).last=0
 ·omega
 ·have hE:=ho.ok _ (cU h0);by_cases hb:(aa σ.ents key).last<=B
  ·omega
  ·have h1:=p7 (h.vrise key) B ((aa σ.ents key).last-B) (λ n h1 h2=>h.hold key (n+1) (by omega) (by omega) (by omega));have h2:=List.length_filter_le (λ v:Ver=>decide (v.num<=B+((aa σ.ents key).last-B))) (aa σ.ents key).vers;have h3:=hE.len;omega
theorem AD {l:List Nat}{c:Nat}(h:∀ x∈l,x<=c):l.sum<=l.length*c:=by
 induction l with
 | nil=>simp
 | cons a l ih =>have h1:=h a List.mem_cons_self;have h2:=ih (λ x hx=>h x (List.mem_cons_of_mem _ hx));rw[List.sum_cons,List.length_cons,Nat.succ_mul];omega
theorem cH.sizes {B:Nat}{σ:St}{s:Rst}(h:cH B σ s)(ho:fK σ)(hm:σ.ents.length<=60):s.l.length<=60*(B+20)/\s.J.length<=520*(60*(B+20))/\∀ key,aH key s.l<=B+20:=by
 have h1:s.l.length<=60*(B+20):=by
  rw[h.len];have:=AD (l:=σ.ents.map Ent.last) (c:=B+20) (λ x hx=>by
   obtain⟨E,hE,rfl⟩:=List.mem_map.1 hx;have h0:=(ho.ok E hE).last;have hb:=h.bound ho E.key;have he:=ng ho.rise hE;rw[he] at hb
   exact hb)
  rw[List.length_map] at this;exact Nat.le_trans this (Nat.mul_le_mul_right _ hm)
 refine⟨h1,?_,λ key=>by rw[h.same.last];exact h.bound ho key⟩;have h2:=h.log;have h3:s.l.countP (λ it=>it.gone)<=s.l.length:=List.countP_le_length;have h4:460*s.l.length+60*s.l.countP (λ it=>it.gone)<=520*s.l.length:=by omega
 exact Nat.le_trans (Nat.le_trans h2 h4) (Nat.mul_le_mul_left _ h1)
def ni (E:Ent):Option (List UInt8×List UInt8):=(aU E).map λ v=>(E.key,v.body)
theorem qH {E:Ent}{c:List UInt8×List UInt8}(h:ni E=some c):c.1=E.key:=by
 unfold ni at h;cases hc:aU E with
 | none=>rw[hc] at h;cases h
 | some v=>rw[hc] at h;cases h;rfl
theorem yi (σ:St)(a:List UInt8):bE σ a=(σ.ents.filter λ E=>aE E.key a==1).filterMap ni:=rfl
theorem yx {a b:List UInt8}(h:aE a b = -1):aE b a=1:=by rw[bS,h];rfl
theorem uL {a b:List UInt8}(h:aE b a=1):aE a b = -1:=by rw[bS,h]
theorem gR (a:List UInt8):∀ (L:List Ent) (c:List UInt8×List UInt8) (R:List (List UInt8×List UInt8)),cA L->(L.filter λ E=>aE E.key a==1).filterMap ni=c::R->(L.filter λ E=>aE E.key c.1==1).filterMap ni=R
 | [],c,R,_,h=>by cases h
 | E::L,c,R,hr,h=>by
   have ⟨h1,h2⟩:=List.pairwise_cons.1 hr
   have far:∀ c',c'∈(L.filter λ E=>aE E.key a==1).filterMap ni->¬ aE E.key c'.1=1:=λ c' hc' hh=>by
    rw[List.mem_filterMap] at hc'
    obtain⟨A,hA,hA2⟩:=hc'
    rw[qH hA2,h1 A (List.mem_filter.1 hA).1] at hh
    exact absurd hh (by decide)
   rw[List.filter_cons] at h
   by_cases e:aE E.key a=1
   ·rw[if_pos (by simpa using e),List.filterMap_cons] at h
    cases hf:ni E with
    | none =>
      rw[hf] at h
      have hh:(L.filter λ E=>aE E.key a==1).filterMap ni=c::R:=h
      have:=far c (by rw[hh];exact List.mem_cons_self)
      rw[List.filter_cons,if_neg (by simpa using this)]
      exact gR a L c R h2 hh
    | some c' =>
      rw[hf] at h
      have hh:c'::(L.filter λ E=>aE E.key a==1).filterMap ni=c::R:=h
      injection hh with hc hR
      subst hc
      rw[qH hf,List.filter_cons,if_neg (by rw[ci];decide),<- hR]
      have e1:L.filter (λ A=>aE A.key E.key==1)=L:=by
       rw[List.filter_eq_self];intro A hA;rw[yx (h1 A hA)];rfl
      (have e2:L.filter (λ A=>aE A.key a==1)=L:=by rw[List.filter_eq_self];intro A hA;rw[yx (bK _ _ _ (uL e) (h1 A hA))];rfl);rw[e1,e2]
   ·rw[if_neg (by simpa using e)] at h;have:=far c (by rw[h];exact List.mem_cons_self);rw[List.filter_cons,if_neg (by simpa using this)];exact gR a L c R h2 h
theorem xu (l:List Itm)(a best:List UInt8)(v:Itm):dH l a best v=if (aE a v.key == -1&&(best.isEmpty||aE v.key best == -1)&&(bg v.key l).isSome)=true then v.key else best:=by
 unfold dH;rw[fN,fN]
theorem tq (l:List Itm)(a:List UInt8):∀ (m:List Itm),(∀ v∈m,v.key≠[]) ->
 (m.foldl (dH l a) []=[]/\∀ v∈m,aE a v.key = -1->(bg v.key l).isSome=false)\/(∃ v∈m,v.key=m.foldl (dH l a) []/\aE a v.key = -1/\(bg v.key l).isSome=true/\∀ u∈m,aE a u.key = -1->(bg u.key l).isSome=true->¬ aE u.key v.key = -1):=by
 intro m;rw[<- List.reverse_reverse m];induction m.reverse with
 | nil=>exact λ _=>Or.inl ⟨rfl,λ v hv=>by simp at hv⟩
 | cons x r ih =>
   rw[List.reverse_cons];intro A8;have A7:=ih (λ v hv=>A8 v (List.mem_append_left _ hv));have hx:=A8 x (by simp);rw[List.foldl_append,List.foldl_cons,List.foldl_nil];rw[xu];by_cases ha:aE a x.key = -1
   ·by_cases hs:(bg x.key l).isSome=true
    ·rcases A7 with ⟨h1,h2⟩|⟨v,hv,A3,A6,A5,A4⟩
     ·right;refine⟨x,by simp,?_,ha,hs,?_⟩
      ·rw[h1];simp[ha,hs]
      ·intro u hu A0 A1;rcases List.mem_append.1 hu with hu|hu
       ·rw[h2 u hu A0] at A1;cases A1
       ·rw[List.mem_singleton.1 hu,ci];decide
     ·right;(have hb:(List.foldl (dH l a) [] r.reverse).isEmpty=false:=by rw[<- A3];have:=A8 v (List.mem_append_left _ hv);simpa using this);by_cases hlt:aE x.key v.key = -1
      ·refine⟨x,by simp,?_,ha,hs,?_⟩
       ·rw[if_pos];rw[hb,<- A3,ha,hlt,hs];rfl
       ·intro u hu A0 A1 hh;rcases List.mem_append.1 hu with hu|hu
        ·exact A4 u hu A0 A1 (bK _ _ _ hh hlt)
        ·rw[List.mem_singleton.1 hu,ci] at hh;exact absurd hh (by decide)
      ·refine⟨v,List.mem_append_left _ hv,?_,A6,A5,?_⟩
       ·rw[if_neg]
        ·exact A3
        ·rw[hb,<- A3];simp[hlt]
       ·intro u hu A0 A1 hh;rcases List.mem_append.1 hu with hu|hu
        ·exact A4 u hu A0 A1 hh
        ·rw[List.mem_singleton.1 hu] at hh;exact hlt hh
    ·(have A2:¬ ((aE a x.key == -1&&((List.foldl (dH l a) [] r.reverse).isEmpty||aE x.key (List.foldl (dH l a) [] r.reverse) == -1)&&(bg x.key l).isSome)=true):=by rw[Bool.eq_false_iff.2 hs];simp);rw[if_neg A2];rcases A7 with ⟨h1,h2⟩|⟨v,hv,A3,A6,A5,A4⟩
     ·left;refine⟨h1,λ u hu A0=>?_⟩;rcases List.mem_append.1 hu with hu|hu
      ·exact h2 u hu A0
      ·rw[List.mem_singleton.1 hu];exact Bool.eq_false_iff.2 hs
     ·right;refine⟨v,List.mem_append_left _ hv,A3,A6,A5,λ u hu A0 A1=>?_⟩;rcases List.mem_append.1 hu with hu|hu
      ·exact A4 u hu A0 A1
      ·rw[List.mem_singleton.1 hu] at A1;exact absurd A1 hs
   ·(have A2:¬ ((aE a x.key == -1&&((List.foldl (dH l a) [] r.reverse).isEmpty||aE x.key (List.foldl (dH l a) [] r.reverse) == -1)&&(bg x.key l).isSome)=true):=by simp[ha]);rw[if_neg A2];rcases A7 with ⟨h1,h2⟩|⟨v,hv,A3,A6,A5,A4⟩
    ·left;refine⟨h1,λ u hu A0=>?_⟩;rcases List.mem_append.1 hu with hu|hu
     ·exact h2 u hu A0
     ·rw[List.mem_singleton.1 hu] at A0;exact absurd A0 ha
    ·right;refine⟨v,List.mem_append_left _ hv,A3,A6,A5,λ u hu A0 A1=>?_⟩;rcases List.mem_append.1 hu with hu|hu
     ·exact A4 u hu A0 A1
     ·rw[List.mem_singleton.1 hu] at A0;exact absurd A0 ha
theorem pT {B:Nat}{σ:St}{s:Rst}(h:cH B σ s)(key:List UInt8):(bg key s.l).isSome=(aU (aa σ.ents key)).isSome:=by
 have hc:=h.same.current key (λ v hv=>h.pos v (eI hv).1);rw[<- hc];cases hs:bg key s.l with
 | none=>rfl
 | some i =>(have:(atR s.l 2 key 0).1=some i:=by unfold atR;rw[if_neg (by decide)];exact hs);obtain⟨it,hit⟩:=sj this;simp[hit]
theorem yI {B:Nat}{σ:St}{s:Rst}(h:cH B σ s)(key:List UInt8)(v:Ver)(hv:aU (aa σ.ents key)=some v):i6 s.l key=v.body:=by
 have hc:=h.same.current key (λ v hv=>h.pos v (eI hv).1);rw[hv] at hc;unfold i6;cases hs:bg key s.l with
 | none=>rw[hs] at hc;cases hc
 | some i =>
   rw[hs] at hc;simp only[Option.bind_some] at hc;cases hi:s.l[i]? with
   | none=>rw[hi] at hc;cases hc
   | some it =>rw[hi] at hc;simp only[Option.map_some] at hc;cases hc;simp only[hi];rfl
theorem pU {E:Ent}{v:Ver}(h:aU E=some v):v∈E.vers:=by
 unfold aU at h;split at h
 ·cases h
 ·rename_i u hu;split at h
  ·cases h
  ·cases h;exact List.mem_of_getLast? hu
def hdK (l:List (List UInt8×List UInt8)):List UInt8:=match l with|[]=>[]|c::_=>c.1
theorem sI {key:List UInt8}(h:aA key=true):key≠[]:=by
 intro e;rw[e] at h;cases h
theorem fU {σ:St}{a:List UInt8}{c:List UInt8×List UInt8}:c∈bE σ a ↔ ∃ E∈σ.ents,aE E.key a=1/\∃ v,aU E=some v/\c=(E.key,v.body):=by
 rw[yi,List.mem_filterMap];constructor
 ·rintro ⟨E,hE,hc⟩;obtain⟨h1,h2⟩:=List.mem_filter.1 hE;unfold ni at hc;cases hv:aU E with
  | none=>rw[hv] at hc;cases hc
  | some v=>rw[hv] at hc;cases hc;exact⟨E,h1,by simpa using h2,v,hv,rfl⟩
 ·rintro ⟨E,hE,hk,v,hv,rfl⟩;refine⟨E,List.mem_filter.2 ⟨hE,by simpa using hk⟩,?_⟩;unfold ni;rw[hv];rfl
theorem nZ {B:Nat}{σ:St}{s:Rst}(h:cH B σ s)(ho:fK σ)(a:List UInt8):ij s.l a=hdK (bE σ a):=by
 have hl:=tq s.l a s.l (λ v hv=>sI (h.key v hv));have Ae:∀ E∈σ.ents,aE E.key a=1->(aU E).isSome=true->∃ v∈s.l,v.key=E.key/\(bg v.key s.l).isSome=true:=λ E hE _ hc=>by obtain⟨v,hv⟩:=Option.isSome_iff_exists.1 hc;have hm:=pU hv;have A6:=ng ho.rise hE;rw[<- A6,<- h.same.vers E.key,List.mem_map] at hm;obtain⟨it,hit,_⟩:=hm;obtain⟨h1,h2,_⟩:=eI hit;refine⟨it,h1,h2,?_⟩;rw[pT h,h2,A6];exact hc
 have A0:∀ key,(bg key s.l).isSome=true->aE a key = -1->∃ c∈bE σ a,c.1=key:=λ key hs ha=>by rw[pT h] at hs;obtain⟨v,hv⟩:=Option.isSome_iff_exists.1 hs;have hm:=pU hv;(have h0:(aa σ.ents key).last≠0:=by have h1:=h.vlast key v hm;have h2:=h.vpos key v hm;omega);have A1:=cU h0;exact⟨(key,v.body),fU.2 ⟨aa σ.ents key,A1,by rw[cF];exact yx ha,v,hv,by rw[cF]⟩,rfl⟩
 unfold ij;cases hC:bE σ a with
 | nil =>
   rcases hl with ⟨h1,_⟩|⟨v,_,Ai,Af,Ad,_⟩
   ·exact h1
   ·obtain⟨c,hc,_⟩:=A0 v.key Ad Af;rw[hC] at hc;cases hc
 | cons c R =>
   (have hc:c∈bE σ a:=by rw[hC];exact List.mem_cons_self);obtain⟨E,hE,A3,v,hv,Aa⟩:=fU.1 hc;obtain⟨it,hit,A4,A2⟩:=Ae E hE A3 (by rw[hv];rfl);rcases hl with ⟨_,h2⟩|⟨u,_,Ac,Ah,A9,Ag⟩
   ·rw[h2 it hit (by rw[A4];exact uL A3)] at A2;cases A2
   ·have h1:=Ag it hit (by rw[A4];exact uL A3) A2;obtain⟨c',A7,A5⟩:=A0 u.key A9 Ah;show List.foldl (dH s.l a) [] s.l=c.1;rw[<- Ac,<- A5];rw[hC] at A7;rcases List.mem_cons.1 A7 with rfl|hR
    ·rfl
    ·exfalso;have hn:=gR a σ.ents c R ho.rise hC;rw[<- hn] at hR;obtain⟨E',_,A8,v',_,Ab⟩:=fU.1 (show c'∈bE σ c.1 from hR);apply h1;(have e1:it.key=c.1:=by rw[A4,Aa]);rw[e1,<- A5,Ab];exact uL A8
theorem lY {α:Type}{l:List α}{n:Nat}{c:α}{R:List α}(h:l.drop n=c::R):l.drop (n+1)=R/\l.take (n+1)=l.take n++[c]:=by
 have A0:n<l.length:=by
  rcases Nat.lt_or_ge n l.length with hh|hh
  ·exact hh
  ·rw[List.drop_eq_nil_of_le hh] at h;cases h
 rw[List.drop_eq_getElem_cons A0] at h;injection h with h1 h2;refine⟨h2,?_⟩;rw[List.take_succ_eq_append_getElem A0,h1]
theorem n6 {σ:St}(ho:fK σ)(a:List UInt8):∀ (n:Nat) (c:List UInt8×List UInt8) (R:List (List UInt8×List UInt8)),(bE σ a).drop n=c::R->bE σ c.1=R
 | 0,c,R,h=>gR a σ.ents c R ho.rise (by rw[List.drop_zero] at h;exact h)
 | n+1,c,R,h=>by
   cases hd:(bE σ a).drop n with
   | nil =>
     rw[<- List.drop_drop,hd] at h
     cases h
   | cons c0 R0 =>
     have h1:=n6 ho a n c0 R0 hd
     rw[(lY hd).1] at h
     exact gR c0.1 σ.ents c R ho.rise (by rw[<- h];exact h1)
theorem ow {B:Nat}{σ:St}{s:Rst}(h:cH B σ s)(ho:fK σ)(a:List UInt8):∀ n,pgF s.l a n=⟨bU ((bE σ a).take n),dB ((bE σ a).take n),hdK ((bE σ a).drop n)⟩
 | 0=>by
   rw[pgF,nZ h ho]
   rfl
 | n+1=>by
   rw[pgF,ow h ho a n]
   unfold pgS
   simp only
   cases hd:(bE σ a).drop n with
   | nil =>
     rw[if_pos (show hdK []=[] from rfl)]
     have hl:(bE σ a).length<=n:=List.drop_eq_nil_iff.1 hd
     rw[List.take_of_length_le hl,List.take_of_length_le (Nat.le_succ_of_le hl),List.drop_eq_nil_of_le (Nat.le_succ_of_le hl)]
   | cons c R =>
     obtain⟨h1,h2⟩:=lY hd
     have hc:c∈bE σ a:=List.mem_of_mem_drop (by rw[hd];exact List.mem_cons_self)
     obtain⟨E,hE,_,v,hv,hcE⟩:=fU.1 hc
     have hk:c.1≠[]:=by rw[hcE];exact sI (ho.ok E hE).key
     have hbd:i6 s.l c.1=c.2:=by
      rw[hcE];exact yI h E.key v (by rw[ng ho.rise hE];exact hv)
     rw[if_neg (show ¬ hdK (c::R)=[] from hk),h1,h2,kX];show (⟨bU ((bE σ a).take n)++c.1++[32]++cD (i6 s.l c.1)++[10],c.1,ij s.l c.1⟩:Pg)=_;rw[hbd,nZ h ho,n6 ho a n c R hd];congr 1
     ·simp[fO]
     ·unfold dB;rw[List.getLast?_concat]
theorem ve {B:Nat}{σ:St}{s:Rst}(h:cH B σ s)(ho:fK σ)(a:List UInt8):iZ s.l a=ap (el σ a).told (el σ a).flds (el σ a).body:=by
 unfold iZ el;simp only[ow h ho a 50];congr 1;cases hd:(bE σ a).drop 50 with
 | nil =>have hl:(bE σ a).length<=50:=List.drop_eq_nil_iff.1 hd;rw[if_pos (show hdK []=[] from rfl),if_neg (by omega)]
 | cons c R =>
   have hc:c∈bE σ a:=List.mem_of_mem_drop (by rw[hd];exact List.mem_cons_self);obtain⟨E,hE,_,v,hv,A1⟩:=fU.1 hc;(have hk:c.1≠[]:=by rw[A1];exact sI (ho.ok E hE).key);have A0:50<(bE σ a).length:=by
    rcases Nat.lt_or_ge 50 (bE σ a).length with hh|hh
    ·exact hh
    ·rw[List.drop_eq_nil_of_le hh] at hd;cases hd
   rw[if_neg (show ¬ hdK (c::R)=[] from hk),if_pos A0];rfl
end Go.Proofs.YtmehkneofinmiaaGreatDoor

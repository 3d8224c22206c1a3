/-
 Texts of this proof, part 51.
-/
import Derived.Test.YtmehkneofinmiaaGreatDoorP50
namespace Go.Proofs.YtmehkneofinmiaaGreatDoor
def curF (E:Ent):Option (List UInt8×List UInt8):=(curOf E).map fun v=>(E.key,v.body)
theorem curF_key {E:Ent}{c:List UInt8×List UInt8}(h:curF E=some c):c.1=E.key:=by
 unfold curF at h
 cases hc:curOf E with
 | none=>rw[hc] at h;cases h
 | some v=>rw[hc] at h;cases h;rfl
theorem listC_is (σ:St)(a:List UInt8):listC σ a=(σ.ents.filter fun E=>cmpB E.key a==1).filterMap curF:=rfl
theorem gt_of {a b:List UInt8}(h:cmpB a b = -1):cmpB b a=1:=by rw[cmpB_swap,h];rfl
theorem lt_of {a b:List UInt8}(h:cmpB b a=1):cmpB a b = -1:=by rw[cmpB_swap,h]
theorem cur_next (a:List UInt8):∀ (L:List Ent) (c:List UInt8×List UInt8) (R:List (List UInt8×List UInt8)),RiseL L->(L.filter fun E=>cmpB E.key a==1).filterMap curF=c::R->(L.filter fun E=>cmpB E.key c.1==1).filterMap curF=R
 | [],c,R,_,h=>by cases h
 | E::L,c,R,hr,h=>by
   have ⟨h1,h2⟩:=List.pairwise_cons.1 hr
   have far:∀ c',c'∈(L.filter fun E=>cmpB E.key a==1).filterMap curF->¬ cmpB E.key c'.1=1:=fun c' hc' hh=>by
    rw[List.mem_filterMap] at hc'
    obtain⟨A,hA,hA2⟩:=hc'
    rw[curF_key hA2,h1 A (List.mem_filter.1 hA).1] at hh
    exact absurd hh (by decide)
   rw[List.filter_cons] at h
   by_cases e:cmpB E.key a=1
   ·rw[if_pos (by simpa using e),List.filterMap_cons] at h
    cases hf:curF E with
    | none =>
      rw[hf] at h
      have hh:(L.filter fun E=>cmpB E.key a==1).filterMap curF=c::R:=h
      have:=far c (by rw[hh];exact List.mem_cons_self)
      rw[List.filter_cons,if_neg (by simpa using this)]
      exact cur_next a L c R h2 hh
    | some c' =>
      rw[hf] at h
      have hh:c'::(L.filter fun E=>cmpB E.key a==1).filterMap curF=c::R:=h
      injection hh with hc hR
      subst hc
      rw[curF_key hf,List.filter_cons,if_neg (by rw[cmpB_refl];decide),<- hR]
      have e1:L.filter (fun A=>cmpB A.key E.key==1)=L:=by
       rw[List.filter_eq_self]
       intro A hA
       rw[gt_of (h1 A hA)]
       rfl
      have e2:L.filter (fun A=>cmpB A.key a==1)=L:=by
       rw[List.filter_eq_self]
       intro A hA
       rw[gt_of (cmpB_trans _ _ _ (lt_of e) (h1 A hA))]
       rfl
      rw[e1,e2]
   ·rw[if_neg (by simpa using e)] at h
    have:=far c (by rw[h];exact List.mem_cons_self)
    rw[List.filter_cons,if_neg (by simpa using this)]
    exact cur_next a L c R h2 h
theorem nextS_eq (l:List Itm)(a best:List UInt8)(v:Itm):nextS l a best v=if (cmpB a v.key == -1&&(best.isEmpty||cmpB v.key best == -1)&&(someF v.key l).isSome)=true then v.key else best:=by
 unfold nextS
 rw[less_cmp,less_cmp]
theorem next_least (l:List Itm)(a:List UInt8):∀ (m:List Itm),(∀ v∈m,v.key≠[]) ->
 (m.foldl (nextS l a) []=[]/\∀ v∈m,cmpB a v.key = -1->(someF v.key l).isSome=false)\/(∃ v∈m,v.key=m.foldl (nextS l a) []/\cmpB a v.key = -1/\(someF v.key l).isSome=true/\∀ u∈m,cmpB a u.key = -1->(someF u.key l).isSome=true->¬ cmpB u.key v.key = -1):=by
 intro m
 rw[<- List.reverse_reverse m]
 induction m.reverse with
 | nil=>exact fun _=>Or.inl ⟨rfl,fun v hv=>by simp at hv⟩
 | cons x r ih =>
   rw[List.reverse_cons]
   intro hne
   have ih':=ih (fun v hv=>hne v (List.mem_append_left _ hv))
   have hx:=hne x (by simp)
   rw[List.foldl_append,List.foldl_cons,List.foldl_nil]
   rw[nextS_eq]
   by_cases ha:cmpB a x.key = -1
   ·by_cases hs:(someF x.key l).isSome=true
    ·rcases ih' with ⟨h1,h2⟩|⟨v,hv,hvk,hva,hvs,hvl⟩
     ·right
      refine⟨x,by simp,?_,ha,hs,?_⟩
      ·rw[h1]
       simp[ha,hs]
      ·intro u hu hua hus
       rcases List.mem_append.1 hu with hu|hu
       ·rw[h2 u hu hua] at hus
        cases hus
       ·rw[List.mem_singleton.1 hu,cmpB_refl]
        decide
     ·right
      have hb:(List.foldl (nextS l a) [] r.reverse).isEmpty=false:=by
       rw[<- hvk]
       have:=hne v (List.mem_append_left _ hv)
       simpa using this
      by_cases hlt:cmpB x.key v.key = -1
      ·refine⟨x,by simp,?_,ha,hs,?_⟩
       ·rw[if_pos]
        rw[hb,<- hvk,ha,hlt,hs]
        rfl
       ·intro u hu hua hus hh
        rcases List.mem_append.1 hu with hu|hu
        ·exact hvl u hu hua hus (cmpB_trans _ _ _ hh hlt)
        ·rw[List.mem_singleton.1 hu,cmpB_refl] at hh
         exact absurd hh (by decide)
      ·refine⟨v,List.mem_append_left _ hv,?_,hva,hvs,?_⟩
       ·rw[if_neg]
        ·exact hvk
        ·rw[hb,<- hvk]
         simp[hlt]
       ·intro u hu hua hus hh
        rcases List.mem_append.1 hu with hu|hu
        ·exact hvl u hu hua hus hh
        ·rw[List.mem_singleton.1 hu] at hh
         exact hlt hh
    ·have hcond:¬ ((cmpB a x.key == -1&&((List.foldl (nextS l a) [] r.reverse).isEmpty||cmpB x.key (List.foldl (nextS l a) [] r.reverse) == -1)&&(someF x.key l).isSome)=true):=by
      rw[Bool.eq_false_iff.2 hs]
      simp
     rw[if_neg hcond]
     rcases ih' with ⟨h1,h2⟩|⟨v,hv,hvk,hva,hvs,hvl⟩
     ·left
      refine⟨h1,fun u hu hua=>?_⟩
      rcases List.mem_append.1 hu with hu|hu
      ·exact h2 u hu hua
      ·rw[List.mem_singleton.1 hu]
       exact Bool.eq_false_iff.2 hs
     ·right
      refine⟨v,List.mem_append_left _ hv,hvk,hva,hvs,fun u hu hua hus=>?_⟩
      rcases List.mem_append.1 hu with hu|hu
      ·exact hvl u hu hua hus
      ·rw[List.mem_singleton.1 hu] at hus
       exact absurd hus hs
   ·have hcond:¬ ((cmpB a x.key == -1&&((List.foldl (nextS l a) [] r.reverse).isEmpty||cmpB x.key (List.foldl (nextS l a) [] r.reverse) == -1)&&(someF x.key l).isSome)=true):=by
     simp[ha]
    rw[if_neg hcond]
    rcases ih' with ⟨h1,h2⟩|⟨v,hv,hvk,hva,hvs,hvl⟩
    ·left
     refine⟨h1,fun u hu hua=>?_⟩
     rcases List.mem_append.1 hu with hu|hu
     ·exact h2 u hu hua
     ·rw[List.mem_singleton.1 hu] at hua
      exact absurd hua ha
    ·right
     refine⟨v,List.mem_append_left _ hv,hvk,hva,hvs,fun u hu hua hus=>?_⟩
     rcases List.mem_append.1 hu with hu|hu
     ·exact hvl u hu hua hus
     ·rw[List.mem_singleton.1 hu] at hua
      exact absurd hua ha
theorem some_cur {B:Nat}{σ:St}{s:Rst}(h:Twin B σ s)(key:List UInt8):(someF key s.l).isSome=(curOf (findE σ.ents key)).isSome:=by
 have hc:=h.same.current key (fun v hv=>h.pos v (live_mem hv).1)
 rw[<- hc]
 cases hs:someF key s.l with
 | none=>rfl
 | some i =>
   have:(atR s.l 2 key 0).1=some i:=by unfold atR;rw[if_neg (by decide)];exact hs
   obtain⟨it,hit⟩:=atR_lt this
   simp[hit]
theorem body_cur {B:Nat}{σ:St}{s:Rst}(h:Twin B σ s)(key:List UInt8)(v:Ver)(hv:curOf (findE σ.ents key)=some v):bodyAt s.l key=v.body:=by
 have hc:=h.same.current key (fun v hv=>h.pos v (live_mem hv).1)
 rw[hv] at hc
 unfold bodyAt
 cases hs:someF key s.l with
 | none=>rw[hs] at hc;cases hc
 | some i =>
   rw[hs] at hc
   simp only[Option.bind_some] at hc
   cases hi:s.l[i]? with
   | none=>rw[hi] at hc;cases hc
   | some it =>
     rw[hi] at hc
     simp only[Option.map_some] at hc
     cases hc
     simp only[hi]
     rfl
theorem cur_last {E:Ent}{v:Ver}(h:curOf E=some v):v∈E.vers:=by
 unfold curOf at h
 split at h
 ·cases h
 ·rename_i u hu
  split at h
  ·cases h
  ·cases h
   exact List.mem_of_getLast? hu
def hdK (l:List (List UInt8×List UInt8)):List UInt8:=match l with|[]=>[]|c::_=>c.1
theorem key_ne {key:List UInt8}(h:keyOK key=true):key≠[]:=by
 intro e
 rw[e] at h
 cases h
theorem mem_listC {σ:St}{a:List UInt8}{c:List UInt8×List UInt8}:c∈listC σ a ↔ ∃ E∈σ.ents,cmpB E.key a=1/\∃ v,curOf E=some v/\c=(E.key,v.body):=by
 rw[listC_is,List.mem_filterMap]
 constructor
 ·rintro ⟨E,hE,hc⟩
  obtain⟨h1,h2⟩:=List.mem_filter.1 hE
  unfold curF at hc
  cases hv:curOf E with
  | none=>rw[hv] at hc;cases hc
  | some v=>rw[hv] at hc;cases hc;exact⟨E,h1,by simpa using h2,v,hv,rfl⟩
 ·rintro ⟨E,hE,hk,v,hv,rfl⟩
  refine⟨E,List.mem_filter.2 ⟨hE,by simpa using hk⟩,?_⟩
  unfold curF
  rw[hv]
  rfl
theorem next_same {B:Nat}{σ:St}{s:Rst}(h:Twin B σ s)(ho:StOK σ)(a:List UInt8):nextF s.l a=hdK (listC σ a):=by
 have hl:=next_least s.l a s.l (fun v hv=>key_ne (h.key v hv))
 have hin:∀ E∈σ.ents,cmpB E.key a=1->(curOf E).isSome=true->∃ v∈s.l,v.key=E.key/\(someF v.key s.l).isSome=true:=fun E hE _ hc=>by
  obtain⟨v,hv⟩:=Option.isSome_iff_exists.1 hc
  have hm:=cur_last hv
  have hfe:=findE_in ho.rise hE
  rw[<- hfe,<- h.same.vers E.key,List.mem_map] at hm
  obtain⟨it,hit,_⟩:=hm
  obtain⟨h1,h2,_⟩:=live_mem hit
  refine⟨it,h1,h2,?_⟩
  rw[some_cur h,h2,hfe]
  exact hc
 have hout:∀ key,(someF key s.l).isSome=true->cmpB a key = -1->∃ c∈listC σ a,c.1=key:=fun key hs ha=>by
  rw[some_cur h] at hs
  obtain⟨v,hv⟩:=Option.isSome_iff_exists.1 hs
  have hm:=cur_last hv
  have h0:(findE σ.ents key).last≠0:=by
   have h1:=h.vlast key v hm
   have h2:=h.vpos key v hm
   omega
  have hmem:=findE_mem h0
  exact⟨(key,v.body),mem_listC.2 ⟨findE σ.ents key,hmem,by rw[findE_key];exact gt_of ha,v,hv,by rw[findE_key]⟩,rfl⟩
 unfold nextF
 cases hC:listC σ a with
 | nil =>
   rcases hl with ⟨h1,_⟩|⟨v,_,hvk,hva,hvs,_⟩
   ·exact h1
   ·obtain⟨c,hc,_⟩:=hout v.key hvs hva
    rw[hC] at hc
    cases hc
 | cons c R =>
   have hc:c∈listC σ a:=by rw[hC];exact List.mem_cons_self
   obtain⟨E,hE,hEa,v,hv,hcE⟩:=mem_listC.1 hc
   obtain⟨it,hit,hik,his⟩:=hin E hE hEa (by rw[hv];rfl)
   rcases hl with ⟨_,h2⟩|⟨u,_,huk,hua,hus,hul⟩
   ·rw[h2 it hit (by rw[hik];exact lt_of hEa)] at his
    cases his
   ·have h1:=hul it hit (by rw[hik];exact lt_of hEa) his
    obtain⟨c',hc',hk'⟩:=hout u.key hus hua
    show List.foldl (nextS s.l a) [] s.l=c.1
    rw[<- huk,<- hk']
    rw[hC] at hc'
    rcases List.mem_cons.1 hc' with rfl|hR
    ·rfl
    ·exfalso
     have hn:=cur_next a σ.ents c R ho.rise hC
     rw[<- hn] at hR
     obtain⟨E',_,hE2,v',_,hcv⟩:=mem_listC.1 (show c'∈listC σ c.1 from hR)
     apply h1
     have e1:it.key=c.1:=by rw[hik,hcE]
     rw[e1,<- hk',hcv]
     exact lt_of hE2
theorem dropL_cons {α:Type}{l:List α}{n:Nat}{c:α}{R:List α}(h:l.drop n=c::R):l.drop (n+1)=R/\l.take (n+1)=l.take n++[c]:=by
 have hlt:n<l.length:=by
  rcases Nat.lt_or_ge n l.length with hh|hh
  ·exact hh
  ·rw[List.drop_eq_nil_of_le hh] at h
   cases h
 rw[List.drop_eq_getElem_cons hlt] at h
 injection h with h1 h2
 refine⟨h2,?_⟩
 rw[List.take_succ_eq_append_getElem hlt,h1]
theorem drop_next {σ:St}(ho:StOK σ)(a:List UInt8):∀ (n:Nat) (c:List UInt8×List UInt8) (R:List (List UInt8×List UInt8)),(listC σ a).drop n=c::R->listC σ c.1=R
 | 0,c,R,h=>cur_next a σ.ents c R ho.rise (by rw[List.drop_zero] at h;exact h)
 | n+1,c,R,h=>by
   cases hd:(listC σ a).drop n with
   | nil =>
     rw[<- List.drop_drop,hd] at h
     cases h
   | cons c0 R0 =>
     have h1:=drop_next ho a n c0 R0 hd
     rw[(dropL_cons hd).1] at h
     exact cur_next c0.1 σ.ents c R ho.rise (by rw[<- h];exact h1)
theorem page_same {B:Nat}{σ:St}{s:Rst}(h:Twin B σ s)(ho:StOK σ)(a:List UInt8):∀ n,pgF s.l a n=⟨linesK ((listC σ a).take n),lastK ((listC σ a).take n),hdK ((listC σ a).drop n)⟩
 | 0=>by
   rw[pgF,next_same h ho]
   rfl
 | n+1=>by
   rw[pgF,page_same h ho a n]
   unfold pgS
   simp only
   cases hd:(listC σ a).drop n with
   | nil =>
     rw[if_pos (show hdK []=[] from rfl)]
     have hl:(listC σ a).length<=n:=List.drop_eq_nil_iff.1 hd
     rw[List.take_of_length_le hl,List.take_of_length_le (Nat.le_succ_of_le hl),List.drop_eq_nil_of_le (Nat.le_succ_of_le hl)]
   | cons c R =>
     obtain⟨h1,h2⟩:=dropL_cons hd
     have hc:c∈listC σ a:=List.mem_of_mem_drop (by rw[hd];exact List.mem_cons_self)
     obtain⟨E,hE,_,v,hv,hcE⟩:=mem_listC.1 hc
     have hk:c.1≠[]:=by rw[hcE];exact key_ne (ho.ok E hE).key
     have hbd:bodyAt s.l c.1=c.2:=by
      rw[hcE]
      exact body_cur h E.key v (by rw[findE_in ho.rise hE];exact hv)
     rw[if_neg (show ¬ hdK (c::R)=[] from hk),h1,h2,linesK_snoc]
     show (⟨linesK ((listC σ a).take n)++c.1++[32]++qTag (bodyAt s.l c.1)++[10],c.1,nextF s.l c.1⟩:Pg)=_
     rw[hbd,next_same h ho,drop_next ho a n c R hd]
     congr 1
     ·simp[lineK]
     ·unfold lastK
      rw[List.getLast?_concat]
theorem list_same {B:Nat}{σ:St}{s:Rst}(h:Twin B σ s)(ho:StOK σ)(a:List UInt8):listF s.l a=textF (listA σ a).told (listA σ a).flds (listA σ a).body:=by
 unfold listF listA
 simp only[page_same h ho a 50]
 congr 1
 cases hd:(listC σ a).drop 50 with
 | nil =>
   have hl:(listC σ a).length<=50:=List.drop_eq_nil_iff.1 hd
   rw[if_pos (show hdK []=[] from rfl),if_neg (by omega)]
 | cons c R =>
   have hc:c∈listC σ a:=List.mem_of_mem_drop (by rw[hd];exact List.mem_cons_self)
   obtain⟨E,hE,_,v,hv,hcE⟩:=mem_listC.1 hc
   have hk:c.1≠[]:=by rw[hcE];exact key_ne (ho.ok E hE).key
   have hlt:50<(listC σ a).length:=by
    rcases Nat.lt_or_ge 50 (listC σ a).length with hh|hh
    ·exact hh
    ·rw[List.drop_eq_nil_of_le hh] at hd
     cases hd
   rw[if_neg (show ¬ hdK (c::R)=[] from hk),if_pos hlt]
   rfl
theorem query_kind {key q:List UInt8}{t:Tgt}(h:queryF key q=some t):t.kind<=3:=by
 unfold queryF at h
 split at h
 ·cases h;exact Nat.le_refl _
 ·split at h
  ·cases hn:numF (Lib.trimPrefix q [118,61]) with
   | none=>rw[hn] at h;cases h
   | some n=>rw[hn] at h;cases h;show (2:Nat)<=3;omega
  ·cases h
theorem target_kind {l:List UInt8}{t:Tgt}(h:targetF l=some t):t.kind<=3:=by
 unfold targetF at h
 split at h
 ·unfold pathF at h
  split at h
  ·cases h;show (0:Nat)<=3;omega
  ·split at h
   ·split at h
    ·cases h;show (0:Nat)<=3;omega
    ·cases h
   ·split at h
    ·split at h
     ·exact query_kind h
     ·cases h;show (1:Nat)<=3;omega
    ·cases h
 ·cases h
theorem meth_le {l:List UInt8}{m:Nat}(h:methF l=some m):m<=3:=by
 unfold methF at h
 repeat' split at h
 all_goals (cases h)
 all_goals omega
theorem read_kind {l:List UInt8}{m:Nat}{t:Tgt}{k:Cnd}{body:List UInt8}(h:readF l=.ok (m,t,k,body)):t.kind<=3/\m<=3/\fitsF m t.kind=true:=by
 unfold readF at h
 split at h
 ·cases h
 ·split at h
  ·cases h
  ·rename_i m' t' k' b' hp
   split at h
   ·cases h
   ·split at h
    ·cases h
    ·split at h
     ·rename_i hf
      cases h
      unfold parseF at hp
      split at hp
      ·split at hp
       ·split at hp
        ·cases hp
        ·rename_i mm hm
         split at hp
         ·cases hp
         ·rename_i tt ht
          split at hp
          ·cases hp
          ·cases hp
           exact⟨target_kind ht,meth_le hm,hf⟩
       ·cases hp
      ·cases hp
     ·cases h
theorem room_no {σ:St}{key body:List UInt8}{k:Nat}(hk:k=1\/k=2)(hc:k=2->(curOf (findE σ.ents key)).isSome=true)(h:((decide (0<(findE σ.ents key).last)||decide (σ.ents.length<60))&&decide ((findE σ.ents key).vers.length<20))=false):chgF σ key k ((findE σ.ents key).last+1) body=(507,none):=by
 unfold chgF obstF
 rw[if_neg (show ¬ k=3 by omega),if_neg (show ¬ (k=2/\(curOf (findE σ.ents key)).isSome=false) from fun hh=>by rw[hc hh.1] at hh;cases hh.2)]
 by_cases h20:20<=(findE σ.ents key).vers.length
 ·rw[if_pos h20,if_pos (by decide)]
 ·rw[if_neg h20,if_neg (by simp)]
  simp only[Bool.and_eq_false_iff,Bool.or_eq_false_iff,decide_eq_false_iff_not] at h
  rw[if_pos (by omega)]
theorem room_yes {σ:St}{key body:List UInt8}{k:Nat}(hk:k=1\/k=2)(hc:k=2->(curOf (findE σ.ents key)).isSome=true)(h:((decide (0<(findE σ.ents key).last)||decide (σ.ents.length<60))&&decide ((findE σ.ents key).vers.length<20))=true) :
 chgF σ key k ((findE σ.ents key).last+1) body=(succF (findE σ.ents key) k,some ⟨σ.time,putE σ.ents (applyF (findE σ.ents key) k σ.time ((findE σ.ents key).last+1) body),σ.log++recF k σ.time key ((findE σ.ents key).last+1) body⟩):=by
 simp only[Bool.and_eq_true,Bool.or_eq_true,decide_eq_true_eq] at h
 unfold chgF
 have ho:obstF (findE σ.ents key) k ((findE σ.ents key).last+1)=0:=by
  unfold obstF
  rw[if_neg (show ¬ k=3 by omega),if_neg (show ¬ (k=2/\(curOf (findE σ.ents key)).isSome=false) from fun hh=>by rw[hc hh.1] at hh;cases hh.2),if_neg (by omega)]
 rw[ho,if_neg (by simp),if_neg (by omega)]
theorem keyed_same {B:Nat}{σ:St}{s:Rst}(h:Twin B σ s)(ho:StOK σ)(hB:1000000000<=B)(m:Nat)(t:Tgt)(k:Cnd)(body:List UInt8)(ht:t.kind=1\/t.kind=2)(hm:m<=3)(hf:fitsF m t.kind=true)(hkey:keyOK t.key=true)(hb:body.length<=400)(hn:t.num<1000000000) :
 (keyedF σ.time s (m+1) (cvT t) k body).1=textF (askF σ m t k body).1.told (askF σ m t k body).1.flds (askF σ m t k body).1.body/\Twin B (askF σ m t k body).2 (keyedF σ.time s (m+1) (cvT t) k body).2:=by
 have ha:=aim_same h t ht
 have hw:(m+1==3||m+1==4)=isW m:=by
  unfold isW
  rw[Bool.eq_iff_iff]
  simp
 have hk2:(cvT t).key=t.key:=by unfold cvT;rcases ht with e|e<;>simp[e]
 have hat:=atV_some s.l (cvT t).tg (cvT t).key (cvT t).v
 rw[ha] at hat
 by_cases hc:condF (isW m) k (aimF (findE σ.ents t.key) t)=0
 ·by_cases m2:m=2
  ·subst m2
   have k1:t.kind=1:=by
    unfold fitsF at hf
    simpa using hf
   have hA:aimF (findE σ.ents t.key) t=curOf (findE σ.ents t.key):=by unfold aimF;rw[if_neg (by omega)]
   have hwt:wantF (findE σ.ents t.key) 2 t body=(1,(findE σ.ents t.key).last+1,body):=by unfold wantF;rw[if_pos rfl]
   have hkf:keyedF σ.time s (2+1) (cvT t) k body=putsF σ.time s t.key body (curOf (findE σ.ents t.key)).isSome:=by
    unfold keyedF
    rw[hw,ha,if_neg (by rw[hc];simp),if_pos rfl,hat,hk2,hA]
   rw[hkf]
   unfold putsF
   rw[room_same h t.key,h.same.last t.key]
   cases hr:((decide (0<(findE σ.ents t.key).last)||decide (σ.ents.length<60))&&decide ((findE σ.ents t.key).vers.length<20)) with
   | false =>
     rw[ask_no (by omega) rfl hc hwt (room_no (Or.inl rfl) (fun e=>by omega) hr)]
     exact⟨rfl,h⟩
   | true =>
     rw[ask_yes (by omega) rfl hc hwt (room_yes (Or.inl rfl) (fun e=>by omega) hr)]
     refine⟨?_,?_⟩
     ·unfold succF
      rfl
     ·have:=h.come ho t.key body 1 false (by decide) rfl hkey hb
      rw[h.same.last t.key] at this
      exact this
  ·by_cases m3:m=3
   ·subst m3
    rcases ht with e|e
    ·have hA:aimF (findE σ.ents t.key) t=curOf (findE σ.ents t.key):=by unfold aimF;rw[if_neg (by omega)]
     have hwt:wantF (findE σ.ents t.key) 3 t body=(2,(findE σ.ents t.key).last+1,[]):=by unfold wantF;rw[if_neg (by decide),if_neg (by omega)]
     have htg:(cvT t).tg=2:=by rw[cvT_tg,if_neg (by omega),if_pos e]
     have hkf:keyedF σ.time s (3+1) (cvT t) k body=delsF σ.time s false t.key (cvT t).v.toNat (curOf (findE σ.ents t.key)).isSome (atR s.l (cvT t).tg (cvT t).key (cvT t).v).2:=by
      unfold keyedF
      rw[hw,ha,if_neg (by rw[hc];simp),if_neg (by decide),if_pos rfl,hat,hk2,hA,htg]
      rfl
     rw[hkf]
     unfold delsF
     rw[if_neg (by decide)]
     cases hcu:(curOf (findE σ.ents t.key)).isSome with
     | false =>
       rw[if_neg (by decide),ask_no (by omega) rfl hc hwt (chg_no (told:=404) (by unfold obstF;rw[if_neg (by decide),if_pos ⟨rfl,hcu⟩]) (by decide))]
       exact⟨rfl,h⟩
     | true =>
       rw[if_pos rfl,room_same h t.key,h.same.last t.key]
       cases hr:((decide (0<(findE σ.ents t.key).last)||decide (σ.ents.length<60))&&decide ((findE σ.ents t.key).vers.length<20)) with
       | false =>
         rw[ask_no (by omega) rfl hc hwt (room_no (Or.inr rfl) (fun _=>hcu) hr)]
         exact⟨rfl,h⟩
       | true =>
         rw[ask_yes (by omega) rfl hc hwt (room_yes (Or.inr rfl) (fun _=>hcu) hr)]
         refine⟨?_,?_⟩
         ·unfold succF
          rfl
         ·have:=h.come ho t.key [] 2 true (by decide) rfl hkey (by simp)
          rw[h.same.last t.key] at this
          exact this
    ·have hwt:wantF (findE σ.ents t.key) 3 t body=(3,t.num,[]):=by unfold wantF;rw[if_neg (by decide),if_pos e]
     have hcv:cvT t=⟨4,t.key,[],t.num⟩:=by unfold cvT;rw[if_neg (by omega),if_neg (by omega),if_pos e]
     have hkf:keyedF σ.time s (3+1) (cvT t) k body=delsF σ.time s true t.key t.num (atR s.l (cvT t).tg (cvT t).key (cvT t).v).1.isSome (findF t.key (t.num:Int) s.l):=by
      unfold keyedF
      rw[hw,ha,if_neg (by rw[hc];simp),if_neg (by decide),if_pos rfl,hcv]
      unfold atR
      rfl
     rw[hkf]
     unfold delsF
     rw[if_pos rfl]
     have hws:=whole_same h t.key t.num
     cases hfi:findF t.key (t.num:Int) s.l with
     | none =>
       rw[hfi] at hws
       rw[ask_no (by omega) rfl hc hwt (chg_no (told:=404) (by unfold obstF;rw[if_pos rfl,<- hws];rfl) (by decide))]
       exact⟨rfl,h⟩
     | some i =>
       rw[hfi] at hws
       obtain⟨it,hit⟩:∃ v,s.l[i]?=some v:=⟨_,List.getElem?_eq_getElem (findF_lt hfi)⟩
       have hl0:(findE σ.ents t.key).last≠0:=by
        obtain⟨j,hj⟩:=Option.isSome_iff_exists.1 hws.symm
        obtain⟨v,hv,_⟩:=vidx_get hj
        have h1:=h.vlast t.key v (List.mem_of_getElem? hv)
        have h2:=h.vpos t.key v (List.mem_of_getElem? hv)
        omega
       have hch:chgF σ t.key 3 t.num []=(204,some ⟨σ.time,putE σ.ents (applyF (findE σ.ents t.key) 3 σ.time t.num []),σ.log++recF 3 σ.time t.key t.num []⟩):=by
        unfold chgF
        have ho:obstF (findE σ.ents t.key) 3 t.num=0:=by unfold obstF;rw[if_pos rfl,<- hws];rfl
        rw[ho,if_neg (by simp),if_neg (fun hh=>hl0 hh.1)]
        rfl
       rw[ask_yes (by omega) rfl hc hwt hch]
       simp only[hit]
       exact⟨rfl,h.leave ho t.key t.num i it hfi hit (by omega)⟩
   ·have hwf:isW m=false:=by unfold isW;simp[m2,m3]
    have hkf:keyedF σ.time s (m+1) (cvT t) k body=match aimF (findE σ.ents t.key) t with
     | none=>(textF 404 [] [],s)
     | some v=>(textF 200 (verFlds v (stampL v.time)) (if m+1=2 then [] else v.body),s):=by
     unfold keyedF
     rw[hw,ha,if_neg (by rw[hc];simp),if_neg (by omega),if_neg (by omega)]
     rfl
    have haf:askF σ m t k body=match aimF (findE σ.ents t.key) t with
     | none=>(⟨404,[],[]⟩,σ)
     | some v=>(⟨200,verFlds v (stampL v.time),if m=0 then v.body else []⟩,σ):=by
     unfold askF
     rw[if_neg (by omega),if_neg (by rw[hc];simp),hwf,if_neg (by decide)]
     rfl
    rw[hkf,haf]
    cases aimF (findE σ.ents t.key) t with
    | none=>exact⟨rfl,h⟩
    | some v =>
      refine⟨?_,h⟩
      simp only
      by_cases m0:m=0
      ·rw[if_neg (by omega),if_pos m0]
      ·rw[if_pos (by omega),if_neg m0]
 ·have hkf:keyedF σ.time s (m+1) (cvT t) k body=(textF (condF (isW m) k (aimF (findE σ.ents t.key) t)) [] [],s):=by
   unfold keyedF
   rw[hw,ha,if_pos hc]
  have haf:askF σ m t k body=(⟨condF (isW m) k (aimF (findE σ.ents t.key) t),[],[]⟩,σ):=by
   unfold askF
   rw[if_neg (by omega),if_pos hc]
  rw[hkf,haf]
  exact⟨rfl,h⟩
theorem doR_is {t:Nat}{s:Rst}{l:List UInt8}{m:Nat}{tg:TgR}{k:Cnd}{body:List UInt8}(h:readR l=.ok (m,tg,k,body)):doR t s l=if tg.tg=1 then (listF s.l tg.after,s) else if tg.tg=3 then (histF s.l tg.key,s) else keyedF t s m tg k body:=by
 unfold doR
 rw[h]
theorem do_same {B:Nat}{σ:St}{s:Rst}(h:Twin B σ s)(ho:StOK σ)(hB:1000000000<=B)(l:List UInt8):(doR σ.time s l).1=(doF σ l).1/\Twin B (doF σ l).2 (doR σ.time s l).2:=by
 cases hr:readF l with
 | error n =>
   have hR:readR l=.error n:=by rw[read_same,hr]
   unfold doR doF ansF
   rw[hr,hR]
   exact⟨rfl,h⟩
 | ok x =>
   obtain⟨m,t,k,body⟩:=x
   obtain⟨h1,h2,h3⟩:=read_kind hr
   obtain⟨h4,h5,h6,h7⟩:=read_ok hr
   have hR:readR l=.ok (m+1,cvT t,k,body):=by rw[read_same,hr];rfl
   rw[doR_is hR]
   unfold doF
   by_cases k0:t.kind=0
   ·have ha:ansF σ l=(listA σ t.key,σ):=by unfold ansF;rw[hr];simp only;rw[if_pos k0]
    have e:(cvT t).after=t.key:=by unfold cvT;rw[if_pos k0]
    rw[ha,if_pos (show (cvT t).tg=1 by rw[cvT_tg,if_pos k0]),e]
    exact⟨list_same h ho t.key,h⟩
   ·rw[ans_of hr k0,if_neg (show ¬ (cvT t).tg=1 by rw[cvT_tg,if_neg k0];split;decide;split<;>decide)]
    by_cases k3:t.kind=3
    ·have e:(cvT t).tg=3/\(cvT t).key=t.key:=by
      unfold cvT
      rw[if_neg (by omega),if_neg (by omega),if_neg (by omega)]
      exact⟨rfl,rfl⟩
     rw[if_pos e.1,e.2,hist_same h.same t.key (h.vrise t.key) (h.vpos t.key) (h.vlast t.key)]
     unfold askF
     rw[if_pos k3]
     by_cases hv:(findE σ.ents t.key).vers=[]
     ·rw[if_pos hv,if_pos hv]
      exact⟨rfl,h⟩
     ·rw[if_neg hv,if_neg hv]
      exact⟨rfl,h⟩
    ·have ht:t.kind=1\/t.kind=2:=by omega
     rw[if_neg (show ¬ (cvT t).tg=3 by rw[cvT_tg,if_neg k0];rcases ht with e|e<;>simp[e])]
     exact keyed_same h ho hB m t k body ht h2 h3 (h4 k0) h7 h6
end Go.Proofs.YtmehkneofinmiaaGreatDoor

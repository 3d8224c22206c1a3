/-
 Texts of this proof, part 20.
-/
import Derived.Test.YtmehkneofinmiaaGreatDoorP19
set_option maxRecDepth 100000
set_option maxHeartbeats 4000000
namespace Go.Proofs.YtmehkneofinmiaaGreatDoor
open Go.RowKit
def numOf (E:Ent)(n:Nat):Option Ver:=match E.vers.find? (fun v=>v.num==n) with
 | none=>none
 | some v=>if v.mark then none else some v
def aimF (E:Ent)(t:Tgt):Option Ver:=if t.kind=2 then numOf E t.num else curOf E
theorem vidx_find (l:List Ver)(n:Nat):(match vidx l n with|some i=>l[i]?|none=>none)=l.find? (fun v=>v.num==n):=by
 induction l with
 | nil=>rfl
 | cons a l ih =>
   unfold vidx at ih ⊢
   rw[List.findIdx?_cons,List.find?_cons]
   by_cases h:a.num=n
   ·simp[h]
   ·have h1:((a.num:Int)==(n:Int))=false:=beq_eq_false_iff_ne.2 (by omega)
    have h2:(a.num==n)=false:=beq_eq_false_iff_ne.2 h
    rw[h1,h2,if_neg (by simp)]
    rw[<- ih]
    cases List.findIdx? (fun v:Ver=>(v.num:Int)==(n:Int)) l<;>rfl
theorem numbered_any (p:Nat)(E:Ent)(vs:Value)(n:Nat)(w:World)(h:EntAt w p E vs)(hl:E.vers.length<1000) :
 Calls Tryz.prog 140 #[.pointer (some ⟨p,0,none⟩),.int .i64 n] w fun e w'=>(∃ v:Ver,e=.returned (.tuple #[verAgg v,.bool (numOf E n).isSome])/\(∀ u,numOf E n=some u->v=u))/\Below w.heap.size w w':=by
 have hf:=vidx_find E.vers n
 cases hv:vidx E.vers n with
 | none =>
   rw[hv] at hf
   refine (numbered_none p E vs n w h (by omega) hv).mono ?_
   rintro e w' ⟨rfl,hb⟩
   refine⟨⟨⟨0,0,false,[]⟩,?_,fun u hu=>?_⟩,hb⟩
   ·simp only[numOf,<- hf]
    rfl
   ·simp[numOf,<- hf] at hu
 | some i =>
   obtain⟨v,hget,_⟩:=vidx_get hv
   rw[hv] at hf
   simp only[hget] at hf
   refine (numbered_some p E vs n w h (by omega) i v hv hget).mono ?_
   rintro e w' ⟨rfl,hb⟩
   refine⟨⟨v,?_,fun u hu=>?_⟩,hb⟩
   ·cases hm:v.mark<;>simp[numOf,<- hf,hm]
   ·cases hm:v.mark<;>simp[numOf,<- hf,hm] at hu
    exact hu
theorem aim_any (p:Nat)(E:Ent)(vs:Value)(t:Tgt)(w:World)(h:EntAt w p E vs)(hl:E.vers.length<1000) :
 Calls Tryz.prog 90 #[.pointer (some ⟨p,0,none⟩),tgV t] w fun e w'=>(∃ v:Ver,e=.returned (.tuple #[verAgg v,.bool (aimF E t).isSome])/\(∀ u,aimF E t=some u->v=u))/\Below w.heap.size w w':=by
 have HE:Hid _:=h
 clear h
 unfold tgV
 by_cases hk:t.kind=2
 ·have hki:((t.kind:Int)==2)=true:=by rw[hk];rfl
  have ha:aimF E t=numOf E t.num:=by simp[aimF,hk]
  rw[ha]
  clear ha
  go_enter Tryz.func90,Tryz.ntmps90
  go_wp2_with fail
  have hal:Below w.heap.size w ((w.alloc (.cells #[.int .i64 2,.string ⟨t.key.toArray⟩,.int .i64 (t.num:Int)] 88)).alloc (.cells #[.int .i64 0,.int .i64 0,.bool false,.string ⟨#[]⟩] 174)):=((Below.refl _ _).alloc (Nat.le_refl _) _).alloc (by simp) _
  refine (numbered_any p E vs t.num _ (HE.out.below hal) hl).mono ?_
  rintro e w1 ⟨⟨v,rfl,hv⟩,hb1⟩
  have hz:w1.heap[w.heap.size+1]?=some (.cells #[.int .i64 0,.int .i64 0,.bool false,.string ⟨#[]⟩] 174 (0,0)):=by
   refine (hb1.block _ (by simp)).trans ?_
   have:=heap_alloc_new (w.alloc (.cells #[.int .i64 2,.string ⟨t.key.toArray⟩,.int .i64 (t.num:Int)] 88)) (.cells #[.int .i64 0,.int .i64 0,.bool false,.string ⟨#[]⟩] 174)
   simpa using this
  have HB:Hid (Below w.heap.size w w1):=hal.trans (hb1.mono (by simp;omega))
  have HV:Hid _:=hv
  have HZ:Hid _:=hz
  obtain⟨cc,hcc⟩:∃ x,(numOf E t.num).isSome=x:=⟨_,rfl⟩
  have HCC:Hid _:=hcc
  rw[hcc]
  clear hb1 hal hv hz hcc
  unfold verAgg
  go_wp2_with (refine wpList_store_row rfl 174 (.tmp 4) (.tmp 13) rfl (w.heap.size+1) #[.int .i64 v.num,.int .i64 v.time,.bool v.mark,.string ⟨v.body.toArray⟩] rfl rfl 174 #[.int .i64 0,.int .i64 0,.bool false,.string ⟨#[]⟩] HZ.out hi154 rfl (by simp[Value.oneCell']) ?_)
  refine bodyPost_ret (v:=.tuple #[verAgg v,.bool cc]) (results_row_tmp Tryz.results90 _ _ (w.heap.size+1) _ _ _ _ rfl (setRow_heap _ _ _ _ _ _ HZ.out) Tryz.underlying174 rfl hi154) rfl ⟨⟨v,by rw[HCC.out],HV.out⟩,below_setRow HB.out (by omega) _⟩
 ·have hki:((t.kind:Int)==2)=false:=beq_eq_false_iff_ne.2 (by omega)
  have ha:aimF E t=curOf E:=by simp[aimF,hk]
  rw[ha]
  clear ha
  go_enter Tryz.func90,Tryz.ntmps90
  go_wp2_with fail
  have hal:Below w.heap.size w ((w.alloc (.cells #[.int .i64 (t.kind:Int),.string ⟨t.key.toArray⟩,.int .i64 (t.num:Int)] 88)).alloc (.cells #[.int .i64 0,.int .i64 0,.bool false,.string ⟨#[]⟩] 174)):=((Below.refl _ _).alloc (Nat.le_refl _) _).alloc (by simp) _
  refine (current_any p E vs _ (HE.out.below hal) hl).mono ?_
  rintro e w1 ⟨⟨v,rfl,hv⟩,hb1⟩
  have hz:w1.heap[w.heap.size+1]?=some (.cells #[.int .i64 0,.int .i64 0,.bool false,.string ⟨#[]⟩] 174 (0,0)):=by
   refine (hb1.block _ (by simp)).trans ?_
   have:=heap_alloc_new (w.alloc (.cells #[.int .i64 (t.kind:Int),.string ⟨t.key.toArray⟩,.int .i64 (t.num:Int)] 88)) (.cells #[.int .i64 0,.int .i64 0,.bool false,.string ⟨#[]⟩] 174)
   simpa using this
  have HB:Hid (Below w.heap.size w w1):=hal.trans (hb1.mono (by simp;omega))
  have HV:Hid _:=hv
  have HZ:Hid _:=hz
  obtain⟨cc,hcc⟩:∃ x,(curOf E).isSome=x:=⟨_,rfl⟩
  have HCC:Hid _:=hcc
  rw[hcc]
  clear hb1 hal hv hz hcc
  unfold verAgg
  go_wp2_with (refine wpList_store_row rfl 174 (.tmp 4) (.tmp 17) rfl (w.heap.size+1) #[.int .i64 v.num,.int .i64 v.time,.bool v.mark,.string ⟨v.body.toArray⟩] rfl rfl 174 #[.int .i64 0,.int .i64 0,.bool false,.string ⟨#[]⟩] HZ.out hi154 rfl (by simp[Value.oneCell']) ?_)
  refine bodyPost_ret (v:=.tuple #[verAgg v,.bool cc]) (results_row_tmp Tryz.results90 _ _ (w.heap.size+1) _ _ _ _ rfl (setRow_heap _ _ _ _ _ _ HZ.out) Tryz.underlying174 rfl hi154) rfl ⟨⟨v,by rw[HCC.out],HV.out⟩,below_setRow HB.out (by omega) _⟩
end Go.Proofs.YtmehkneofinmiaaGreatDoor
namespace Go.Proofs.YtmehkneofinmiaaGreatDoor
structure St where
 time:Nat
 ents:List Ent
 log:List UInt8
def RiseL (l:List Ent):Prop:=l.Pairwise fun a b=>cmpB a.key b.key = -1
structure EntOK (E:Ent):Prop where
 key:keyOK E.key=true
 last:0<E.last
 len:E.vers.length<=20
 num:∀ v∈E.vers,v.num<=E.last
 rise:E.vers.Pairwise fun a b=>a.num<b.num
 time:∀ v∈E.vers,v.time<=253402300799
 body:∀ v∈E.vers,v.body.length<=400
def findE (l:List Ent)(key:List UInt8):Ent:=(l.find? fun E=>E.key==key).getD ⟨key,0,[]⟩
def putE:List Ent->Ent->List Ent
 | [],E=>[E]
 | a::l,E=>if a.key=E.key then E::l else if cmpB E.key a.key = -1 then E::a::l else a::putE l E
def applyF (E:Ent)(k t n:Nat)(body:List UInt8):Ent :=
 if k=3 then ⟨E.key,E.last,E.vers.eraseIdx ((vidx E.vers n).getD 0)⟩ else ⟨E.key,n,E.vers++[⟨n,t,k==2,body⟩]⟩
def chgF (σ:St)(key:List UInt8)(k n:Nat)(body:List UInt8):Nat×Option St :=
 if obstF (findE σ.ents key) k n≠0 then (obstF (findE σ.ents key) k n,none)
 else if (findE σ.ents key).last=0/\60<=σ.ents.length then (507,none)
 else (succF (findE σ.ents key) k,some ⟨σ.time,putE σ.ents (applyF (findE σ.ents key) k σ.time n body),σ.log++recF k σ.time key n body⟩)
theorem findE_key (l:List Ent)(key:List UInt8):(findE l key).key=key:=by
 unfold findE
 cases h:l.find? fun E=>E.key==key with
 | none=>rfl
 | some E =>
   have:=List.find?_some h
   simpa using this
theorem applyF_key (E:Ent)(k t n:Nat)(body:List UInt8):(applyF E k t n body).key=E.key:=by
 unfold applyF
 split<;>rfl
theorem findE_mem {l:List Ent}{key:List UInt8}(h:(findE l key).last≠0):findE l key∈l:=by
 unfold findE at h ⊢
 cases h':l.find? fun E=>E.key==key with
 | none=>rw[h'] at h;exact absurd rfl h
 | some E=>exact List.mem_of_find?_eq_some h'
theorem findE_none {l:List Ent}{key:List UInt8}(hok:∀ E∈l,0<E.last)(h:(findE l key).last=0):(∀ E∈l,E.key≠key)/\findE l key=⟨key,0,[]⟩:=by
 unfold findE at h ⊢
 cases h':l.find? fun E=>E.key==key with
 | none =>
   refine⟨fun E hE e=>?_,rfl⟩
   have:=List.find?_eq_none.1 h' E hE
   simp[e] at this
 | some E =>
   rw[h'] at h
   have:=hok E (List.mem_of_find?_eq_some h')
   simp at h
   omega
theorem putE_mem {l:List Ent}{E A:Ent}(h:A∈putE l E):A=E\/A∈l:=by
 induction l with
 | nil=>simpa [putE] using h
 | cons a l ih =>
   unfold putE at h
   split at h
   ·rcases List.mem_cons.1 h with h|h
    ·exact Or.inl h
    ·exact Or.inr (List.mem_cons_of_mem _ h)
   ·split at h
    ·rcases List.mem_cons.1 h with h|h
     ·exact Or.inl h
     ·exact Or.inr h
    ·rcases List.mem_cons.1 h with h|h
     ·exact Or.inr (by rw[h];exact List.mem_cons_self)
     ·exact (ih h).imp_right (List.mem_cons_of_mem _)
theorem putE_rise {l:List Ent}(h:RiseL l)(E:Ent):RiseL (putE l E):=by
 induction l with
 | nil=>simp[putE,RiseL]
 | cons a l ih =>
   have ⟨h1,h2⟩:=List.pairwise_cons.1 h
   unfold putE
   split
   ·rename_i e
    exact List.pairwise_cons.2 ⟨fun b hb=>by rw[<- e];exact h1 b hb,h2⟩
   ·split
    ·rename_i e
     refine List.pairwise_cons.2 ⟨fun b hb=>?_,h⟩
     rcases List.mem_cons.1 hb with rfl|hb
     ·exact e
     ·exact cmpB_trans _ _ _ e (h1 b hb)
    ·rename_i e1 e2
     refine List.pairwise_cons.2 ⟨fun b hb=>?_,ih h2⟩
     rcases putE_mem hb with h0|hb
     ·rw[h0]
      rcases cmpB_range E.key a.key with h|h|h
      ·exact absurd h e2
      ·exact absurd (cmpB_eq _ _ h).symm e1
      ·rw[cmpB_swap,h]
     ·exact h1 b hb
theorem cmpB_ne {a b:List UInt8}(h:cmpB a b = -1):a≠b:=by
 intro e
 rw[e,cmpB_refl] at h
 cases h
theorem putE_at {l:List Ent}{E A:Ent}{i:Nat}(hr:RiseL l)(h:l[i]?=some A)(hk:A.key=E.key):putE l E=l.set i E:=by
 induction l generalizing i with
 | nil=>simp at h
 | cons a l ih =>
   have ⟨h1,h2⟩:=List.pairwise_cons.1 hr
   unfold putE
   cases i with
   | zero =>
     simp at h
     rw[h,if_pos hk]
     rfl
   | succ i =>
     have hA:l[i]?=some A:=by simpa using h
     have hlt:=h1 A (List.mem_of_getElem? hA)
     rw[if_neg (by rw[<- hk];exact cmpB_ne hlt),if_neg (by rw[<- hk,cmpB_swap,hlt];decide),ih h2 hA]
     rfl
theorem putE_new {l:List Ent}{E:Ent}{i:Nat}(hr:RiseL l)(hp:IsPos (l.map Ent.key) E.key i)(hn:∀ A∈l,A.key≠E.key):putE l E=l.take i++E::l.drop i:=by
 induction l generalizing i with
 | nil=>simp[putE]
 | cons a l ih =>
   have ⟨h1,h2⟩:=List.pairwise_cons.1 hr
   unfold putE
   rw[if_neg (hn a List.mem_cons_self)]
   cases i with
   | zero =>
     have h0:=hp.hi 0 a.key (Nat.le_refl _) (by simp)
     have:cmpB E.key a.key = -1:=by
      rcases cmpB_range E.key a.key with h|h|h
      ·exact h
      ·exact absurd (cmpB_eq _ _ h).symm (hn a List.mem_cons_self)
      ·rw[cmpB_swap,h] at h0
       omega
     rw[if_pos this]
     rfl
   | succ i =>
     have h0:=hp.lo 0 a.key (by omega) (by simp)
     rw[if_neg (by rw[cmpB_swap,h0];decide)]
     rw[ih h2 (i:=i) ⟨by have:=hp.le;simp at this ⊢;omega,fun j b hj hb=>hp.lo (j+1) b (by omega) (by simpa using hb),fun j b hj hb=>hp.hi (j+1) b (by omega) (by simpa using hb)⟩ (fun A hA=>hn A (List.mem_cons_of_mem _ hA))]
     rfl
theorem isPos_ex {l:List Ent}(hr:RiseL l)(t:List UInt8):∃ i,IsPos (l.map Ent.key) t i:=by
 induction l with
 | nil=>exact⟨0,by simp,fun j a hj=>by omega,fun j a _ h=>by simp at h⟩
 | cons a l ih =>
   have ⟨h1,h2⟩:=List.pairwise_cons.1 hr
   by_cases ha:cmpB a.key t = -1
   ·obtain⟨i,hi⟩:=ih h2
    refine⟨i+1,by have:=hi.le;simp at this ⊢;omega,fun j b hj hb=>?_,fun j b hj hb=>?_⟩
    ·cases j with
     | zero=>simp at hb;rw[<- hb];exact ha
     | succ j=>exact hi.lo j b (by omega) (by simpa using hb)
    ·cases j with
     | zero=>omega
     | succ j=>exact hi.hi j b (by omega) (by simpa using hb)
   ·refine⟨0,by simp,fun j b hj=>by omega,fun j b _ hb=>?_⟩
    have hge:0<=cmpB a.key t:=by rcases cmpB_range a.key t with h|h|h<;>omega
    cases j with
    | zero=>simp at hb;rw[<- hb];exact hge
    | succ j =>
      have hb':(l.map Ent.key)[j]?=some b:=by simpa using hb
      obtain⟨B,hB,rfl⟩:=List.mem_map.1 (List.mem_of_getElem? hb')
      have hlt:=h1 B hB
      rcases cmpB_range B.key t with h|h|h
      ·have:=cmpB_trans _ _ _ hlt h
       omega
      ·omega
      ·omega
theorem RiseL.rising {l:List Ent}(h:RiseL l):Rising (l.map Ent.key):=by
 intro i j a b hij ha hb
 rw[List.getElem?_map] at ha hb
 obtain⟨A,hA,rfl⟩:=Option.map_eq_some_iff.1 ha
 obtain⟨B,hB,rfl⟩:=Option.map_eq_some_iff.1 hb
 obtain⟨hi,rfl⟩:=List.getElem?_eq_some_iff.1 hA
 obtain⟨hj,rfl⟩:=List.getElem?_eq_some_iff.1 hB
 exact List.pairwise_iff_getElem.1 h i j hi hj hij
theorem RiseL.filter {l:List Ent}(h:RiseL l)(P:Ent->Bool):RiseL (l.filter P):=List.Pairwise.filter _ h
theorem putE_cons (a:Ent)(l:List Ent)(E:Ent):putE (a::l) E=if a.key=E.key then E::l else if cmpB E.key a.key = -1 then E::a::l else a::putE l E:=rfl
theorem putE_filter_yes {l:List Ent}(hr:RiseL l)(E:Ent)(P:List UInt8->Bool)(hp:P E.key=true):(putE l E).filter (fun A=>P A.key)=putE (l.filter fun A=>P A.key) E:=by
 induction l with
 | nil=>simp[putE,hp]
 | cons a l ih =>
   have ⟨h1,h2⟩:=List.pairwise_cons.1 hr
   rw[putE_cons]
   by_cases e:a.key=E.key
   ·rw[if_pos e,List.filter_cons,if_pos hp,List.filter_cons,if_pos (by rw[e];exact hp),]
    simp[putE_cons,e]
   ·rw[if_neg e]
    by_cases hlt:cmpB E.key a.key = -1
    ·rw[if_pos hlt,List.filter_cons,if_pos hp]
     by_cases ha:P a.key=true
     ·rw[List.filter_cons,if_pos ha]
      simp[putE_cons,e,hlt]
     ·rw[List.filter_cons,if_neg ha]
      cases hf:l.filter fun A=>P A.key with
      | nil=>rfl
      | cons b r =>
        have hb:b∈l:=(List.mem_filter.1 (by rw[hf];exact List.mem_cons_self:b∈l.filter fun A=>P A.key)).1
        have hlt2:=cmpB_trans _ _ _ hlt (h1 b hb)
        simp[putE_cons,hlt2,(cmpB_ne hlt2).symm]
    ·rw[if_neg hlt,List.filter_cons]
     by_cases ha:P a.key=true
     ·rw[if_pos ha,ih h2,List.filter_cons,if_pos ha]
      simp[putE_cons,e,hlt]
     ·rw[if_neg ha,ih h2,List.filter_cons,if_neg ha]
theorem putE_filter_no {l:List Ent}(E:Ent)(P:List UInt8->Bool)(hp:P E.key=false):(putE l E).filter (fun A=>P A.key)=l.filter fun A=>P A.key:=by
 induction l with
 | nil=>simp[putE,hp]
 | cons a l ih =>
   rw[putE_cons]
   by_cases e:a.key=E.key
   ·rw[if_pos e,List.filter_cons,List.filter_cons,e,hp]
    simp
   ·rw[if_neg e]
    by_cases hlt:cmpB E.key a.key = -1
    ·rw[if_pos hlt,List.filter_cons,hp]
     simp
    ·rw[if_neg hlt,List.filter_cons,ih,List.filter_cons]
theorem obst_zero {E:Ent}{k n:Nat}(h:obstF E k n=0):(k=3->∃ i,vidx E.vers n=some i)/\(k≠3->E.vers.length<20):=by
 unfold obstF at h
 refine⟨fun hk=>?_,fun hk=>?_⟩
 ·rw[if_pos hk] at h
  cases hv:vidx E.vers n with
  | none=>rw[hv] at h;simp at h
  | some i=>exact⟨i,rfl⟩
 ·rw[if_neg hk] at h
  split at h
  ·omega
  ·split at h
   ·omega
   ·omega
theorem applyF_ok {E:Ent}{k t n:Nat}{body:List UInt8}(hkey:keyOK E.key=true)(hnum:∀ v∈E.vers,v.num<=E.last)(hrise:E.vers.Pairwise fun a b=>a.num<b.num)(htime:∀ v∈E.vers,v.time<=253402300799)(hbody:∀ v∈E.vers,v.body.length<=400)(hlen:E.vers.length<=20)
 (ho:obstF E k n=0)(h3:k=3->0<E.last)(hn:k≠3->n=E.last+1)(ht:t<=253402300799)(hb:body.length<=400):EntOK (applyF E k t n body):=by
 have ⟨o1,o2⟩:=obst_zero ho
 unfold applyF
 split
 ·rename_i hk
  have hsub:∀ v∈E.vers.eraseIdx ((vidx E.vers n).getD 0),v∈E.vers:=fun v hv=>List.mem_of_mem_eraseIdx hv
  refine⟨hkey,h3 hk,?_,fun v hv=>hnum v (hsub v hv),?_,fun v hv=>htime v (hsub v hv),fun v hv=>hbody v (hsub v hv)⟩
  ·exact Nat.le_trans (List.length_eraseIdx_le _ _) hlen
  ·exact hrise.sublist (List.eraseIdx_sublist _ _)
 ·rename_i hk
  have hn':=hn hk
  have hl:=o2 hk
  refine⟨hkey,by show 0<n;omega,by show (E.vers++_).length<=20;simp;omega,fun v hv=>?_,?_,fun v hv=>?_,fun v hv=>?_⟩
  ·rcases List.mem_append.1 hv with hv|hv
   ·have:=hnum v hv
    show v.num<=n
    omega
   ·simp at hv
    rw[hv]
    exact Nat.le_refl _
  ·refine List.pairwise_append.2 ⟨hrise,by simp,fun a ha b hb=>?_⟩
   simp at hb
   rw[hb]
   have:=hnum a ha
   show a.num<n
   omega
  ·rcases List.mem_append.1 hv with hv|hv
   ·exact htime v hv
   ·simp at hv
    rw[hv]
    exact ht
  ·rcases List.mem_append.1 hv with hv|hv
   ·exact hbody v hv
   ·simp at hv
    rw[hv]
    exact hb
theorem applyF_last {E:Ent}{k t n:Nat}{body:List UInt8}(hn:k≠3->n=E.last+1):(applyF E k t n body).last<=E.last+1:=by
 unfold applyF
 split
 ·exact Nat.le_succ _
 ·rename_i hk
  rw[hn hk]
  exact Nat.le_refl _
end Go.Proofs.YtmehkneofinmiaaGreatDoor
namespace Go.Proofs.YtmehkneofinmiaaGreatDoor
open Go.RowKit
theorem setCell_id {w:World}{a:Addr}{v:Value}(h:w.cell? a=some v):w.setCell a v=w:=by
 cases w with|mk heap tape drawn os output =>
 simp only[World.setCell,World.mk.injEq,and_true]
 apply Array.ext
 ·simp
 ·intro i h1 h2
  simp only[Array.getElem_modify]
  split
  ·rename_i e
   subst e
   simp only[World.cell?] at h
   rw[Array.getElem?_eq_getElem h2] at h
   revert h
   cases heap[a.block] with
   | cells c t f =>
     intro h
     simp only at h
     cases hs:a.spot with
     | some _=>rw[hs] at h;simp at h
     | none =>
       rw[hs] at h
       simp only[Option.isSome_none,Bool.false_eq_true,if_false] at h ⊢
       have hlt:a.off<c.size:=(Array.getElem?_eq_some_iff.1 h).1
       have hv:c[a.off]=v:=(Array.getElem?_eq_some_iff.1 h).2
       congr 1
       apply Array.ext
       ·simp
       ·intro j j1 j2
        by_cases hj:a.off=j
        ·subst hj;simp[hv]
        ·exact Array.getElem_setIfInBounds_ne (by simpa using j1) hj
   | _=>intro _;rfl
  ·rfl
theorem oneCell_ptrs {ps:List Nat}{v:Value}(h:v∈ptrs ps):v.oneCell'=true:=by
 simp only[ptrs,List.mem_map] at h
 obtain⟨p,_,rfl⟩:=h
 rfl
theorem ptrs_put (ps:List Nat)(i p:Nat):(ptrs ps).take i++.pointer (some ⟨p,0,none⟩)::(ptrs ps).drop i=ptrs (ps.take i++p::ps.drop i):=by
 simp[ptrs,List.map_take,List.map_drop]
theorem sinsert_any (b o p:Nat)(cs:Array Value)(T:TypeId)(es:Value)(ps:List Nat)(K:List (List UInt8))(E:Ent)(vs:Value)(i:Nat)(w:World)
 (hb:w.heap[b]?=some (.cells cs T (0,0)))(hc:cs[o+2]?=some es)(hE:EntAt w p E vs)(hk:Keys w es ps K)(hr:Rising K)(hl:ps.length<1000000)(hkl:E.key.length<1000000)
 (hi:IsPos K E.key i)(hbp:b≠p)(hbe:es.ownBlock≠some b)(hpe:es.ownBlock≠some p)(hvb:vs.ownBlock≠some b)(hve:∀ g,vs.ownBlock=some g->es.ownBlock≠some g) :
 Calls Tryz.prog 257 #[.pointer (some ⟨b,o,none⟩),.pointer (some ⟨p,0,none⟩)] w fun e w'=>∃ g cap,(∃ v,e=.returned v) /\
  w'.heap[b]?=some (.cells (cs.setIfInBounds (o+2) (.slice (some ⟨g,0,none⟩) (ps.length+1) cap)) T (0,0)) /\
  w'.ownsRow 0 170 1 (.slice (some ⟨g,0,none⟩) (ps.length+1) cap) (ps.length+1) (ptrs (ps.take i++p::ps.drop i))/\(es.ownBlock=some g\/w.heap.size<=g) /\
  EntAt w' p E vs/\Off (fun k=>k=b\/k=p\/es.ownBlock=some k) w w':=by
 have HB:Hid _:=hb
 have HC:Hid _:=hc
 have HE:Hid _:=hE
 have HK:Hid _:=hk
 have HI:Hid _:=hi
 clear hb hc hE hk hi
 have c0:=HE.out.c0
 have f0:=HE.out.fz 0
 have hlt:=HE.out.lt
 have hblt:b<w.heap.size:=(Array.getElem?_eq_some_iff.1 HB.out).1
 go_enter Tryz.func257,Tryz.ntmps257
 go_wp2_with fail
 refine (clone_any ⟨E.key.toArray⟩ _ (by rw[Lib.size_eq];simp;omega)).mono ?_
 rintro e w1 ⟨rfl,hb1⟩
 have c1:=(hb1.cell (p:=⟨p,0,none⟩) hlt).trans c0
 have f1:w1.frozen? ⟨p,0,none⟩=false:=(HE.out.below hb1).fz 0
 have hid:=setCell_id c1
 have HB1:Hid (Below w.heap.size w w1):=hb1
 have hcb:w1.cell? ⟨b,o+2,none⟩=some es:=by
  have:=(hb1.block b hblt).trans HB.out
  simp[World.cell?,this,HC.out]
 have hlt1:p<w1.heap.size:=(HE.out.below hb1).lt
 clear hb1 c0 f0
 go_wp2_with fail
 refine (splace_any b o es ps K E.key _ hcb (HK.out.below HB1.out) hr hl).mono ?_
 rintro e w2 ⟨⟨j,hj,rfl⟩,hb2⟩
 obtain rfl:=hj.uniq HI.out
 obtain⟨fd,hfd⟩:∃ fd,(K[j]?==some E.key)=fd:=⟨_,rfl⟩
 rw[hfd]
 have HB2:Hid (Below w.heap.size w w2):=HB1.out.trans (hb2.mono HB1.out.size)
 have hb20:w2.heap[b]?=some (.cells cs T (0,0)):=(HB2.out.block b hblt).trans HB.out
 have hcb2:w2.cell? ⟨b,o+2,none⟩=some es:=by simp[World.cell?,hb20,HC.out]
 have hlt2:p<w2.heap.size:=Nat.lt_of_lt_of_le hlt1 hb2.size
 have hblt2:b<w2.heap.size:=(Array.getElem?_eq_some_iff.1 hb20).1
 have hje:j<=ps.length:=by have:=HI.out.le;rw[HK.out.len] at this;exact this
 have HB0:Hid _:=hb20
 clear hb20 hb2 hj hfd HB1 hcb c1 f1 hid
 go_wp2_with fail
 have hal:Below w2.heap.size w2 (w2.alloc (.cells #[.pointer (some ⟨p,0,none⟩)] 170)):=(Below.refl _ _).alloc (Nat.le_refl _) _
 have hK2:=HK.out.below HB2.out
 have hnb:es.ownBlock≠some w2.heap.size:=by
  intro e
  rcases HK.out.row.2 with ⟨rfl,_⟩|⟨g,cap,cur,rfl,_,hg,_⟩
  ·cases e
  ·have h1:g<w.heap.size:=(Array.getElem?_eq_some_iff.1 hg).1
   have h2:=HB2.out.size
   simp only[Value.ownBlock,Option.some.injEq] at e
   omega
 refine (insert_any es ps.length j (ptrs ps) w2.heap.size (.pointer (some ⟨p,0,none⟩)) _ (row_below hK2.row hal) (fun v hv=>oneCell_ptrs hv) rfl (heap_alloc_new _ _) hje hnb hl).mono ?_
 rintro e w3 ⟨g,cap,rfl,hrow,hg,hoff⟩
 have hb3:w3.heap[b]?=some (.cells cs T (0,0)):=by
  rw[hoff.block b (by simp;omega) hbe,heap_alloc_old _ _ hblt2]
  exact HB0.out
 have c3:w3.cell? ⟨b,o+2,none⟩=some es:=by simp[World.cell?,hb3,HC.out]
 have f3:w3.frozen? ⟨b,o+2,none⟩=false:=by simp[World.frozen?,hb3]
 have HO:Hid (Off (fun k=>k=b\/k=p\/es.ownBlock=some k) w w3):=((Off.of_below HB2.out).alloc _).trans' hoff (fun k _ hk=>Or.inr (Or.inr hk))
 have HR:Hid _:=hrow
 have HG:Hid _:=hg
 have HB3:Hid _:=hb3
 have hE3:Hid (EntAt w3 p E vs):=by
  have hE2:=(HE.out.below HB2.out).below hal
  refine⟨(hoff.block p (by simp;omega) hpe).trans hE2.blk,hE2.row.1,?_⟩
  rcases hE2.row.2 with h0|⟨g',cap',cur,hv,h1,hg',h2⟩
  ·exact Or.inl h0
  ·refine Or.inr ⟨g',cap',cur,hv,h1,?_,h2⟩
   exact (hoff.block g' (Array.getElem?_eq_some_iff.1 hg').1 (hve g' (by rw[hv];rfl))).trans hg'
 clear hrow hg hb3 hoff hal hK2
 go_wp2
 have hgb:g≠b:=by
  intro e
  rcases HG.out with h|h
  ·exact hbe (e ▸ h)
  ·have h1:w.heap.size<=w2.heap.size:=HB2.out.size
   simp at h
   omega
 have hgp:g≠p:=by
  intro e
  rcases HG.out with h|h
  ·exact hpe (e ▸ h)
  ·simp at h
   omega
 refine bodyPost_end (results_none Tryz.results257 _ _ _) rfl ⟨g,cap,⟨_,rfl⟩,heap_set HB3.out,?_,?_,?_,HO.out.set b _ _ (Or.inl (Or.inl rfl))⟩
 ·have h0:=HR.out
  rw[ptrs_put] at h0
  refine⟨h0.1,?_⟩
  rcases h0.2 with ⟨hc,_⟩|⟨g',cap',cur,hv,h1,hg,h2⟩
  ·cases hc
  ·cases hv
   refine Or.inr ⟨g,cap,cur,rfl,h1,?_,h2⟩
   rw[<- hg]
   simp[World.setCell,Array.getElem?_modify,Ne.symm hgb]
 ·rcases HG.out with h|h
  ·exact Or.inl h
  ·have:=HB2.out.size
   simp at h
   exact Or.inr (by omega)
 ·refine⟨?_,hE3.out.row.1,?_⟩
  ·rw[<- hE3.out.blk]
   simp[World.setCell,Array.getElem?_modify,hbp]
  ·rcases hE3.out.row.2 with h0|⟨g',cap',cur,hv,h1,hg',h2⟩
   ·exact Or.inl h0
   ·refine Or.inr ⟨g',cap',cur,hv,h1,?_,h2⟩
    have hne:b≠g':=fun e=>by subst e;apply hvb;rw[hv];rfl
    rw[<- hg']
    simp[World.setCell,Array.getElem?_modify,hne]
theorem EntAt.off {w x:World}{p:Nat}{E:Ent}{vs:Value}{S:Nat->Prop}(h:EntAt w p E vs)(ho:Off S w x)(hp:¬ S p)(hv:∀ g,vs.ownBlock=some g->¬ S g):EntAt x p E vs:=by
 refine⟨(ho.block p h.lt hp).trans h.blk,h.row.1,?_⟩
 rcases h.row.2 with h0|⟨g,cap,cur,hv',h1,hg,h2⟩
 ·exact Or.inl h0
 ·exact Or.inr ⟨g,cap,cur,hv',h1,(ho.block g (Array.getElem?_eq_some_iff.1 hg).1 (hv g (by rw[hv'];rfl))).trans hg,h2⟩
theorem apply_rm (b o p:Nat)(E:Ent)(vs:Value)(t n:Nat)(key body:List UInt8)(w:World)(h:EntAt w p E vs)(hp:vs.ownBlock≠some p)(hl:E.vers.length<1000000)(i:Nat)(hn:vidx E.vers n=some i) :
 Calls Tryz.prog 207 #[.pointer (some ⟨b,o,none⟩),.pointer (some ⟨p,0,none⟩),recA 3 t key n body] w fun e w'=>(∃ v,e=.returned v)/\∃ vs',EntAt w' p ⟨E.key,E.last,E.vers.eraseIdx i⟩ vs'/\vs'.ownBlock=vs.ownBlock/\Off (fun k=>k=p\/vs.ownBlock=some k) w w':=by
 have hal:Below w.heap.size w (w.alloc (.cells #[.int .u8 3,.int .i64 t,.string ⟨key.toArray⟩,.int .i64 n,.string ⟨body.toArray⟩] 181)):=(Below.refl _ _).alloc (Nat.le_refl _) _
 have HE:Hid _:=h.below hal
 have HA:Hid _:=hal
 clear h hal
 go_enter Tryz.func207,Tryz.ntmps207
 go_wp2_with fail
 refine (remove_any p E vs n _ HE.out hp hl i hn).mono ?_
 rintro e w1 ⟨⟨v,rfl⟩,vs',hE1,hv1,ho1⟩
 have H1:Hid _:=hE1
 have H2:Hid _:=ho1
 clear hE1 ho1
 go_wp2
 exact bodyPost_ret (results_none Tryz.results207 _ _ _) rfl ⟨⟨_,rfl⟩,vs',H1.out,hv1,(Off.of_below HA.out).trans H2.out⟩
theorem apply_known (b o p:Nat)(E:Ent)(vs:Value)(k t n:Nat)(key body:List UInt8)(w:World)(h:EntAt w p E vs)(hp:vs.ownBlock≠some p)(hl:E.vers.length<1000000)(hb:body.length<1000000)(hk:k≠3)(hla:0<E.last) :
 Calls Tryz.prog 207 #[.pointer (some ⟨b,o,none⟩),.pointer (some ⟨p,0,none⟩),recA k t key n body] w fun e w'=>(∃ v,e=.returned v)/\∃ g cap,EntAt w' p ⟨E.key,n,E.vers++[⟨n,t,k==2,body⟩]⟩ (.slice (some ⟨g,0,none⟩) (E.vers.length+1) cap)/\(vs.ownBlock=some g\/w.heap.size<=g)/\Off (fun k=>k=p\/vs.ownBlock=some k) w w':=by
 have hal:Below w.heap.size w (w.alloc (.cells #[.int .u8 k,.int .i64 t,.string ⟨key.toArray⟩,.int .i64 n,.string ⟨body.toArray⟩] 181)):=(Below.refl _ _).alloc (Nat.le_refl _) _
 have HE:Hid _:=h.below hal
 have HA:Hid _:=hal
 clear h hal
 have hk3:((k:Int)==3)=false:=beq_eq_false_iff_ne.2 (by omega)
 have hkn:decide (0<E.last)=true:=by simpa using hla
 go_enter Tryz.func207,Tryz.ntmps207
 go_wp2_with fail
 refine (isKnown_any p E vs _ HE.out).mono ?_
 rintro e w1 ⟨rfl,rfl⟩
 rw[hkn]
 go_wp2_with fail
 refine (push_any p E vs k t n key body _ HE.out hp hl hb).mono ?_
 rintro e w2 ⟨g,cap,⟨v,rfl⟩,hE2,hg2,ho2⟩
 have H1:Hid _:=hE2
 have H2:Hid _:=ho2
 clear hE2 ho2
 go_wp2
 exact bodyPost_end (results_none Tryz.results207 _ _ _) rfl ⟨⟨_,rfl⟩,g,cap,H1.out,hg2.imp_right (fun h=>by simp at h;omega),(Off.of_below HA.out).trans H2.out⟩
theorem apply_new (b o p:Nat)(cs:Array Value)(T:TypeId)(es:Value)(ps:List Nat)(K:List (List UInt8))(E:Ent)(vs:Value)(i:Nat)(k t n:Nat)(key body:List UInt8)(w:World)
 (hbk:w.heap[b]?=some (.cells cs T (0,0)))(hc:cs[o+2]?=some es)(hE:EntAt w p E vs)(hky:Keys w es ps K)(hr:Rising K)(hl:ps.length<1000000)(hkl:E.key.length<1000000)
 (hi:IsPos K E.key i)(hbp:b≠p)(hbe:es.ownBlock≠some b)(hpe:es.ownBlock≠some p)(hvb:vs.ownBlock≠some b)(hve:∀ g,vs.ownBlock=some g->es.ownBlock≠some g)
 (hp:vs.ownBlock≠some p)(hl2:E.vers.length<1000000)(hbl:body.length<1000000)(hk:k≠3)(hla:E.last=0) :
 Calls Tryz.prog 207 #[.pointer (some ⟨b,o,none⟩),.pointer (some ⟨p,0,none⟩),recA k t key n body] w fun e w'=>(∃ v,e=.returned v)/\∃ g cap g2 cap2,
  w'.heap[b]?=some (.cells (cs.setIfInBounds (o+2) (.slice (some ⟨g,0,none⟩) (ps.length+1) cap)) T (0,0)) /\
  w'.ownsRow 0 170 1 (.slice (some ⟨g,0,none⟩) (ps.length+1) cap) (ps.length+1) (ptrs (ps.take i++p::ps.drop i))/\(es.ownBlock=some g\/w.heap.size<=g) /\
  EntAt w' p ⟨E.key,n,E.vers++[⟨n,t,k==2,body⟩]⟩ (.slice (some ⟨g2,0,none⟩) (E.vers.length+1) cap2)/\(vs.ownBlock=some g2\/w.heap.size<=g2) /\
  Off (fun k=>k=b\/k=p\/es.ownBlock=some k\/vs.ownBlock=some k) w w':=by
 have hal:Below w.heap.size w (w.alloc (.cells #[.int .u8 k,.int .i64 t,.string ⟨key.toArray⟩,.int .i64 n,.string ⟨body.toArray⟩] 181)):=(Below.refl _ _).alloc (Nat.le_refl _) _
 have HE:Hid _:=hE.below hal
 have HK:Hid _:=hky.below hal
 have hblt:b<w.heap.size:=(Array.getElem?_eq_some_iff.1 hbk).1
 have HBK:Hid _:=(hal.block b hblt).trans hbk
 have HA:Hid _:=hal
 have HI:Hid _:=hi
 have HR:Hid _:=hr
 have hltv:∀ g,vs.ownBlock=some g->g<w.heap.size:=fun g h=>(hE.row.lt g h).2
 have HLV:Hid _:=hltv
 have hplt:p<w.heap.size:=hE.lt
 have HLE:Hid (es.ownBlock≠some w.heap.size):=fun e=>absurd (hky.row.lt _ e).2 (Nat.lt_irrefl _)
 clear hE hal hky hbk hi hr hltv
 have hk3:((k:Int)==3)=false:=beq_eq_false_iff_ne.2 (by omega)
 have hkn:decide (0<E.last)=false:=by simp[hla]
 go_enter Tryz.func207,Tryz.ntmps207
 go_wp2_with fail
 refine (isKnown_any p E vs _ HE.out).mono ?_
 rintro e w1 ⟨rfl,rfl⟩
 rw[hkn]
 go_wp2_with fail
 refine (sinsert_any b o p cs T es ps K E vs i _ HBK.out hc HE.out HK.out HR.out hl hkl HI.out hbp hbe hpe hvb hve).mono ?_
 rintro e w2 ⟨g,cap,⟨v,rfl⟩,hb2,hrow2,hg2,hE2,ho2⟩
 have hr2:w2.heap[w.heap.size]?=some (.cells #[.int .u8 k,.int .i64 t,.string ⟨key.toArray⟩,.int .i64 n,.string ⟨body.toArray⟩] 181 (0,0)) :=
  (ho2.block w.heap.size (by simp) (by rintro (h|h|h);omega;omega;exact HLE.out h)).trans (heap_alloc_new _ _)
 have r0:w2.cell? ⟨w.heap.size,0,none⟩=some (.int .u8 k):=by simp[World.cell?,hr2]
 have r1:w2.cell? ⟨w.heap.size,1,none⟩=some (.int .i64 t):=by simp[World.cell?,hr2]
 have r2:w2.cell? ⟨w.heap.size,2,none⟩=some (.string ⟨key.toArray⟩):=by simp[World.cell?,hr2]
 have r3:w2.cell? ⟨w.heap.size,3,none⟩=some (.int .i64 n):=by simp[World.cell?,hr2]
 have r4:w2.cell? ⟨w.heap.size,4,none⟩=some (.string ⟨body.toArray⟩):=by simp[World.cell?,hr2]
 have H1:Hid _:=hb2
 have H2:Hid _:=hrow2
 have H3:Hid _:=hE2
 have H4:Hid _:=ho2
 clear hb2 hrow2 hE2 ho2 hr2
 go_wp2_with fail
 refine (push_any p E vs k t n key body _ H3.out hp hl2 hbl).mono ?_
 rintro e w3 ⟨g3,cap3,⟨v3,rfl⟩,hE3,hg3,ho3⟩
 have hblt2:b<w2.heap.size:=(Array.getElem?_eq_some_iff.1 H1.out).1
 have hb3:=(ho3.block b hblt2 (by rintro (h|h);exact hbp h;exact hvb h)).trans H1.out
 have hgp:g≠p:=by
  intro e
  rcases hg2 with h|h
  ·exact hpe (e ▸ h)
  ·simp at h;omega
 have hrow3:w3.ownsRow 0 170 1 (.slice (some ⟨g,0,none⟩) (ps.length+1) cap) (ps.length+1) (ptrs (ps.take i++p::ps.drop i)):=by
  refine⟨H2.out.1,?_⟩
  rcases H2.out.2 with h0|⟨g',cap',cur,hv,h1,hg,h2⟩
  ·exact Or.inl h0
  ·cases hv
   refine Or.inr ⟨g,cap,cur,rfl,h1,?_,h2⟩
   refine (ho3.block g (Array.getElem?_eq_some_iff.1 hg).1 ?_).trans hg
   rintro (h|h)
   ·exact hgp h
   ·rcases hg2 with h'|h'
    ·exact hve g h h'
    ·have:=HLV.out g h
     simp at h'
     omega
 have H5:Hid _:=hE3
 have H6:Hid _:=hb3
 have H7:Hid _:=hrow3
 have H8:Hid _:=ho3
 clear hE3 hb3 hrow3 ho3
 go_wp2
 refine bodyPost_end (results_none Tryz.results207 _ _ _) rfl ⟨⟨_,rfl⟩,g,cap,g3,cap3,H6.out,H7.out,hg2.imp_right (fun h=>by simp at h;omega),H5.out,hg3.imp_right (fun h=>?_),?_⟩
 ·have h5:=H4.out.size
  simp at h5
  omega
 ·refine ((Off.of_below HA.out).trans' H4.out (fun k _ h=>?_)).trans' H8.out (fun k _ h=>?_)
  ·rcases h with h|h|h
   ·exact Or.inl h
   ·exact Or.inr (Or.inl h)
   ·exact Or.inr (Or.inr (Or.inl h))
  ·rcases h with h|h
   ·exact Or.inr (Or.inl h)
   ·exact Or.inr (Or.inr (Or.inr h))
end Go.Proofs.YtmehkneofinmiaaGreatDoor

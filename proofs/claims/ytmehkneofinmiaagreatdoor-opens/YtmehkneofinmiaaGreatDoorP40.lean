/-part 40-/
import Derived.Test.YtmehkneofinmiaaGreatDoorP39
namespace Go.Proofs.YtmehkneofinmiaaGreatDoor
theorem tc {key q:List UInt8}{t:Tgt}(h:dY key q=some t):t.kind<=3:=by
 unfold dY at h;split at h
 ·cases h;exact Nat.le_refl _
 ·split at h
  ·cases hn:gj (Lib.trimPrefix q [118,61]) with
   | none=>rw[hn] at h;cases h
   | some n=>rw[hn] at h;cases h;show (2:Nat)<=3;omega
  ·cases h
theorem qD {l:List UInt8}{t:Tgt}(h:bi l=some t):t.kind<=3:=by
 unfold bi at h;split at h
 ·unfold kQ at h;split at h
  ·cases h;show (0:Nat)<=3;omega
  ·split at h
   ·split at h
    ·cases h;show (0:Nat)<=3;omega
    ·cases h
   ·split at h
    ·split at h
     ·exact tc h
     ·cases h;show (1:Nat)<=3;omega
    ·cases h
 ·cases h
theorem zp {l:List UInt8}{m:Nat}(h:dD l=some m):m<=3:=by
 unfold dD at h;(repeat' split at h);all_goals (cases h)
 all_goals omega
theorem vK {l:List UInt8}{m:Nat}{t:Tgt}{k:Cnd}{body:List UInt8}(h:bM l=.ok (m,t,k,body)):t.kind<=3/\m<=3/\dX m t.kind=true:=by
 unfold bM at h;split at h
 ·cases h
 ·split at h
  ·cases h
  ·rename_i m' t' k' b' hp;split at h
   ·cases h
   ·split at h
    ·cases h
    ·split at h
     ·rename_i hf;cases h;unfold bF at hp;split at hp
      ·split at hp
       ·split at hp
        ·cases hp
        ·rename_i mm hm;split at hp
         ·cases hp
         ·rename_i tt ht;split at hp
          ·cases hp
          ·cases hp;exact⟨qD ht,zp hm,hf⟩
       ·cases hp
      ·cases hp
     ·cases h
theorem lI {σ:St}{key body:List UInt8}{k:Nat}(hk:k=1\/k=2)(hc:k=2->(aU (aa σ.ents key)).isSome=true)(h:((decide (0<(aa σ.ents key).last)||decide (σ.ents.length<60))&&decide ((aa σ.ents key).vers.length<20))=false):ca σ key k ((aa σ.ents key).last+1) body=(507,none):=by
 unfold ca aJ;rw[if_neg (show ¬ k=3 by omega),if_neg (show ¬ (k=2/\(aU (aa σ.ents key)).isSome=false) from λ hh=>by rw[hc hh.1] at hh;cases hh.2)];by_cases h20:20<=(aa σ.ents key).vers.length
 ·rw[if_pos h20,if_pos (by decide)]
 ·rw[if_neg h20,if_neg (by simp)];simp only[Bool.and_eq_false_iff,Bool.or_eq_false_iff,decide_eq_false_iff_not] at h;rw[if_pos (by omega)]
theorem jL {σ:St}{key body:List UInt8}{k:Nat}(hk:k=1\/k=2)(hc:k=2->(aU (aa σ.ents key)).isSome=true)(h:((decide (0<(aa σ.ents key).last)||decide (σ.ents.length<60))&&decide ((aa σ.ents key).vers.length<20))=true) :
 ca σ key k ((aa σ.ents key).last+1) body=(cK (aa σ.ents key) k,some ⟨σ.time,bJ σ.ents (bf (aa σ.ents key) k σ.time ((aa σ.ents key).last+1) body),σ.log++aF k σ.time key ((aa σ.ents key).last+1) body⟩):=by
 simp only[Bool.and_eq_true,Bool.or_eq_true,decide_eq_true_eq] at h;unfold ca;have ho:aJ (aa σ.ents key) k ((aa σ.ents key).last+1)=0:=by unfold aJ;rw[if_neg (show ¬ k=3 by omega),if_neg (show ¬ (k=2/\(aU (aa σ.ents key)).isSome=false) from λ hh=>by rw[hc hh.1] at hh;cases hh.2),if_neg (by omega)]
 rw[ho,if_neg (by simp),if_neg (by omega)]
theorem tA {B:Nat}{σ:St}{s:Rst}(h:cH B σ s)(ho:fK σ)(hB:1000000000<=B)(m:Nat)(t:Tgt)(k:Cnd)(body:List UInt8)(ht:t.kind=1\/t.kind=2)(hm:m<=3)(hf:dX m t.kind=true)(hkey:aA t.key=true)(hb:body.length<=400)(hn:t.num<1000000000) :
 (aQ σ.time s (m+1) (cvT t) k body).1=ap (eP σ m t k body).1.told (eP σ m t k body).1.flds (eP σ m t k body).1.body/\cH B (eP σ m t k body).2 (aQ σ.time s (m+1) (cvT t) k body).2:=by
 have ha:=yk h t ht;have hw:(m+1==3||m+1==4)=isW m:=by unfold isW;rw[Bool.eq_iff_iff];simp
 have A5:(cvT t).key=t.key:=by unfold cvT;rcases ht with e|e<;>simp[e]
 have A3:=ql s.l (cvT t).tg (cvT t).key (cvT t).v;rw[ha] at A3;by_cases hc:bB (isW m) k (d9 (aa σ.ents t.key) t)=0
 ·by_cases m2:m=2
  ·subst m2;(have k1:t.kind=1:=by unfold dX at hf;simpa using hf);(have hA:d9 (aa σ.ents t.key) t=aU (aa σ.ents t.key):=by unfold d9;rw[if_neg (by omega)]);(have A1:bu (aa σ.ents t.key) 2 t body=(1,(aa σ.ents t.key).last+1,body):=by unfold bu;rw[if_pos rfl]);(have A0:aQ σ.time s (2+1) (cvT t) k body=eR σ.time s t.key body (aU (aa σ.ents t.key)).isSome:=by unfold aQ;rw[hw,ha,if_neg (by rw[hc];simp),if_pos rfl,A3,A5,hA]);rw[A0];unfold eR;rw[kw h t.key,h.same.last t.key];cases hr:((decide (0<(aa σ.ents t.key).last)||decide (σ.ents.length<60))&&decide ((aa σ.ents t.key).vers.length<20)) with
   | false =>rw[oM (by omega) rfl hc A1 (lI (Or.inl rfl) (λ e=>by omega) hr)];exact⟨rfl,h⟩
   | true =>
     rw[pl (by omega) rfl hc A1 (jL (Or.inl rfl) (λ e=>by omega) hr)];refine⟨?_,?_⟩
     ·unfold cK;rfl
     ·have:=h.come ho t.key body 1 false (by decide) rfl hkey hb;rw[h.same.last t.key] at this;exact this
  ·by_cases m3:m=3
   ·subst m3;rcases ht with e|e
    ·(have hA:d9 (aa σ.ents t.key) t=aU (aa σ.ents t.key):=by unfold d9;rw[if_neg (by omega)]);(have A1:bu (aa σ.ents t.key) 3 t body=(2,(aa σ.ents t.key).last+1,[]):=by unfold bu;rw[if_neg (by decide),if_neg (by omega)]);(have A9:(cvT t).tg=2:=by rw[kn,if_neg (by omega),if_pos e]);(have A0:aQ σ.time s (3+1) (cvT t) k body=dF σ.time s false t.key (cvT t).v.toNat (aU (aa σ.ents t.key)).isSome (atR s.l (cvT t).tg (cvT t).key (cvT t).v).2:=by unfold aQ;rw[hw,ha,if_neg (by rw[hc];simp),if_neg (by decide),if_pos rfl,A3,A5,hA,A9];rfl);rw[A0];unfold dF;rw[if_neg (by decide)];cases hcu:(aU (aa σ.ents t.key)).isSome with
     | false =>rw[if_neg (by decide),oM (by omega) rfl hc A1 (pq (told:=404) (by unfold aJ;rw[if_neg (by decide),if_pos ⟨rfl,hcu⟩]) (by decide))];exact⟨rfl,h⟩
     | true =>
       rw[if_pos rfl,kw h t.key,h.same.last t.key];cases hr:((decide (0<(aa σ.ents t.key).last)||decide (σ.ents.length<60))&&decide ((aa σ.ents t.key).vers.length<20)) with
       | false =>rw[oM (by omega) rfl hc A1 (lI (Or.inr rfl) (λ _=>hcu) hr)];exact⟨rfl,h⟩
       | true =>
         rw[pl (by omega) rfl hc A1 (jL (Or.inr rfl) (λ _=>hcu) hr)];refine⟨?_,?_⟩
         ·unfold cK;rfl
         ·have:=h.come ho t.key [] 2 true (by decide) rfl hkey (by simp);rw[h.same.last t.key] at this;exact this
    ·(have A1:bu (aa σ.ents t.key) 3 t body=(3,t.num,[]):=by unfold bu;rw[if_neg (by decide),if_pos e]);(have A8:cvT t=⟨4,t.key,[],t.num⟩:=by unfold cvT;rw[if_neg (by omega),if_neg (by omega),if_pos e]);(have A0:aQ σ.time s (3+1) (cvT t) k body=dF σ.time s true t.key t.num (atR s.l (cvT t).tg (cvT t).key (cvT t).v).1.isSome (bH t.key (t.num:Int) s.l):=by unfold aQ;rw[hw,ha,if_neg (by rw[hc];simp),if_neg (by decide),if_pos rfl,A8];unfold atR;rfl);rw[A0];unfold dF;rw[if_pos rfl];have A2:=jc h t.key t.num;cases hfi:bH t.key (t.num:Int) s.l with
     | none =>rw[hfi] at A2;rw[oM (by omega) rfl hc A1 (pq (told:=404) (by unfold aJ;rw[if_pos rfl,<- A2];rfl) (by decide))];exact⟨rfl,h⟩
     | some i =>rw[hfi] at A2;obtain⟨it,hit⟩:∃ v,s.l[i]?=some v:=⟨_,List.getElem?_eq_getElem (dZ hfi)⟩;(have A7:(aa σ.ents t.key).last≠0:=by obtain⟨j,hj⟩:=Option.isSome_iff_exists.1 A2.symm;obtain⟨v,hv,_⟩:=fg hj;have h1:=h.vlast t.key v (List.mem_of_getElem? hv);have h2:=h.vpos t.key v (List.mem_of_getElem? hv);omega);(have A6:ca σ t.key 3 t.num []=(204,some ⟨σ.time,bJ σ.ents (bf (aa σ.ents t.key) 3 σ.time t.num []),σ.log++aF 3 σ.time t.key t.num []⟩):=by unfold ca;(have ho:aJ (aa σ.ents t.key) 3 t.num=0:=by unfold aJ;rw[if_pos rfl,<- A2];rfl);rw[ho,if_neg (by simp),if_neg (λ hh=>A7 hh.1)];rfl);rw[pl (by omega) rfl hc A1 A6];simp only[hit];exact⟨rfl,h.leave ho t.key t.num i it hfi hit (by omega)⟩
   ·(have Aa:isW m=false:=by unfold isW;simp[m2,m3]);have A0:aQ σ.time s (m+1) (cvT t) k body=match d9 (aa σ.ents t.key) t with
     | none=>(ap 404 [] [],s)
     | some v=>(ap 200 (bI v (bn v.time)) (if m+1=2 then [] else v.body),s):=by
     unfold aQ;rw[hw,ha,if_neg (by rw[hc];simp),if_neg (by omega),if_neg (by omega)];rfl
    have A4:eP σ m t k body=match d9 (aa σ.ents t.key) t with
     | none=>(⟨404,[],[]⟩,σ)
     | some v=>(⟨200,bI v (bn v.time),if m=0 then v.body else []⟩,σ):=by
     unfold eP;rw[if_neg (by omega),if_neg (by rw[hc];simp),Aa,if_neg (by decide)];rfl
    rw[A0,A4];cases d9 (aa σ.ents t.key) t with
    | none=>exact⟨rfl,h⟩
    | some v =>
      refine⟨?_,h⟩;simp only;by_cases m0:m=0
      ·rw[if_neg (by omega),if_pos m0]
      ·rw[if_pos (by omega),if_neg m0]
 ·(have A0:aQ σ.time s (m+1) (cvT t) k body=(ap (bB (isW m) k (d9 (aa σ.ents t.key) t)) [] [],s):=by unfold aQ;rw[hw,ha,if_pos hc]);(have A4:eP σ m t k body=(⟨bB (isW m) k (d9 (aa σ.ents t.key) t),[],[]⟩,σ):=by unfold eP;rw[if_neg (by omega),if_pos hc]);rw[A0,A4];exact⟨rfl,h⟩
theorem AU {t:Nat}{s:Rst}{l:List UInt8}{m:Nat}{tg:TgR}{k:Cnd}{body:List UInt8}(h:dr l=.ok (m,tg,k,body)):doR t s l=if tg.tg=1 then (iZ s.l tg.after,s) else if tg.tg=3 then (kP s.l tg.key,s) else aQ t s m tg k body:=by
 unfold doR;rw[h]
theorem zZ {B:Nat}{σ:St}{s:Rst}(h:cH B σ s)(ho:fK σ)(hB:1000000000<=B)(l:List UInt8):(doR σ.time s l).1=(doF σ l).1/\cH B (doF σ l).2 (doR σ.time s l).2:=by
 cases hr:bM l with
 | error n =>(have hR:dr l=.error n:=by rw[iO,hr]);unfold doR doF gQ;rw[hr,hR];exact⟨rfl,h⟩
 | ok x =>
   obtain⟨m,t,k,body⟩:=x;obtain⟨h1,h2,h3⟩:=vK hr;obtain⟨h4,h5,h6,h7⟩:=jP hr;(have hR:dr l=.ok (m+1,cvT t,k,body):=by rw[iO,hr];rfl);rw[AU hR];unfold doF;by_cases k0:t.kind=0
   ·(have ha:gQ σ l=(el σ t.key,σ):=by unfold gQ;rw[hr];simp only;rw[if_pos k0]);(have e:(cvT t).after=t.key:=by unfold cvT;rw[if_pos k0]);rw[ha,if_pos (show (cvT t).tg=1 by rw[kn,if_pos k0]),e];exact⟨ve h ho t.key,h⟩
   ·rw[AX hr k0,if_neg (show ¬ (cvT t).tg=1 by rw[kn,if_neg k0];split;decide;split<;>decide)];by_cases k3:t.kind=3
    ·(have e:(cvT t).tg=3/\(cvT t).key=t.key:=by unfold cvT;rw[if_neg (by omega),if_neg (by omega),if_neg (by omega)];exact⟨rfl,rfl⟩);rw[if_pos e.1,e.2,vY h.same t.key (h.vrise t.key) (h.vpos t.key) (h.vlast t.key)];unfold eP;rw[if_pos k3];by_cases hv:(aa σ.ents t.key).vers=[]
     ·rw[if_pos hv,if_pos hv];exact⟨rfl,h⟩
     ·rw[if_neg hv,if_neg hv];exact⟨rfl,h⟩
    ·(have ht:t.kind=1\/t.kind=2:=by omega);rw[if_neg (show ¬ (cvT t).tg=3 by rw[kn,if_neg k0];rcases ht with e|e<;>simp[e])];exact tA h ho hB m t k body ht h2 h3 (h4 k0) h7 h6
def aI (l:List UInt8):Nat:=l.foldl (λ n c=>n*256+c.toNat) 0
theorem nM (l:List UInt8)(c:UInt8):aI (l++[c])=aI l*256+c.toNat:=by
 unfold aI;rw[List.foldl_append,List.foldl_cons,List.foldl_nil]
theorem nR (l:List UInt8)(x:Nat):l.foldl (λ n c=>n*256+c.toNat) x=x*256 ^ l.length+aI l:=by
 unfold aI;induction l generalizing x with
 | nil=>simp
 | cons c l ih =>rw[List.foldl_cons,ih,List.foldl_cons,ih (0*256+c.toNat),List.length_cons,Nat.pow_succ];rw[Nat.add_mul,Nat.zero_mul,Nat.zero_add,Nat.add_assoc,Nat.mul_assoc,Nat.mul_comm 256]
theorem kE (c:UInt8)(l:List UInt8):aI (c::l)=c.toNat*256 ^ l.length+aI l:=by
 have:=nR l c.toNat;rw[<- this];show List.foldl _ (0*256+c.toNat) l=_;rw[Nat.zero_mul,Nat.zero_add]
theorem gy (l:List UInt8):aI l<256 ^ l.length:=by
 induction l with
 | nil=>simp[aI]
 | cons c l ih =>rw[kE,List.length_cons,Nat.pow_succ];have hc:=c.toNat_lt;have h1:c.toNat*256 ^ l.length<=255*256 ^ l.length:=Nat.mul_le_mul_right _ (by omega);omega
theorem zR (l:List UInt8):∀ x:Nat,be (x*256 ^ l.length+aI l) l.length=l:=by
 induction l with
 | nil=>intro x;rfl
 | cons c l ih =>intro x;have A0:=gy l;have hc:=c.toNat_lt;have hp:0<256 ^ l.length:=Nat.pow_pos (by omega);rw[List.length_cons,kE];(have e:x*256 ^ (l.length+1)+(c.toNat*256 ^ l.length+aI l)=(x*256+c.toNat)*256 ^ l.length+aI l:=by rw[Nat.pow_succ,Nat.add_mul,Nat.mul_assoc x 256,Nat.mul_comm 256];omega);rw[e];show UInt8.ofNat _::be _ _=_;rw[ih];congr 1;rw[Nat.mul_comm _ (256 ^ l.length),Nat.mul_add_div hp,Nat.div_eq_of_lt A0,Nat.add_zero,Nat.add_comm,Nat.add_mul_mod_self_right,Nat.mod_eq_of_lt hc];simp
theorem gH {l:List UInt8}{n k:Nat}(hk:l.length=k)(hn:aI l=n):be n k=l:=by
 have:=zR l 0;rw[Nat.zero_mul,Nat.zero_add,hk,hn] at this;exact this
theorem eW (n k:Nat):aI (be n k)=n%256 ^ k:=by
 induction k with
 | zero=>simp[be,aI,Nat.mod_one]
 | succ k ih =>rw[be,kE,aR,ih,Nat.pow_succ,Nat.mod_mul];(have:(UInt8.ofNat (n/256 ^ k%256)).toNat=n/256 ^ k%256:=by simp);rw[this,Nat.mul_comm];omega
structure Rec where
 kind:Nat
 time:Nat
 key:List UInt8
 num:Nat
 body:List UInt8
structure Rdr where
 rest:List UInt8
 short:Bool
def Rdr.text (s:Rdr)(n:Nat):List UInt8:=if s.rest.length<n then [] else s.rest.take n
def Rdr.go (s:Rdr)(n:Nat):Rdr:=if s.rest.length<n then ⟨[],true⟩ else ⟨s.rest.drop n,s.short⟩
def eo (k:Nat)(body:List UInt8):Bool:=if k=1 then decide (body.length<=400) else if k=2\/k=3 then body.isEmpty else false
def iB (p:List UInt8):Rdr:=(Rdr.mk p false).go 1
def fA (p:List UInt8):Rdr:=(iB p).go 8
def iP (p:List UInt8):Rdr:=(fA p).go 1
def gN (p:List UInt8):Rdr:=(iP p).go (aI ((fA p).text 1))
def ki (p:List UInt8):Rdr:=(gN p).go 4
def aP (p:List UInt8):Rec:=⟨aI ((Rdr.mk p false).text 1),aI ((iB p).text 8),(iP p).text (aI ((fA p).text 1)),aI ((gN p).text 4),(ki p).rest⟩
def dU (p:List UInt8):Bool:=!(ki p).short&&(decide ((aP p).time<=253402300799)&&(aA (aP p).key&&eo (aP p).kind (aP p).body))
def qz (t:List UInt8):Rdr:=(Rdr.mk t false).go 2
def fp (t:List UInt8):List UInt8:=(qz t).text (aI ((Rdr.mk t false).text 2))
def j4 (t:List UInt8):Rdr:=(qz t).go (aI ((Rdr.mk t false).text 2))
def nJ (t:List UInt8):Rdr:=(j4 t).go 4
def eM (t:List UInt8):Option (Rec×List UInt8) :=
 if (nJ t).short=true\/aI ((j4 t).text 4)≠cB (fp t) then none
 else if dU (fp t)=true then some (aP (fp t),(nJ t).rest) else none
theorem gZ {s:Rdr}{n:Nat}(h:(s.go n).short=false):s.short=false/\n<=s.rest.length/\s.rest=s.text n++(s.go n).rest/\(s.text n).length=n:=by
 unfold Rdr.go at h ⊢;unfold Rdr.text;split at h
 ·cases h
 ·rename_i hn;rw[if_neg hn,if_neg hn];refine⟨h,by omega,(List.take_append_drop _ _).symm,?_⟩;rw[List.length_take];omega
theorem gS (a b:List UInt8)(s:Bool):(Rdr.mk (a++b) s).go a.length=⟨b,s⟩/\(Rdr.mk (a++b) s).text a.length=a:=by
 unfold Rdr.go Rdr.text;rw[if_neg (by simp),if_neg (by simp)];simp
structure gh (r:Rec):Prop where
 kind:r.kind=1\/r.kind=2\/r.kind=3
 time:r.time<=253402300799
 key:aA r.key=true
 num:r.num<4294967296
 body:r.body.length<=400
 none:r.kind≠1->r.body=[]
theorem uv {k:Nat}{b:List UInt8}(h:eo k b=true):(k=1\/k=2\/k=3)/\b.length<=400/\(k≠1->b=[]):=by
 unfold eo at h;split at h
 ·rename_i e;exact⟨Or.inl e,by simpa using h,λ h=>absurd e h⟩
 ·split at h
  ·rename_i e;(have:b=[]:=by simpa using h);exact⟨Or.inr e,by rw[this];simp,λ _=>this⟩
  ·cases h
theorem uH {r:Rec}(h:gh r):eo r.kind r.body=true:=by
 unfold eo;split
 ·simpa using h.body
 ·rename_i e;(have h2:r.kind=2\/r.kind=3:=by rcases h.kind with h|h|h<;>omega);rw[if_pos h2,h.none e];rfl
theorem AH {p:List UInt8}(h:dU p=true):gh (aP p)/\p=eU (aP p).kind (aP p).time (aP p).key (aP p).num (aP p).body:=by
 unfold dU at h;simp only[Bool.and_eq_true,Bool.not_eq_true',decide_eq_true_eq] at h;obtain⟨hs,ht,hk,hf⟩:=h;obtain⟨A4,h5,e5,l5⟩:=gZ (s:=gN p) (n:=4) hs;obtain⟨A3,h4,e4,l4⟩:=gZ (s:=iP p) A4;obtain⟨A2,h3,e3,l3⟩:=gZ (s:=fA p) (n:=1) A3;obtain⟨A1,h2,e2,l2⟩:=gZ (s:=iB p) (n:=8) A2;obtain⟨_,h1,e1,l1⟩:=gZ (s:=Rdr.mk p false) (n:=1) A1;have A0:=uv hf;refine⟨⟨A0.1,ht,hk,?_,A0.2.1,A0.2.2⟩,?_⟩
 ·have:=gy ((gN p).text 4);rw[l5] at this;exact this
 ·have b1:be (aI ((Rdr.mk p false).text 1)) 1=(Rdr.mk p false).text 1:=gH l1 rfl;have b2:be (aI ((iB p).text 8)) 8=(iB p).text 8:=gH l2 rfl;have b3:be (aI ((fA p).text 1)) 1=(fA p).text 1:=gH l3 rfl;have b5:be (aI ((gN p).text 4)) 4=(gN p).text 4:=gH l5 rfl;have a5:(gN p).rest=(gN p).text 4++(ki p).rest:=e5;have a4:(iP p).rest=(iP p).text (aI ((fA p).text 1))++(gN p).rest:=e4;have a3:(fA p).rest=(fA p).text 1++(iP p).rest:=e3;have a2:(iB p).rest=(iB p).text 8++(fA p).rest:=e2;have a1:p=(Rdr.mk p false).text 1++(iB p).rest:=e1;(have c:eU (aI ((Rdr.mk p false).text 1)) (aI ((iB p).text 8)) ((iP p).text (aI ((fA p).text 1))) (aI ((gN p).text 4)) (ki p).rest=p:=by unfold eU;rw[b1,b2,l4,b3,b5,<- a5,<- a4,<- a3,<- a2];exact a1.symm);dsimp only[aP];exact c.symm
theorem eE {k:List UInt8}(h:aA k=true):k.length<=40:=by
 unfold aA at h;simp only[Bool.and_eq_true,decide_eq_true_eq] at h;exact h.2.1
theorem AJ {r:Rec}(h:gh r):dU (eU r.kind r.time r.key r.num r.body)=true/\aP (eU r.kind r.time r.key r.num r.body)=r:=by
 have A0:=eE h.key;have A1:r.kind<256:=by rcases h.kind with h|h|h<;>omega
 obtain⟨p,hp⟩:∃ p,eU r.kind r.time r.key r.num r.body=p:=⟨_,rfl⟩;rw[hp];unfold eU at hp;have g1:=gS (be r.kind 1) (be r.time 8++(be r.key.length 1++(r.key++(be r.num 4++r.body)))) false;rw[hp,aR] at g1;have g2:=gS (be r.time 8) (be r.key.length 1++(r.key++(be r.num 4++r.body))) false;rw[aR] at g2;have g3:=gS (be r.key.length 1) (r.key++(be r.num 4++r.body)) false;rw[aR] at g3;have g4:=gS r.key (be r.num 4++r.body) false;have g5:=gS (be r.num 4) r.body false;rw[aR] at g5;have e1:iB p=⟨be r.time 8++(be r.key.length 1++(r.key++(be r.num 4++r.body))),false⟩:=g1.1;have e2:fA p=⟨be r.key.length 1++(r.key++(be r.num 4++r.body)),false⟩:=by unfold fA;rw[e1];exact g2.1
 have e3:iP p=⟨r.key++(be r.num 4++r.body),false⟩:=by unfold iP;rw[e2];exact g3.1
 have t2:aI ((fA p).text 1)=r.key.length:=by rw[e2,g3.2,eW];exact Nat.mod_eq_of_lt (by omega)
 have e4:gN p=⟨be r.num 4++r.body,false⟩:=by unfold gN;rw[t2,e3];exact g4.1
 have e5:ki p=⟨r.body,false⟩:=by unfold ki;rw[e4];exact g5.1
 have hr:aP p=r:=by unfold aP;rw[t2,e5,e4,g5.2,e3,g4.2,e1,g2.2,g1.2,eW,eW,eW,Nat.mod_eq_of_lt (show r.kind<256 ^ 1 by omega),Nat.mod_eq_of_lt (show r.time<256 ^ 8 by have:=h.time;omega),Nat.mod_eq_of_lt (show r.num<256 ^ 4 by have:=h.num;omega)]
 refine⟨?_,hr⟩;unfold dU;rw[hr,e5];simp[h.time,h.key,uH h]
theorem kx {t rest:List UInt8}{r:Rec}(h:eM t=some (r,rest)):gh r/\t=aF r.kind r.time r.key r.num r.body++rest:=by
 unfold eM at h;split at h
 ·cases h
 ·rename_i hn;split at h
  ·rename_i hp;injection h with h;injection h with h1 h2;rw[not_or] at hn;obtain⟨hs,hc⟩:=hn;(have A2:(nJ t).short=false:=by simpa using hs);(have A0:aI ((j4 t).text 4)=cB (fp t):=by simpa using hc);have ⟨hok,hpe⟩:=AH hp;rw[h1] at hok hpe;refine⟨hok,?_⟩;obtain⟨A1,k3,e3,l3⟩:=gZ (s:=j4 t) (n:=4) A2;obtain⟨A3,k2,e2,l2⟩:=gZ (s:=qz t) A1;obtain⟨_,k1,e1,l1⟩:=gZ (s:=Rdr.mk t false) (n:=2) A3;have a3:(j4 t).rest=(j4 t).text 4++(nJ t).rest:=e3;have a2:(qz t).rest=fp t++(j4 t).rest:=e2;have a1:t=(Rdr.mk t false).text 2++(qz t).rest:=e1;have lp:(fp t).length=aI ((Rdr.mk t false).text 2):=l2;unfold aF;rw[<- hpe,lp,gH l1 rfl,gH l3 A0,List.append_assoc,List.append_assoc,<- h2,<- a3,<- a2];exact a1
  ·cases h
theorem xI {r:Rec}(h:gh r)(rest:List UInt8):eM (aF r.kind r.time r.key r.num r.body++rest)=some (r,rest):=by
 have A4:=eE h.key;have A3:=h.body;obtain⟨hp,hr⟩:=AJ h;have A1:=jJ r.kind r.time r.key r.num r.body;obtain⟨p,A0⟩:∃ p,eU r.kind r.time r.key r.num r.body=p:=⟨_,rfl⟩;unfold aF;rw[A0] at hp hr A1 ⊢;obtain⟨t,ht⟩:∃ t,be p.length 2++(p++be (cB p) 4)++rest=t:=⟨_,rfl⟩;rw[ht];have A2:be p.length 2++(p++(be (cB p) 4++rest))=t:=by rw[<- ht];simp
 have g1:=gS (be p.length 2) (p++(be (cB p) 4++rest)) false;rw[A2,aR] at g1;have g2:=gS p (be (cB p) 4++rest) false;have g3:=gS (be (cB p) 4) rest false;rw[aR] at g3;have t1:aI ((Rdr.mk t false).text 2)=p.length:=by rw[g1.2,eW];exact Nat.mod_eq_of_lt (by omega)
 have e1:qz t=⟨p++(be (cB p) 4++rest),false⟩:=g1.1;have e2:j4 t=⟨be (cB p) 4++rest,false⟩:=by unfold j4;rw[t1,e1];exact g2.1
 have ep:fp t=p:=by unfold fp;rw[t1,e1];exact g2.2
 have e3:nJ t=⟨rest,false⟩:=by unfold nJ;rw[e2];exact g3.1
 have hc:aI ((j4 t).text 4)=cB p:=by rw[e2,g3.2,eW];exact Nat.mod_eq_of_lt (oO p)
 unfold eM;rw[ep,e3,hc,if_neg (by simp),if_pos hp,hr]
def cL (σ:St)(r:Rec):Option St :=
 if r.time<σ.time\/(r.kind≠3/\r.num≠(aa σ.ents r.key).last+1) then none
 else (ca ⟨r.time,σ.ents,σ.log⟩ r.key r.kind r.num r.body).2
def aG:Nat->St->List UInt8->St×List UInt8
 | 0,σ,t=>(σ,t)
 | m+1,σ,t=>match eM t with
   | none=>(σ,t)
   | some (r,rest)=>match cL σ r with
     | none=>(σ,t)
     | some σ'=>aG m σ' rest
theorem yF {σ σ':St}{r:Rec}(h:cL σ r=some σ'):σ'.log=σ.log++aF r.kind r.time r.key r.num r.body:=by
 unfold cL at h;split at h
 ·cases h
 ·unfold ca at h;split at h
  ·cases h
  ·split at h
   ·cases h
   ·injection h with h;rw[<- h]
theorem uz:eM []=none:=by
 unfold eM;rw[if_pos (Or.inl (by decide))]
theorem oh:∀ (m:Nat) (σ σ':St) (t rest:List UInt8),aG m σ t=(σ',rest)->∃ c,t=c++rest/\σ'.log=σ.log++c/\∀ k,c.length<=k->aG k σ c=(σ',[]):=by
 intro m;induction m with
 | zero =>
   intro σ σ' t rest h;injection h with h1 h2;refine⟨[],by rw[h2];rfl,by rw[h1];simp,λ k _=>?_⟩;cases k with
   | zero=>rw[<- h1];rfl
   | succ k=>unfold aG;rw[uz,h1]
 | succ m ih =>
   intro σ σ' t rest h;have A0:(σ,t)=(σ',rest)->∃ c,t=c++rest/\σ'.log=σ.log++c/\∀ k,c.length<=k->aG k σ c=(σ',[]):=by
    intro h;injection h with h1 h2;refine⟨[],by rw[h2];rfl,by rw[h1];simp,λ k _=>?_⟩;cases k with
    | zero=>rw[<- h1];rfl
    | succ k=>unfold aG;rw[uz,h1]
   unfold aG at h;cases hc:eM t with
   | none=>rw[hc] at h;exact A0 h
   | some x =>
     obtain⟨r,rs⟩:=x;rw[hc] at h;cases hr:cL σ r with
     | none=>simp only[hr] at h;exact A0 h
     | some σ1 =>
       simp only[hr] at h;obtain⟨c,A2,A3,A1⟩:=ih σ1 σ' rs rest h;have ⟨hok,ht⟩:=kx hc;refine⟨aF r.kind r.time r.key r.num r.body++c,by rw[ht,A2,List.append_assoc],by rw[A3,yF hr,List.append_assoc],λ k hk=>?_⟩;rw[List.length_append,de] at hk;cases k with
       | zero=>omega
       | succ k =>unfold aG;rw[xI hok];simp only[hr];exact A1 k (by omega)
def ey (t:Nat)(s:Rst)(k:Nat)(key:List UInt8)(v:Nat)(body:List UInt8):Option Rst :=
 if k=1 then (if g7 key s.l=true/\v=aH key s.l+1 then some ⟨s.l++[⟨key,aH key s.l+1,t,false,body,false⟩],s.J++aF 1 t key (aH key s.l+1) body⟩ else none)
 else if k=2 then (if (g7 key s.l=true/\v=aH key s.l+1)/\(bg key s.l).isSome=true/\body=[] then some ⟨s.l++[⟨key,aH key s.l+1,t,true,[],false⟩],s.J++aF 2 t key (aH key s.l+1) []⟩ else none)
 else if k=3/\body=[] then (match bH key (v:Int) s.l with
  | none=>none
  | some i=>match s.l[i]? with
    | none=>none
    | some it=>some ⟨s.l.set i ⟨it.key,it.num,it.time,it.mark,it.body,true⟩,s.J++aF 3 t it.key it.num []⟩)
 else none
theorem tu {t:Nat}{s s':Rst}{k:Nat}{key:List UInt8}{v:Nat}{body:List UInt8}(h:ey t s k key v body=some s'):(k=1\/k=2\/k=3)/\(k≠1->body=[]):=by
 unfold ey at h;split at h
 ·rename_i e;exact⟨Or.inl e,λ hh=>absurd e hh⟩
 ·split at h
  ·rename_i e;split at h
   ·rename_i hh;exact⟨Or.inr (Or.inl e),λ _=>hh.2.2⟩
   ·cases h
  ·split at h
   ·rename_i e;exact⟨Or.inr (Or.inr e.1),λ _=>e.2⟩
   ·cases h
theorem wq {B:Nat}{σ:St}{s:Rst}(h:cH B σ s)(key:List UInt8):(bg key s.l).isSome=(aU (aa σ.ents key)).isSome:=by
 have hc:=h.same.current key (λ v hv=>h.pos v (eI hv).1);have ha:=ql s.l 2 key 0;unfold atV atR at ha;simp only[show ¬ (2:Nat)=4 by decide,if_false] at ha;rw[ha,hc]
theorem xb {σ:St}{key body:List UInt8}{k n:Nat}(h0:aJ (aa σ.ents key) k n=0)(h1:¬ ((aa σ.ents key).last=0/\60<=σ.ents.length)):(ca σ key k n body).2=some ⟨σ.time,bJ σ.ents (bf (aa σ.ents key) k σ.time n body),σ.log++aF k σ.time key n body⟩:=by
 unfold ca;rw[if_neg (by rw[h0];simp),if_neg h1]
theorem sK {B:Nat}{σ:St}{s:Rst}(h:cH B σ s)(ho:fK σ)(hB:4294967296<=B){r:Rec}(hr:gh r)(ht:σ.time<=r.time) :
 (ey r.time s r.kind r.key r.num r.body=none/\cL σ r=none)\/∃ s' σ',ey r.time s r.kind r.key r.num r.body=some s'/\cL σ r=some σ'/\σ'.time=r.time/\cH B σ' s':=by
 have h1:cH B ⟨r.time,σ.ents,σ.log⟩ s:=⟨⟨h.same.log,h.same.last,h.same.vers,h.same.known,h.same.rise⟩,h.pos,h.time,h.body,h.key,h.num,h.hold,h.len,h.log⟩;have A4:fK ⟨r.time,σ.ents,σ.log⟩:=⟨ho.rise,ho.ok,hr.time⟩;have A1:=kw h r.key;have A0:=h.same.last r.key;have A2:=wq h r.key;unfold ey cL;rcases hr.kind with e|e|e
 ·rw[e,if_pos rfl,A1,A0];by_cases hn:r.num=(aa σ.ents r.key).last+1
  ·rw[if_neg (show ¬ (r.time<σ.time\/((1:Nat)≠3/\r.num≠(aa σ.ents r.key).last+1)) from λ hh=>hh.elim (λ hh=>by omega) (λ hh=>hh.2 hn)),hn];cases hroo:((decide (0<(aa σ.ents r.key).last)||decide (σ.ents.length<60))&&decide ((aa σ.ents r.key).vers.length<20)) with
   | false =>left;refine⟨if_neg (by simp),?_⟩;have:=lI (σ:=⟨r.time,σ.ents,σ.log⟩) (key:=r.key) (body:=r.body) (k:=1) (Or.inl rfl) (λ hh=>by omega) hroo;simp only at this ⊢;rw[this]
   | true =>right;have:=jL (σ:=⟨r.time,σ.ents,σ.log⟩) (key:=r.key) (body:=r.body) (k:=1) (Or.inl rfl) (λ hh=>by omega) hroo;have hc:=h1.come A4 r.key r.body 1 false (by decide) rfl hr.key hr.body;rw[A0] at hc;simp only at this ⊢;rw[this];exact⟨_,_,if_pos (by simp),rfl,rfl,hc⟩
  ·left;exact⟨if_neg (λ hh=>hn hh.2),if_pos (Or.inr ⟨by decide,hn⟩)⟩
 ·have hb:=hr.none (by omega);rw[e,if_neg (by decide),if_pos rfl,A1,A0,A2,hb];by_cases hn:r.num=(aa σ.ents r.key).last+1
  ·rw[if_neg (show ¬ (r.time<σ.time\/((2:Nat)≠3/\r.num≠(aa σ.ents r.key).last+1)) from λ hh=>hh.elim (λ hh=>by omega) (λ hh=>hh.2 hn)),hn];cases hcu:(aU (aa σ.ents r.key)).isSome with
   | false =>left;refine⟨if_neg (by simp),?_⟩;have:=pq (σ:=⟨r.time,σ.ents,σ.log⟩) (key:=r.key) (k:=2) (n:=(aa σ.ents r.key).last+1) (body:=[]) (told:=404) (by unfold aJ;rw[if_neg (by decide),if_pos ⟨rfl,hcu⟩]) (by decide);rw[this]
   | true =>
     cases hroo:((decide (0<(aa σ.ents r.key).last)||decide (σ.ents.length<60))&&decide ((aa σ.ents r.key).vers.length<20)) with
     | false =>left;refine⟨if_neg (by simp),?_⟩;have:=lI (σ:=⟨r.time,σ.ents,σ.log⟩) (key:=r.key) (body:=[]) (k:=2) (Or.inr rfl) (λ _=>hcu) hroo;simp only at this ⊢;rw[this]
     | true =>right;have:=jL (σ:=⟨r.time,σ.ents,σ.log⟩) (key:=r.key) (body:=[]) (k:=2) (Or.inr rfl) (λ _=>hcu) hroo;have hc:=h1.come A4 r.key [] 2 true (by decide) rfl hr.key (by simp);rw[A0] at hc;simp only at this ⊢;rw[this];exact⟨_,_,if_pos (by simp),rfl,rfl,hc⟩
  ·left;exact⟨if_neg (λ hh=>hn hh.1.2),if_pos (Or.inr ⟨by decide,hn⟩)⟩
 ·have hb:=hr.none (by omega);rw[e,if_neg (by decide),if_neg (by decide),if_pos ⟨rfl,hb⟩,hb,if_neg (show ¬ (r.time<σ.time\/((3:Nat)≠3/\r.num≠(aa σ.ents r.key).last+1)) from λ hh=>hh.elim (λ hh=>by omega) (λ hh=>hh.1 rfl))];have A3:=jc h r.key r.num;cases hfi:bH r.key (r.num:Int) s.l with
  | none =>rw[hfi] at A3;left;refine⟨rfl,?_⟩;have:=pq (σ:=⟨r.time,σ.ents,σ.log⟩) (key:=r.key) (k:=3) (n:=r.num) (body:=[]) (told:=404) (by unfold aJ;rw[if_pos rfl,<- A3];rfl) (by decide);rw[this]
  | some i =>rw[hfi] at A3;obtain⟨it,hit⟩:∃ v,s.l[i]?=some v:=⟨_,List.getElem?_eq_getElem (dZ hfi)⟩;(have A6:(aa σ.ents r.key).last≠0:=by obtain⟨j,hj⟩:=Option.isSome_iff_exists.1 A3.symm;obtain⟨v,hv,_⟩:=fg hj;have h1:=h.vlast r.key v (List.mem_of_getElem? hv);have h2:=h.vpos r.key v (List.mem_of_getElem? hv);omega);have A5:=xb (σ:=⟨r.time,σ.ents,σ.log⟩) (key:=r.key) (k:=3) (n:=r.num) (body:=[]) (by unfold aJ;rw[if_pos rfl,<- A3];rfl) (λ hh=>A6 hh.1);right;simp only[hit];refine⟨_,_,rfl,A5,rfl,h1.leave A4 r.key r.num i it hfi hit (by have:=hr.num;omega)⟩
end Go.Proofs.YtmehkneofinmiaaGreatDoor

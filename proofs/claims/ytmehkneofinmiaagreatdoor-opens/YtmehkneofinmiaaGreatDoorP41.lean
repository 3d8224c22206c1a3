/-part 41-/
import Derived.Test.YtmehkneofinmiaaGreatDoorP40
set_option maxRecDepth 100000
set_option maxHeartbeats 4000000
namespace Go.Proofs.YtmehkneofinmiaaGreatDoor
def rpN (u:List UInt8):Nat:=aI (u.take 2)
def rpP (u:List UInt8):List UInt8:=(u.drop 2).take (rpN u)
def rpL (p:List UInt8):Nat:=(p.getD 9 0).toNat
def rpR (p:List UInt8):Rec:=⟨(p.getD 0 0).toNat,aI ((p.drop 1).take 8),(p.drop 10).take (rpL p),aI ((p.drop (10+rpL p)).take 4),p.drop (14+rpL p)⟩
def rpF (u:List UInt8):Option Rec :=
 if u.length<2 then none
 else if u.length<rpN u+6\/rpN u<14 then none
 else if rpN u<14+rpL (rpP u)\/253402300799<(rpR (rpP u)).time then none
 else if aA (rpR (rpP u)).key=false\/400<(rpR (rpP u)).body.length\/be (cB (rpP u)) 4≠(u.drop (2+rpN u)).take 4 then none
 else some (rpR (rpP u))
theorem td {α:Type}(p:List α)(a b c:Nat)(h:c=a+b):(p.drop a).take b++p.drop c=p.drop a:=by
 rw[h,<- List.drop_drop,List.take_append_drop]
theorem nb (c:UInt8):aI [c]=c.toNat:=by simp[aI]
theorem yz (c:UInt8):be c.toNat 1=[c]:=gH rfl (nb c)
theorem vL (p:List UInt8)(h:14+rpL p<=p.length):p=eU (rpR p).kind (rpR p).time (rpR p).key (rpR p).num (rpR p).body/\(rpR p).key.length=rpL p:=by
 obtain⟨L,hL⟩:∃ L,rpL p=L:=⟨_,rfl⟩;have hk:((p.drop 10).take L).length=L:=by rw[List.length_take,List.length_drop];omega
 have g0:[p.getD 0 0]=p.take 1:=by
  rw[List.getD_eq_getElem?_getD,List.getElem?_eq_getElem (by omega),Option.getD_some];cases p with
  | nil=>simp at h
  | cons a p=>rfl
 have g9:[p.getD 9 0]=(p.drop 9).take 1:=by rw[List.getD_eq_getElem?_getD,List.getElem?_eq_getElem (by omega),Option.getD_some];rw[List.drop_eq_getElem_cons (by omega)];rfl
 have e0:be (p.getD 0 0).toNat 1=p.take 1:=by rw[yz,g0]
 have e9:be L 1=(p.drop 9).take 1:=by rw[<- hL];unfold rpL;rw[yz,g9]
 have e1:be (aI ((p.drop 1).take 8)) 8=(p.drop 1).take 8:=gH (by rw[List.length_take,List.length_drop];omega) rfl;have e2:be (aI ((p.drop (10+L)).take 4)) 4=(p.drop (10+L)).take 4:=gH (by rw[List.length_take,List.length_drop];omega) rfl;unfold rpR;rw[hL];refine⟨?_,hk⟩;unfold eU;simp only;rw[hk,e0,e9,e1,e2];have s5:(p.drop (10+L)).take 4++p.drop (14+L)=p.drop (10+L):=td p _ _ _ (by omega);have s4:(p.drop 10).take L++p.drop (10+L)=p.drop 10:=td p _ _ _ rfl;have s3:(p.drop 9).take 1++p.drop 10=p.drop 9:=td p _ _ _ rfl;have s2:(p.drop 1).take 8++p.drop 9=p.drop 1:=td p _ _ _ rfl;rw[s5,s4,s3,s2,List.take_append_drop]
theorem A9 {u:List UInt8}{r:Rec}(h:rpF u=some r)(hf:eo r.kind r.body=true):gh r/\u=aF r.kind r.time r.key r.num r.body++u.drop (rpN u+6)/\(aF r.kind r.time r.key r.num r.body).length=rpN u+6:=by
 unfold rpF at h;split at h
 ·cases h
 ·rename_i c1;split at h
  ·cases h
  ·rename_i c2;split at h
   ·cases h
   ·rename_i c3;split at h
    ·cases h
    ·rename_i c4;cases h;rw[not_or] at c2 c3;rw[not_or,not_or] at c4;obtain⟨c4,c5,c6⟩:=c4;(have A1:(rpP u).length=rpN u:=by unfold rpP;rw[List.length_take,List.length_drop];omega);have ⟨hsp,hkl⟩:=vL (rpP u) (by omega);have A0:=uv hf;have A3:gh (rpR (rpP u)):=⟨A0.1,by omega,by simpa using c4,Nat.lt_of_lt_of_le (gy _) (by
      have:((List.drop (10+rpL (rpP u)) (rpP u)).take 4).length<=4:=by rw[List.length_take];omega
      calc 256 ^ ((List.drop (10+rpL (rpP u)) (rpP u)).take 4).length<=256 ^ 4:=Nat.pow_le_pow_right (by omega) this
       _=4294967296:=rfl),by omega,A0.2.2⟩
     refine⟨A3,?_,?_⟩
     ·unfold aF;rw[<- hsp,A1];have e2:be (rpN u) 2=u.take 2:=gH (by rw[List.length_take];omega) rfl;(have A2:be (cB (rpP u)) 4=(u.drop (2+rpN u)).take 4:=by simpa using c6);rw[e2,A2];have s1:(u.drop (2+rpN u)).take 4++u.drop (rpN u+6)=u.drop (2+rpN u):=td u _ _ _ (by omega);have s2:rpP u++u.drop (2+rpN u)=u.drop 2:=td u _ _ _ rfl;rw[List.append_assoc,List.append_assoc,s1,s2,List.take_append_drop]
     ·unfold aF;rw[<- hsp,List.length_append,List.length_append,aR,aR,A1];omega
theorem Al {r:Rec}(h:gh r)(rest:List UInt8):rpF (aF r.kind r.time r.key r.num r.body++rest)=some r/\rpN (aF r.kind r.time r.key r.num r.body++rest)+6=(aF r.kind r.time r.key r.num r.body).length:=by
 have Aa:=eE h.key;have A9:=h.body;have Ab:r.kind<256:=by rcases h.kind with h|h|h<;>omega
 have A7:=jJ r.kind r.time r.key r.num r.body;have A8:=de r.kind r.time r.key r.num r.body;obtain⟨p,A3⟩:∃ p,eU r.kind r.time r.key r.num r.body=p:=⟨_,rfl⟩;obtain⟨u,hu⟩:∃ u,aF r.kind r.time r.key r.num r.body++rest=u:=⟨_,rfl⟩;have A2:u=be p.length 2++(p++(be (cB p) 4++rest)):=by rw[<- hu];unfold aF;rw[A3];simp
 rw[hu];rw[A3] at A7;have hN:rpN u=p.length:=by unfold rpN;rw[A2,List.take_append_of_le_length (by rw[aR];exact Nat.le_refl _),List.take_of_length_le (by rw[aR];exact Nat.le_refl _),eW];exact Nat.mod_eq_of_lt (by omega)
 have A5:u.drop 2=p++(be (cB p) 4++rest):=by rw[A2,List.drop_append_of_le_length (by rw[aR];exact Nat.le_refl _),List.drop_of_length_le (by rw[aR];exact Nat.le_refl _),List.nil_append]
 have hP:rpP u=p:=by unfold rpP;rw[hN,A5,List.take_append_of_le_length (Nat.le_refl _),List.take_length]
 have A6:u.drop (2+rpN u)=be (cB p) 4++rest:=by rw[<- List.drop_drop,A5,hN,List.drop_append_of_le_length (Nat.le_refl _),List.drop_length,List.nil_append]
 have Ac:u.length=p.length+6+rest.length:=by rw[A2];simp only[List.length_append,aR];omega
 have b1:be r.kind 1=[UInt8.ofNat r.kind]:=by refine gH rfl ?_;rw[nb];simp;omega
 have b9:be r.key.length 1=[UInt8.ofNat r.key.length]:=by refine gH rfl ?_;rw[nb];simp;omega
 have A1:p=UInt8.ofNat r.kind::(be r.time 8++(UInt8.ofNat r.key.length::(r.key++(be r.num 4++r.body)))):=by rw[<- A3];unfold eU;rw[b1,b9];rfl
 have b8:=aR r.time 8;have hL:rpL p=r.key.length:=by unfold rpL;rw[A1,List.getD_eq_getElem?_getD,List.getElem?_cons_succ,List.getElem?_append_right (by omega),b8];simp;omega
 have A4:p.drop 10=r.key++(be r.num 4++r.body):=by rw[A1,List.drop_succ_cons,List.drop_append,b8,List.drop_of_length_le (by omega)];rfl
 have hR:rpR p=r:=by unfold rpR;rw[hL];(have k0:(p.getD 0 0).toNat=r.kind:=by rw[A1];simp;omega);(have k1:aI ((p.drop 1).take 8)=r.time:=by rw[A1,List.drop_succ_cons,List.drop_zero,List.take_append_of_le_length (by omega),List.take_of_length_le (by omega),eW];exact Nat.mod_eq_of_lt (by have:=h.time;omega));(have k2:(p.drop 10).take r.key.length=r.key:=by rw[A4,List.take_append_of_le_length (Nat.le_refl _),List.take_length]);(have A0:p.drop (10+r.key.length)=be r.num 4++r.body:=by rw[<- List.drop_drop,A4,List.drop_append_of_le_length (Nat.le_refl _),List.drop_length,List.nil_append]);have b4:=aR r.num 4;(have k3:aI ((p.drop (10+r.key.length)).take 4)=r.num:=by rw[A0,List.take_append_of_le_length (by omega),List.take_of_length_le (by omega),eW];exact Nat.mod_eq_of_lt (by have:=h.num;omega));(have k4:p.drop (14+r.key.length)=r.body:=by rw[show 14+r.key.length=(10+r.key.length)+4 by omega,<- List.drop_drop,A0,List.drop_append_of_le_length (by omega),List.drop_of_length_le (by omega),List.nil_append]);rw[k0,k1,k2,k3,k4]
 refine⟨?_,by rw[hN,A8];omega⟩;unfold rpF;rw[hP,hR,hL,if_neg (by omega),if_neg (by omega),if_neg (by have:=h.time;omega),if_neg];rw[A6,h.key,List.take_append_of_le_length (by rw[aR];exact Nat.le_refl _),List.take_of_length_le (by rw[aR];exact Nat.le_refl _)];simp;omega
def eh (t:Nat)(s:Rst)(u:List UInt8):Option (Nat×Rst×Nat):=match rpF u with
 | none=>none
 | some r=>if r.time<t then none else (ey r.time s r.kind r.key r.num r.body).map λ s'=>(r.time,s',rpN u+6)
theorem oC {B:Nat}{σ:St}{s:Rst}(h:cH B σ s)(ho:fK σ)(hB:4294967296<=B)(u:List UInt8) :
 (eh σ.time s u=none/\∀ k,aG k σ u=(σ,u))\/∃ s' σ' n,eh σ.time s u=some (σ'.time,s',n)/\20<=n/\n<=u.length/\(∀ k,aG (k+1) σ u=aG k σ' (u.drop n))/\cH B σ' s'/\∃ r,gh r/\cL σ r=some σ':=by
 have A2:eM u=none->∀ k,aG k σ u=(σ,u):=λ hc k=>by
  cases k with
  | zero=>rfl
  | succ k=>unfold aG;rw[hc]
 have A1:∀ r A0,eM u=some (r,A0)->cL σ r=none->∀ k,aG k σ u=(σ,u):=λ r A0 hc hd k=>by
  cases k with
  | zero=>rfl
  | succ k=>unfold aG;rw[hc];simp only[hd]
 cases hp:rpF u with
 | none =>
   left;refine⟨by unfold eh;rw[hp],A2 ?_⟩;cases hc:eM u with
   | none=>rfl
   | some x =>obtain⟨r,A0⟩:=x;have ⟨hok,hu⟩:=kx hc;have:=(Al hok A0).1;rw[<- hu,hp] at this;cases this
 | some r =>
   (have hm:eh σ.time s u=if r.time<σ.time then none else (ey r.time s r.kind r.key r.num r.body).map λ s'=>(r.time,s',rpN u+6):=by unfold eh;rw[hp]);rw[hm];cases hkf:eo r.kind r.body with
   | false =>
     left;have hn:ey r.time s r.kind r.key r.num r.body=none:=by
      cases ha:ey r.time s r.kind r.key r.num r.body with
      | none=>rfl
      | some s' =>
        have ⟨h1,h2⟩:=tu ha;have A4:¬ 400<r.body.length:=by
         unfold rpF at hp;split at hp
         ·cases hp
         ·split at hp
          ·cases hp
          ·split at hp
           ·cases hp
           ·split at hp
            ·cases hp
            ·rename_i c4;cases hp;rw[not_or,not_or] at c4;exact c4.2.1
        unfold eo at hkf;split at hkf
        ·simp at hkf;omega
        ·rename_i k1;rw[if_pos (by omega),h2 k1] at hkf;cases hkf
     refine⟨by rw[hn];split<;>rfl,A2 ?_⟩;cases hc:eM u with
     | none=>rfl
     | some x =>obtain⟨r',A0⟩:=x;have ⟨hok,hu⟩:=kx hc;have:=(Al hok A0).1;rw[<- hu,hp] at this;cases this;rw[uH hok] at hkf;cases hkf
   | true =>
     have ⟨hok,hu,hlen⟩:=A9 hp hkf;(have hc:eM u=some (r,u.drop (rpN u+6)):=by have:=xI hok (u.drop (rpN u+6));rw[<- hu] at this;exact this);by_cases ht:r.time<σ.time
     ·left;refine⟨if_pos ht,A1 _ _ hc ?_⟩;unfold cL;rw[if_pos (Or.inl ht)]
     ·rw[if_neg ht];rcases sK h ho hB hok (by omega) with ⟨h1,h2⟩|⟨s',σ',h1,h2,h3,h4⟩
      ·left;exact⟨by rw[h1];rfl,A1 _ _ hc h2⟩
      ·right;have A3:=congrArg List.length hu;rw[List.length_append,hlen] at A3;refine⟨s',σ',rpN u+6,by rw[h1,h3];rfl,by rw[<- hlen,de];omega,by omega,λ k=>?_,h4,r,hok,h2⟩;show aG (k+1) σ u=_;rw[aG,hc];simp only[h2]
def wtE (E:Ent):Nat:=E.last*460+(E.last-E.vers.length)*60
def wtL:List Ent->Nat
 | []=>0
 | a::l=>wtE a+wtL l
theorem li (a:Ent)(l:List Ent)(key:List UInt8):aa (a::l) key=if a.key=key then a else aa l key:=by
 unfold aa;rw[List.find?_cons];by_cases h:a.key=key
 ·rw[if_pos h];simp[h]
 ·rw[if_neg h];(have:(a.key==key)=false:=by simpa using h);rw[this]
theorem sd {l:List Ent}{key:List UInt8}(h:∀ E∈l,E.key≠key):aa l key=⟨key,0,[]⟩:=by
 induction l with
 | nil=>rfl
 | cons a l ih=>rw[li,if_neg (h a List.mem_cons_self),ih (λ E hE=>h E (List.mem_cons_of_mem _ hE))]
theorem AB {l:List Ent}(hr:cA l)(E:Ent):wtL (bJ l E)+wtE (aa l E.key)=wtL l+wtE E:=by
 induction l with
 | nil=>simp[bJ,wtL,aa,wtE]
 | cons a l ih =>
   have ⟨h1,h2⟩:=List.pairwise_cons.1 hr;have ih:=ih h2;rw[cT,li];by_cases e:a.key=E.key
   ·rw[if_pos e,if_pos e];simp only[wtL];omega
   ·rw[if_neg e,if_neg e];split
    ·rename_i hlt;have hm:aa l E.key=⟨E.key,0,[]⟩:=sd (λ A hA he=>by
      have h3:=bK _ _ _ hlt (h1 A hA)
      exact iF h3 he.symm)
     rw[hm];simp only[wtL,wtE];simp;omega
    ·simp only[wtL];omega
structure Jb (σ:St):Prop where
 rise:cA σ.ents
 ent:∀ E∈σ.ents,E.vers.length<=E.last/\E.last<=4294967295
 many:σ.ents.length<=60
 log:σ.log.length<=wtL σ.ents
theorem Bo {l:List Ent}(h:∀ E∈l,E.last<=4294967295):wtL l<=l.length*2233382993400:=by
 induction l with
 | nil=>simp[wtL]
 | cons a l ih =>have h1:=ih (λ E hE=>h E (List.mem_cons_of_mem _ hE));have h2:=h a List.mem_cons_self;(have h3:wtE a<=2233382993400:=by unfold wtE;omega);rw[wtL,List.length_cons,Nat.add_mul];omega
theorem Jb.short {σ:St}(h:Jb σ):σ.log.length<140000000000000:=by
 have h1:=Bo (λ E hE=>(h.ent E hE).2);have h2:σ.ents.length*2233382993400<=60*2233382993400:=Nat.mul_le_mul_right _ h.many;have:=h.log;omega
theorem Jb.find {σ:St}(h:Jb σ)(key:List UInt8):(aa σ.ents key).vers.length<=(aa σ.ents key).last:=by
 rcases Nat.eq_zero_or_pos (aa σ.ents key).last with h0|h0
 ·unfold aa at h0 ⊢;cases hf:σ.ents.find? λ E=>E.key==key with
  | none=>simp
  | some E =>have:=(h.ent E (List.mem_of_find?_eq_some hf)).1;simpa using this
 ·exact (h.ent _ (cU (by omega))).1
theorem qY (l:List Ent)(E:Ent):(bJ l E).length<=l.length+1/\((∃ A∈l,A.key=E.key)->cA l->(bJ l E).length=l.length):=by
 induction l with
 | nil=>simp[bJ]
 | cons a l ih =>
   rw[cT];by_cases e:a.key=E.key
   ·rw[if_pos e];simp
   ·rw[if_neg e];split
    ·rename_i hlt;refine⟨by simp,?_⟩;rintro ⟨A,hA,hk⟩ hr;have ⟨h1,_⟩:=List.pairwise_cons.1 hr;rcases List.mem_cons.1 hA with rfl|hA
     ·exact absurd hk e
     ·exact absurd hk.symm (iF (bK _ _ _ hlt (h1 A hA)))
    ·refine⟨by simp;exact ih.1,?_⟩;rintro ⟨A,hA,hk⟩ hr;have ⟨_,h2⟩:=List.pairwise_cons.1 hr;rcases List.mem_cons.1 hA with rfl|hA
     ·exact absurd hk e
     ·rw[List.length_cons,List.length_cons,ih.2 ⟨A,hA,hk⟩ h2]
theorem Jb.redo {σ σ':St}{r:Rec}(h:Jb σ)(hr:gh r)(he:cL σ r=some σ'):Jb σ':=by
 unfold cL at he;split at he
 ·cases he
 ·rename_i hg;unfold ca at he;dsimp only at he;split at he
  ·cases he
  ·rename_i ho;split at he
   ·cases he
   ·rename_i hf;injection he with he;subst he;(have A8:aJ (aa σ.ents r.key) r.kind r.num=0:=by simpa using ho);have Ac:=eE hr.key;have A5:=cF σ.ents r.key;have Ab:=h.find r.key;obtain⟨E',A2⟩:∃ x,bf (aa σ.ents r.key) r.kind r.time r.num r.body=x:=⟨_,rfl⟩;(have A4:E'.key=r.key:=by rw[<- A2,jl,A5]);have hw:=AB h.rise E';rw[A4] at hw;have Aa:=hr.body;have A7:=de r.kind r.time r.key r.num r.body;have A0:E'.vers.length<=E'.last/\E'.last<=4294967295/\wtE (aa σ.ents r.key)+(20+r.key.length+r.body.length)<=wtE E':=by
     by_cases hk3:r.kind=3
     ·obtain⟨i,hi⟩:=(ge A8).1 hk3;have A6:=hr.none (by omega);(have A9:i<(aa σ.ents r.key).vers.length:=by obtain⟨v,hv,_⟩:=fg hi;exact (List.getElem?_eq_some_iff.1 hv).1);(have e:E'=⟨(aa σ.ents r.key).key,(aa σ.ents r.key).last,(aa σ.ents r.key).vers.eraseIdx i⟩:=by rw[<- A2];simp[bf,hk3,hi]);(have A1:E'.vers.length=(aa σ.ents r.key).vers.length-1:=by rw[e];simp[List.length_eraseIdx,A9]);(have A3:E'.last=(aa σ.ents r.key).last:=by rw[e]);have Ad:(aa σ.ents r.key).last<=4294967295:=(h.ent _ (cU (by omega))).2;rw[A6];unfold wtE;rw[A1,A3];simp only[List.length_nil];omega
     ·have hn:r.num=(aa σ.ents r.key).last+1:=by
       rcases Nat.eq_or_lt_of_le (Nat.le_refl r.num) with _|_
       ·exact Classical.byContradiction λ hne=>hg (Or.inr ⟨hk3,hne⟩)
       ·omega
      (have e:E'=⟨(aa σ.ents r.key).key,r.num,(aa σ.ents r.key).vers++[⟨r.num,r.time,r.kind==2,r.body⟩]⟩:=by rw[<- A2];simp[bf,hk3]);(have A1:E'.vers.length=(aa σ.ents r.key).vers.length+1:=by rw[e];simp);(have A3:E'.last=(aa σ.ents r.key).last+1:=by rw[e,hn]);have:=hr.num;unfold wtE;rw[A1,A3];omega
    refine⟨iJ h.rise _,λ E hE=>?_,?_,?_⟩
    ·rw[A2] at hE;rcases fw hE with rfl|hE
     ·exact⟨A0.1,A0.2.1⟩
     ·exact h.ent E hE
    ·rw[A2];have hp:=qY σ.ents E';by_cases hl:(aa σ.ents r.key).last=0
     ·have:σ.ents.length<60:=by
       rcases Nat.lt_or_ge σ.ents.length 60 with h1|h1
       ·exact h1
       ·exact absurd ⟨hl,h1⟩ hf
      show (bJ σ.ents E').length<=60;omega
     ·show (bJ σ.ents E').length<=60;rw[hp.2 ⟨_,cU hl,by rw[A5,A4]⟩ h.rise];exact h.many
    ·show (σ.log++aF _ _ _ _ _).length<=wtL (bJ σ.ents _);rw[A2,List.length_append,A7];have:=h.log;omega
theorem jY:∀ (m:Nat) (σ σ':St) (t rest:List UInt8),Jb σ->aG m σ t=(σ',rest)->Jb σ':=by
 intro m;induction m with
 | zero =>intro σ σ' t rest h e;injection e with e1 _;exact e1 ▸ h
 | succ m ih =>
   intro σ σ' t rest h e;unfold aG at e;cases hc:eM t with
   | none =>rw[hc] at e;injection e with e1 _;exact e1 ▸ h
   | some x =>
     obtain⟨r,rs⟩:=x;rw[hc] at e;cases hr:cL σ r with
     | none =>simp only[hr] at e;injection e with e1 _;exact e1 ▸ h
     | some σ1 =>simp only[hr] at e;exact ih σ1 σ' rs rest (h.redo (kx hc).1 hr) e
theorem Ab {σ:St}(ho:fK σ)(key:List UInt8):ld (aa σ.ents key)\/aa σ.ents key=⟨key,0,[]⟩:=by
 by_cases h:(aa σ.ents key).last=0
 ·exact Or.inr (df ho.pos h).2
 ·exact Or.inl (ho.ok _ (cU h))
theorem xH {σ:St}(ho:fK σ)(key body:List UInt8)(k t n:Nat)(hkey:aA key=true)(hb:body.length<=400)(ht:t<=253402300799)(h0:aJ (aa σ.ents key) k n=0)(hn:k≠3->n=(aa σ.ents key).last+1):ld (bf (aa σ.ents key) k t n body):=by
 have hf:=Ab ho key;have A2:=cF σ.ents key;obtain⟨E,hE⟩:∃ E,aa σ.ents key=E:=⟨_,rfl⟩;rw[hE] at hf A2 h0 hn ⊢;by_cases k3:k=3
 ·subst k3;unfold bf;rw[if_pos rfl];unfold aJ at h0;rw[if_pos rfl] at h0;rcases hf with hf|hf
  ·have A0:=List.eraseIdx_sublist (l:=E.vers) (k:=(cV E.vers n).getD 0);exact⟨hf.key,hf.last,Nat.le_trans A0.length_le hf.len,λ v hv=>hf.num v (A0.subset hv),hf.rise.sublist A0,λ v hv=>hf.time v (A0.subset hv),λ v hv=>hf.body v (A0.subset hv)⟩
  ·rw[hf] at h0;simp[cV] at h0
 ·have A4:=hn k3;unfold bf;rw[if_neg k3];unfold aJ at h0;rw[if_neg k3] at h0;have A3:E.vers.length<20:=by
   split at h0
   ·cases h0
   ·split at h0
    ·cases h0
    ·omega
  have A1:(∀ v∈E.vers,v.num<=E.last)/\(E.vers.Pairwise λ a b=>a.num<b.num)/\(∀ v∈E.vers,v.time<=253402300799)/\(∀ v∈E.vers,v.body.length<=400):=by
   rcases hf with hf|hf
   ·exact⟨hf.num,hf.rise,hf.time,hf.body⟩
   ·rw[hf];simp
  obtain⟨h1,h2,h3,h4⟩:=A1;refine⟨by rw[A2];exact hkey,by show 0<n;omega,by simp;omega,?_,?_,?_,?_⟩
  ·intro v hv;rcases List.mem_append.1 hv with hv|hv
   ·have:=h1 v hv;show v.num<=n;omega
   ·rw[List.mem_singleton.1 hv];exact Nat.le_refl _
  ·rw[List.pairwise_append];refine⟨h2,List.pairwise_singleton _ _,λ a ha b hb=>?_⟩;rw[List.mem_singleton.1 hb];have:=h1 a ha;show a.num<n;omega
  ·intro v hv;rcases List.mem_append.1 hv with hv|hv
   ·exact h3 v hv
   ·rw[List.mem_singleton.1 hv];exact ht
  ·intro v hv;rcases List.mem_append.1 hv with hv|hv
   ·exact h4 v hv
   ·rw[List.mem_singleton.1 hv];exact hb
theorem yP {σ σ':St}{r:Rec}(ho:fK σ)(hr:gh r)(h:cL σ r=some σ'):fK σ':=by
 unfold cL at h;split at h
 ·cases h
 ·rename_i hn;unfold ca at h;split at h
  ·cases h
  ·rename_i h0;split at h
   ·cases h
   ·injection h with h;rw[<- h];refine⟨iJ ho.rise _,λ E hE=>?_,hr.time⟩;rcases fw hE with e|e
    ·rw[e];exact xH ho r.key r.body r.kind r.time r.num hr.key hr.body hr.time (by simpa using h0) (λ hk=>by
      by_cases e:r.num=(aa σ.ents r.key).last+1
      ·exact e
      ·exact absurd (Or.inr ⟨hk,e⟩) hn)
    ·exact ho.ok E e
structure Fol (log:List UInt8)(σ:St)(s:Rst)(a:Nat):Prop where
 twin:cH 4294967296 σ s
 ok:fK σ
 jb:Jb σ
 le:a<=log.length
 logs:σ.log=log.take a
 ex:∃ d,(∀ k,aG (d+k) st0 log=aG k σ (log.drop a))/\d<=a
theorem Fol.at_ {log:List UInt8}{σ:St}{s:Rst}{a:Nat}(h:Fol log σ s a):a=σ.log.length/\a<140000000000000:=by
 have h1:=congrArg List.length h.logs;rw[List.length_take] at h1;have h2:=h.jb.short;have h3:=h.le;omega
theorem Fol.stop {log:List UInt8}{σ:St}{s:Rst}{a:Nat}(h:Fol log σ s a)(hm:eh σ.time s (log.drop a)=none):aG log.length st0 log=(σ,log.drop a):=by
 obtain⟨d,hd,A0⟩:=h.ex;have A1:=h.le;rcases oC h.twin h.ok (Nat.le_refl _) (log.drop a) with ⟨_,h2⟩|⟨s',σ',n,h1,_⟩
 ·rw[show log.length=d+(log.length-d) by omega,hd,h2]
 ·rw[hm] at h1;cases h1
theorem Fol.next {log:List UInt8}{σ:St}{s s':Rst}{a t n:Nat}(h:Fol log σ s a)(hm:eh σ.time s (log.drop a)=some (t,s',n)):∃ σ',σ'.time=t/\Fol log σ' s' (a+n)/\0<n/\a+n<=log.length:=by
 obtain⟨d,hd,A1⟩:=h.ex;have A2:=h.le;rcases oC h.twin h.ok (Nat.le_refl _) (log.drop a) with ⟨h1,_⟩|⟨s2,σ',n2,h1,h2,h3,h4,h5,r,h6,h7⟩
 ·rw[hm] at h1;cases h1
 ·rw[hm] at h1;cases h1;rw[List.length_drop] at h3;have A0:Jb σ':=h.jb.redo h6 h7;refine⟨σ',rfl,⟨h5,yP h.ok h6 h7,A0,by omega,?_,d+1,λ k=>?_,by omega⟩,by omega,by omega⟩
  ·obtain⟨c,e1,e2,_⟩:=oh 1 σ σ' (log.drop a) ((log.drop a).drop n) (by rw[h4 0];rfl);rw[e2,h.logs];(have e3:c=(log.drop a).take n:=by have:=congrArg (List.take n) e1;(have hc:c.length=n:=by have:=congrArg List.length e1;simp only[List.length_append,List.length_drop] at this;omega);rw[List.take_append_of_le_length (Nat.le_of_eq hc.symm),List.take_of_length_le (l:=c) (Nat.le_of_eq hc)] at this;exact this.symm);rw[e3,List.take_add]
  ·rw[show d+1+k=d+(k+1) by omega,hd,h4,List.drop_drop]
open Go.RowKit
theorem wF (a b:List UInt8):aI (a++b)=aI a*256 ^ b.length+aI b:=by
 show List.foldl _ 0 (a++b)=_;rw[List.foldl_append];exact nR b (aI a)
theorem oY (l:List UInt8){k n:Nat}(h:k<=n):aI (l.take k)<=aI (l.take n):=by
 have e:l.take n=l.take k++(l.take n).drop k:=by
  have:=(List.take_append_drop k (l.take n)).symm
  rwa [List.take_take,Nat.min_eq_left h] at this
 rw[e,wF];have:=Nat.le_mul_of_pos_right (aI (l.take k)) (Nat.pow_pos (show 0<256 by omega):0<256 ^ ((l.take n).drop k).length);omega
theorem vz (s:ByteArray)(a k:Nat)(h:a+k<s.size):aI ((s.data.toList.drop a).take (k+1))=256*aI ((s.data.toList.drop a).take k)+s[a+k].toNat:=by
 have hl:a+k<s.data.toList.length:=by rw[Array.length_toList];exact h
 rw[List.take_add_one,List.getElem?_drop,List.getElem?_eq_getElem hl,Option.toList_some,nM];have:s.data.toList[a+k]=s[a+k]:=by rw[Array.getElem_toList];rfl
 rw[this];omega
theorem iU (s:ByteArray)(a n:Nat)(w:World)(h:a+n<=s.size)(hn:n<=8)(hs:s.size<=9223372036854775807) :
 Calls Tryz.prog 101 #[.string s,.int .i64 a,.int .i64 n] w λ e w'=>(∃ v:Int,e=.returned (.int .i64 v)/\(v=(aI ((s.data.toList.drop a).take n):Nat)\/(v = -1/\18014398509481984<=aI ((s.data.toList.drop a).take n))))/\w'=w:=by
 go_enter Tryz.func101,Tryz.ntmps101;go_wp2;go_loop [7,8] (λ x i=>∃ k X:Nat,k<=n/\i=.int .i64 k/\x=.int .i64 X/\X<4611686018427387904/\Hid (aI ((s.data.toList.drop a).take k)=X)) (λ _ i=>n-(intOf i).toNat);case atStart=>exact⟨0,0,Nat.zero_le _,rfl,rfl,by omega,rfl⟩
 case round =>
  obtain⟨k,X,hk,rfl,rfl,hX,hu⟩:=hrel;by_cases hlt:k<n
  ·by_cases hb:18014398509481984<=X
   ·(have HB:Hid (18014398509481984<=aI ((s.data.toList.drop a).take n)):=by have h1:=oY (s.data.toList.drop a) hk;rw[hu.out] at h1;exact Nat.le_trans hb h1);(have A0:(18014398509481984:Int)<=(X:Int):=by omega);clear hu hb;go_wp2;go_ret;exact⟨⟨-1,rfl,Or.inr ⟨rfl,HB.out⟩⟩,rfl⟩
   ·(have A3:a+k<s.size:=by omega);have HC:Hid _:=s[a+k].toNat_lt;(have HN:Hid (aI ((s.data.toList.drop a).take (k+1))=256*X+s[a+k].toNat):=by show _=_;rw[vz s a k A3,hu.out]);(have A0:¬ (18014398509481984:Int)<=(X:Int):=by omega);(have A1:(X:Int)<18014398509481984:=by omega);have HX:Hid _:=hX;have A2:decide ((18014398509481984:Int)<=(X:Int))=false:=decide_eq_false A0;clear hu hb hX A0 A1;go_wp2;have A4:=HC.out;have A1:=of_decide_eq_false A2;refine⟨⟨k+1,256*X+s[a+k].toNat,by omega,by go_num,congrArg (Value.int .i64) ?_,by omega,HN⟩,by simp[intOf];omega⟩;unfold wrap64;omega
  ·(obtain rfl:k=n:=by omega);have HU:Hid _:=hu.out;clear hu;go_wp2;go_ret;exact⟨⟨_,rfl,Or.inl (congrArg Nat.cast HU.out).symm⟩,rfl⟩
theorem ze (n:Int)(h0:0<=n)(h1:n<2 ^ 64):IntKind.u64.wrap n=n:=by
 have:IntKind.u64.wrap n=n%18446744073709551616:=by simp[IntKind.wrap,IntKind.bits,IntKind.signed]
 rw[this];omega
theorem or8 (F c:Nat)(hF:F<72057594037927936)(hc:c<256):bits .or .u64 ((F:Int)*256) (c:Int)=((F*256+c:Nat):Int):=by
 rw[bits_join .u64 64 (by decide) ze 8 ((F:Int)*256) c (by omega) (by omega) (by omega) (by omega) (by omega) (by omega)];omega
theorem Bv (L:List UInt8)(a b:Nat):(⟨L.toArray⟩:ByteArray).extract a b=⟨((L.drop a).take (b-a)).toArray⟩:=by
 apply ByteArray.ext;apply Array.toList_inj.1;rw[Lib.extract_data]
def iS (w:World)(p:Nat)(s:Rdr):Prop:=w.heap[p]?=some (.cells #[.string ⟨s.rest.toArray⟩,.bool s.short] 251 (0,0))
theorem kH {w:World}{p:Nat}{s:Rdr}(h:iS w p s):w.cell? ⟨p,0,none⟩=some (.string ⟨s.rest.toArray⟩)/\w.cell? ⟨p,1,none⟩=some (.bool s.short):=by
 unfold iS at h;simp[World.cell?,h]
theorem kF (p n:Nat)(s:Rdr)(w:World)(h:iS w p s)(hn:n<=9223372036854775807) :
 Calls Tryz.prog 158 #[.pointer (some ⟨p,0,none⟩),.int .i64 n] w λ e w'=>e=.returned (.string ⟨(s.text n).toArray⟩)/\iS w' p (s.go n)/\Off (λ k=>k=p) w w'/\w'.heap.size=w.heap.size:=by
 obtain⟨c0,c1⟩:=kH h;have f0:w.frozen? ⟨p,0,none⟩=false:=by simp[World.frozen?,show w.heap[p]?=_ from h]
 have f1:w.frozen? ⟨p,1,none⟩=false:=by simp[World.frozen?,show w.heap[p]?=_ from h]
 have HR:Hid _:=h;have A1:p<w.heap.size:=(gL h);clear h;have A2:(⟨s.rest.toArray⟩:ByteArray).size=s.rest.length:=by rw[Lib.size_eq]
 go_enter Tryz.func158,Tryz.ntmps158;by_cases hs:s.rest.length<n
 ·(have A0:(s.rest.length:Int)<(n:Int):=by omega);(have HT:Hid (s.text n=[]):=by show _=_;unfold Rdr.text;rw[if_pos hs]);(have HG:Hid (s.go n=⟨[],true⟩):=by show _=_;unfold Rdr.go;rw[if_pos hs]);go_wp2;go_ret;exact⟨by rw[HT.out];rfl,by rw[HG.out];exact ah (ah HR.out),((Off.refl (λ k=>k=p) _).set p 0 _ (Or.inl rfl)).set p 1 _ (Or.inl rfl),by simp⟩
 ·(have A0:¬ (s.rest.length:Int)<(n:Int):=by omega);(have HT:Hid (s.text n=s.rest.take n):=by show _=_;unfold Rdr.text;rw[if_neg hs]);(have HG:Hid (s.go n=⟨s.rest.drop n,s.short⟩):=by show _=_;unfold Rdr.go;rw[if_neg hs]);go_wp2;go_ret;refine⟨?_,?_,(Off.refl (λ k=>k=p) _).set p 0 _ (Or.inl rfl),by simp⟩
  ·rw[HT.out,Bv];simp
  ·rw[HG.out];have:=ah (i:=0) (v:=.string ⟨(s.rest.drop n).toArray⟩) HR.out;(have e:(⟨s.rest.toArray⟩:ByteArray).extract n s.rest.length=⟨(s.rest.drop n).toArray⟩:=by rw[Bv,List.take_of_length_le (by simp)]);rw[e];exact this
theorem dQ (p n:Nat)(s:Rdr)(w:World)(h:iS w p s)(hn:n<=8) :
 Calls Tryz.prog 159 #[.pointer (some ⟨p,0,none⟩),.int .i64 n] w λ e w'=>e=.returned (.int .u64 (aI (s.text n):Nat))/\iS w' p (s.go n)/\Off (λ k=>k=p) w w'/\w'.heap.size=w.heap.size:=by
 have HT:Hid _:=kF p n s w h (by omega);have A0:(s.text n).length<=8:=by
  unfold Rdr.text;split
  ·simp
  ·rw[List.length_take];omega
 obtain⟨T,hT⟩:∃ T,s.text n=T:=⟨_,rfl⟩;rw[hT] at A0 HT ⊢;obtain⟨S,hS⟩:∃ S:ByteArray,S=⟨T.toArray⟩:=⟨_,rfl⟩;have hd:S.data.toList=T:=by rw[hS]
 have A2:S.size=T.length:=by rw[hS];exact List.size_toArray
 rw[<- hS] at HT;rw[<- hd];have A3:S.size<=8:=by omega
 clear hS A2 hd A0 hT h;go_enter Tryz.func159,Tryz.ntmps159;go_wp2_with (go_at_call 158;refine Calls.mono HT.out ?_;rintro e w1 ⟨rfl,r1,o1,z1⟩);have HR:Hid _:=r1;have HO:Hid _:=o1;have HZ:Hid _:=z1;clear r1 o1 z1 HT;go_loop [6,13] (λ nn i=>∃ k:Nat,k<=S.size/\i=.int .i64 k/\nn=.int .u64 ((aI (S.data.toList.take k):Nat):Int)) (λ _ i=>S.size-(intOf i).toNat);case atStart=>exact⟨0,Nat.zero_le _,rfl,rfl⟩
 case round =>
  obtain⟨k,hk,rfl,rfl⟩:=hrel;by_cases hlt:k<S.size
  ·(have A1:aI (S.data.toList.take k)<72057594037927936:=by have h1:=gy (S.data.toList.take k);(have h2:(S.data.toList.take k).length<=7:=by rw[List.length_take];omega);have h3:256 ^ (S.data.toList.take k).length<=256 ^ 7:=Nat.pow_le_pow_right (by omega) h2;omega);(have HX:Hid (aI (S.data.toList.take (k+1))=aI (S.data.toList.take k)*256+S[k].toNat):=by show _=_;rw[aV S k hlt,nM]);obtain⟨F,hF⟩:∃ F,aI (S.data.toList.take k)=F:=⟨_,rfl⟩;rw[hF] at A1 HX ⊢;have hc:=(S[k]).toNat_lt;have HB:Hid _:=or8 F S[k].toNat A1 (by omega);go_wp2;exact⟨⟨k+1,by omega,by go_num,by rw[HB.out,HX.out]⟩,by simp[intOf];omega⟩
  ·(obtain rfl:k=S.size:=by omega);rw[List.take_of_length_le (by rw[Lib.size_eq];exact Nat.le_refl _)];go_wp2;go_ret;exact⟨rfl,HR.out,HO.out,HZ.out⟩
end Go.Proofs.YtmehkneofinmiaaGreatDoor

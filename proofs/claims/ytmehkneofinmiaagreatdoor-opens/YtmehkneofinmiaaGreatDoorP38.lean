/-part 38-/
import Derived.Test.YtmehkneofinmiaaGreatDoorP37
namespace Go.Proofs.YtmehkneofinmiaaGreatDoor
open Go.RowKit
theorem zl (l:List UInt8)(w:World)(hT:Tab w):Calls Tryz.prog 172 #[.string ⟨l.toArray⟩] w λ e w'=>e=.returned (.tuple #[.int .i64 (dN l).1,.bool (dN l).2])/\Below w.heap.size w w':=by
 refine (pb ⟨l.toArray⟩ w hT).mono ?_;rintro e w' ⟨hd,hb⟩;refine⟨?_,hb⟩;rcases hd with ⟨A0,a,b,hs,rfl⟩|⟨hn,rfl⟩
 ·(have A1:Cal.IsStamp A0 l:=by simpa using hs);have h:∃ A0:Int,0<=A0/\A0<=253402300799/\Cal.IsStamp A0 l:=⟨A0,a,b,A1⟩;have hc:=Classical.choose_spec h;have e1:=og A1 hc.2.2 a b hc.1 hc.2.1;unfold dN;rw[dif_pos h,<- e1]
 ·(have h:¬ ∃ A0:Int,0<=A0/\A0<=253402300799/\Cal.IsStamp A0 l:=by rintro ⟨A0,a,b,hs⟩;exact hn A0 a b (by simpa using hs));unfold dN;rw[dif_neg h]
theorem zN (value:List UInt8)(w:World)(hs:value.length<=67108864) :
 Calls Tryz.prog 171 #[.string ⟨value.toArray⟩] w λ e w'=>Below w.heap.size w w'/\∃ o cp,e=.returned (.tuple #[.agg #[.bool (aT value).1,.slice o (aT value).2.2.length cp],.bool (aT value).2.1])/\w'.ownsRow (w.heap.size+1) 303 2 (.slice o (aT value).2.2.length cp) (aT value).2.2.length (bW (aT value).2.2):=by
 have hz:(⟨value.toArray⟩:ByteArray).size=value.length:=by rw[Lib.size_eq]
 have A0:(⟨(Lib.trimS value [32,9]).toArray⟩:ByteArray).size=(Lib.trimS value [32,9]).length:=by rw[Lib.size_eq]
 have A3:=jN value;refine (rk ⟨value.toArray⟩ ⟨(Lib.trimS value [32,9]).toArray⟩ w (by simp) (by rw[hz];exact hs) (by rw[A0];omega)).mono ?_;unfold aT wJ;show ∀ e w',mP (Lib.trimS value [32,9]) w e w'->_;generalize Lib.trimS value [32,9]=l;rintro e w' ⟨hb,⟨hl,rfl⟩|⟨hl,⟨hn,rfl⟩|⟨a,v,ha,rfl,ho⟩⟩⟩
 ·rw[if_pos hl];exact⟨hb,none,0,rfl,rfl,Or.inl ⟨rfl,rfl⟩⟩
 ·rw[if_neg hl,hn];exact⟨hb,none,0,rfl,rfl,Or.inl ⟨rfl,rfl⟩⟩
 ·rw[if_neg hl,ha];rcases ho.2 with ⟨rfl,h0⟩|⟨g,A1,A2,rfl,r⟩
  ·have:a=[]:=List.eq_nil_of_length_eq_zero h0;subst this;exact⟨hb,none,0,rfl,ho⟩
  ·exact⟨hb,some ⟨g,0,none⟩,A1,rfl,ho⟩
def kZ (c:Cst):Array Value:=#[.bool c.s0,.bool c.s1,.bool c.s2,.bool c.s3]
structure Fa (x:World)(g q:Nat)(RC:Array Value)(c:Cst):Prop where
 blk:x.heap[g]?=some (.cells RC 130 (0,0))
 size:RC.size=21
 ask:∀ i,1<=i->i<=10->RC[i+6]?=some (c.cell i)
 sn:x.heap[q]?=some (.cells (kZ c) 195 (0,0))
 ne:g≠q
theorem Fa.below {x y:World}{g q:Nat}{RC:Array Value}{c:Cst}(h:Fa x g q RC c)(hb:Below x.heap.size x y):Fa y g q RC c :=
 ⟨(hb.block g (gL h.blk)).trans h.blk,h.size,h.ask,(hb.block q (gL h.sn)).trans h.sn,h.ne⟩
theorem Cst.seen {c d:Cst}(hd:∀ j,14<=j->j<18->d.cell j=c.cell j):kZ d=kZ c:=by
 have h0:=hd 14 (by omega) (by omega);have h1:=hd 15 (by omega) (by omega);have h2:=hd 16 (by omega) (by omega);have h3:=hd 17 (by omega) (by omega);simp only[Cst.cell] at h0 h1 h2 h3;unfold kZ;rw[h0,h1,h2,h3]
theorem Fa.set {x:World}{g q:Nat}{RC:Array Value}{c d:Cst}(h:Fa x g q RC c)(i:Nat)(v:Value)(h1:1<=i)(h2:i<=10)(hv:d.cell i=v)(hd:∀ j,j<18->j≠i->d.cell j=c.cell j):Fa (x.setCell ⟨g,i+6,none⟩ v) g q (RC.setIfInBounds (i+6) v) d:=by
 refine⟨ah h.blk,by rw[Array.size_setIfInBounds];exact h.size,λ j a b=>?_,?_,h.ne⟩
 ·by_cases e:j=i
  ·subst e;rw[Array.getElem?_setIfInBounds_self_of_lt (by rw[h.size];omega),hv]
  ·rw[Array.getElem?_setIfInBounds_ne (by omega),h.ask j a b,hd j (by omega) e]
 ·rw[Cst.seen (λ j a b=>hd j b (by omega)),<- h.sn];exact Deep.blk_setCell_other x ⟨g,i+6,none⟩ v q (λ e=>h.ne e.symm)
theorem Fa.see {x:World}{g q:Nat}{RC:Array Value}{c d:Cst}(h:Fa x g q RC c)(i:Nat)(hi:i<4)(hv:d.cell (i+14)=.bool true)(hd:∀ j,j<18->j≠i+14->d.cell j=c.cell j):Fa (x.setCell ⟨q,i,none⟩ (.bool true)) g q RC d:=by
 refine⟨?_,h.size,λ j a b=>by rw[h.ask j a b,hd j (by omega) (by omega)],?_,h.ne⟩
 ·rw[<- h.blk];exact Deep.blk_setCell_other x ⟨q,i,none⟩ _ g h.ne
 ·have:=ah (i:=i) (v:=.bool true) h.sn;rw[this];congr 2;have h0:=hd 14 (by omega);have h1:=hd 15 (by omega);have h2:=hd 16 (by omega);have h3:=hd 17 (by omega);simp only[Cst.cell] at h0 h1 h2 h3;rcases (by omega:i=0\/i=1\/i=2\/i=3) with rfl|rfl|rfl|rfl
  ·simp only[Cst.cell] at hv;simp[kZ,<- hv,<- h1 (by omega),<- h2 (by omega),<- h3 (by omega)]
  ·simp only[Cst.cell] at hv;simp[kZ,<- hv,<- h0 (by omega),<- h2 (by omega),<- h3 (by omega)]
  ·simp only[Cst.cell] at hv;simp[kZ,<- hv,<- h0 (by omega),<- h1 (by omega),<- h3 (by omega)]
  ·simp only[Cst.cell] at hv;simp[kZ,<- hv,<- h0 (by omega),<- h1 (by omega),<- h2 (by omega)]
theorem Fa.cell {x:World}{g q:Nat}{RC:Array Value}{c:Cst}(h:Fa x g q RC c)(i:Nat)(h1:1<=i)(h2:i<=10):x.cell? ⟨g,i+6,none⟩=some (c.cell i):=by
 simp only[World.cell?,h.blk];exact h.ask i h1 h2
theorem Fa.seen {x:World}{g q:Nat}{RC:Array Value}{c:Cst}(h:Fa x g q RC c)(i:Nat)(hi:i<4):x.cell? ⟨q,i,none⟩=some (c.cell (i+14)):=by
 simp only[World.cell?,h.sn];rcases (by omega:i=0\/i=1\/i=2\/i=3) with rfl|rfl|rfl|rfl<;>rfl
theorem Fa.fz {x:World}{g q:Nat}{RC:Array Value}{c:Cst}(h:Fa x g q RC c)(i:Nat):x.frozen? ⟨g,i,none⟩=false/\x.frozen? ⟨q,i,none⟩=false:=by
 constructor
 ·simp[World.frozen?,h.blk]
 ·simp[World.frozen?,h.sn]
def b7 (c:UInt8):Bool:=c != 58
theorem Bu (l:List UInt8):Lib.cut l [58]=(l.takeWhile b7,(l.dropWhile b7).drop 1,!(l.dropWhile b7).isEmpty):=by
 have hd:l.takeWhile b7++l.dropWhile b7=l:=List.takeWhile_append_dropWhile;have hm:∀ c∈l.takeWhile b7,c≠58:=λ c hc=>by have:=jt b7 l c hc;simpa [b7] using this
 cases hr:l.dropWhile b7 with
 | nil =>rw[hr,List.append_nil] at hd;rw[hd] at hm ⊢;rw[lE l [] 58 hm];rfl
 | cons c r =>(have hc:c=58:=by have:=List.head_dropWhile_not b7 (l:=l) (by rw[hr];simp);simp only[hr,List.head_cons] at this;simpa [b7] using this);subst hc;have:=eB (l.takeWhile b7) r [] 58 hm;rw[hr] at hd;rw[show l.takeWhile b7++[58]++r=l by rw[List.append_assoc];exact hd] at this;rw[this];rfl
noncomputable def eD:Nat->Cnd->List UInt8->Option (Cnd×List UInt8)
 | 0,_,_=>none
 | f+1,k,t=>match bh t with
   | none=>none
   | some x=>if x.1=[] then some (k,x.2) else match gM k x.1 with
     | none=>none
     | some k'=>eD f k' x.2
noncomputable def da (l:List UInt8):Option (Nat×TgR×Cnd×List UInt8):=match bh l with
 | none=>none
 | some x=>match gn x.1 with
   | none=>none
   | some y=>match eD (x.2.length+1) k0 x.2 with
     | none=>none
     | some z=>some (y.1,y.2,z.1,z.2)
noncomputable def dr (l:List UInt8):Except Nat (Nat×TgR×Cnd×List UInt8) :=
 if 2000<l.length then .error 413 else
  match da l with
  | none=>.error 400
  | some x =>
    if x.2.2.2≠[]/\¬ (x.1=3/\x.2.1.tg=2) then .error 400
    else if 400<x.2.2.2.length then .error 413
    else if mK x.1 x.2.1.tg then .ok x else .error 405
theorem ma (b:UInt8)(l:List UInt8):((Lib.cut l [b]).2.2=true/\l=(Lib.cut l [b]).1++[b]++(Lib.cut l [b]).2.1)\/((Lib.cut l [b]).2.2=false/\l=(Lib.cut l [b]).1):=by
 have hd:l.takeWhile (λ c=>c != b)++l.dropWhile (λ c=>c != b)=l:=List.takeWhile_append_dropWhile;have hm:∀ c∈l.takeWhile (λ c=>c != b),c≠b:=λ c hc=>by have:=jt (λ c=>c != b) l c hc;simpa using this
 rcases lS (λ c=>c != b) l with h|⟨c,r,h,hc⟩
 ·right;rw[h,List.append_nil] at hd;rw[hd] at hm;rw[lE l [] b hm];exact⟨rfl,rfl⟩
 ·left;(have A0:c=b:=by simpa using hc);rw[h,A0] at hd;have:=eB (l.takeWhile (λ c=>c != b)) r [] b hm;rw[show l.takeWhile (λ c=>c != b)++[b]++r=l by rw[List.append_assoc];exact hd] at this;rw[this];refine⟨rfl,?_⟩;show l=l.takeWhile (λ c=>c != b)++[b]++r;rw[List.append_assoc];exact hd.symm
theorem vD {c:UInt8}(h:dp c=true):aK c=false:=by
 cases hc:aK c with
 | false=>rfl
 | true =>unfold aK at hc;simp at hc;rcases hc with rfl|rfl<;>exact absurd h (by decide)
theorem wB {c:UInt8}(h:jq c=true):aK c=false:=by
 cases hc:aK c with
 | false=>rfl
 | true =>unfold aK at hc;simp at hc;rcases hc with rfl|rfl<;>exact absurd h (by decide)
theorem yC {c:UInt8}(h:isD c=true):aK c=false:=by
 cases hc:aK c with
 | false=>rfl
 | true =>unfold aK at hc;simp at hc;rcases hc with rfl|rfl<;>exact absurd h (by decide)
theorem kv {l:List UInt8}(h:aA l=true):l.any aK=false:=by
 unfold aA at h;simp only[Bool.and_eq_true] at h;rw[List.any_eq_false];intro c hc;have:=wB (List.all_eq_true.1 h.2.2 c hc);simp[this]
theorem tw (k:Cnd)(line:List UInt8)(h:line.any aK=true):gM k line=none:=by
 unfold gM;rcases ma 58 line with ⟨h1,h2⟩|⟨h1,h2⟩
 ·rw[h1];cases hn:dx (Lib.cut line [58]).1 with
  | false=>rfl
  | true =>
    cases hv:(Lib.cut line [58]).2.1.any aK with
    | true=>rfl
    | false =>exfalso;unfold dx at hn;simp only[Bool.and_eq_true] at hn;(have h3:(Lib.cut line [58]).1.any aK=false:=by rw[List.any_eq_false];intro c hc;have:=vD (List.all_eq_true.1 hn.1 c hc);simp[this]);rw[h2,List.any_append,List.any_append,h3,hv] at h;exact absurd h (by decide)
 ·rw[h1];rfl
theorem kL:∀ (f:Nat) (k:Cnd) (t:List UInt8),eD f k t=dj f k t
 | 0,_,_=>rfl
 | f+1,k,t=>by
   rw[eD,dj,qy t]
   cases h1:(Lib.cut t [13,10]).2.2 with
   | false=>rw[if_neg (by simp),if_neg (by simp)]
   | true =>
     rw[if_pos rfl]
     cases h2:(Lib.cut t [13,10]).1.any aK with
     | true =>
       rw[if_neg (by simp),if_neg (λ e=>by rw[e] at h2;cases h2),tw k _ h2]
     | false =>
       rw[if_pos ⟨rfl,rfl⟩]
       simp only
       split
       ·rfl
       ·cases hl:gM k (Lib.cut t [13,10]).1 with
        | none=>rfl
        | some k'=>exact kL f k' _
theorem uW {q:List UInt8}{n:Nat}(h:gj q=some n):q.any aK=false:=by
 rw[qK] at h;split at h
 ·rename_i hh;cases ha:q.all isD with
  | false =>have:=j9 ha;omega
  | true =>rw[List.any_eq_false];intro c hc;have:=yC (List.all_eq_true.1 ha c hc);simp[this]
 ·cases h
theorem kA {p q:List UInt8}(h:Lib.hasPrefix p q=true):p=q++Lib.trimPrefix p q:=by
 rw[iG,decide_eq_true_iff] at h;rw[lG p q h];have:=List.take_append_drop q.length p;rw[h] at this;exact this.symm
theorem rJ {key q:List UInt8}{t:Tgt}(h:dY key q=some t):q.any aK=false:=by
 unfold dY at h;split at h
 ·rename_i e;rw[e];decide
 ·split at h
  ·rename_i e;have hs:=kA e;cases hn:gj (Lib.trimPrefix q [118,61]) with
   | none=>rw[hn] at h;cases h
   | some n =>rw[hs,List.any_append,uW hn];decide
  ·cases h
theorem pa {tt:List UInt8}{t:Tgt}(h:bi tt=some t):tt.any aK=false:=by
 unfold bi at h;split at h
 ·rename_i e;rw[kA e,List.any_append];obtain⟨p,hp⟩:∃ p,Lib.trimPrefix tt [47]=p:=⟨_,rfl⟩;rw[hp] at h ⊢;have:p.any aK=false:=by
   unfold kQ at h;split at h
   ·rename_i e;rw[e];rfl
   ·split at h
    ·rename_i e;split at h
     ·rename_i hk;rw[kA e,List.any_append,kv hk];decide
     ·cases h
    ·split at h
     ·rename_i hk;rcases ma 63 p with ⟨h1,h2⟩|⟨h1,h2⟩
      ·rw[h1,if_pos rfl] at h;rw[h2,List.any_append,List.any_append,kv hk,rJ h];decide
      ·rw[h2];exact kv hk
     ·cases h
  rw[this];decide
 ·cases h
theorem sP {l:List UInt8}{m:Nat}(h:dD l=some m):l.any aK=false:=by
 unfold dD at h;split at h
 ·rename_i e;rw[e];decide
 ·split at h
  ·rename_i e;rw[e];decide
  ·split at h
   ·rename_i e;rw[e];decide
   ·split at h
    ·rename_i e;rw[e];decide
    ·cases h
def cvR (x:Nat×Tgt×Cnd×List UInt8):Nat×TgR×Cnd×List UInt8:=(x.1+1,cvT x.2.1,x.2.2.1,x.2.2.2)
theorem tT (l:List UInt8):da l=(bF l).map cvR:=by
 unfold da bF;rw[qy l];cases h1:(Lib.cut l [13,10]).2.2 with
 | false=>rw[if_neg (by simp),if_neg (by simp)];rfl
 | true =>
   rw[if_pos rfl];cases h2:(Lib.cut l [13,10]).1.any aK with
   | true =>
     rw[if_neg (by simp)];by_cases h3:(Lib.cut (Lib.cut l [13,10]).1 [32]).2.2=true
     ·rw[if_pos h3];cases hm:dD (Lib.cut (Lib.cut l [13,10]).1 [32]).1 with
      | none=>rfl
      | some m =>
        cases ht:bi (Lib.cut (Lib.cut l [13,10]).1 [32]).2.1 with
        | none=>rfl
        | some t =>
          exfalso;rcases ma 32 (Lib.cut l [13,10]).1 with ⟨_,h5⟩|⟨h4,_⟩
          ·rw[h5,List.any_append,List.any_append,sP hm,pa ht] at h2;exact absurd h2 (by decide)
          ·rw[h3] at h4;cases h4
     ·rw[if_neg h3];rfl
   | false =>
     rw[if_pos ⟨rfl,rfl⟩];simp only;rw[tp,kL];by_cases h3:(Lib.cut (Lib.cut l [13,10]).1 [32]).2.2=true
     ·rw[if_pos h3,if_pos h3];cases hm:dD (Lib.cut (Lib.cut l [13,10]).1 [32]).1 with
      | none=>rfl
      | some m =>
        cases ht:bi (Lib.cut (Lib.cut l [13,10]).1 [32]).2.1 with
        | none=>rfl
        | some t =>
          simp only[Option.map_some];cases dj ((Lib.cut l [13,10]).2.1.length+1) k0 (Lib.cut l [13,10]).2.1 with
          | none=>rfl
          | some z=>rfl
     ·rw[if_neg h3,if_neg h3];rfl
theorem xq (t:Tgt):((cvT t).tg=2)=(t.kind=1):=by
 rw[kn];apply propext;constructor
 ·intro h;(repeat' split at h);all_goals first|omega|assumption
 ·intro h;rw[h];rfl
theorem iO (l:List UInt8):dr l=match bM l with|.error n=>.error n|.ok x=>.ok (cvR x):=by
 unfold dr bM;rw[tT];split
 ·rfl
 ·cases hp:bF l with
  | none=>rfl
  | some x =>
    obtain⟨m,t,k,body⟩:=x;simp only[Option.map_some,cvR,vX,xq];by_cases h1:body≠[]/\(m==2&&t.kind==1)=false
    ·rw[if_pos h1,if_pos ⟨h1.1,λ e=>by
      have h2:=h1.2;rw[show m=2 by omega,e.2] at h2
      cases h2⟩]
    ·rw[if_neg h1,if_neg (λ e=>h1 ⟨e.1,by
      rw[Bool.eq_false_iff];intro h;simp at h
      exact e.2 ⟨by omega,h.2⟩⟩)]
     split
     ·rfl
     ·split<;>rfl
def atR (l:List Itm)(tg:Nat)(key:List UInt8)(v:Int):Option Nat×Option Nat :=
 if tg=4 then (match bH key v l with
  | none=>none
  | some i=>match l[i]? with
    | none=>none
    | some it=>if it.mark then none else some i,bH key v l)
 else (bg key l,bg key l)
def atV (l:List Itm)(tg:Nat)(key:List UInt8)(v:Int):Option Ver:=((atR l tg key v).1.bind λ i=>l[i]?).map cJ
noncomputable def aQ (t:Nat)(s:Rst)(m:Nat)(tg:TgR)(k:Cnd)(body:List UInt8):List UInt8×Rst :=
 if bB (m==3||m==4) k (atV s.l tg.tg tg.key tg.v)≠0 then (ap (bB (m==3||m==4) k (atV s.l tg.tg tg.key tg.v)) [] [],s)
 else if m=3 then eR t s tg.key body (atR s.l tg.tg tg.key tg.v).1.isSome
 else if m=4 then dF t s (decide (tg.tg=4)) tg.key tg.v.toNat (atR s.l tg.tg tg.key tg.v).1.isSome (atR s.l tg.tg tg.key tg.v).2
 else match atV s.l tg.tg tg.key tg.v with
  | none=>(ap 404 [] [],s)
  | some v=>(ap 200 (bI v (bn v.time)) (if m=2 then [] else v.body),s)
noncomputable def doR (t:Nat)(s:Rst)(l:List UInt8):List UInt8×Rst:=match dr l with
 | .error n=>(ap n [] [],s)
 | .ok (m,tg,k,body)=>if tg.tg=1 then (iZ s.l tg.after,s) else if tg.tg=3 then (kP s.l tg.key,s) else aQ t s m tg k body
theorem sj {l:List Itm}{tg:Nat}{key:List UInt8}{v:Int}{i:Nat}(h:(atR l tg key v).1=some i):∃ it,l[i]?=some it:=by
 unfold atR at h;split at h
 ·split at h
  ·cases h
  ·split at h
   ·cases h
   ·rename_i it hi;split at h
    ·cases h
    ·cases h;exact⟨it,hi⟩
 ·unfold bg at h;split at h
  ·cases h
  ·split at h
   ·cases h
   ·rename_i it hi;split at h
    ·cases h
    ·cases h;exact⟨it,hi⟩
theorem ql (l:List Itm)(tg:Nat)(key:List UInt8)(v:Int):(atR l tg key v).1.isSome=(atV l tg key v).isSome:=by
 unfold atV;cases h:(atR l tg key v).1 with
 | none=>rfl
 | some i =>obtain⟨it,hi⟩:=sj h;simp[hi]
structure cH (B:Nat)(σ:St)(s:Rst):Prop where
 same:lu σ s
 pos:∀ it∈s.l,0<it.num
 time:∀ it∈s.l,it.time<=253402300799
 body:∀ it∈s.l,it.body.length<=400
 key:∀ it∈s.l,aA it.key=true
 num:∀ it∈s.l,it.num<=aH it.key s.l
 hold:∀ key n,B<=n->0<n->n<=(aa σ.ents key).last->∃ v∈(aa σ.ents key).vers,v.num=n
 len:s.l.length=(σ.ents.map Ent.last).sum
 log:s.J.length<=460*s.l.length+60*s.l.countP (λ it=>it.gone)
theorem eI {key:List UInt8}{l:List Itm}{v:Itm}(h:v∈bN key l):v∈l/\v.key=key/\v.gone=false:=by
 unfold bN at h;rw[List.mem_filter] at h;simp at h;exact h
theorem cH.vpos {B:Nat}{σ:St}{s:Rst}(h:cH B σ s)(key:List UInt8):∀ v∈(aa σ.ents key).vers,0<v.num:=by
 intro v hv;rw[<- h.same.vers key,List.mem_map] at hv;obtain⟨it,hit,rfl⟩:=hv;exact h.pos it (eI hit).1
theorem cH.vlast {B:Nat}{σ:St}{s:Rst}(h:cH B σ s)(key:List UInt8):∀ v∈(aa σ.ents key).vers,v.num<=(aa σ.ents key).last:=by
 intro v hv;rw[<- h.same.vers key,List.mem_map] at hv;obtain⟨it,hit,rfl⟩:=hv;obtain⟨h1,h2,_⟩:=eI hit;have:=h.num it h1;rw[h2,h.same.last key] at this;exact this
theorem cH.vrise {B:Nat}{σ:St}{s:Rst}(h:cH B σ s)(key:List UInt8):(aa σ.ents key).vers.Pairwise λ a b=>a.num<b.num:=by
 rw[<- h.same.vers key,List.pairwise_map];exact h.same.rise key
theorem yk {B:Nat}{σ:St}{s:Rst}(h:cH B σ s)(t:Tgt)(hk:t.kind=1\/t.kind=2):atV s.l (cvT t).tg (cvT t).key (cvT t).v=d9 (aa σ.ents t.key) t:=by
 rcases hk with hk|hk
 ·(have e:cvT t=⟨2,t.key,[],0⟩:=by unfold cvT;rw[if_neg (by omega),if_pos hk]);have hc:=h.same.current t.key (λ v hv=>h.pos v (eI hv).1);rw[e];unfold atV atR d9;rw[if_neg (show ¬ (2:Nat)=4 by decide),if_neg (by omega)];exact hc
 ·(have e:cvT t=⟨4,t.key,[],t.num⟩:=by unfold cvT;rw[if_neg (by omega),if_neg (by omega),if_pos hk]);have hn:=h.same.numbered t.key t.num;rw[e];unfold atV atR d9 ie;rw[if_pos rfl,if_pos hk,<- hn];simp only;cases hf:bH t.key (t.num:Int) s.l with
  | none=>rfl
  | some i =>
    obtain⟨it,hit⟩:∃ v,s.l[i]?=some v:=⟨_,List.getElem?_eq_getElem (dZ hf)⟩;simp only[Option.bind_some,hit,Option.map_some];cases hm:it.mark with
    | true=>simp[cJ,hm]
    | false=>simp[cJ,hm,hit]
theorem kw {B:Nat}{σ:St}{s:Rst}(h:cH B σ s)(key:List UInt8):g7 key s.l=((decide (0<(aa σ.ents key).last)||decide (σ.ents.length<60))&&decide ((aa σ.ents key).vers.length<20)):=by
 unfold g7;rw[h.same.last key,h.same.known,h.same.many key]
theorem jc {B:Nat}{σ:St}{s:Rst}(h:cH B σ s)(key:List UInt8)(n:Nat):(bH key (n:Int) s.l).isSome=(cV (aa σ.ents key).vers n).isSome:=by
 have hn:=h.same.numbered key n;rw[<- oe] at hn;cases hf:bH key (n:Int) s.l with
 | none =>
   rw[hf] at hn;cases hv:cV (aa σ.ents key).vers n with
   | none=>rfl
   | some j =>rw[hv] at hn;(have A0:j<(aa σ.ents key).vers.length:=by unfold cV at hv;exact (List.findIdx?_eq_some_iff_getElem.1 hv).1);simp only[List.getElem?_eq_getElem A0] at hn;cases hn
 | some i =>
   obtain⟨it,hit⟩:∃ v,s.l[i]?=some v:=⟨_,List.getElem?_eq_getElem (dZ hf)⟩;rw[hf] at hn;simp only[Option.bind_some,hit,Option.map_some] at hn;cases hv:cV (aa σ.ents key).vers n with
   | none=>rw[hv] at hn;cases hn
   | some j=>rfl
end Go.Proofs.YtmehkneofinmiaaGreatDoor

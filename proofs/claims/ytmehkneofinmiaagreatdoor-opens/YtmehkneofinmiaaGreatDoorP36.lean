/-part 36-/
import Derived.Test.YtmehkneofinmiaaGreatDoorP35
set_option maxHeartbeats 400000
namespace Go.Proofs.YtmehkneofinmiaaGreatDoor
def cvT (t:Tgt):TgR:=if t.kind=0 then ⟨1,[],t.key,0⟩ else if t.kind=1 then ⟨2,t.key,[],0⟩ else if t.kind=2 then ⟨4,t.key,[],t.num⟩ else ⟨3,t.key,[],0⟩
theorem iG (p q:List UInt8):Lib.hasPrefix p q=decide (p.take q.length=q):=by
 unfold Lib.hasPrefix;rw[Bool.eq_iff_iff,List.isPrefixOf_iff_prefix,decide_eq_true_iff,List.prefix_iff_eq_take];exact eq_comm
theorem lG (p q:List UInt8)(h:p.take q.length=q):Lib.trimPrefix p q=p.drop q.length:=by
 unfold Lib.trimPrefix;rw[iG,if_pos (decide_eq_true h)]
theorem xF (c:UInt8):isD c=iQ c:=by
 unfold isD iQ fP;rw[Bool.eq_iff_iff];simp;omega
theorem oj (l:List UInt8)(h:l.all isD=true):∀ n,n<=l.length->num (l.take n)=((ji (l.take n):Nat):Int)
 | 0,_=>rfl
 | n+1,hn=>by
   have ih:=oj l h n (by omega)
   obtain⟨c,hc⟩:∃ c,l[n]?=some c:=⟨_,List.getElem?_eq_getElem (by omega)⟩
   have hd:=List.all_eq_true.1 h c (List.mem_of_getElem? hc)
   simp[isD] at hd
   rw[List.take_add_one,hc,Option.toList_some,gY,ih]
   unfold ji dv
   rw[List.foldl_append,List.foldl_cons,List.foldl_nil]
   omega
theorem rB (l:List UInt8)(h:l.all isD=true):num l=((ji l:Nat):Int):=by
 have:=oj l h l.length (Nat.le_refl _);rw[List.take_length] at this;exact this
theorem zL (l:List UInt8):∀ n:Nat,n<=l.foldl (λ n c=>n*10+(c.toNat-48)) n:=by
 induction l with
 | nil=>exact λ n=>Nat.le_refl _
 | cons c l ih =>intro n;rw[List.foldl_cons];exact Nat.le_trans (by omega) (ih _)
theorem zK (l:List UInt8)(h:l.all isD=true)(h0:l.head?≠some 48)(hne:l≠[]):0<num l:=by
 rw[rB l h];cases l with
 | nil=>exact absurd rfl hne
 | cons c l =>have hd:=List.all_eq_true.1 h c List.mem_cons_self;simp[isD] at hd;have hc:c≠48:=λ e=>h0 (by rw[e];rfl);have A0:c.toNat≠48:=λ e=>hc (UInt8.toNat_inj.1 (by rw[e];rfl));(have:c.toNat-48<=ji (c::l):=by unfold ji;rw[List.foldl_cons];exact Nat.le_trans (by omega) (zL l _));omega
theorem qK (q:List UInt8):gj q=if 1<=q.length/\q.length<=9/\0<dgs q/\q.head?≠some 48 then some (dgs q).toNat else none:=by
 have A0:q.all iQ=q.all isD:=by congr 1;funext c;exact (xF c).symm
 unfold gj;rw[A0];cases hd:q.all isD with
 | false =>rw[j9 hd,if_pos (by simp),if_neg (by omega)]
 | true =>
   rw[eC hd];by_cases hq:q=[]
   ·subst hq;rfl
   ·have hl:1<=q.length:=by
     rcases Nat.eq_zero_or_pos q.length with h|h
     ·exact absurd (List.eq_nil_of_length_eq_zero h) hq
     ·exact h
    by_cases h9:q.length<=9
    ·by_cases h48:q.head?=some 48
     ·rw[if_pos (by simp[h48]),if_neg (λ h=>h.2.2.2 h48)]
     ·have hp:=zK q hd h48 hq;rw[if_neg (by simp[hq,h48];omega),if_pos ⟨hl,h9,hp,h48⟩,rB q hd,Int.toNat_natCast]
    ·rw[if_pos (by simp;omega),if_neg (λ h=>h9 h.2.1)]
def xv (key:List UInt8):List UInt8->Option Tgt
 | []=>some ⟨1,key,0⟩
 | _::q=>dY key q
theorem vZ (key rest:List UInt8)(hr:rest=[]\/∃ r,rest=63::r):gLr key rest=(if aA key then xv key rest else none).map cvT:=by
 cases hk:aA key with
 | false=>unfold gLr;rw[if_pos hk];rfl
 | true =>
   rcases hr with rfl|⟨q,rfl⟩
   ·unfold gLr;rw[if_neg (by rw[hk];simp)];rfl
   ·unfold gLr xv dY;rw[if_neg (by rw[hk];simp),if_neg (by simp)];by_cases hv:q=[118,101,114,115,105,111,110,115]
    ·subst hv;rfl
    ·rw[if_neg (by unfold wW;simpa using hv)];simp only[if_true];rw[if_neg hv,iG];by_cases h2:q.take 2=[118,61]
     ·(have h3:(63::q).take 3=[63,118,61]:=by rw[List.take_succ_cons,h2]);(have hh:(63::q)[3]?=(q.drop 2).head?:=by rw[List.getElem?_cons_succ,List.head?_drop]);have A0:(63::q).drop 3=q.drop 2:=rfl;(have A1:2<=q.length:=by have:=congrArg List.length h2;rw[List.length_take] at this;simp at this;omega);rw[if_pos h3,if_pos (show decide (q.take ([118,61]:List UInt8).length=[118,61])=true from decide_eq_true h2),lG q [118,61] h2,qK,hh,A0];show _=Option.map cvT (Option.map _ (if 1<=(q.drop 2).length/\(q.drop 2).length<=9/\0<dgs (q.drop 2)/\(q.drop 2).head?≠some 48 then some (dgs (q.drop 2)).toNat else none));by_cases hc:1<=(q.drop 2).length/\(q.drop 2).length<=9/\0<dgs (q.drop 2)/\(q.drop 2).head?≠some 48
      ·have A2:=hc;rw[List.length_drop] at A2;rw[if_pos hc,if_pos ⟨by simp;omega,by simp;omega,hc.2.2.1,hc.2.2.2⟩];(have e:(((dgs (q.drop 2)).toNat:Nat):Int)=dgs (q.drop 2):=by omega);simp[cvT,e]
      ·rw[if_neg hc,if_neg (λ h=>hc ?_)]
       ·rfl
       ·rw[List.length_drop];have h1:=h.1;have h9:=h.2.1;rw[List.length_cons] at h1 h9;exact⟨by omega,by omega,h.2.2.1,h.2.2.2⟩
     ·rw[if_neg (by simpa using h2),if_neg (by simpa using h2)];rfl
theorem lS (p:UInt8->Bool):∀ l:List UInt8,l.dropWhile p=[]\/∃ c r,l.dropWhile p=c::r/\p c=false
 | []=>Or.inl rfl
 | a::l=>by
   rw[List.dropWhile_cons]
   split
   ·exact lS p l
   ·rename_i h
    exact Or.inr ⟨a,l,rfl,by simpa using h⟩
theorem Ad (l:List UInt8):l.dropWhile d7=[]\/∃ r,l.dropWhile d7=63::r:=by
 rcases lS d7 l with h|⟨c,r,h,hc⟩
 ·exact Or.inl h
 ·right;(have:c=63:=by unfold d7 at hc;rw[bne_eq_false_iff_eq] at hc;exact hc);exact⟨r,by rw[h,this]⟩
theorem xM (l:List UInt8):jj l=(bi l).map cvT:=by
 cases l with
 | nil=>rfl
 | cons c p =>
   by_cases hc:c=47
   ·subst hc;(have ht:bi (47::p)=kQ p:=by unfold bi;rw[iG,if_pos (decide_eq_true (by rfl)),lG _ _ (by rfl)];rfl);rw[ht];unfold jj kQ;by_cases hp:p=[]
    ·subst hp;rfl
    ·rw[if_neg (by simpa using hp),if_neg hp,iG];by_cases ha:p.take 7=dt
     ·(have A2:(47::p).take 8=fL:=by rw[List.take_succ_cons,ha];rfl);rw[if_pos A2,if_pos (show decide (p.take dt.length=dt)=true from decide_eq_true ha),lG p dt ha];show (if aA (p.drop 7)=true then _ else _)=Option.map cvT (if aA (p.drop 7)=true then some ⟨0,p.drop 7,0⟩ else none);cases aA (p.drop 7)<;>rfl
     ·have A2:¬ (47::p).take 8=fL:=λ e=>ha (by
       rw[List.take_succ_cons] at e;have:=(List.cons.inj e).2
       exact this)
      rw[if_neg A2,if_neg (show ¬ decide (p.take dt.length=dt)=true from λ e=>ha (of_decide_eq_true e)),if_neg (λ h=>by
       rcases h with h|h
       ·apply hp;apply List.eq_nil_of_length_eq_zero;rw[List.length_cons] at h;omega
       ·exact h rfl)]
      rw[List.drop_succ_cons,List.drop_zero,vZ _ _ (Ad p)];have hk:=jt d7 p;(have A3:∀ c∈p.takeWhile d7,c≠63:=λ c hc e=>by have:=hk c hc;rw[e] at this;exact absurd this (by decide));have A0:=List.takeWhile_append_dropWhile (p:=d7) (l:=p);rcases Ad p with h|⟨r,h⟩
      ·rw[h] at A0 ⊢;rw[List.append_nil] at A0;have A1:Lib.cut p [63]=(p,[],false):=lE p [] 63 (by rw[A0] at A3;exact A3);rw[A1,A0];rfl
      ·rw[h] at A0 ⊢;(have A1:Lib.cut p [63]=(p.takeWhile d7,r,true):=by have:=eB (p.takeWhile d7) r [] 63 A3;rw[List.append_assoc] at this;rw[<- A0];rw[List.cons_append,List.nil_append] at this;rw[A0] at this ⊢;exact this);rw[A1];rfl
   ·(have h1:Lib.hasPrefix (c::p) [47]=false:=by rw[iG];exact decide_eq_false (by simpa using hc));unfold jj bi;rw[if_neg (by simp[hc]),if_neg (show ¬ (c::p).take 8=fL from λ e=>hc (List.cons.inj (show c::p.take 7=fL from e)).1),if_pos (Or.inr (by simpa using hc)),h1];rfl
theorem xw (c:UInt8)(l:List UInt8)(h:¬ (c=13/\l.head?=some 10)) :
 ((Lib.cut l [13,10]).2.2=true/\Lib.cut (c::l) [13,10]=(c::(Lib.cut l [13,10]).1,(Lib.cut l [13,10]).2.1,true))\/((Lib.cut l [13,10]).2.2=false/\Lib.cut (c::l) [13,10]=(c::l,[],false)):=by
 have hp:List.isPrefixOf [13,10] (c::l)=false:=by
  rw[Bool.eq_false_iff];intro e;rw[List.isPrefixOf_iff_prefix,List.prefix_iff_eq_take] at e;apply h;cases l with
  | nil=>simp at e
  | cons d l =>simp at e;exact⟨e.1.symm,by simp[e.2]⟩
 have hi:Lib.index (c::l) [13,10]=if Lib.index l [13,10] = -1 then -1 else Lib.index l [13,10]+1:=by simp only[Lib.index,hp];simp
 have hg:=Lib.index_ge l [13,10];unfold Lib.cut;rw[hi];by_cases hx:Lib.index l [13,10] = -1
 ·right;rw[hx];exact⟨rfl,rfl⟩
 ·left;rw[if_neg hx,if_pos (by omega),if_pos (by omega)];refine⟨rfl,?_⟩;(have e:(Lib.index l [13,10]+1).toNat=(Lib.index l [13,10]).toNat+1:=by omega);rw[e];show ((c::l).take _,(c::l).drop _,true)=_;rw[List.take_succ_cons];rfl
theorem qy (l:List UInt8):bh l=if (Lib.cut l [13,10]).2.2=true/\(Lib.cut l [13,10]).1.any aK=false then some ((Lib.cut l [13,10]).1,(Lib.cut l [13,10]).2.1) else none:=by
 induction l with
 | nil=>rfl
 | cons c l ih =>
   by_cases h:c=13/\l.head?=some 10
   ·obtain⟨rfl,h2⟩:=h;cases l with
    | nil=>cases h2
    | cons d r =>(have:d=10:=by simpa using h2);subst this;have hc:=eB [] r [10] 13 (by simp);rw[List.nil_append] at hc;rw[show (13::10::r:List UInt8)=[13,10]++r from rfl,hc];rfl
   ·rw[bh];rcases xw c l h with ⟨h1,h2⟩|⟨h1,h2⟩
    ·rw[h2];cases hc:aK c with
     | true =>rw[if_pos rfl,if_neg h,if_neg (λ e=>by have:=e.2;simp[hc] at this)]
     | false =>
       rw[if_neg (by simp),ih];simp only[h1,List.any_cons,hc,Bool.false_or,true_and];by_cases ha:(Lib.cut l [13,10]).1.any aK=false
       ·rw[if_pos ha,if_pos ha];rfl
       ·rw[if_neg ha,if_neg ha];rfl
    ·rw[h2];cases hc:aK c with
     | true=>rw[if_pos rfl,if_neg h,if_neg (λ e=>by simp at e)]
     | false =>rw[if_neg (by simp),ih,if_neg (λ e=>by rw[h1] at e;simp at e),if_neg (λ e=>by simp at e)];rfl
def kO (c:UInt8):Bool:=c != 32
theorem Bg (l:List UInt8):l.dropWhile kO=[]\/∃ r,l.dropWhile kO=32::r:=by
 rcases lS kO l with h|⟨c,r,h,hc⟩
 ·exact Or.inl h
 ·right;(have:c=32:=by unfold kO at hc;rw[bne_eq_false_iff_eq] at hc;exact hc);exact⟨r,by rw[h,this]⟩
def mtR:Nat->List UInt8
 | 0=>[71,69,84]
 | 1=>[72,69,65,68]
 | 2=>[80,85,84]
 | _=>[68,69,76,69,84,69]
theorem Af (i:Nat)(hi:i<4):nmR i=mtR i++[32]/\∀ c∈mtR i,c≠32:=by
 have:i=0\/i=1\/i=2\/i=3:=by omega
 rcases this with rfl|rfl|rfl|rfl<;>exact⟨rfl,by decide⟩
theorem AQ {a q M:List UInt8}(ha:∀ c∈a,c≠32)(hM:∀ c∈M,c≠32):((a++[32]++q).take (M++[32]).length=M++[32] ↔ a=M)/\(a=M->(a++[32]++q).drop (M++[32]).length=q):=by
 refine⟨⟨λ h=>?_,λ h=>?_⟩,λ h=>?_⟩
 ·have e:=List.take_append_drop (M++[32]).length (a++[32]++q);rw[h] at e;have h1:=eB a q [] 32 ha;have h2:=eB M ((a++[32]++q).drop (M++[32]).length) [] 32 hM;rw[e,h1] at h2;exact (Prod.mk.inj h2).1
 ·subst h;rw[List.take_left]
 ·subst h;rw[List.drop_left]
theorem jm (l:List UInt8)(h:∀ i,i<4->¬ l.take (nmR i).length=nmR i):∀ n i,i+n=4->fJ l i n=none
 | 0,_,_=>rfl
 | n+1,i,hi=>by
   rw[fJ,if_neg (h i (by omega))]
   exact jm l h n (i+1) (by omega)
theorem ox (l:List UInt8)(k:Nat)(hk:k<4)(h:l.take (nmR k).length=nmR k)(hn:∀ i,i<k->¬ l.take (nmR i).length=nmR i):∀ n i,i+n=4->i<=k->fJ l i n=(jj (l.drop (nmR k).length)).map λ t=>(k+1,t)
 | 0,i,hi,hik=>by omega
 | n+1,i,hi,hik=>by
   rw[fJ]
   by_cases e:i=k
   ·subst e
    rw[if_pos h]
   ·rw[if_neg (hn i (by omega))]
    exact ox l k hk h hn n (i+1) (by omega) (by omega)
theorem tp (l:List UInt8):gn l=if (Lib.cut l [32]).2.2 then (match dD (Lib.cut l [32]).1 with|none=>none|some m=>(bi (Lib.cut l [32]).2.1).map λ t=>(m+1,cvT t)) else none:=by
 have A1:=List.takeWhile_append_dropWhile (p:=kO) (l:=l);have A0:∀ c∈l.takeWhile kO,c≠32:=λ c hc e=>by have:=jt kO l c hc;rw[e] at this;exact absurd this (by decide)
 unfold gn;rcases Bg l with h|⟨q,h⟩
 ·rw[h,List.append_nil] at A1;rw[A1] at A0;rw[lE l [] 32 A0];refine jm l (λ i hi e=>?_) 4 0 rfl;have hm:=(Af i hi).1;(have:(32:UInt8)∈l.take (nmR i).length:=by rw[e,hm];simp);exact A0 32 (List.mem_of_mem_take this) rfl
 ·rw[h] at A1;obtain⟨a,ha⟩:∃ a,l.takeWhile kO=a:=⟨_,rfl⟩;rw[ha] at A1 A0;(have hl:l=a++[32]++q:=by rw[<- A1];simp);have hc:=eB a q [] 32 A0;(have A2:∀ i,i<4->(l.take (nmR i).length=nmR i ↔ a=mtR i)/\(a=mtR i->l.drop (nmR i).length=q):=λ i hi=>by have hm:=Af i hi;rw[hm.1,hl];exact AQ A0 hm.2);rw[hl,hc,<- hl];by_cases hx:∃ k,k<4/\a=mtR k
  ·obtain⟨k,hk,A3⟩:=hx;(have A4:∀ i,i<k->¬ l.take (nmR i).length=nmR i:=λ i hi e=>by have e2:=((A2 i (by omega)).1.1 e).symm.trans A3;(have h1:i=0\/i=1\/i=2:=by omega);(have h2:k=0\/k=1\/k=2\/k=3:=by omega);rcases h1 with rfl|rfl|rfl<;>rcases h2 with rfl|rfl|rfl|rfl<;>first|omega|(exact absurd e2 (by decide)));rw[ox l k hk ((A2 k hk).1.2 A3) A4 4 0 rfl (by omega),(A2 k hk).2 A3,xM,A3];(have A5:dD (mtR k)=some k:=by (have h2:k=0\/k=1\/k=2\/k=3:=by omega);rcases h2 with rfl|rfl|rfl|rfl<;>rfl);simp only[if_true,A5];cases bi q<;>rfl
  ·rw[jm l (λ i hi e=>hx ⟨i,hi,(A2 i hi).1.1 e⟩) 4 0 rfl];(have A5:dD a=none:=by unfold dD;rw[if_neg (show ¬ a=[71,69,84] from λ e=>hx ⟨0,by omega,e⟩),if_neg (show ¬ a=[72,69,65,68] from λ e=>hx ⟨1,by omega,e⟩),if_neg (show ¬ a=[80,85,84] from λ e=>hx ⟨2,by omega,e⟩),if_neg (show ¬ a=[68,69,76,69,84,69] from λ e=>hx ⟨3,by omega,e⟩)]);simp only[if_true,A5]
theorem kn (t:Tgt):(cvT t).tg=if t.kind=0 then 1 else if t.kind=1 then 2 else if t.kind=2 then 4 else 3:=by
 unfold cvT;(repeat' split);all_goals rfl
theorem vX (m:Nat)(t:Tgt):mK (m+1) (cvT t).tg=dX m t.kind:=by
 rw[kn];unfold mK dX;by_cases h0:m=0
 ·subst h0;rfl
 ·rw[if_neg h0];(have e:(m+1==1)=false:=by simpa using h0);rw[e,Bool.false_or];by_cases h2:m=2
  ·subst h2;rw[if_pos rfl,if_pos rfl];by_cases k0:t.kind=0
   ·rw[k0];rfl
   ·by_cases k1:t.kind=1
    ·rw[k1];rfl
    ·by_cases k2:t.kind=2
     ·rw[k2];rfl
     ·rw[if_neg k0,if_neg k1,if_neg k2,beq_eq_false_iff_ne.2 k1];rfl
  ·rw[if_neg (by omega),if_neg h2];by_cases k0:t.kind=0
   ·rw[k0];rfl
   ·by_cases k1:t.kind=1
    ·rw[k1];rfl
    ·by_cases k2:t.kind=2
     ·rw[k2];rfl
     ·rw[if_neg k0,if_neg k1,if_neg k2,beq_eq_false_iff_ne.2 k1,beq_eq_false_iff_ne.2 k2];rfl
abbrev xz:=List (Bool×List UInt8×List UInt8)
theorem n7 (x g:List UInt8)(h:g.all bY=true):Lib.trimRightS (x++g) [32,9]=Lib.trimRightS x [32,9]:=by
 unfold Lib.trimRightS;rw[List.reverse_append];have:=ks g.reverse x.reverse (by simpa using h);unfold bL Lib.trimLeftS at this;rw[this]
theorem sq (y:List UInt8)(c:UInt8)(h:bY c=false):Lib.trimRightS (y++[c]) [32,9]=y++[c]:=by
 unfold Lib.trimRightS;rw[List.reverse_append,List.reverse_singleton,List.singleton_append];have:=jk c y.reverse h;unfold bL Lib.trimLeftS at this;rw[this];simp
theorem vl (g x g':List UInt8)(c d:UInt8)(x1 x2:List UInt8)(hg:g.all bY=true)(hg':g'.all bY=true)(h1:x=c::x1)(hc:bY c=false)(h2:x=x2++[d])(hd:bY d=false) :
 Lib.trimS (g++(x++g')) [32,9]=x:=by
 unfold Lib.trimS;rw[<- List.append_assoc,n7 _ _ hg',h2,<- List.append_assoc,sq _ _ hd,List.append_assoc,<- h2];have:=ks g x hg;unfold bL at this;rw[this,h1];exact jk c x1 hc
open Go.RowKit
theorem iC (c:UInt8):bY c=true ↔ (c.toNat:Int)=32\/(c.toNat:Int)=9:=by
 unfold bY;simp[<- UInt8.toNat_inj];omega
theorem bw (s:ByteArray)(k:Nat)(h:k<s.size):s.data.toList.drop k=s[k]::s.data.toList.drop (k+1):=by
 rw[List.drop_eq_getElem_cons (by simpa using h)];rfl
theorem wR (g:List UInt8)(h:g.all bY=true):Lib.trimS g [32,9]=[]:=by
 have:Lib.trimRightS ([]++g) [32,9]=Lib.trimRightS [] [32,9]:=n7 [] g h;rw[List.nil_append] at this;unfold Lib.trimS;rw[this];rfl
theorem tV (s:ByteArray)(a b:Nat):(s.extract a b).data.toList=(s.data.toList.drop a).take (b-a):=by
 obtain⟨⟨l⟩⟩:=s;rw[ByteArray.extract_mk]
theorem mC (s:ByteArray)(k m:Nat)(hkm:k<=m)(hm:m<=s.size)(ha:(s.data.toList.take k).all bY=true)(hd:(s.data.toList.drop m).all bY=true)
 (h:k=m\/((∀ h:k<s.size,bY s[k]=false)/\∀ h:m-1<s.size,bY s[m-1]=false)):(⟨(Lib.trimS s.data.toList [32,9]).toArray⟩:ByteArray)=s.extract k m:=by
 have hl:=Lib.size_eq s;apply ByteArray.ext;apply Array.toList_inj.1;rw[show (s.extract k m).data.toList=(s.data.toList.drop k).take (m-k) from tV s k m];show Lib.trimS s.data.toList [32,9]=_;by_cases e:k=m
 ·subst e;rw[Nat.sub_self,List.take_zero];apply wR;rw[<- List.take_append_drop k s.data.toList,List.all_append,ha,hd];rfl
 ·obtain⟨h1,h2⟩:=h.resolve_left e;obtain⟨n,rfl⟩:∃ n,m=k+(n+1):=⟨m-k-1,by omega⟩;(have e0:s.data.toList=s.data.toList.take k++((s.data.toList.drop k).take (n+1)++s.data.toList.drop (k+(n+1))):=by rw[<- List.drop_drop,List.take_append_drop,List.take_append_drop]);rw[show k+(n+1)-k=n+1 by omega];(have hx:(s.data.toList.drop k).take (n+1)=s[k]::(s.data.toList.drop (k+1)).take n:=by rw[bw s k (by omega)];rfl);(have hy:(s.data.toList.drop k).take (n+1)=(s.data.toList.drop k).take n++[s[k+(n+1)-1]]:=by rw[List.take_add_one,List.getElem?_drop,List.getElem?_eq_getElem (by omega)];rfl);have:=vl (s.data.toList.take k) ((s.data.toList.drop k).take (n+1)) (s.data.toList.drop (k+(n+1))) s[k] s[k+(n+1)-1] _ _ ha hd hx (h1 (by omega)) hy (h2 (by omega))
  rwa [<- e0] at this
theorem on (s:ByteArray)(w:World)(hs:s.size<=9223372036854775807) :
 Calls Tryz.prog 169 #[.string s] w λ e w'=>e=.returned (.string ⟨(Lib.trimS s.data.toList [32,9]).toArray⟩)/\w'=w:=by
 go_enter Tryz.func169,Tryz.ntmps169;go_wp2;go_loop [3] (λ i=>∃ k:Nat,k<=s.size/\i=.int .i64 k/\Hid ((s.data.toList.take k).all bY=true)) (λ i=>s.size-(intOf i).toNat);case atStart=>exact⟨0,Nat.zero_le _,rfl,rfl⟩
 case round =>
  obtain⟨k,hk,rfl,ha⟩:=hrel;by_cases hlt:k<s.size
  ·(have HS:Hid ((s.data.toList.take (k+1)).all bY=bY s[k]):=by have:=ha.out;show _=_;rw[aV s k hlt,List.all_append,this];simp);have HB:Hid _:=iC s[k];go_wp2
   ·exact⟨⟨k+1,by omega,by go_num,HS.out.trans (HB.out.2 (by omega))⟩,by simp[intOf];omega⟩
   ·exact⟨⟨k+1,by omega,by go_num,HS.out.trans (HB.out.2 (by have:=‹_\/_›;simp at this;omega))⟩,by simp[intOf];omega⟩
   ·(have HF:Hid (∀ h:k<s.size,bY s[k]=false):=λ _=>by rw[Bool.eq_false_iff,Ne,HB.out];have:=‹_/\_›;simp at this;omega);clear HB HS;go_loop [4] (λ j=>∃ m:Nat,k<=m/\m<=s.size/\j=.int .i64 m/\Hid ((s.data.toList.drop m).all bY=true)) (λ j=>(intOf j).toNat);(case atStart=>exact⟨s.size,hk,Nat.le_refl _,rfl,by show _=_;rw[List.drop_of_length_le (by rw[Lib.size_eq];exact Nat.le_refl _)];rfl⟩);case round =>
     obtain⟨m,A0,hm,rfl,hd⟩:=hrel;by_cases A2:k<m
     ·obtain⟨m,rfl⟩:∃ n,m=n+1:=⟨m-1,by omega⟩;(have HD:Hid ((s.data.toList.drop m).all bY=bY s[m]):=by have:=hd.out;show _=_;rw[bw s m (by omega),List.all_cons,this];simp);have A1:Hid _:=iC s[m];go_wp2
      ·exact⟨⟨m,by omega,by omega,rfl,HD.out.trans (A1.out.2 (by omega))⟩,by simp[intOf]⟩
      ·exact⟨⟨m,by omega,by omega,rfl,HD.out.trans (A1.out.2 (by have:=‹(_==_)=true\/_›;simp at this;omega))⟩,by simp[intOf]⟩
      ·go_ret;refine⟨aM (mC s k (m+1) (by omega) hm ha.out hd.out (Or.inr ⟨HF.out,λ _=>?_⟩)).symm,rfl⟩;show bY s[m]=false;rw[Bool.eq_false_iff,Ne,A1.out];have:=‹(_==_)=false/\_›;simp at this;omega
     ·go_wp2;go_ret;exact⟨aM (mC s k m A0 hm ha.out hd.out (Or.inl (by omega))).symm,rfl⟩
  ·have HF:Hid (∀ h:k<s.size,bY s[k]=false):=λ h=>absurd h hlt;go_wp2;go_loop [4] (λ j=>∃ m:Nat,k<=m/\m<=s.size/\j=.int .i64 m/\Hid ((s.data.toList.drop m).all bY=true)) (λ j=>(intOf j).toNat);(case atStart=>exact⟨s.size,hk,Nat.le_refl _,rfl,by show _=_;rw[List.drop_of_length_le (by rw[Lib.size_eq];exact Nat.le_refl _)];rfl⟩);case round =>obtain⟨m,A0,hm,rfl,hd⟩:=hrel;(have A2:¬ k<m:=by omega);go_wp2;go_ret;exact⟨aM (mC s k m A0 hm ha.out hd.out (Or.inl (by omega))).symm,rfl⟩
def gP:List UInt8->Option (List UInt8×List UInt8)
 | []=>none
 | c::r=>if c=34 then some ([],r) else if tb c then (gP r).map (λ x=>(c::x.1,x.2)) else none
theorem qI (l p:List UInt8) : -1<=Lib.index l p:=by
 induction l with
 | nil=>unfold Lib.index;split<;>decide
 | cons c r ih =>
   unfold Lib.index;split
   ·decide
   ·split
    ·decide
    ·omega
theorem ym (c:UInt8)(r:List UInt8):Lib.cut (c::r) [34]=if c=34 then ([],r,true) else (c::(Lib.cut r [34]).1,(Lib.cut r [34]).2.1,(Lib.cut r [34]).2.2):=by
 by_cases h:c=34
 ·subst h;simp[Lib.cut,Lib.index]
 ·(have A0:((34:UInt8)==c)=false:=by simp;exact λ e=>h e.symm);rw[if_neg h];(have hi:Lib.index (c::r) [34]=if Lib.index r [34] == -1 then -1 else Lib.index r [34]+1:=by simp[Lib.index,List.isPrefixOf,A0]);have hg:=qI r [34];unfold Lib.cut;rw[hi];by_cases e:Lib.index r [34] = -1
  ·simp[e]
  ·(have e':(if (Lib.index r [34] == -1)=true then (-1:Int) else Lib.index r [34]+1)=Lib.index r [34]+1:=by rw[if_neg];simpa using e);rw[e',if_pos (show 0<=Lib.index r [34]+1 by omega),if_pos (show 0<=Lib.index r [34] by omega),show (Lib.index r [34]+1).toNat=(Lib.index r [34]).toNat+1 by omega];simp
theorem x7 (l:List UInt8):gP l=if (Lib.cut l [34]).2.2&&dJ (Lib.cut l [34]).1 then some ((Lib.cut l [34]).1,(Lib.cut l [34]).2.1) else none:=by
 induction l with
 | nil=>rfl
 | cons c r ih =>
   rw[ym,gP];by_cases h:c=34
   ·simp[h,dJ]
   ·rw[if_neg h,if_neg h,ih];cases ht:tb c with
    | false=>simp[dJ,ht]
    | true =>
      by_cases hb:((Lib.cut r [34]).2.2&&dJ (Lib.cut r [34]).1)=true
      ·(have A0:((Lib.cut r [34]).2.2&&dJ (c::(Lib.cut r [34]).1))=true:=by simp only[dJ,List.all_cons,ht,Bool.true_and] at hb ⊢;exact hb);simp only[hb,A0,if_true];rfl
      ·(have A0:¬ ((Lib.cut r [34]).2.2&&dJ (c::(Lib.cut r [34]).1))=true:=by simp only[dJ,List.all_cons,ht,Bool.true_and] at hb ⊢;exact hb);simp only[hb,A0,if_true];rfl
theorem nY (l:List UInt8):fe l=if Lib.hasPrefix (Lib.trimPrefix l [87,47]) [34] then (gP (Lib.trimPrefix (Lib.trimPrefix l [87,47]) [34])).map (λ x=>(Lib.hasPrefix l [87,47],x.1,x.2)) else none:=by
 rw[mu,x7];cases Lib.hasPrefix (Lib.trimPrefix l [87,47]) [34] with
 | false=>rfl
 | true =>rw[Bool.true_and,if_pos rfl];split<;>rfl
theorem iN {c:UInt8}{n:Nat}(hn:n<256)(h:(c.toNat:Int)=(n:Int)):c=UInt8.ofNat n:=by
 apply UInt8.toNat_inj.1;rw[UInt8.toNat_ofNat',Nat.mod_eq_of_lt hn];omega
theorem jI {c:UInt8}{n:Nat}(hn:n<256)(h:¬ (c.toNat:Int)=(n:Int)):¬ c=UInt8.ofNat n:=by
 intro e;subst e;rw[UInt8.toNat_ofNat',Nat.mod_eq_of_lt hn] at h;exact h rfl
theorem yA (s:ByteArray)(a:Nat)(h:a+2<s.size)(h1:(s[a].toNat:Int)=87)(h2:(s[a+1].toNat:Int)=47) :
 fe (s.data.toList.drop a)=if (s[a+2].toNat:Int)=34 then (gP (s.data.toList.drop (a+2+1))).map (λ x=>(true,x.1,x.2)) else none:=by
 have e1:s[a]=87:=iN (n:=87) (by decide) h1;have e2:s[a+1]=47:=iN (n:=47) (by decide) h2;rw[nY,bw s a (by omega),bw s (a+1) (by omega),bw s (a+2) (by omega),e1,e2];have p1:∀ x:List UInt8,Lib.hasPrefix (87::47::x) [87,47]=true:=λ x=>by simp[Lib.hasPrefix]
 have p2:∀ x:List UInt8,Lib.trimPrefix (87::47::x) [87,47]=x:=λ x=>by simp[Lib.trimPrefix,Lib.hasPrefix]
 rw[p1,p2];by_cases hq:(s[a+2].toNat:Int)=34
 ·have e3:s[a+2]=34:=iN (n:=34) (by decide) hq;rw[if_pos hq,e3];simp[Lib.trimPrefix,Lib.hasPrefix]
 ·have e3:=jI (n:=34) (by decide) hq;rw[if_neg hq,if_neg];simp[Lib.hasPrefix];exact λ e=>e3 e.symm
theorem ka (s:ByteArray)(a:Nat)(hn:∀ h:a+2<s.size,¬ ((s[a].toNat:Int)=87/\(s[a+1].toNat:Int)=47)) :
 fe (s.data.toList.drop a)=if h:a<s.size then (if (s[a].toNat:Int)=34 then (gP (s.data.toList.drop (a+1))).map (λ x=>(false,x.1,x.2)) else none) else none:=by
 by_cases h:a<s.size
 ·rw[dif_pos h,nY,bw s a h];by_cases hw:Lib.hasPrefix (s[a]::s.data.toList.drop (a+1)) [87,47]=true
  ·(have h2:a+1<s.size:=by apply Classical.byContradiction;intro hc;rw[List.drop_of_length_le (by rw[<- Lib.size_eq];omega)] at hw;simp[Lib.hasPrefix] at hw);rw[bw s (a+1) h2] at hw ⊢;(have A0:(87:UInt8)=s[a]/\(47:UInt8)=s[a+1]:=by simpa [Lib.hasPrefix] using hw);have h3:¬ a+2<s.size:=λ hc=>hn hc ⟨by rw[<- A0.1];rfl,by rw[<- A0.2];rfl⟩;rw[List.drop_of_length_le (by rw[<- Lib.size_eq];omega),<- A0.1,<- A0.2];rfl
  ·(have A1:Lib.hasPrefix (s[a]::s.data.toList.drop (a+1)) [87,47]=false:=by simpa using hw);(have ht:Lib.trimPrefix (s[a]::s.data.toList.drop (a+1)) [87,47]=s[a]::s.data.toList.drop (a+1):=by unfold Lib.trimPrefix;rw[if_neg hw]);rw[ht,A1];by_cases hq:(s[a].toNat:Int)=34
   ·have e3:s[a]=34:=iN (n:=34) (by decide) hq;rw[if_pos hq,e3];simp[Lib.trimPrefix,Lib.hasPrefix]
   ·have e3:=jI (n:=34) (by decide) hq;rw[if_neg hq,if_neg];simp[Lib.hasPrefix];exact λ e=>e3 e.symm
 ·rw[dif_neg h,List.drop_of_length_le (by rw[<- Lib.size_eq];omega)];decide
end Go.Proofs.YtmehkneofinmiaaGreatDoor

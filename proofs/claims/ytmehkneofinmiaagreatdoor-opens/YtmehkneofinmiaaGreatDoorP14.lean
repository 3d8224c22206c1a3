/-part 14-/
import Derived.Test.YtmehkneofinmiaaGreatDoorP13
set_option maxHeartbeats 4000000
namespace Go.Proofs.YtmehkneofinmiaaGreatDoor
open Go.RowKit
theorem fN:∀ (a b:List UInt8),Op.bytesLess a b=(aE a b == -1)
 | [],[]=>rfl
 | [],_::_=>rfl
 | _::_,[]=>rfl
 | a::ar,b::br=>by
   have ih:=fN ar br
   unfold aE at ih ⊢
   rw[Lib.compareBytes,Op.bytesLess]
   by_cases h1:a<b
   ·simp[h1]
   ·by_cases h2:b<a
    ·have hne:a≠b:=λ e=>by subst e;exact UInt8.lt_irrefl _ h2
     simp[h1,h2,hne]
    ·have e:a=b:=UInt8.le_antisymm (UInt8.not_lt.1 h2) (UInt8.not_lt.1 h1)
     subst e
     simp[UInt8.lt_irrefl,ih]
theorem tQ (p q:Nat)(k t:List UInt8)(w:World)(hp:w.cell? ⟨p,0,none⟩=some (.string ⟨k.toArray⟩))(hq:w.cell? ⟨q,0,none⟩=some (.string ⟨t.toArray⟩)) :
 Calls Tryz.prog 134 #[.pointer (some ⟨p,0,none⟩),.pointer (some ⟨q,0,none⟩)] w λ e w'=>e=.returned (.bool (aE k t == -1))/\Below w.heap.size w w':=by
 have hl:Hid (Op.bytesLess k t=(aE k t == -1)):=fN k t;go_enter Tryz.func134,Tryz.ntmps134;have A0:w.drew.cell? ⟨p,0,none⟩=some (.string ⟨k.toArray⟩):=hp;have A1:w.drew.cell? ⟨q,0,none⟩=some (.string ⟨t.toArray⟩):=hq;go_wp2;go_region;go_wp2;go_ret;refine⟨?_,(Below.refl _ _).drew⟩;rw[<- hl.out];rfl
def hd (qs:List Nat):Nat:=qs.headD 0
structure Hp (w:World)(base h:Nat)(lv:Value)(rows:List Value)(Qs:List (List Nat))(kf:Nat->List UInt8):Prop where
 hb:base<=h
 blk:w.heap[h]?=some (.cells #[lv,.func (.func 134) #[] #[]] 284 (0,0))
 row:w.ownsRow base 162 1 lv rows.length rows
 ne:lv.ownBlock≠some h
 len:Qs.length=rows.length
 lst:∀ (i:Nat) (v:Value) (qs:List Nat),rows[i]?=some v->Qs[i]?=some qs->Lst w v qs/\qs≠[]
 key:∀ qs∈Qs,∀ q∈qs,q<w.heap.size/\w.cell? ⟨q,0,none⟩=some (.string ⟨(kf q).toArray⟩)
theorem Hp.at {w:World}{base h:Nat}{lv:Value}{rows:List Value}{Qs:List (List Nat)}{kf:Nat->List UInt8}(H:Hp w base h lv rows Qs kf)(i:Nat)(hi:i<Qs.length) :
 ∃ r cap qs g o n c,lv=.slice (some ⟨r,0,none⟩) rows.length cap/\rows.length<=cap/\cap<=maxLen/\r<w.heap.size/\Qs[i]?=some qs/\rows[i]?=some (.slice (some ⟨g,o,none⟩) n c)/\n=qs.length/\1<=n/\n<=c/\c<=maxLen/\g<w.heap.size /\
  w.cell? ⟨r,i,none⟩=some (.slice (some ⟨g,o,none⟩) n c)/\w.cell? ⟨g,o,none⟩=some (.pointer (some ⟨hd qs,0,none⟩))/\hd qs∈qs/\qs∈Qs:=by
 have hr:i<rows.length:=by rw[<- H.len];exact hi
 have e1:Qs[i]?=some Qs[i]:=List.getElem?_eq_getElem hi;have e2:rows[i]?=some rows[i]:=List.getElem?_eq_getElem hr;obtain⟨hl,A2⟩:=H.lst i _ _ e2 e1;obtain⟨a,c,hv,h1,h2,h3⟩:=hl.is;cases hq:Qs[i] with
 | nil=>exact absurd hq A2
 | cons q qs =>
   rw[hq] at hv h1 h3 e1;obtain⟨g,o,rfl,⟨_,_,A1⟩,hc⟩:=h3 0 q rfl;have hg:=(gL A1);rcases H.row.2 with ⟨_,h0⟩|⟨r,cap,A5,A3,_,A0,hn,hm,hs,A4⟩
   ·omega
   ·refine⟨r,cap,q::qs,g,o,(q::qs).length,c,A3,hn,hm,(gL A0),e1,by rw[e2,hv],rfl,by simp,h1,h2,hg,?_,by simpa [hd] using hc,by simp[hd],List.mem_of_getElem? e1⟩;rw[<- hv,<- Option.some.injEq,<- e2,<- A4,List.getElem?_take_of_lt (by omega)];simp[World.cell?,A0]
theorem qx (w:World)(base h:Nat)(lv:Value)(rows:List Value)(Qs:List (List Nat))(kf:Nat->List UInt8)(H:Hp w base h lv rows Qs kf)(i j:Nat)(p q:List Nat)(hi:Qs[i]?=some p)(hj:Qs[j]?=some q) :
 Calls Tryz.prog 294 #[.pointer (some ⟨h,0,none⟩),.int .i64 i,.int .i64 j] w λ e w'=>e=.returned (.bool (aE (kf (hd p)) (kf (hd q)) == -1))/\Below w.heap.size w w':=by
 obtain⟨r,A9,qs,g,o,n,c,A8,hn,hm,hr,e1,e2,e3,e4,e5,e6,hg,c1,c2,A2,A5⟩:=H.at i (List.getElem?_eq_some_iff.1 hi).1;obtain⟨r',Ag,Al,g',o',n',c',A1,Ad,Ah,Aj,A7,A6,Ae,Aq,Ar,Ao,Ak,Ac,Af,A0,A3⟩:=H.at j (List.getElem?_eq_some_iff.1 hj).1;rw[hi] at e1;cases e1;rw[hj] at A7;cases A7;have Am:i<rows.length:=(List.getElem?_eq_some_iff.1 e2).1;have An:j<rows.length:=(List.getElem?_eq_some_iff.1 A6).1;rw[A1] at A8;cases A8;have b0:w.cell? ⟨h,0,none⟩=some (.slice (some ⟨r,0,none⟩) rows.length A9):=by simp[World.cell?,H.blk,A1]
 have b1:w.cell? ⟨h,1,none⟩=some (.func (.func 134) #[] #[]):=by simp[World.cell?,H.blk]
 have k1:=(H.key p A5 _ A2).2;have k2:=(H.key q A3 _ A0).2;have Ap:h<w.heap.size:=(gL H.blk);have hw:0<w.heap.size:=by omega
 clear H hi hj e2 A6 A2 A0 A5 A3 Ad Ah Aj e3 Ae A1;have B0:∀ d os,(Sort.grow (redrawn w d) os).cell? ⟨h,0,none⟩=some (.slice (some ⟨r,0,none⟩) rows.length A9):=λ d os=>cell_regrown b0 d os;have B1:∀ d os,(Sort.grow (redrawn w d) os).cell? ⟨h,1,none⟩=some (.func (.func 134) #[] #[]):=λ d os=>cell_regrown b1 d os;have C1:∀ d os,(Sort.grow (redrawn w d) os).cell? ⟨r,i,none⟩=some (.slice (some ⟨g,o,none⟩) n c):=λ d os=>cell_regrown c1 d os;have C2:∀ d os,(Sort.grow (redrawn w d) os).cell? ⟨g,o,none⟩=some (.pointer (some ⟨hd p,0,none⟩)):=λ d os=>cell_regrown c2 d os;have C3:∀ d os,(Sort.grow (redrawn w d) os).cell? ⟨r,j,none⟩=some (.slice (some ⟨g',o',none⟩) n' c'):=λ d os=>cell_regrown Ac d os;have C4:∀ d os,(Sort.grow (redrawn w d) os).cell? ⟨g',o',none⟩=some (.pointer (some ⟨hd q,0,none⟩)):=λ d os=>cell_regrown Af d os;have HC:Hid (∀ (d:Nat) (os:Array Obj),_):=λ d os=>Calls.regrown_of (tQ (hd p) (hd q) (kf (hd p)) (kf (hd q)) (Sort.grow (redrawn w d) os) (cell_regrown k1 d os) (cell_regrown k2 d os));clear k1 k2;go_enter Tryz.func294,Tryz.ntmps294;go_wp2_with fail;refine wp_region_quiet_below (by kernel_rfl) (by kernel_rfl) ?_;repeat (first|go_big_quiet_step (first|(go_at_call 134;exact HC.out _ _))|quiet_step (first|(go_at_call 134;exact HC.out _ _)))
 refine wpQuiet_nil ?_;intro w2 Aa;have Ab:Below w.heap.size w w2:=by obtain⟨⟨dq,Ai⟩,A4⟩:=Aa;rw[A4];exact below_regrown w dq Ai
 clear Aa;go_wp2;go_ret;exact⟨rfl,Ab⟩
def leB (a b:List UInt8):Prop:=aE a b<=0
theorem me (a:List UInt8):leB a a:=by unfold leB;rw[ci];omega
theorem sJ {a b:List UInt8}(h:(aE b a == -1)=false):leB a b:=by
 have h1:aE b a ≠ -1:=by simpa using h
 unfold leB;rw[bS];rcases bz b a with h2|h2|h2<;>omega
theorem nP {a b:List UInt8}(h:(aE a b == -1)=true):leB a b:=by
 have h1:aE a b = -1:=by simpa using h
 unfold leB;omega
theorem fY {a b c:List UInt8}(h:leB a b)(k:leB b c):leB a c:=by
 unfold leB at *
 rcases bz a b with h1|h1|h1
 ·rcases bz b c with h2|h2|h2
  ·rw[bK a b c h1 h2];omega
  ·rw[<- fE b c h2];omega
  ·omega
 ·rw[fE a b h1];exact k
 ·omega
def cy (i c:Nat):Prop:=c=2*i+1\/c=2*i+2
theorem cy.gt {i c:Nat}(h:cy i c):i<c:=by unfold cy at h;omega
theorem cy.uniq {i j c:Nat}(h:cy i c)(k:cy j c):i=j:=by unfold cy at h k;omega
def cO (F:Nat->List UInt8)(n lo:Nat):Prop:=∀ i c,lo<=i->cy i c->c<n->leB (F i) (F c)
structure eL (F:Nat->List UInt8)(n lo p:Nat):Prop where
 le:lo<=p
 a:∀ i c,lo<=i->i≠p->cy i c->c<n->leB (F i) (F c)
 b:∀ i c,lo<=i->cy i p->cy p c->c<n->leB (F i) (F c)
def re (F:Nat->List UInt8)(p m:Nat):Nat->List UInt8:=λ i=>if i=p then F m else if i=m then F p else F i
theorem eL.stop {F:Nat->List UInt8}{n lo p:Nat}(h:eL F n lo p)(hm:∀ c,cy p c->c<n->leB (F p) (F c)):cO F n lo:=by
 intro i c hi hc hn;by_cases e:i=p
 ·subst e;exact hm c hc hn
 ·exact h.a i c hi e hc hn
theorem eL.down {F:Nat->List UInt8}{n lo p m:Nat}(h:eL F n lo p)(hm:cy p m)(hmp:leB (F m) (F p))(hmin:∀ c,cy p c->c<n->leB (F m) (F c))(hmn:m<n):eL (re F p m) n lo m:=by
 have A2:=hm.gt;have A1:=h.le;refine⟨by omega,λ i c hi hne hc hn=>?_,λ i c hi hcm hc hn=>?_⟩
 ·have A0:=hc.gt;unfold re;by_cases e:i=p
  ·subst e;rw[if_pos rfl,if_neg (by omega)];by_cases ec:c=m
   ·rw[if_pos ec];exact hmp
   ·rw[if_neg ec];exact hmin c hc hn
  ·rw[if_neg e,if_neg hne];by_cases ep:c=p
   ·subst ep;rw[if_pos rfl];exact h.b i m hi hc hm hmn
   ·rw[if_neg ep];by_cases em:c=m
    ·subst em;exact absurd (hc.uniq hm) e
    ·rw[if_neg em];exact h.a i c hi e hc hn
 ·have A0:=hc.gt;obtain rfl:=hcm.uniq hm;unfold re;rw[if_pos rfl,if_neg (by omega),if_neg (by omega)];exact h.a m c (by omega) (by omega) hc hn
theorem cO.top {F:Nat->List UInt8}{n:Nat}(h:cO F n 0):∀ i,i<n->leB (F 0) (F i):=by
 intro i;induction i using Nat.strongRecOn with
 | _ i ih =>
   intro hi;by_cases h0:i=0
   ·subst h0;exact me _
   ·(have hc:cy ((i-1)/2) i:=by unfold cy;omega);exact fY (ih ((i-1)/2) (by omega) (by omega)) (h _ i (by omega) hc hi)
open Go.RowKit
def fk (Qs:List (List Nat))(kf:Nat->List UInt8)(i:Nat):List UInt8:=kf (hd ((Qs[i]?).getD []))
theorem Hp.below {w x:World}{base h:Nat}{lv:Value}{rows:List Value}{Qs:List (List Nat)}{kf:Nat->List UInt8}(H:Hp w base h lv rows Qs kf)(hb:Below w.heap.size w x):Hp x base h lv rows Qs kf :=
 ⟨H.hb,(hb.block _ (gL H.blk)).trans H.blk,bT H.row hb,H.ne,H.len,λ i v qs h1 h2=>⟨(H.lst i v qs h1 h2).1.below hb,(H.lst i v qs h1 h2).2⟩,
   λ qs hq q hm=>⟨Nat.lt_of_lt_of_le (H.key qs hq q hm).1 hb.size,(hb.cell (p:=⟨q,0,none⟩) (H.key qs hq q hm).1).trans (H.key qs hq q hm).2⟩⟩
theorem lj {Qs:List (List Nat)}{kf:Nat->List UInt8}{i:Nat}{q:List Nat}(h:Qs[i]?=some q):fk Qs kf i=kf (hd q):=by simp[fk,h]
structure gd (F:Nat->List UInt8)(n p m c:Nat):Prop where
 is:m=p\/(cy p m/\m<n)
 le:leB (F m) (F p)
 all:∀ d,cy p d->d<c->d<n->leB (F m) (F d)
theorem gd.start (F:Nat->List UInt8)(n p:Nat):gd F n p p (2*p+1):=⟨Or.inl rfl,me _,λ d hd hlt=>by unfold cy at hd;omega⟩
theorem gd.skip {F:Nat->List UInt8}{n p m c:Nat}(h:gd F n p m c)(hn:¬ c<n):gd F n p m (c+1) :=
 ⟨h.is,h.le,λ d hd hlt hdn=>h.all d hd (by omega) hdn⟩
theorem gd.no {F:Nat->List UInt8}{n p m c:Nat}(h:gd F n p m c)(hq:(aE (F c) (F m) == -1)=false):gd F n p m (c+1) :=
 ⟨h.is,h.le,λ d hd hlt hdn=>by
   by_cases e:d=c
   ·subst e;exact sJ hq
   ·exact h.all d hd (by omega) hdn⟩
theorem gd.yes {F:Nat->List UInt8}{n p m c:Nat}(h:gd F n p m c)(hc:cy p c)(hn:c<n)(hq:(aE (F c) (F m) == -1)=true):gd F n p c (c+1) :=
 ⟨Or.inr ⟨hc,hn⟩,fY (nP hq) h.le,λ d hd hlt hdn=>by
   by_cases e:d=c
   ·subst e;exact me _
   ·exact fY (nP hq) (h.all d hd (by omega) hdn)⟩
theorem Hp.swap {w:World}{base h r n cap p m:Nat}{rows:List Value}{Qs:List (List Nat)}{kf:Nat->List UInt8}{vp vm:Value}{qp qm:List Nat}(H:Hp w base h (.slice (some ⟨r,0,none⟩) n cap) rows Qs kf)(hn:rows.length=n)(hpm:p<m)(hmn:m<n)
 (ep:rows[p]?=some vp)(em:rows[m]?=some vm)(eqp:Qs[p]?=some qp)(eqm:Qs[m]?=some qm) :
 Hp ((w.setCell ⟨r,p,none⟩ vm).setCell ⟨r,m,none⟩ vp) base h (.slice (some ⟨r,0,none⟩) n cap) ((rows.set p vm).set m vp) ((Qs.set p qm).set m qp) kf:=by
 subst hn;have A0:∀ k,k≠r->((w.setCell ⟨r,p,none⟩ vm).setCell ⟨r,m,none⟩ vp).heap[k]?=w.heap[k]?:=by intro k hk;simp[World.setCell,Array.getElem?_modify,Ne.symm hk]
 obtain⟨Ai,A7⟩:=H.row;rcases A7 with ⟨e0,_⟩|⟨g0,Ad,A6,Ap,Ab,A5,Ac,An,A9,Aa⟩
 ·cases e0
 cases Ap;rw[Nat.mul_one] at A9 Aa;have A1:∀ j,j<rows.length->w.cell? ⟨r,j,none⟩=rows[j]?:=by intro j hj;rw[<- Aa,List.getElem?_take_of_lt (by omega)];simp[World.cell?,A5]
 have Ag:h≠r:=λ e=>H.ne (by rw[e];rfl);have A2:∀ (v:Value) (qs:List Nat),Lst w v qs->Lst ((w.setCell ⟨r,p,none⟩ vm).setCell ⟨r,m,none⟩ vp) v qs:=by intro v qs hl;obtain⟨a,c,h1,h2,h3,h4⟩:=hl.is;refine⟨⟨a,c,h1,h2,h3,λ j q hq=>?_⟩⟩;obtain⟨g,o,e1,⟨cs,f,A4⟩,e3⟩:=h4 j q hq;(have A8:g≠r:=by intro e;subst e;rw[A5] at A4;injection A4 with A4;injection A4 with _ ht _;exact absurd ht (by decide));refine⟨g,o,e1,⟨cs,f,(A0 g A8).trans A4⟩,?_⟩;rw[<- e3];simp only[World.cell?];rw[A0 g A8]
 refine⟨H.hb,(A0 h Ag).trans H.blk,?_,H.ne,by simp[H.len],?_,?_⟩
 ·refine⟨by simp,Or.inr ⟨r,cap,(A6.setIfInBounds p vm).setIfInBounds m vp,by simp,Ab,?_,by simpa using Ac,An,by simp[A9],?_⟩⟩
  ·exact ah (ah A5)
  ·simp only[List.length_set,Nat.mul_one];apply List.ext_getElem?;intro j;by_cases hj:j<rows.length
   ·(have Af:A6[j]?=rows[j]?:=by rw[<- A1 j hj];simp[World.cell?,A5]);(have h1:m<A6.size:=by omega);(have h2:p<A6.size:=by omega);(have h3:p<rows.length:=by omega);rw[List.getElem?_take_of_lt hj];simp only[Array.getElem?_toList,List.getElem?_set,Array.getElem?_setIfInBounds,List.length_set,Array.size_setIfInBounds];by_cases e1:m=j
    ·subst e1;simp[h1,hj]
    ·by_cases e2:p=j
     ·subst e2;simp[e1,h2,h3]
     ·simp[e1,e2,Af]
   ·rw[List.getElem?_eq_none (by simp;omega),List.getElem?_eq_none (by simp;omega)]
 ·intro i v qs hv hq;rw[List.getElem?_set] at hv hq;(have Ae:p<Qs.length:=by rw[H.len];omega);(have Ak:m<Qs.length:=by rw[H.len];omega);by_cases e1:m=i
  ·subst e1;simp only[if_true,List.length_set,hmn,Ak,Option.some.injEq] at hv hq;subst hv hq;exact⟨A2 _ _ (H.lst p _ _ ep eqp).1,(H.lst p _ _ ep eqp).2⟩
  ·rw[if_neg e1] at hv hq;rw[List.getElem?_set] at hv hq;by_cases e2:p=i
   ·subst e2;simp only[if_true,Ae,show p<rows.length by omega,Option.some.injEq] at hv hq;subst hv hq;exact⟨A2 _ _ (H.lst m _ _ em eqm).1,(H.lst m _ _ em eqm).2⟩
   ·rw[if_neg e2] at hv hq;exact⟨A2 _ _ (H.lst i _ _ hv hq).1,(H.lst i _ _ hv hq).2⟩
 ·intro qs Al q Aj;have Ah:qs∈Qs:=by
   rcases List.mem_or_eq_of_mem_set Al with h1|h1
   ·rcases List.mem_or_eq_of_mem_set h1 with h2|h2
    ·exact h2
    ·rw[h2];exact List.mem_of_getElem? eqm
   ·rw[h1];exact List.mem_of_getElem? eqp
  obtain⟨Ao,A3⟩:=H.key qs Ah q Aj;(have Am:q≠r:=by intro e;subst e;rw[A1 0 (by omega)] at A3;(have hz:0<Qs.length:=by rw[H.len];omega);obtain⟨a,c,h1,_⟩:=(H.lst 0 _ _ A3 (List.getElem?_eq_getElem hz)).1.is;cases h1);refine⟨by simpa [World.setCell] using Ao,?_⟩;rw[<- A3];simp only[World.cell?];rw[A0 q Am]
theorem wg {α:Type}{l:List α}{p m:Nat}{a b:α}(hp:p<l.length)(hm:m<l.length)(ha:l[p]?=some a)(hb:l[m]?=some b):((l.set p b).set m a).Perm l:=by
 obtain rfl:l[p]=a:=by rw[List.getElem?_eq_getElem hp] at ha;exact Option.some.inj ha
 obtain rfl:l[m]=b:=by rw[List.getElem?_eq_getElem hm] at hb;exact Option.some.inj hb
 exact List.set_set_perm hp hm
theorem zG {Qs:List (List Nat)}{kf:Nat->List UInt8}{p m:Nat}{a b:List Nat}(hp:p<Qs.length)(hm:m<Qs.length)(ha:Qs[p]?=some a)(hb:Qs[m]?=some b)(hpm:p<m):fk ((Qs.set p b).set m a) kf=re (fk Qs kf) p m:=by
 funext i;unfold re;by_cases e1:i=p
 ·subst e1;rw[if_pos rfl,lj hb];apply lj;rw[List.getElem?_set,if_neg (by omega),List.getElem?_set,if_pos rfl,if_pos hp]
 ·rw[if_neg e1];by_cases e2:i=m
  ·subst e2;rw[if_pos rfl,lj ha];apply lj;rw[List.getElem?_set,if_pos rfl,if_pos (by simpa using hm)]
  ·rw[if_neg e2];unfold fk;rw[List.getElem?_set,if_neg (Ne.symm e2),List.getElem?_set,if_neg (Ne.symm e1)]
theorem mS (w:World)(base h lo p r cap:Nat)(rows:List Value)(Qs:List (List Nat))(kf:Nat->List UInt8)(H:Hp w base h (.slice (some ⟨r,0,none⟩) rows.length cap) rows Qs kf)(hl:rows.length<1000)(hx:eL (fk Qs kf) Qs.length lo p)(hp:p<1000) :
 Calls Tryz.prog 251 #[.pointer (some ⟨h,0,none⟩),.int .i64 p] w λ e w'=>(∃ v,e=.returned v)/\∃ rows' Qs',rows'.length=rows.length/\Hp w' base h (.slice (some ⟨r,0,none⟩) rows.length cap) rows' Qs' kf/\Qs'.Perm Qs/\cO (fk Qs' kf) Qs'.length lo/\Off (λ k=>k=r) w w':=by
 have HH:Hid _:=H;have HX:Hid _:=hx;clear H hx;go_enter Tryz.func251,Tryz.ntmps251;go_wp2;go_loopw [1] (λ x wx=>∃ (p':Nat) (rows':List Value) (Qs':List (List Nat)),p'<1000/\x=.int .i64 p'/\rows'.length=rows.length/\Hid (Hp wx base h (.slice (some ⟨r,0,none⟩) rows.length cap) rows' Qs' kf)/\Hid (Qs'.Perm Qs)/\Hid (eL (fk Qs' kf) Qs'.length lo p')/\Hid (Off (λ k=>k=r) w wx)) (λ x _=>1000-(intOf x).toNat);case atStart=>exact⟨p,rows,Qs,hp,rfl,rfl,HH,List.Perm.refl _,HX,Off.refl _ _⟩
 case round =>
  clear HH HX hp;obtain⟨p',rows',Qs',hp,rfl,A5,HH,HP,HX,HO⟩:=hrel;have Ax:=HH.out.len;obtain⟨Wo,Ac⟩:∃ Wo,Wo=wr:=⟨_,rfl⟩;rw[<- Ac] at HH HO ⊢;clear Ac;go_wp2;go_loopw [4,5] (λ x y wx=>∃ m c:Nat,x=.int .i64 m/\y=.int .i64 c/\m<2100/\2*p'+1<=c/\c<=2*p'+3/\Hid (Below Wo.heap.size Wo wx)/\Hid (gd (fk Qs' kf) Qs'.length p' m c)) (λ _ y _=>3000-(intOf y).toNat);(case atStart=>exact⟨p',2*p'+1,rfl,by congr 1,by omega,by omega,by omega,Below.refl _ _,gd.start _ _ _⟩);case round =>
   obtain⟨m,c,rfl,rfl,hm,Bd,Be,HB,HL⟩:=hrel;have A0:Hid _:=HH.out.below HB.out;(have b0:wr.cell? ⟨h,0,none⟩=some (.slice (some ⟨r,0,none⟩) rows.length cap):=by simp[World.cell?,A0.out.blk]);have B1:h<wr.heap.size:=(gL A0.out.blk);by_cases hce:c<=2*p'+2
   ·(have Ay:(c:Int)<=2*(p':Int)+2:=by omega);(have A4:cy p' c:=by unfold cy;omega);by_cases hcn:c<rows.length
    ·(have A7:(c:Int)<(rows.length:Int):=by omega);obtain⟨q,hq⟩:∃ q,Qs'[c]?=some q:=⟨Qs'[c]'(by omega),List.getElem?_eq_getElem (by omega)⟩;have A1:m<Qs'.length:=by
      rcases HL.out.is with e|e
      ·have:=A4.gt;omega
      ·exact e.2
     obtain⟨q',A9⟩:∃ q',Qs'[m]?=some q':=⟨Qs'[m],List.getElem?_eq_getElem A1⟩;go_wp2_with fail;refine (qx _ base h _ rows' Qs' kf A0.out c m q q' hq A9).mono ?_;rintro e w4 ⟨rfl,Aa⟩;rw[<- lj (kf:=kf) hq,<- lj (kf:=kf) A9];have Ab:Hid (Below Wo.heap.size Wo w4):=HB.out.trans (Aa.mono HB.out.size);clear Aa hq A9 A0 b0;cases hf:(aE (fk Qs' kf c) (fk Qs' kf m) == -1) with
     | true =>have HY:Hid _:=HL.out.yes A4 (by omega) hf;clear hf HL;go_wp2;refine⟨⟨c,c+1,rfl,by congr 1,by omega,by omega,by omega,Ab,HY⟩,?_⟩;simp[intOf];omega
     | false =>have HY:Hid _:=HL.out.no hf;clear hf HL;go_wp2;refine⟨⟨m,c+1,rfl,by congr 1,hm,by omega,by omega,Ab,HY⟩,?_⟩;simp[intOf];omega
    ·(have A7:¬ ((c:Int)<(rows.length:Int)):=by omega);have HY:Hid _:=HL.out.skip (c:=c) (by omega);go_wp2;refine⟨⟨m,c+1,rfl,by congr 1,hm,by omega,by omega,HB,HY⟩,?_⟩;simp[intOf];omega
   ·(have Ay:¬ ((c:Int)<=2*(p':Int)+2):=by omega);(obtain rfl:c=2*p'+3:=by omega);by_cases hmp:m=p'
    ·subst hmp;have HK:Hid (cO (fk Qs' kf) Qs'.length lo):=HX.out.stop (λ d hd hn=>HL.out.all d hd (by unfold cy at hd;omega) hn);go_wp2;exact bodyPost_ret (results_none Tryz.results251 _ _ _) rfl ⟨⟨_,rfl⟩,rows',A5,Qs',A0.out,HP.out,HK.out,HO.out.trans (Off.of_below HB.out)⟩
    ·have Bh:((m:Int)==(p':Int))=false:=beq_eq_false_iff_ne.2 (by omega);obtain⟨A4,A1⟩:cy p' m/\m<Qs'.length:=HL.out.is.resolve_left hmp;have B3:=A4.gt;obtain⟨r1,Ae,qp,gp,op,np,cp,A2,B0,Av,Bj,ep,Au,B2,Ad,As,Ah,Ba,B8,Bf,Ak,A8⟩:=A0.out.at p' (by omega);obtain⟨r2,Az,qm,gm,om,nm,cm,A3,B4,B5,Bm,em,Ai,Aw,Ap,B7,Am,Bk,Bb,Bc,Ar,A6⟩:=A0.out.at m A1;rw[A5] at A2 A3 B0 B4;cases A2;cases A3;(have Bg:p'<rows.length:=by omega);(have Aj:m<rows.length:=by omega);have fr:∀ j,wr.frozen? ⟨r,j,none⟩=false:=by
      intro j;rcases A0.out.row.2 with ⟨e0,_⟩|⟨g0,Af,Bl,Ag,_,An,_⟩
      ·cases e0
      ·injection Ag with ha _ _;injection ha with ha;injection ha with hb _ _;subst hb;simp[World.frozen?,An]
     have B9:=fr p';have Bi:=fr m;(have At:m<1000:=by omega);clear fr;have Aq:Hid _:=A0.out.swap A5 B3 Aj Au Ai ep em;have B6:Hid (((Qs'.set p' qm).set m qp).Perm Qs):=(wg (by omega) A1 ep em).trans HP.out;(have Ao:Hid (eL (fk ((Qs'.set p' qm).set m qp) kf) ((Qs'.set p' qm).set m qp).length lo m):=by have h1:=HX.out.down A4 HL.out.le (λ d hd hn=>HL.out.all d hd (by unfold cy at hd;omega) hn) A1;(have e1:((Qs'.set p' qm).set m qp).length=Qs'.length:=by simp);rw[e1,zG (kf:=kf) (by omega) A1 ep em (by omega)];exact h1);have Al:Hid (Off (λ k=>k=r) w wr):=HO.out.trans (Off.of_below HB.out);clear HH A0 HX HL HP HO HB Ak Ar A8 A6;subst B2;subst Aw;go_wp2;go_region;go_wp2;refine⟨⟨m,_,_,At,rfl,by rw[List.length_set,List.length_set];exact A5,Aq.out.below (Below.refl _ _).drew,B6,Ao,((Al.out.set r _ _ (Or.inl rfl)).set r _ _ (Or.inl rfl)).drew⟩,?_⟩;simp[intOf];omega
theorem Hp.setAt {w:World}{base h r n cap i:Nat}{rows:List Value}{Qs:List (List Nat)}{kf:Nat->List UInt8}{v:Value}{q:List Nat}(H:Hp w base h (.slice (some ⟨r,0,none⟩) n cap) rows Qs kf)(hn:rows.length=n)(hi:i<n)
 (hv:Lst w v q)(hq:q≠[])(hk:∀ x∈q,x<w.heap.size/\w.cell? ⟨x,0,none⟩=some (.string ⟨(kf x).toArray⟩)) :
 Hp (w.setCell ⟨r,i,none⟩ v) base h (.slice (some ⟨r,0,none⟩) n cap) (rows.set i v) (Qs.set i q) kf/\(∀ v' q',Lst w v' q'->Lst (w.setCell ⟨r,i,none⟩ v) v' q'):=by
 subst hn;have A0:∀ k,k≠r->(w.setCell ⟨r,i,none⟩ v).heap[k]?=w.heap[k]?:=by intro k hk;simp[World.setCell,Array.getElem?_modify,Ne.symm hk]
 obtain⟨Ak,Aa⟩:=H.row;rcases Aa with ⟨e0,_⟩|⟨g0,Ah,Ab,Ap,Af,A8,Ag,Ao,Ad,Ae⟩
 ·cases e0
 cases Ap;rw[Nat.mul_one] at Ad Ae;have A1:∀ j,j<rows.length->w.cell? ⟨r,j,none⟩=rows[j]?:=by intro j hj;rw[<- Ae,List.getElem?_take_of_lt (by omega)];simp[World.cell?,A8]
 have Aj:h≠r:=λ e=>H.ne (by rw[e];rfl);have A3:∀ (v':Value) (qs:List Nat),Lst w v' qs->Lst (w.setCell ⟨r,i,none⟩ v) v' qs:=by intro v' qs hl;obtain⟨a,c,h1,h2,h3,h4⟩:=hl.is;refine⟨⟨a,c,h1,h2,h3,λ j q hq=>?_⟩⟩;obtain⟨g,o,e1,⟨cs,f,A6⟩,e3⟩:=h4 j q hq;(have Ac:g≠r:=by intro e;subst e;rw[A8] at A6;injection A6 with A6;injection A6 with _ ht _;exact absurd ht (by decide));refine⟨g,o,e1,⟨cs,f,(A0 g Ac).trans A6⟩,?_⟩;rw[<- e3];simp only[World.cell?];rw[A0 g Ac]
 refine⟨⟨H.hb,(A0 h Aj).trans H.blk,?_,H.ne,by simp[H.len],?_,?_⟩,A3⟩
 ·refine⟨by simp,Or.inr ⟨r,cap,Ab.setIfInBounds i v,by simp,Af,ah A8,by simpa using Ag,Ao,by simp[Ad],?_⟩⟩;simp only[List.length_set,Nat.mul_one];apply List.ext_getElem?;intro j;by_cases hj:j<rows.length
  ·(have Ai:Ab[j]?=rows[j]?:=by rw[<- A1 j hj];simp[World.cell?,A8]);(have h2:i<Ab.size:=by omega);rw[List.getElem?_take_of_lt hj];simp only[Array.getElem?_toList,List.getElem?_set,Array.getElem?_setIfInBounds];by_cases e2:i=j
   ·subst e2;simp[h2,hj]
   ·simp[e2,Ai]
  ·rw[List.getElem?_eq_none (by simp;omega),List.getElem?_eq_none (by simp;omega)]
 ·intro j v' qs A4 A5;rw[List.getElem?_set] at A4 A5;(have Al:i<Qs.length:=by rw[H.len];omega);by_cases e2:i=j
  ·subst e2;simp only[if_true,Al,hi,Option.some.injEq] at A4 A5;subst A4 A5;exact⟨A3 _ _ hv,hq⟩
  ·rw[if_neg e2] at A4 A5;exact⟨A3 _ _ (H.lst j _ _ A4 A5).1,(H.lst j _ _ A4 A5).2⟩
 ·intro qs Am x A9;have A2:x<w.heap.size/\w.cell? ⟨x,0,none⟩=some (.string ⟨(kf x).toArray⟩):=by
   rcases List.mem_or_eq_of_mem_set Am with h2|h2
   ·exact H.key qs h2 x A9
   ·rw[h2] at A9;exact hk x A9
  (have An:x≠r:=by intro e;subst e;have A7:=A2.2;rw[A1 0 (by omega)] at A7;(have hz:0<Qs.length:=by rw[H.len];omega);obtain⟨a,c,h1,_⟩:=(H.lst 0 _ _ A7 (List.getElem?_eq_getElem hz)).1.is;cases h1);refine⟨by simpa [World.setCell] using A2.1,?_⟩;rw[<- A2.2];simp only[World.cell?];rw[A0 x An]
theorem Lst.tail {w:World}{g o n c q q2:Nat}{t:List Nat}(h:Lst w (.slice (some ⟨g,o,none⟩) n c) (q::q2::t)):Lst w (.slice (some ⟨g,o+1,none⟩) (t.length+1) (c-1)) (q2::t):=by
 obtain⟨a,c',h1,h2,h3,h4⟩:=h.is;cases h1;simp only[List.length_cons] at h2;refine⟨⟨_,_,rfl,by simp only[List.length_cons];omega,by omega,λ j x hj=>?_⟩⟩;obtain⟨g',o',e1,e2,e3⟩:=h4 (j+1) x (by simpa using hj);cases e1;exact⟨g,o+1,rfl,e2,by rw[<- e3];congr 2;omega⟩
theorem cO.ex0 {F G:Nat->List UInt8}{n n':Nat}(h:cO F n 0)(hn:n'<=n)(hFG:∀ i,i≠0->i<n'->G i=F i):eL G n' 0 0:=by
 refine⟨Nat.le_refl _,λ i c _ hi hc hcn=>?_,λ i c _ hc=>?_⟩
 ·have:=hc.gt;rw[hFG i hi (by omega),hFG c (by omega) hcn];exact h i c (Nat.zero_le _) hc (by omega)
 ·unfold cy at hc;omega
theorem vd {Qs:List (List Nat)}{kf:Nat->List UInt8}{i j:Nat}{q:List Nat}(h:j≠i):fk (Qs.set i q) kf j=fk Qs kf j:=by
 unfold fk;rw[List.getElem?_set,if_neg (Ne.symm h)]
theorem vG (w:World)(base h r cap:Nat)(rows:List Value)(Qs:List (List Nat))(kf:Nat->List UInt8)(H:Hp w base h (.slice (some ⟨r,0,none⟩) rows.length cap) rows Qs kf)(hl:rows.length<1000)(hx:cO (fk Qs kf) Qs.length 0)(q q2:Nat)(t:List Nat)(h0:Qs[0]?=some (q::q2::t))(hll:t.length<1000000) :
 Calls Tryz.prog 198 #[.pointer (some ⟨h,0,none⟩)] w λ e w'=>e=.returned (.pointer (some ⟨q,0,none⟩))/\∃ rows' Qs',rows'.length=rows.length/\Hp w' base h (.slice (some ⟨r,0,none⟩) rows'.length cap) rows' Qs' kf/\Qs'.Perm (Qs.set 0 (q2::t))/\cO (fk Qs' kf) Qs'.length 0/\Off (λ k=>k=r\/k=h) w w':=by
 obtain⟨r1,Ak,qs,g,o,n,c,Aq,hn,hm,hr,e1,e2,e3,e4,e5,e6,hg,c1,c2,A4,Aj⟩:=H.at 0 (List.getElem?_eq_some_iff.1 h0).1;rw[h0] at e1;cases e1;cases Aq;have Am:0<rows.length:=(List.getElem?_eq_some_iff.1 e2).1;have b0:w.cell? ⟨h,0,none⟩=some (.slice (some ⟨r,0,none⟩) rows.length cap):=by simp[World.cell?,H.blk]
 have Av:h<w.heap.size:=(gL H.blk);have HH:Hid _:=H;have HX:Hid _:=hx;clear H hx A4 Aj;have As:n=t.length+2:=by rw[e3];simp
 clear e3;subst As;go_enter Tryz.func198,Tryz.ntmps198;have Au:w.frozen? ⟨r,0,none⟩=false:=by
  rcases HH.out.row.2 with ⟨e0,_⟩|⟨g0,A5,Ar,Ab,_,A8,_⟩
  ·cases e0
  ·cases Ab;simp[World.frozen?,A8]
 have At:¬ (c=1):=by omega
 have Ao:¬ (1=c):=by omega
 have A9:=(HH.out.lst 0 _ _ e2 h0).1;have A1:=HH.out.key _ (List.mem_of_getElem? h0);obtain⟨hS,Af⟩:=HH.out.setAt rfl Am A9.tail (by simp) (λ x hx=>A1 x (by simp[hx]));have Ac:eL (fk (Qs.set 0 (q2::t)) kf) (Qs.set 0 (q2::t)).length 0 0:=cO.ex0 HX.out (by simp) (λ i hi _=>vd hi);have HS:Hid _:=hS;have HE:Hid _:=Ac;have Ap:Hid _:=Af _ _ A9;have An:Hid (Off (λ k=>k=r\/k=h) w (w.setCell ⟨r,0,none⟩ (.slice (some ⟨g,o+1,none⟩) (t.length+1) (c-1)))):=(Off.refl _ _).set r 0 _ (Or.inl (Or.inl rfl));clear hS Ac Af A9 A1;go_wp2_with fail;go_region;go_wp2_with fail;have A0:(rows.set 0 (.slice (some ⟨g,o+1,none⟩) (t.length+1) (c-1))).length=rows.length:=by simp
 have A7:=HS.out.below ((Below.refl _ _).drew);rw[<- A0] at A7;refine (mS _ base h 0 0 r cap _ _ kf A7 (by omega) HE.out (by omega)).mono ?_;rintro e w3 ⟨⟨v3,rfl⟩,A2,Al,A6,Ad,Ai,Ah,Aa⟩;rw[A0] at A6;have Ag:g≠r:=by
  obtain⟨a,c',h1,h2,h3,h4⟩:=Ap.out.is;cases h1;obtain⟨g',o',e1,⟨cs,f,A3⟩,_⟩:=h4 0 q rfl;cases e1;intro e;subst e;rcases HS.out.row.2 with ⟨e0,_⟩|⟨g0,A5,Ar,Ab,_,A8,_⟩
  ·cases e0
  ·injection Ab with ha _ _;injection ha with ha;injection ha with hb _ _;subst hb;rw[A8] at A3;injection A3 with A3;injection A3 with _ ht _;exact absurd ht (by decide)
 have Ae:(w.setCell ⟨r,0,none⟩ (.slice (some ⟨g,o+1,none⟩) (t.length+1) (c-1))).heap[g]?=w.heap[g]?:=by simp[World.setCell,Array.getElem?_modify,Ne.symm Ag]
 have c3:w3.cell? ⟨g,o,none⟩=some (.pointer (some ⟨q,0,none⟩)):=by have e5:w3.heap[g]?=w.heap[g]?:=(Aa.block g (by show g<(w.setCell _ _).heap.size;simpa [World.setCell] using hg) Ag).trans Ae;have e6:=c2;simp only[World.cell?] at e6 ⊢;rw[e5];exact e6
 have Aw:g<w3.heap.size:=World.block_lt_of_cell? _ _ c3;have H3:Hid _:=Ad;have P3:Hid _:=Ai;have K3:Hid _:=Ah;have O3:Hid (Off (λ k=>k=r\/k=h) w w3):=(An.out.drew).trans (Aa.mono (λ k hk=>Or.inl hk));clear Ad Ai Ah Aa Ae A7;go_wp2;go_ret;refine⟨rfl,A2,Al,A6,?_,P3.out,K3.out,O3.out⟩;have:=H3.out;rw[A0] at this;rw[A6];exact this
theorem Hp.cut {w:World}{base h r n cap m:Nat}{rows:List Value}{Qs:List (List Nat)}{kf:Nat->List UInt8}(H:Hp w base h (.slice (some ⟨r,0,none⟩) n cap) rows Qs kf)(hn:rows.length=n)(hm:m<=n) :
 Hp (w.setCell ⟨h,0,none⟩ (.slice (some ⟨r,0,none⟩) m cap)) base h (.slice (some ⟨r,0,none⟩) m cap) (rows.take m) (Qs.take m) kf:=by
 subst hn;have A0:∀ k,k≠h->(w.setCell ⟨h,0,none⟩ (.slice (some ⟨r,0,none⟩) m cap)).heap[k]?=w.heap[k]?:=by intro k hk;simp[World.setCell,Array.getElem?_modify,Ne.symm hk]
 obtain⟨Ac,A2⟩:=H.row;rcases A2 with ⟨e0,_⟩|⟨g0,A6,Ab,Ag,A5,A7,Ah,Ae,A8,Af⟩
 ·cases e0
 cases Ag;have A9:r≠h:=λ e=>H.ne (by rw[<- e];rfl);have A3:(rows.take m).length=m:=by rw[List.length_take];omega
 refine⟨H.hb,?_,?_,H.ne,by rw[List.length_take,List.length_take,H.len],?_,?_⟩
 ·have:=ah (i:=0) (v:=.slice (some ⟨r,0,none⟩) m cap) H.blk;simpa using this
 ·refine⟨by simp,Or.inr ⟨r,cap,Ab,by rw[A3],A5,(A0 r A9).trans A7,by rw[A3];omega,Ae,A8,?_⟩⟩;rw[A3,<- Af];simp only[Nat.mul_one];rw[List.take_take,Nat.min_eq_left hm]
 ·intro j v qs hv hq;rw[List.getElem?_take] at hv hq;split at hv
  ·rename_i hj;rw[if_pos hj] at hq;obtain⟨h1,h2⟩:=H.lst j v qs hv hq;refine⟨?_,h2⟩;obtain⟨a,c,k1,k2,k3,k4⟩:=h1.is;refine⟨⟨a,c,k1,k2,k3,λ j q hq=>?_⟩⟩;obtain⟨g,o,e1,⟨cs,f,A1⟩,e3⟩:=k4 j q hq;(have A4:g≠h:=by intro e;subst e;rw[H.blk] at A1;injection A1 with A1;injection A1 with _ ht _;exact absurd ht (by decide));refine⟨g,o,e1,⟨cs,f,(A0 g A4).trans A1⟩,?_⟩;rw[<- e3];simp only[World.cell?];rw[A0 g A4]
  ·cases hv
 ·intro qs Ad q hq;obtain⟨h1,h2⟩:=H.key qs (List.mem_of_mem_take Ad) q hq;(have Aa:q≠h:=by intro e;subst e;simp only[World.cell?,H.blk] at h2;simp at h2);refine⟨by simpa [World.setCell] using h1,?_⟩;rw[<- h2];simp only[World.cell?];rw[A0 q Aa]
theorem xK (w:World)(base h r cap m:Nat)(rows:List Value)(Qs:List (List Nat))(kf:Nat->List UInt8)(H:Hp w base h (.slice (some ⟨r,0,none⟩) rows.length cap) rows Qs kf)(hl:rows.length<1000)(hx:cO (fk Qs kf) Qs.length 0)(q:Nat)(h0:Qs[0]?=some [q])(hm:rows.length=m+1)(qm:List Nat)(hqm:Qs[m]?=some qm) :
 Calls Tryz.prog 198 #[.pointer (some ⟨h,0,none⟩)] w λ e w'=>e=.returned (.pointer (some ⟨q,0,none⟩))/\∃ rows' Qs',rows'.length=m/\Hp w' base h (.slice (some ⟨r,0,none⟩) rows'.length cap) rows' Qs' kf/\Qs'.Perm ((Qs.set 0 qm).take m)/\cO (fk Qs' kf) Qs'.length 0/\Off (λ k=>k=r\/k=h) w w':=by
 obtain⟨r1,Ao,qs,g,o,n,c,Ay,hn,B3,hr,e1,e2,e3,e4,e5,e6,hg,c1,c2,A4,Am⟩:=H.at 0 (List.getElem?_eq_some_iff.1 h0).1;rw[h0] at e1;cases e1;cases Ay;obtain⟨r2,Av,B5,g2,o2,n2,d2,Ae,_,_,_,Ai,Ar,Aw,B0,B6,B1,B7,B2,_,_,A2⟩:=H.at m (List.getElem?_eq_some_iff.1 hqm).1;rw[hqm] at Ai;cases Ai;cases Ae;subst Aw;have Aq:0<rows.length:=by omega
 have b0:w.cell? ⟨h,0,none⟩=some (.slice (some ⟨r,0,none⟩) rows.length cap):=by simp[World.cell?,H.blk]
 have fh:w.frozen? ⟨h,0,none⟩=false:=by simp[World.frozen?,H.blk]
 have Ak:h<w.heap.size:=(gL H.blk);have B9:r≠h:=λ e=>H.ne (by rw[<- e];rfl);have B8:w.frozen? ⟨r,0,none⟩=false:=by
  rcases H.row.2 with ⟨e0,_⟩|⟨g0,A5,Az,Af,_,Ac,_⟩
  ·cases e0
  ·cases Af;simp[World.frozen?,Ac]
 have HH:Hid _:=H;have HX:Hid _:=hx;have Ax:n=1:=by rw[e3];rfl
 subst Ax;clear e3 A4 H hx;have An:Hid _:=A2;clear A2 Am;rw[hm] at b0 hn Aq;have B4:((m+1:Nat):Int)-1=(m:Int):=by omega
 go_enter Tryz.func198,Tryz.ntmps198;have Ah:=(HH.out.lst 0 _ _ e2 h0).1;have A9:=HH.out.lst m _ _ Ar hqm;obtain⟨hS,As⟩:=HH.out.setAt (i:=0) rfl (by omega) A9.1 A9.2 (HH.out.key _ An.out);have hC:=hS.cut (m:=m) (by simp) (by omega);have HC:Hid _:=hC;have HE:Hid (eL (fk ((Qs.set 0 qm).take m) kf) ((Qs.set 0 qm).take m).length 0 0):=by refine cO.ex0 HX.out (by simp;omega) (λ i hi Ak=>?_);(have At:i<m:=by rw[List.length_take] at Ak;omega);unfold fk;rw[List.getElem?_take,if_pos At,List.getElem?_set,if_neg (by omega)]
 have Aa:g≠r/\g≠h:=by
  obtain⟨a,c',h1,h2,h3,h4⟩:=Ah.is;cases h1;obtain⟨g',o',e1,⟨cs,f,A1⟩,_⟩:=h4 0 q rfl;cases e1;refine⟨λ e=>?_,λ e=>?_⟩
  ·subst e;rcases HH.out.row.2 with ⟨e0,_⟩|⟨g0,A5,Az,Af,_,Ac,_⟩
   ·cases e0
   ·injection Af with ha _ _;injection ha with ha;injection ha with hb _ _;subst hb;rw[Ac] at A1;injection A1 with A1;injection A1 with _ ht _;exact absurd ht (by decide)
  ·subst e;rw[HH.out.blk] at A1;injection A1 with A1;injection A1 with _ ht _;exact absurd ht (by decide)
 clear hS As hC Ah A9;have Au:Hid (Off (λ k=>k=r\/k=h) w ((w.setCell ⟨r,0,none⟩ (.slice (some ⟨g2,o2,none⟩) qm.length d2)).setCell ⟨h,0,none⟩ (.slice (some ⟨r,0,none⟩) m cap))):=((Off.refl _ _).set r 0 _ (Or.inl (Or.inl rfl))).set h 0 _ (Or.inl (Or.inr rfl));go_wp2_with fail;go_region;go_wp2_with fail;have A0:((rows.set 0 (.slice (some ⟨g2,o2,none⟩) qm.length d2)).take m).length=m:=by rw[List.length_take,List.length_set];omega
 have Ab:=HC.out.below ((Below.refl _ _).drew);have A7:=Ab;rw[<- A0] at A7;simp only[A0] at A7;refine (mS _ base h 0 0 r cap _ _ kf (by rw[A0];exact Ab) (by omega) HE.out (by omega)).mono ?_;rintro e w3 ⟨⟨v3,rfl⟩,A3,Ap,A8,A6,Al,Aj,Ad⟩;rw[A0] at A8 A6;have Ag:((w.setCell ⟨r,0,none⟩ (.slice (some ⟨g2,o2,none⟩) qm.length d2)).setCell ⟨h,0,none⟩ (.slice (some ⟨r,0,none⟩) m cap)).heap[g]?=w.heap[g]?:=by simp[World.setCell,Array.getElem?_modify,Ne.symm Aa.1,Ne.symm Aa.2]
 have c3:w3.cell? ⟨g,o,none⟩=some (.pointer (some ⟨q,0,none⟩)):=by have e5:w3.heap[g]?=w.heap[g]?:=(Ad.block g (by show g<((w.setCell _ _).setCell _ _).heap.size;simpa [World.setCell] using hg) Aa.1).trans Ag;have e6:=c2;simp only[World.cell?] at e6 ⊢;rw[e5];exact e6
 have Ba:g<w3.heap.size:=World.block_lt_of_cell? _ _ c3;have H3:Hid _:=A6;have P3:Hid _:=Al;have K3:Hid _:=Aj;have O3:Hid (Off (λ k=>k=r\/k=h) w w3):=(Au.out.drew).trans (Ad.mono (λ k hk=>Or.inl hk));clear A6 Al Aj Ad Ag Ab A7;go_wp2;go_ret;exact⟨rfl,A3,Ap,A8,by rw[A8];exact H3.out,P3.out,K3.out,O3.out⟩
end Go.Proofs.YtmehkneofinmiaaGreatDoor

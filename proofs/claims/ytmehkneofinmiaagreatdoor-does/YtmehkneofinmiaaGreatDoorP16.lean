/-
 Texts of this proof, part 16.
-/
import Derived.Test.YtmehkneofinmiaaGreatDoorP15
set_option maxHeartbeats 4000000
namespace Go.Proofs.YtmehkneofinmiaaGreatDoor
open Go.RowKit
def fk (Qs:List (List Nat))(kf:Nat->List UInt8)(i:Nat):List UInt8:=kf (hd ((Qs[i]?).getD []))
theorem Hp.below {w x:World}{base h:Nat}{lv:Value}{rows:List Value}{Qs:List (List Nat)}{kf:Nat->List UInt8}(H:Hp w base h lv rows Qs kf)(hb:Below w.heap.size w x):Hp x base h lv rows Qs kf :=
 ⟨H.hb,(hb.block _ (Array.getElem?_eq_some_iff.1 H.blk).1).trans H.blk,row_below H.row hb,H.ne,H.len,fun i v qs h1 h2=>⟨(H.lst i v qs h1 h2).1.below hb,(H.lst i v qs h1 h2).2⟩,
   fun qs hq q hm=>⟨Nat.lt_of_lt_of_le (H.key qs hq q hm).1 hb.size,(hb.cell (p:=⟨q,0,none⟩) (H.key qs hq q hm).1).trans (H.key qs hq q hm).2⟩⟩
theorem fk_at {Qs:List (List Nat)}{kf:Nat->List UInt8}{i:Nat}{q:List Nat}(h:Qs[i]?=some q):fk Qs kf i=kf (hd q):=by simp[fk,h]
structure Least (F:Nat->List UInt8)(n p m c:Nat):Prop where
 is:m=p\/(Child p m/\m<n)
 le:leB (F m) (F p)
 all:∀ d,Child p d->d<c->d<n->leB (F m) (F d)
theorem Least.start (F:Nat->List UInt8)(n p:Nat):Least F n p p (2*p+1):=⟨Or.inl rfl,leB_refl _,fun d hd hlt=>by unfold Child at hd;omega⟩
theorem Least.skip {F:Nat->List UInt8}{n p m c:Nat}(h:Least F n p m c)(hn:¬ c<n):Least F n p m (c+1) :=
 ⟨h.is,h.le,fun d hd hlt hdn=>h.all d hd (by omega) hdn⟩
theorem Least.no {F:Nat->List UInt8}{n p m c:Nat}(h:Least F n p m c)(hq:(cmpB (F c) (F m) == -1)=false):Least F n p m (c+1) :=
 ⟨h.is,h.le,fun d hd hlt hdn=>by
   by_cases e:d=c
   ·subst e;exact leB_of_not hq
   ·exact h.all d hd (by omega) hdn⟩
theorem Least.yes {F:Nat->List UInt8}{n p m c:Nat}(h:Least F n p m c)(hc:Child p c)(hn:c<n)(hq:(cmpB (F c) (F m) == -1)=true):Least F n p c (c+1) :=
 ⟨Or.inr ⟨hc,hn⟩,leB_trans (leB_of_lt hq) h.le,fun d hd hlt hdn=>by
   by_cases e:d=c
   ·subst e;exact leB_refl _
   ·exact leB_trans (leB_of_lt hq) (h.all d hd (by omega) hdn)⟩
theorem Hp.swap {w:World}{base h r n cap p m:Nat}{rows:List Value}{Qs:List (List Nat)}{kf:Nat->List UInt8}{vp vm:Value}{qp qm:List Nat}(H:Hp w base h (.slice (some ⟨r,0,none⟩) n cap) rows Qs kf)(hn:rows.length=n)(hpm:p<m)(hmn:m<n)
 (ep:rows[p]?=some vp)(em:rows[m]?=some vm)(eqp:Qs[p]?=some qp)(eqm:Qs[m]?=some qm) :
 Hp ((w.setCell ⟨r,p,none⟩ vm).setCell ⟨r,m,none⟩ vp) base h (.slice (some ⟨r,0,none⟩) n cap) ((rows.set p vm).set m vp) ((Qs.set p qm).set m qp) kf:=by
 subst hn
 have other:∀ k,k≠r->((w.setCell ⟨r,p,none⟩ vm).setCell ⟨r,m,none⟩ vp).heap[k]?=w.heap[k]?:=by
  intro k hk
  simp[World.setCell,Array.getElem?_modify,Ne.symm hk]
 obtain⟨hlen,hrow⟩:=H.row
 rcases hrow with ⟨e0,_⟩|⟨g0,cap0,cur,hv0,hb0,hg0,hn0,hm0,hs0,htk⟩
 ·cases e0
 cases hv0
 rw[Nat.mul_one] at hs0 htk
 have hcell:∀ j,j<rows.length->w.cell? ⟨r,j,none⟩=rows[j]?:=by
  intro j hj
  rw[<- htk,List.getElem?_take_of_lt (by omega)]
  simp[World.cell?,hg0]
 have hhr:h≠r:=fun e=>H.ne (by rw[e];rfl)
 have hlst:∀ (v:Value) (qs:List Nat),Lst w v qs->Lst ((w.setCell ⟨r,p,none⟩ vm).setCell ⟨r,m,none⟩ vp) v qs:=by
  intro v qs hl
  obtain⟨a,c,h1,h2,h3,h4⟩:=hl.is
  refine⟨⟨a,c,h1,h2,h3,fun j q hq=>?_⟩⟩
  obtain⟨g,o,e1,⟨cs,f,hcs⟩,e3⟩:=h4 j q hq
  have hgr:g≠r:=by
   intro e;subst e
   rw[hg0] at hcs
   injection hcs with hcs
   injection hcs with _ ht _
   exact absurd ht (by decide)
  refine⟨g,o,e1,⟨cs,f,(other g hgr).trans hcs⟩,?_⟩
  rw[<- e3]
  simp only[World.cell?]
  rw[other g hgr]
 refine⟨H.hb,(other h hhr).trans H.blk,?_,H.ne,by simp[H.len],?_,?_⟩
 ·refine⟨by simp,Or.inr ⟨r,cap,(cur.setIfInBounds p vm).setIfInBounds m vp,by simp,hb0,?_,by simpa using hn0,hm0,by simp[hs0],?_⟩⟩
  ·exact heap_set (heap_set hg0)
  ·simp only[List.length_set,Nat.mul_one]
   apply List.ext_getElem?
   intro j
   by_cases hj:j<rows.length
   ·have hrj:cur[j]?=rows[j]?:=by
     rw[<- hcell j hj]
     simp[World.cell?,hg0]
    have h1:m<cur.size:=by omega
    have h2:p<cur.size:=by omega
    have h3:p<rows.length:=by omega
    rw[List.getElem?_take_of_lt hj]
    simp only[Array.getElem?_toList,List.getElem?_set,Array.getElem?_setIfInBounds,List.length_set,Array.size_setIfInBounds]
    by_cases e1:m=j
    ·subst e1;simp[h1,hj]
    ·by_cases e2:p=j
     ·subst e2;simp[e1,h2,h3]
     ·simp[e1,e2,hrj]
   ·rw[List.getElem?_eq_none (by simp;omega),List.getElem?_eq_none (by simp;omega)]
 ·intro i v qs hv hq
  rw[List.getElem?_set] at hv hq
  have hpl:p<Qs.length:=by rw[H.len];omega
  have hml:m<Qs.length:=by rw[H.len];omega
  by_cases e1:m=i
  ·subst e1
   simp only[if_true,List.length_set,hmn,hml,Option.some.injEq] at hv hq
   subst hv hq
   exact⟨hlst _ _ (H.lst p _ _ ep eqp).1,(H.lst p _ _ ep eqp).2⟩
  ·rw[if_neg e1] at hv hq
   rw[List.getElem?_set] at hv hq
   by_cases e2:p=i
   ·subst e2
    simp only[if_true,hpl,show p<rows.length by omega,Option.some.injEq] at hv hq
    subst hv hq
    exact⟨hlst _ _ (H.lst m _ _ em eqm).1,(H.lst m _ _ em eqm).2⟩
   ·rw[if_neg e2] at hv hq
    exact⟨hlst _ _ (H.lst i _ _ hv hq).1,(H.lst i _ _ hv hq).2⟩
 ·intro qs hqs q hqm
  have hin:qs∈Qs:=by
   rcases List.mem_or_eq_of_mem_set hqs with h1|h1
   ·rcases List.mem_or_eq_of_mem_set h1 with h2|h2
    ·exact h2
    ·rw[h2];exact List.mem_of_getElem? eqm
   ·rw[h1];exact List.mem_of_getElem? eqp
  obtain⟨hlt,hkey⟩:=H.key qs hin q hqm
  have hqr:q≠r:=by
   intro e;subst e
   rw[hcell 0 (by omega)] at hkey
   have hz:0<Qs.length:=by rw[H.len];omega
   obtain⟨a,c,h1,_⟩:=(H.lst 0 _ _ hkey (List.getElem?_eq_getElem hz)).1.is
   cases h1
  refine⟨by simpa [World.setCell] using hlt,?_⟩
  rw[<- hkey]
  simp only[World.cell?]
  rw[other q hqr]
theorem swap_perm {α:Type}{l:List α}{p m:Nat}{a b:α}(hp:p<l.length)(hm:m<l.length)(ha:l[p]?=some a)(hb:l[m]?=some b):((l.set p b).set m a).Perm l:=by
 obtain rfl:l[p]=a:=by rw[List.getElem?_eq_getElem hp] at ha;exact Option.some.inj ha
 obtain rfl:l[m]=b:=by rw[List.getElem?_eq_getElem hm] at hb;exact Option.some.inj hb
 exact List.set_set_perm hp hm
theorem swap_fk {Qs:List (List Nat)}{kf:Nat->List UInt8}{p m:Nat}{a b:List Nat}(hp:p<Qs.length)(hm:m<Qs.length)(ha:Qs[p]?=some a)(hb:Qs[m]?=some b)(hpm:p<m):fk ((Qs.set p b).set m a) kf=swapF (fk Qs kf) p m:=by
 funext i
 unfold swapF
 by_cases e1:i=p
 ·subst e1
  rw[if_pos rfl,fk_at hb]
  apply fk_at
  rw[List.getElem?_set,if_neg (by omega),List.getElem?_set,if_pos rfl,if_pos hp]
 ·rw[if_neg e1]
  by_cases e2:i=m
  ·subst e2
   rw[if_pos rfl,fk_at ha]
   apply fk_at
   rw[List.getElem?_set,if_pos rfl,if_pos (by simpa using hm)]
  ·rw[if_neg e2]
   unfold fk
   rw[List.getElem?_set,if_neg (Ne.symm e2),List.getElem?_set,if_neg (Ne.symm e1)]
theorem sink_any (w:World)(base h lo p r cap:Nat)(rows:List Value)(Qs:List (List Nat))(kf:Nat->List UInt8)(H:Hp w base h (.slice (some ⟨r,0,none⟩) rows.length cap) rows Qs kf)(hl:rows.length<1000)(hx:HeapEx (fk Qs kf) Qs.length lo p)(hp:p<1000) :
 Calls Tryz.prog 251 #[.pointer (some ⟨h,0,none⟩),.int .i64 p] w fun e w'=>(∃ v,e=.returned v)/\∃ rows' Qs',rows'.length=rows.length/\Hp w' base h (.slice (some ⟨r,0,none⟩) rows.length cap) rows' Qs' kf/\Qs'.Perm Qs/\HeapOK (fk Qs' kf) Qs'.length lo/\Off (fun k=>k=r) w w':=by
 have HH:Hid _:=H
 have HX:Hid _:=hx
 clear H hx
 go_enter Tryz.func251,Tryz.ntmps251
 go_wp2
 go_loopw [1] (fun x wx=>∃ (p':Nat) (rows':List Value) (Qs':List (List Nat)),p'<1000/\x=.int .i64 p'/\rows'.length=rows.length/\Hid (Hp wx base h (.slice (some ⟨r,0,none⟩) rows.length cap) rows' Qs' kf)/\Hid (Qs'.Perm Qs)/\Hid (HeapEx (fk Qs' kf) Qs'.length lo p')/\Hid (Off (fun k=>k=r) w wx)) (fun x _=>1000-(intOf x).toNat)
 case atStart=>exact⟨p,rows,Qs,hp,rfl,rfl,HH,List.Perm.refl _,HX,Off.refl _ _⟩
 case round =>
  clear HH HX hp
  obtain⟨p',rows',Qs',hp,rfl,hrl,HH,HP,HX,HO⟩:=hrel
  have hlen:=HH.out.len
  obtain⟨Wo,hWo⟩:∃ Wo,Wo=wr:=⟨_,rfl⟩
  rw[<- hWo] at HH HO ⊢
  clear hWo
  go_wp2
  go_loopw [4,5] (fun x y wx=>∃ m c:Nat,x=.int .i64 m/\y=.int .i64 c/\m<2100/\2*p'+1<=c/\c<=2*p'+3/\Hid (Below Wo.heap.size Wo wx)/\Hid (Least (fk Qs' kf) Qs'.length p' m c)) (fun _ y _=>3000-(intOf y).toNat)
  case atStart=>exact⟨p',2*p'+1,rfl,by congr 1,by omega,by omega,by omega,Below.refl _ _,Least.start _ _ _⟩
  case round =>
   obtain⟨m,c,rfl,rfl,hm,hc1,hc2,HB,HL⟩:=hrel
   have HH2:Hid _:=HH.out.below HB.out
   have b0:wr.cell? ⟨h,0,none⟩=some (.slice (some ⟨r,0,none⟩) rows.length cap):=by simp[World.cell?,HH2.out.blk]
   have hhlt:h<wr.heap.size:=(Array.getElem?_eq_some_iff.1 HH2.out.blk).1
   by_cases hce:c<=2*p'+2
   ·have hcI:(c:Int)<=2*(p':Int)+2:=by omega
    have hch:Child p' c:=by unfold Child;omega
    by_cases hcn:c<rows.length
    ·have hcnI:(c:Int)<(rows.length:Int):=by omega
     obtain⟨q,hq⟩:∃ q,Qs'[c]?=some q:=⟨Qs'[c]'(by omega),List.getElem?_eq_getElem (by omega)⟩
     have hmn:m<Qs'.length:=by
      rcases HL.out.is with e|e
      ·have:=hch.gt;omega
      ·exact e.2
     obtain⟨q',hq'⟩:∃ q',Qs'[m]?=some q':=⟨Qs'[m],List.getElem?_eq_getElem hmn⟩
     go_wp2_with fail
     refine (isAhead_any _ base h _ rows' Qs' kf HH2.out c m q q' hq hq').mono ?_
     rintro e w4 ⟨rfl,hb4⟩
     rw[<- fk_at (kf:=kf) hq,<- fk_at (kf:=kf) hq']
     have HB4:Hid (Below Wo.heap.size Wo w4):=HB.out.trans (hb4.mono HB.out.size)
     clear hb4 hq hq' HH2 b0
     cases hf:(cmpB (fk Qs' kf c) (fk Qs' kf m) == -1) with
     | true =>
       have HY:Hid _:=HL.out.yes hch (by omega) hf
       clear hf HL
       go_wp2
       refine⟨⟨c,c+1,rfl,by congr 1,by omega,by omega,by omega,HB4,HY⟩,?_⟩
       simp[intOf]
       omega
     | false =>
       have HY:Hid _:=HL.out.no hf
       clear hf HL
       go_wp2
       refine⟨⟨m,c+1,rfl,by congr 1,hm,by omega,by omega,HB4,HY⟩,?_⟩
       simp[intOf]
       omega
    ·have hcnI:¬ ((c:Int)<(rows.length:Int)):=by omega
     have HY:Hid _:=HL.out.skip (c:=c) (by omega)
     go_wp2
     refine⟨⟨m,c+1,rfl,by congr 1,hm,by omega,by omega,HB,HY⟩,?_⟩
     simp[intOf]
     omega
   ·have hcI:¬ ((c:Int)<=2*(p':Int)+2):=by omega
    obtain rfl:c=2*p'+3:=by omega
    by_cases hmp:m=p'
    ·subst hmp
     have HK:Hid (HeapOK (fk Qs' kf) Qs'.length lo):=HX.out.stop (fun d hd hn=>HL.out.all d hd (by unfold Child at hd;omega) hn)
     go_wp2
     exact bodyPost_ret (results_none Tryz.results251 _ _ _) rfl ⟨⟨_,rfl⟩,rows',hrl,Qs',HH2.out,HP.out,HK.out,HO.out.trans (Off.of_below HB.out)⟩
    ·have hne:((m:Int)==(p':Int))=false:=beq_eq_false_iff_ne.2 (by omega)
     obtain⟨hch,hmn⟩:Child p' m/\m<Qs'.length:=HL.out.is.resolve_left hmp
     have hpm:=hch.gt
     obtain⟨r1,cap1,qp,gp,op,np,cp,hlv1,hn1,hmx1,hr1,ep,erp,enp,hnp1,hnp2,hnp3,hgp,cp1,cp2,hqp,hqpm⟩:=HH2.out.at p' (by omega)
     obtain⟨r2,cap2,qm,gm,om,nm,cm,hlv2,hn2,hmx2,hr2,em,erm,enm,hnm1,hnm2,hnm3,hgm,cm1,cm2,hqm,hqmm⟩:=HH2.out.at m hmn
     rw[hrl] at hlv1 hlv2 hn1 hn2
     cases hlv1
     cases hlv2
     have hpl:p'<rows.length:=by omega
     have hml:m<rows.length:=by omega
     have fr:∀ j,wr.frozen? ⟨r,j,none⟩=false:=by
      intro j
      rcases HH2.out.row.2 with ⟨e0,_⟩|⟨g0,cap0,cur,hv0,_,hg0,_⟩
      ·cases e0
      ·injection hv0 with ha _ _
       injection ha with ha
       injection ha with hb _ _
       subst hb
       simp[World.frozen?,hg0]
     have frp:=fr p'
     have frm:=fr m
     have hmi:m<1000:=by omega
     clear fr
     have HSW:Hid _:=HH2.out.swap hrl hpm hml erp erm ep em
     have HPQ:Hid (((Qs'.set p' qm).set m qp).Perm Qs):=(swap_perm (by omega) hmn ep em).trans HP.out
     have HEX:Hid (HeapEx (fk ((Qs'.set p' qm).set m qp) kf) ((Qs'.set p' qm).set m qp).length lo m):=by
      have h1:=HX.out.down hch HL.out.le (fun d hd hn=>HL.out.all d hd (by unfold Child at hd;omega) hn) hmn
      have e1:((Qs'.set p' qm).set m qp).length=Qs'.length:=by simp
      rw[e1,swap_fk (kf:=kf) (by omega) hmn ep em (by omega)]
      exact h1
     have HOF:Hid (Off (fun k=>k=r) w wr):=HO.out.trans (Off.of_below HB.out)
     clear HH HH2 HX HL HP HO HB hqp hqm hqpm hqmm
     subst enp
     subst enm
     go_wp2
     go_region
     go_wp2
     refine⟨⟨m,_,_,hmi,rfl,by rw[List.length_set,List.length_set];exact hrl,HSW.out.below (Below.refl _ _).drew,HPQ,HEX,((HOF.out.set r _ _ (Or.inl rfl)).set r _ _ (Or.inl rfl)).drew⟩,?_⟩
     simp[intOf]
     omega
theorem Hp.setAt {w:World}{base h r n cap i:Nat}{rows:List Value}{Qs:List (List Nat)}{kf:Nat->List UInt8}{v:Value}{q:List Nat}(H:Hp w base h (.slice (some ⟨r,0,none⟩) n cap) rows Qs kf)(hn:rows.length=n)(hi:i<n)
 (hv:Lst w v q)(hq:q≠[])(hk:∀ x∈q,x<w.heap.size/\w.cell? ⟨x,0,none⟩=some (.string ⟨(kf x).toArray⟩)) :
 Hp (w.setCell ⟨r,i,none⟩ v) base h (.slice (some ⟨r,0,none⟩) n cap) (rows.set i v) (Qs.set i q) kf/\(∀ v' q',Lst w v' q'->Lst (w.setCell ⟨r,i,none⟩ v) v' q'):=by
 subst hn
 have other:∀ k,k≠r->(w.setCell ⟨r,i,none⟩ v).heap[k]?=w.heap[k]?:=by
  intro k hk
  simp[World.setCell,Array.getElem?_modify,Ne.symm hk]
 obtain⟨hlen,hrow⟩:=H.row
 rcases hrow with ⟨e0,_⟩|⟨g0,cap0,cur,hv0,hb0,hg0,hn0,hm0,hs0,htk⟩
 ·cases e0
 cases hv0
 rw[Nat.mul_one] at hs0 htk
 have hcell:∀ j,j<rows.length->w.cell? ⟨r,j,none⟩=rows[j]?:=by
  intro j hj
  rw[<- htk,List.getElem?_take_of_lt (by omega)]
  simp[World.cell?,hg0]
 have hhr:h≠r:=fun e=>H.ne (by rw[e];rfl)
 have hlst:∀ (v':Value) (qs:List Nat),Lst w v' qs->Lst (w.setCell ⟨r,i,none⟩ v) v' qs:=by
  intro v' qs hl
  obtain⟨a,c,h1,h2,h3,h4⟩:=hl.is
  refine⟨⟨a,c,h1,h2,h3,fun j q hq=>?_⟩⟩
  obtain⟨g,o,e1,⟨cs,f,hcs⟩,e3⟩:=h4 j q hq
  have hgr:g≠r:=by
   intro e;subst e
   rw[hg0] at hcs
   injection hcs with hcs
   injection hcs with _ ht _
   exact absurd ht (by decide)
  refine⟨g,o,e1,⟨cs,f,(other g hgr).trans hcs⟩,?_⟩
  rw[<- e3]
  simp only[World.cell?]
  rw[other g hgr]
 refine⟨⟨H.hb,(other h hhr).trans H.blk,?_,H.ne,by simp[H.len],?_,?_⟩,hlst⟩
 ·refine⟨by simp,Or.inr ⟨r,cap,cur.setIfInBounds i v,by simp,hb0,heap_set hg0,by simpa using hn0,hm0,by simp[hs0],?_⟩⟩
  simp only[List.length_set,Nat.mul_one]
  apply List.ext_getElem?
  intro j
  by_cases hj:j<rows.length
  ·have hrj:cur[j]?=rows[j]?:=by
    rw[<- hcell j hj]
    simp[World.cell?,hg0]
   have h2:i<cur.size:=by omega
   rw[List.getElem?_take_of_lt hj]
   simp only[Array.getElem?_toList,List.getElem?_set,Array.getElem?_setIfInBounds]
   by_cases e2:i=j
   ·subst e2;simp[h2,hj]
   ·simp[e2,hrj]
  ·rw[List.getElem?_eq_none (by simp;omega),List.getElem?_eq_none (by simp;omega)]
 ·intro j v' qs hv' hq'
  rw[List.getElem?_set] at hv' hq'
  have hil:i<Qs.length:=by rw[H.len];omega
  by_cases e2:i=j
  ·subst e2
   simp only[if_true,hil,hi,Option.some.injEq] at hv' hq'
   subst hv' hq'
   exact⟨hlst _ _ hv,hq⟩
  ·rw[if_neg e2] at hv' hq'
   exact⟨hlst _ _ (H.lst j _ _ hv' hq').1,(H.lst j _ _ hv' hq').2⟩
 ·intro qs hqs x hxq
  have hold:x<w.heap.size/\w.cell? ⟨x,0,none⟩=some (.string ⟨(kf x).toArray⟩):=by
   rcases List.mem_or_eq_of_mem_set hqs with h2|h2
   ·exact H.key qs h2 x hxq
   ·rw[h2] at hxq;exact hk x hxq
  have hqr:x≠r:=by
   intro e;subst e
   have hkey:=hold.2
   rw[hcell 0 (by omega)] at hkey
   have hz:0<Qs.length:=by rw[H.len];omega
   obtain⟨a,c,h1,_⟩:=(H.lst 0 _ _ hkey (List.getElem?_eq_getElem hz)).1.is
   cases h1
  refine⟨by simpa [World.setCell] using hold.1,?_⟩
  rw[<- hold.2]
  simp only[World.cell?]
  rw[other x hqr]
theorem Lst.tail {w:World}{g o n c q q2:Nat}{t:List Nat}(h:Lst w (.slice (some ⟨g,o,none⟩) n c) (q::q2::t)):Lst w (.slice (some ⟨g,o+1,none⟩) (t.length+1) (c-1)) (q2::t):=by
 obtain⟨a,c',h1,h2,h3,h4⟩:=h.is
 cases h1
 simp only[List.length_cons] at h2
 refine⟨⟨_,_,rfl,by simp only[List.length_cons];omega,by omega,fun j x hj=>?_⟩⟩
 obtain⟨g',o',e1,e2,e3⟩:=h4 (j+1) x (by simpa using hj)
 cases e1
 exact⟨g,o+1,rfl,e2,by rw[<- e3];congr 2;omega⟩
theorem HeapOK.ex0 {F G:Nat->List UInt8}{n n':Nat}(h:HeapOK F n 0)(hn:n'<=n)(hFG:∀ i,i≠0->i<n'->G i=F i):HeapEx G n' 0 0:=by
 refine⟨Nat.le_refl _,fun i c _ hi hc hcn=>?_,fun i c _ hc=>?_⟩
 ·have:=hc.gt
  rw[hFG i hi (by omega),hFG c (by omega) hcn]
  exact h i c (Nat.zero_le _) hc (by omega)
 ·unfold Child at hc;omega
theorem fk_set_ne {Qs:List (List Nat)}{kf:Nat->List UInt8}{i j:Nat}{q:List Nat}(h:j≠i):fk (Qs.set i q) kf j=fk Qs kf j:=by
 unfold fk
 rw[List.getElem?_set,if_neg (Ne.symm h)]
theorem take_more (w:World)(base h r cap:Nat)(rows:List Value)(Qs:List (List Nat))(kf:Nat->List UInt8)(H:Hp w base h (.slice (some ⟨r,0,none⟩) rows.length cap) rows Qs kf)(hl:rows.length<1000)(hx:HeapOK (fk Qs kf) Qs.length 0)(q q2:Nat)(t:List Nat)(h0:Qs[0]?=some (q::q2::t))(hll:t.length<1000000) :
 Calls Tryz.prog 198 #[.pointer (some ⟨h,0,none⟩)] w fun e w'=>e=.returned (.pointer (some ⟨q,0,none⟩))/\∃ rows' Qs',rows'.length=rows.length/\Hp w' base h (.slice (some ⟨r,0,none⟩) rows'.length cap) rows' Qs' kf/\Qs'.Perm (Qs.set 0 (q2::t))/\HeapOK (fk Qs' kf) Qs'.length 0/\Off (fun k=>k=r\/k=h) w w':=by
 obtain⟨r1,cap1,qs,g,o,n,c,hlv,hn,hm,hr,e1,e2,e3,e4,e5,e6,hg,c1,c2,hmem,hmq⟩:=H.at 0 (List.getElem?_eq_some_iff.1 h0).1
 rw[h0] at e1
 cases e1
 cases hlv
 have hr0:0<rows.length:=(List.getElem?_eq_some_iff.1 e2).1
 have b0:w.cell? ⟨h,0,none⟩=some (.slice (some ⟨r,0,none⟩) rows.length cap):=by simp[World.cell?,H.blk]
 have hlt:h<w.heap.size:=(Array.getElem?_eq_some_iff.1 H.blk).1
 have HH:Hid _:=H
 have HX:Hid _:=hx
 clear H hx hmem hmq
 have hn2:n=t.length+2:=by rw[e3];simp
 clear e3
 subst hn2
 go_enter Tryz.func198,Tryz.ntmps198
 have fr0:w.frozen? ⟨r,0,none⟩=false:=by
  rcases HH.out.row.2 with ⟨e0,_⟩|⟨g0,cap0,cur,hv0,_,hg0,_⟩
  ·cases e0
  ·cases hv0;simp[World.frozen?,hg0]
 have hc1:¬ (c=1):=by omega
 have hc1':¬ (1=c):=by omega
 have hLs:=(HH.out.lst 0 _ _ e2 h0).1
 have hkey:=HH.out.key _ (List.mem_of_getElem? h0)
 obtain⟨hS,hLS⟩:=HH.out.setAt rfl hr0 hLs.tail (by simp) (fun x hx=>hkey x (by simp[hx]))
 have hEX:HeapEx (fk (Qs.set 0 (q2::t)) kf) (Qs.set 0 (q2::t)).length 0 0:=HeapOK.ex0 HX.out (by simp) (fun i hi _=>fk_set_ne hi)
 have HS:Hid _:=hS
 have HE:Hid _:=hEX
 have HLS:Hid _:=hLS _ _ hLs
 have hOr:Hid (Off (fun k=>k=r\/k=h) w (w.setCell ⟨r,0,none⟩ (.slice (some ⟨g,o+1,none⟩) (t.length+1) (c-1)))):=(Off.refl _ _).set r 0 _ (Or.inl (Or.inl rfl))
 clear hS hEX hLS hLs hkey
 go_wp2_with fail
 go_region
 go_wp2_with fail
 have hlen2:(rows.set 0 (.slice (some ⟨g,o+1,none⟩) (t.length+1) (c-1))).length=rows.length:=by simp
 have hS2:=HS.out.below ((Below.refl _ _).drew)
 rw[<- hlen2] at hS2
 refine (sink_any _ base h 0 0 r cap _ _ kf hS2 (by omega) HE.out (by omega)).mono ?_
 rintro e w3 ⟨⟨v3,rfl⟩,rows3,Qs3,hl3,hH3,hP3,hK3,hO3⟩
 rw[hlen2] at hl3
 have hgr:g≠r:=by
  obtain⟨a,c',h1,h2,h3,h4⟩:=HLS.out.is
  cases h1
  obtain⟨g',o',e1,⟨cs,f,hcs⟩,_⟩:=h4 0 q rfl
  cases e1
  intro e
  subst e
  rcases HS.out.row.2 with ⟨e0,_⟩|⟨g0,cap0,cur,hv0,_,hg0,_⟩
  ·cases e0
  ·injection hv0 with ha _ _
   injection ha with ha
   injection ha with hb _ _
   subst hb
   rw[hg0] at hcs
   injection hcs with hcs
   injection hcs with _ ht _
   exact absurd ht (by decide)
 have hgs:(w.setCell ⟨r,0,none⟩ (.slice (some ⟨g,o+1,none⟩) (t.length+1) (c-1))).heap[g]?=w.heap[g]?:=by simp[World.setCell,Array.getElem?_modify,Ne.symm hgr]
 have c3:w3.cell? ⟨g,o,none⟩=some (.pointer (some ⟨q,0,none⟩)):=by
  have e5:w3.heap[g]?=w.heap[g]?:=(hO3.block g (by show g<(w.setCell _ _).heap.size;simpa [World.setCell] using hg) hgr).trans hgs
  have e6:=c2
  simp only[World.cell?] at e6 ⊢
  rw[e5]
  exact e6
 have hg3:g<w3.heap.size:=World.block_lt_of_cell? _ _ c3
 have H3:Hid _:=hH3
 have P3:Hid _:=hP3
 have K3:Hid _:=hK3
 have O3:Hid (Off (fun k=>k=r\/k=h) w w3):=(hOr.out.drew).trans (hO3.mono (fun k hk=>Or.inl hk))
 clear hH3 hP3 hK3 hO3 hgs hS2
 go_wp2
 go_ret
 refine⟨rfl,rows3,Qs3,hl3,?_,P3.out,K3.out,O3.out⟩
 have:=H3.out
 rw[hlen2] at this
 rw[hl3]
 exact this
theorem Hp.cut {w:World}{base h r n cap m:Nat}{rows:List Value}{Qs:List (List Nat)}{kf:Nat->List UInt8}(H:Hp w base h (.slice (some ⟨r,0,none⟩) n cap) rows Qs kf)(hn:rows.length=n)(hm:m<=n) :
 Hp (w.setCell ⟨h,0,none⟩ (.slice (some ⟨r,0,none⟩) m cap)) base h (.slice (some ⟨r,0,none⟩) m cap) (rows.take m) (Qs.take m) kf:=by
 subst hn
 have other:∀ k,k≠h->(w.setCell ⟨h,0,none⟩ (.slice (some ⟨r,0,none⟩) m cap)).heap[k]?=w.heap[k]?:=by
  intro k hk
  simp[World.setCell,Array.getElem?_modify,Ne.symm hk]
 obtain⟨hlen,hrow⟩:=H.row
 rcases hrow with ⟨e0,_⟩|⟨g0,cap0,cur,hv0,hb0,hg0,hn0,hm0,hs0,htk⟩
 ·cases e0
 cases hv0
 have hrh:r≠h:=fun e=>H.ne (by rw[<- e];rfl)
 have hml:(rows.take m).length=m:=by rw[List.length_take];omega
 refine⟨H.hb,?_,?_,H.ne,by rw[List.length_take,List.length_take,H.len],?_,?_⟩
 ·have:=heap_set (i:=0) (v:=.slice (some ⟨r,0,none⟩) m cap) H.blk
  simpa using this
 ·refine⟨by simp,Or.inr ⟨r,cap,cur,by rw[hml],hb0,(other r hrh).trans hg0,by rw[hml];omega,hm0,hs0,?_⟩⟩
  rw[hml,<- htk]
  simp only[Nat.mul_one]
  rw[List.take_take,Nat.min_eq_left hm]
 ·intro j v qs hv hq
  rw[List.getElem?_take] at hv hq
  split at hv
  ·rename_i hj
   rw[if_pos hj] at hq
   obtain⟨h1,h2⟩:=H.lst j v qs hv hq
   refine⟨?_,h2⟩
   obtain⟨a,c,k1,k2,k3,k4⟩:=h1.is
   refine⟨⟨a,c,k1,k2,k3,fun j q hq=>?_⟩⟩
   obtain⟨g,o,e1,⟨cs,f,hcs⟩,e3⟩:=k4 j q hq
   have hgh:g≠h:=by
    intro e;subst e
    rw[H.blk] at hcs
    injection hcs with hcs
    injection hcs with _ ht _
    exact absurd ht (by decide)
   refine⟨g,o,e1,⟨cs,f,(other g hgh).trans hcs⟩,?_⟩
   rw[<- e3]
   simp only[World.cell?]
   rw[other g hgh]
  ·cases hv
 ·intro qs hqs q hq
  obtain⟨h1,h2⟩:=H.key qs (List.mem_of_mem_take hqs) q hq
  have hqh:q≠h:=by
   intro e;subst e
   simp only[World.cell?,H.blk] at h2
   simp at h2
  refine⟨by simpa [World.setCell] using h1,?_⟩
  rw[<- h2]
  simp only[World.cell?]
  rw[other q hqh]
theorem take_one (w:World)(base h r cap m:Nat)(rows:List Value)(Qs:List (List Nat))(kf:Nat->List UInt8)(H:Hp w base h (.slice (some ⟨r,0,none⟩) rows.length cap) rows Qs kf)(hl:rows.length<1000)(hx:HeapOK (fk Qs kf) Qs.length 0)(q:Nat)(h0:Qs[0]?=some [q])(hm:rows.length=m+1)(qm:List Nat)(hqm:Qs[m]?=some qm) :
 Calls Tryz.prog 198 #[.pointer (some ⟨h,0,none⟩)] w fun e w'=>e=.returned (.pointer (some ⟨q,0,none⟩))/\∃ rows' Qs',rows'.length=m/\Hp w' base h (.slice (some ⟨r,0,none⟩) rows'.length cap) rows' Qs' kf/\Qs'.Perm ((Qs.set 0 qm).take m)/\HeapOK (fk Qs' kf) Qs'.length 0/\Off (fun k=>k=r\/k=h) w w':=by
 obtain⟨r1,cap1,qs,g,o,n,c,hlv,hn,hmx,hr,e1,e2,e3,e4,e5,e6,hg,c1,c2,hmem,hmq⟩:=H.at 0 (List.getElem?_eq_some_iff.1 h0).1
 rw[h0] at e1
 cases e1
 cases hlv
 obtain⟨r2,cap2,qs2,g2,o2,n2,d2,hlv2,_,_,_,e12,e22,e32,e42,e52,e62,hg2,c12,_,_,hmq2⟩:=H.at m (List.getElem?_eq_some_iff.1 hqm).1
 rw[hqm] at e12
 cases e12
 cases hlv2
 subst e32
 have hr0:0<rows.length:=by omega
 have b0:w.cell? ⟨h,0,none⟩=some (.slice (some ⟨r,0,none⟩) rows.length cap):=by simp[World.cell?,H.blk]
 have fh:w.frozen? ⟨h,0,none⟩=false:=by simp[World.frozen?,H.blk]
 have hlt:h<w.heap.size:=(Array.getElem?_eq_some_iff.1 H.blk).1
 have hne:r≠h:=fun e=>H.ne (by rw[<- e];rfl)
 have fr0:w.frozen? ⟨r,0,none⟩=false:=by
  rcases H.row.2 with ⟨e0,_⟩|⟨g0,cap0,cur,hv0,_,hg0,_⟩
  ·cases e0
  ·cases hv0;simp[World.frozen?,hg0]
 have HH:Hid _:=H
 have HX:Hid _:=hx
 have hn1:n=1:=by rw[e3];rfl
 subst hn1
 clear e3 hmem H hx
 have HMQ:Hid _:=hmq2
 clear hmq2 hmq
 rw[hm] at b0 hn hr0
 have hmI:((m+1:Nat):Int)-1=(m:Int):=by omega
 go_enter Tryz.func198,Tryz.ntmps198
 have hLs:=(HH.out.lst 0 _ _ e2 h0).1
 have hLm:=HH.out.lst m _ _ e22 hqm
 obtain⟨hS,hLS⟩:=HH.out.setAt (i:=0) rfl (by omega) hLm.1 hLm.2 (HH.out.key _ HMQ.out)
 have hC:=hS.cut (m:=m) (by simp) (by omega)
 have HC:Hid _:=hC
 have HE:Hid (HeapEx (fk ((Qs.set 0 qm).take m) kf) ((Qs.set 0 qm).take m).length 0 0):=by
  refine HeapOK.ex0 HX.out (by simp;omega) (fun i hi hlt=>?_)
  have him:i<m:=by rw[List.length_take] at hlt;omega
  unfold fk
  rw[List.getElem?_take,if_pos him,List.getElem?_set,if_neg (by omega)]
 have hgr:g≠r/\g≠h:=by
  obtain⟨a,c',h1,h2,h3,h4⟩:=hLs.is
  cases h1
  obtain⟨g',o',e1,⟨cs,f,hcs⟩,_⟩:=h4 0 q rfl
  cases e1
  refine⟨fun e=>?_,fun e=>?_⟩
  ·subst e
   rcases HH.out.row.2 with ⟨e0,_⟩|⟨g0,cap0,cur,hv0,_,hg0,_⟩
   ·cases e0
   ·injection hv0 with ha _ _
    injection ha with ha
    injection ha with hb _ _
    subst hb
    rw[hg0] at hcs
    injection hcs with hcs
    injection hcs with _ ht _
    exact absurd ht (by decide)
  ·subst e
   rw[HH.out.blk] at hcs
   injection hcs with hcs
   injection hcs with _ ht _
   exact absurd ht (by decide)
 clear hS hLS hC hLs hLm
 have hOr:Hid (Off (fun k=>k=r\/k=h) w ((w.setCell ⟨r,0,none⟩ (.slice (some ⟨g2,o2,none⟩) qm.length d2)).setCell ⟨h,0,none⟩ (.slice (some ⟨r,0,none⟩) m cap))):=((Off.refl _ _).set r 0 _ (Or.inl (Or.inl rfl))).set h 0 _ (Or.inl (Or.inr rfl))
 go_wp2_with fail
 go_region
 go_wp2_with fail
 have hlen2:((rows.set 0 (.slice (some ⟨g2,o2,none⟩) qm.length d2)).take m).length=m:=by rw[List.length_take,List.length_set];omega
 have hS2:=HC.out.below ((Below.refl _ _).drew)
 have hS3:=hS2
 rw[<- hlen2] at hS3
 simp only[hlen2] at hS3
 refine (sink_any _ base h 0 0 r cap _ _ kf (by rw[hlen2];exact hS2) (by omega) HE.out (by omega)).mono ?_
 rintro e w3 ⟨⟨v3,rfl⟩,rows3,Qs3,hl3,hH3,hP3,hK3,hO3⟩
 rw[hlen2] at hl3 hH3
 have hgs:((w.setCell ⟨r,0,none⟩ (.slice (some ⟨g2,o2,none⟩) qm.length d2)).setCell ⟨h,0,none⟩ (.slice (some ⟨r,0,none⟩) m cap)).heap[g]?=w.heap[g]?:=by simp[World.setCell,Array.getElem?_modify,Ne.symm hgr.1,Ne.symm hgr.2]
 have c3:w3.cell? ⟨g,o,none⟩=some (.pointer (some ⟨q,0,none⟩)):=by
  have e5:w3.heap[g]?=w.heap[g]?:=(hO3.block g (by show g<((w.setCell _ _).setCell _ _).heap.size;simpa [World.setCell] using hg) hgr.1).trans hgs
  have e6:=c2
  simp only[World.cell?] at e6 ⊢
  rw[e5]
  exact e6
 have hg3:g<w3.heap.size:=World.block_lt_of_cell? _ _ c3
 have H3:Hid _:=hH3
 have P3:Hid _:=hP3
 have K3:Hid _:=hK3
 have O3:Hid (Off (fun k=>k=r\/k=h) w w3):=(hOr.out.drew).trans (hO3.mono (fun k hk=>Or.inl hk))
 clear hH3 hP3 hK3 hO3 hgs hS2 hS3
 go_wp2
 go_ret
 exact⟨rfl,rows3,Qs3,hl3,by rw[hl3];exact H3.out,P3.out,K3.out,O3.out⟩
end Go.Proofs.YtmehkneofinmiaaGreatDoor

/-
 Texts of this proof, part 18.
-/
import Derived.Test.YtmehkneofinmiaaGreatDoorP17
import Derived.Sort.LoopGhostIn
set_option maxRecDepth 100000
set_option maxHeartbeats 4000000
namespace Go.Proofs.YtmehkneofinmiaaGreatDoor
open Go.RowKit Go.Shelf
attribute [local go_sem] Oper.semAt_some
theorem OwnT.of_off {T:TypeId->Prop}{base:Nat}{A B:World}{S:Nat->Prop}(h:Off S A B)(hb:base<=A.heap.size)(hS:∀ k,S k->base<=k/\∃ c t f,A.heap[k]?=some (Obj.cells c t f)/\T t):OwnT T base A B:=by
 refine⟨⟨h.os,h.tape,h.output,h.size,fun k c t f hk ht=>?_,fun k hk=>h.block k (by omega) (fun hs=>by have:=(hS k hs).1;omega)⟩,fun k o hk ho=>?_⟩
 ·rw[h.block k (Array.getElem?_eq_some_iff.1 hk).1 ?_]
  ·exact hk
  ·intro hs
   obtain⟨_,c',t',f',h1,h2⟩:=hS k hs
   rw[hk] at h1
   cases h1
   exact ht h2
 ·rw[h.block k (Array.getElem?_eq_some_iff.1 hk).1 ?_]
  ·exact hk
  ·intro hs
   obtain⟨_,c',t',f',h1,h2⟩:=hS k hs
   rw[hk] at h1
   cases h1
   cases ho
theorem hpTake_any (w:World)(base h r cap:Nat)(rows:List Value)(Qs:List (List Nat))(kf:Nat->List UInt8)(H:Hp w base h (.slice (some ⟨r,0,none⟩) rows.length cap) rows Qs kf)(hl:rows.length<1000)(hx:HeapOK (fk Qs kf) Qs.length 0)(q:Nat)(t:List Nat)(h0:Qs[0]?=some (q::t))(hll:t.length<1000000)(hbw:base<=w.heap.size) :
 Calls Tryz.prog 198 #[.pointer (some ⟨h,0,none⟩)] w fun e w'=>e=.returned (.pointer (some ⟨q,0,none⟩))/\∃ rows' Qs',rows'.length<=rows.length/\Hp w' base h (.slice (some ⟨r,0,none⟩) rows'.length cap) rows' Qs' kf/\(q::Qs'.flatten).Perm Qs.flatten/\(∀ qs∈Qs',qs∈Qs\/qs=t)/\HeapOK (fk Qs' kf) Qs'.length 0/\OwnT tHeap base w w':=by
 have hown:∀ k,(k=r\/k=h)->base<=k/\∃ c t f,w.heap[k]?=some (Obj.cells c t f)/\tHeap t:=by
  rintro k (rfl|rfl)
  ·rcases H.row.2 with ⟨e0,_⟩|⟨g0,cap0,cur,hv0,hb0,hg0,_⟩
   ·cases e0
   ·cases hv0;exact⟨hb0,_,_,_,hg0,Or.inr rfl⟩
  ·exact⟨H.hb,_,_,_,H.blk,Or.inl rfl⟩
 cases Qs with
 | nil=>simp at h0
 | cons Q R =>
   simp only[List.getElem?_cons_zero,Option.some.injEq] at h0
   subst h0
   cases t with
   | cons q2 t =>
     refine (take_more w base h r cap rows _ kf H hl hx q q2 t rfl (by simp at hll;omega)).mono ?_
     rintro e w' ⟨rfl,rows',Qs',h1,h2,h3,h4,h5⟩
     simp only[List.set_cons_zero] at h3
     refine⟨rfl,rows',Qs',by omega,h2,?_,fun qs hq=>?_,h4,OwnT.of_off h5 hbw hown⟩
     ·simp only[List.flatten_cons]
      refine (List.Perm.cons q h3.flatten).trans ?_
      simp
     ·have:=h3.mem_iff.1 hq
      rcases List.mem_cons.1 this with h|h
      ·exact Or.inr h
      ·exact Or.inl (by simp[h])
   | nil =>
     have hlen:R.length+1=rows.length:=by have:=H.len;simpa using this
     obtain⟨qm,hqm⟩:∃ qm,(([q]:List Nat)::R)[R.length]?=some qm:=⟨_,List.getElem?_eq_getElem (by simp)⟩
     refine (take_one w base h r cap R.length rows _ kf H hl hx q rfl (by omega) qm hqm).mono ?_
     rintro e w' ⟨rfl,rows',Qs',h1,h2,h3,h4,h5⟩
     simp only[List.set_cons_zero] at h3
     have hR:((qm::R).take R.length).Perm R:=by
      rcases List.eq_nil_or_concat R with rfl|⟨R,x,rfl⟩
      ·simp
      ·have e1:(R.concat x).length=R.length+1:=by simp
       rw[e1,List.getElem?_cons_succ] at hqm
       rw[e1,List.take_succ_cons]
       simp only[List.concat_eq_append] at hqm ⊢
       rw[List.getElem?_append_right (Nat.le_refl _)] at hqm
       simp at hqm
       subst hqm
       rw[List.take_left]
       exact (List.perm_append_singleton x R).symm
     have h6:=h3.trans hR
     refine⟨rfl,rows',Qs',by omega,h2,?_,fun qs hq=>Or.inl (by simp[h6.mem_iff.1 hq]),h4,OwnT.of_off h5 hbw hown⟩
     simp only[List.flatten_cons,List.singleton_append]
     exact List.Perm.cons q h6.flatten
theorem flat_full (A:List (List Nat)):(A.filter full).flatten.Perm A.flatten:=by
 induction A with
 | nil=>simp
 | cons Q A ih =>
   cases hf:full Q with
   | true =>
     rw[List.filter_cons_of_pos hf]
     exact List.Perm.append_left Q ih
   | false =>
     rw[List.filter_cons_of_neg (by simp[hf])]
     have:Q=[]:=by cases Q with|nil=>rfl|cons _ _=>simp[full] at hf
     subst this
     simpa using ih
theorem OwnT.mono {T:TypeId->Prop}{b b':Nat}{A B:World}(h:OwnT T b A B)(hb:b'<=b):OwnT T b' A B:=⟨⟨h.os,h.tape,h.output,h.size,h.keep,fun k hk=>h.low k (by omega)⟩,h.non⟩
abbrev En (A:List (List Nat)):={ q:Nat // q∈A.flatten }
def encE {A:List (List Nat)}(x:En A):Array Value:=#[.pointer (some ⟨x.1,0,none⟩)]
def vals {A:List (List Nat)}(l:List (En A)):List Nat:=l.map (·.1)
theorem lists_stops (A:List (List Nat))(kf:Nat->List UInt8)(lv0:Value)(w:World)(n₀ n Bl Bf:Nat)(hL:LLs w lv0 A kf)(hA:A.length<100)(hup:∀ qs∈A,RiseE kf qs)(hlow:∀ q∈A.flatten,q<n₀)(hcnt:A.flatten.length<1000000)
 (hBl:w.cell? ⟨Bl,0,none⟩=some lv0)(hBl2:Bl<w.heap.size)(hBf:w.cell? ⟨Bf,0,none⟩=some (.func (.func 134) #[] #[]))(hBf2:Bf<w.heap.size)(hn:1<=n) :
 SeqOwn Fence.wide n Tryz.prog 196 #[.pointer (some ⟨Bl,0,none⟩),.pointer (some ⟨Bf,0,none⟩)] (encE (A:=A)) tHeap (Km n₀)
  (fun xs=>(vals xs).Perm A.flatten/\RiseE kf (vals xs)) (fun pre=>∃ rest,(vals pre++rest).Perm A.flatten/\RiseE kf (vals pre)/\∀ a∈vals pre,∀ b∈rest,leB (kf a) (kf b)) A.flatten.length w:=by
 intro l J Jx W hW hJ hJx hY h0
 have HL:Hid (LLs W lv0 A kf):=hL.below hW
 have c1:=(hW.cell (p:=⟨Bl,0,none⟩) hBl2).trans hBl
 have c2:=(hW.cell (p:=⟨Bf,0,none⟩) hBf2).trans hBf
 have hsz:=hW.size
 refine callsIn_of_wp Tryz.func196 rfl trivial ?_ rfl
 simp only[Tryz.ntmps196,List.size_toArray,List.length_cons,List.length_nil,Nat.reduceAdd,Nat.reduceSub,Array.replicate_succ,Array.replicate_zero,List.push_toArray,List.append_toArray,List.nil_append,List.cons_append]
 gi_wp2_with fail
 refine⟨trivial,?_⟩
 refine (callsIn_wide.2 (newHeap_any W lv0 A kf HL.out hA)).mono ?_
 rintro e W1 ⟨h,lv,rows,Qs,rfl,hH,hP,hK,hrl,hb1⟩
 have hJ1:J [] W1:=hJ _ _ _ h0 (OwnT.of_below (by omega) hb1)
 have hC:Came kf A [] Qs:=by
  refine⟨?_,List.Pairwise.nil,fun a ha=>by simp at ha,fun qs hq=>hup qs (List.mem_filter.1 (hP.mem_iff.1 hq)).1⟩
  rw[List.nil_append]
  exact hP.flatten.trans (flat_full A)
 have HH:Hid _:=hH
 have HC:Hid _:=hC
 have HK:Hid _:=hK
 have HJ:Hid _:=hJ1
 clear hH hC hK hJ1 hP
 gi_wp2_with fail
 have hb2:=hb1.size
 gi_loopg [] A.flatten.length (fun g wr=>∃ (pre:List (En A)) (lv:Value) (rows:List Value) (Qs:List (List Nat)),Qs.flatten.length=g/\rows.length<100/\Hid (Hp wr W.heap.size h lv rows Qs kf)/\Hid (Came kf A (vals pre) Qs)/\Hid (HeapOK (fk Qs kf) Qs.length 0)/\Hid (J pre wr)/\W.heap.size<=wr.heap.size)
 case atStart=>exact⟨[],lv,rows,Qs,by have:=HC.out.all.length_eq;simpa [vals] using this,by omega,HH,HC,HK,HJ,hb2⟩
 case round =>
  clear HH HC HK HJ hb2
  obtain⟨pre,lv,rows,Qs,hg,hrl,HH,HC,HK,HJ,hb2⟩:=hrel
  have hlen:=HH.out.len
  cases Qs with
  | nil =>
    have hr0:rows.length=0:=by simpa using hlen.symm
    obtain⟨a',c',hlv⟩:∃ a' c',lv=.slice a' 0 c':=by
     rcases HH.out.row.2 with ⟨e0,_⟩|⟨g0,cap0,cur,hv0,_⟩
     ·exact⟨_,_,e0⟩
     ·rw[hr0] at hv0;exact⟨_,_,hv0⟩
    have b0:wr.cell? ⟨h,0,none⟩=some (.slice a' 0 c'):=by rw[<- hlv];simp[World.cell?,HH.out.blk]
    gi_wp2
    go_end0
    refine⟨⟨_,rfl⟩,.inl ⟨pre,⟨by simpa using HC.out.all,HC.out.up⟩,HJ.out⟩⟩
  | cons Q R =>
    have hne:∀ qs∈Q::R,qs≠[]:=by
     intro qs hq
     obtain⟨i,hi,e⟩:=List.getElem_of_mem hq
     have hi2:i<rows.length:=by omega
     exact (HH.out.lst i _ qs (List.getElem?_eq_getElem hi2) (by rw[List.getElem?_eq_getElem hi,e])).2
    cases Q with
    | nil=>exact absurd rfl (hne [] (by simp))
    | cons q t =>
      obtain⟨r,cap,hlv⟩:∃ r cap,lv=.slice (some ⟨r,0,none⟩) rows.length cap:=by
       rcases HH.out.row.2 with ⟨_,hz⟩|⟨g0,cap0,cur,hv0,_⟩
       ·simp at hlen;omega
       ·exact⟨_,_,hv0⟩
      subst hlv
      have b0:wr.cell? ⟨h,0,none⟩=some (.slice (some ⟨r,0,none⟩) rows.length cap):=by simp[World.cell?,HH.out.blk]
      have hrI:(0:Int)<(rows.length:Int):=by simp at hlen;omega
      have hqA:q∈A.flatten:=HC.out.all.mem_iff.1 (by simp)
      have hcount:=HC.out.all.length_eq
      simp only[List.length_append,List.flatten_cons,List.length_cons,vals,List.length_map] at hcount
      have htl:t.length<1000000:=by omega
      have HT:Hid _:=hpTake_any wr W.heap.size h r cap rows _ kf HH.out (by omega) HK.out q t rfl htl hb2
      clear HH
      gi_wp2_with fail
      refine⟨trivial,?_⟩
      refine (callsIn_wide.2 HT.out).mono ?_
      rintro e W2 ⟨rfl,rows2,Qs2,hl2,hH2,hP2,hE2,hK2,hO2⟩
      have hJ2:J pre W2:=hJ _ _ _ HJ.out (hO2.mono (by omega))
      have hC2:Came kf A (vals (pre++[(⟨q,hqA⟩:En A)])) Qs2:=by
       have:=HC.out.take (t:=t) rfl HK.out hne hP2 (fun qs hq=>by
        rcases hE2 qs hq with h|h
        ·exact HC.out.each qs h
        ·rw[h];exact (List.pairwise_cons.1 (HC.out.each (q::t) (by simp))).2)
       simpa [vals] using this
      have hpl:pre.length<A.flatten.length:=by omega
      obtain⟨fn,tmps,assign,body,hy,hR⟩:=hY pre ⟨q,hqA⟩ W2 hJ2 hpl
      unfold encE at hy
      dsimp only at hy
      have H2:Hid _:=hH2
      have C2:Hid _:=hC2
      have K2:Hid _:=hK2
      have hg2:Qs2.flatten.length+1=gk:=by have:=hP2.length_eq;simp only[List.length_cons] at this;omega
      have hs2:W.heap.size<=W2.heap.size:=Nat.le_trans hb2 hO2.size
      have hlo2:Hid (∀ qs∈Qs2,∀ x∈qs,x<n₀):=by
       intro qs hq x hx
       exact hlow x (HC.out.all.mem_iff.1 (List.mem_append_right _ (hP2.mem_iff.1 (List.mem_cons_of_mem _ (List.mem_flatten.2 ⟨qs,hq,hx⟩)))))
      clear hH2 hC2 hK2 hP2 hE2 hO2 HT HC HK HJ b0 hJ2
      gi_wp2
      refine hR.mono ?_
      rintro e W3 (⟨rfl,hJ3,hk3⟩|⟨rfl,hJx3⟩)
      ·have H3:Hid _:=H2.out.kept hk3 hlo2.out
       have hs3:W.heap.size<=W3.heap.size:=Nat.le_trans hs2 hk3.low.size
       gi_wp2
       go_roundg Qs2.flatten.length
       case measure=>omega
       case rel=>exact⟨_,_,rows2,Qs2,rfl,by omega,H3,C2,K2,hJ3,hs3⟩
      ·gi_wp2
       refine bodyPost_ret (results_none rfl _ _ _) rfl ?_
       refine⟨⟨_,rfl⟩,.inr ⟨_,⟨Qs2.flatten,C2.out.all,C2.out.up,C2.out.le⟩,hJx3⟩⟩
end Go.Proofs.YtmehkneofinmiaaGreatDoor
namespace Go.Proofs.YtmehkneofinmiaaGreatDoor
open Go.RowKit Go.Shelf
attribute [local go_sem] Oper.semAt_some
structure Kq (B b:Nat)(W W':World):Prop where
 low:Below B W W'
 box:W'.heap[b]?=W.heap[b]?
theorem Kq.refl (B b:Nat)(W:World):Kq B b W W:=⟨Below.refl _ _,rfl⟩
theorem Kq.trans {B b:Nat}{X Y Z:World}(h:Kq B b X Y)(k:Kq B b Y Z):Kq B b X Z:=⟨h.low.trans k.low,k.box.trans h.box⟩
theorem Kq.put {B b:Nat}{w:World}(hB:B<=w.heap.size)(hb:b<w.heap.size)(W:World)(l:Nat)(o o':Obj)(hl:w.heap.size<=l)(h:W.heap[l]?=some o)(h1:o.isCells=false)(h2:o.isWalk=false):Kq B b W (W.putObj l o') :=
 ⟨belowK_b hB W l o o' hl h h1 h2,by simp only[World.putObj];rw[Array.getElem?_setIfInBounds_ne (by omega)]⟩
theorem Kq.cell {B b:Nat}{W W':World}(h:Kq B b W W'):W'.cell? ⟨b,0,none⟩=W.cell? ⟨b,0,none⟩:=by simp only[World.cell?];rw[h.box]
abbrev V:={ v:Ver // v.num<1000000000000000/\v.time<1000000000000000/\v.body.length<1000000 }
instance:Inhabited V:=⟨⟨⟨0,0,false,[]⟩,by simp⟩⟩
def plainV (l:List V):List Ver:=l.map (·.1)
def backAt (l:List V)(j:Nat):Nat×V:=(l.length-1-j,(l[l.length-1-j]?).getD default)
def backs (l:List V)(k:Nat):List (Nat×V):=(List.range k).map (backAt l)
theorem backs_succ (l:List V)(k:Nat):backs l (k+1)=backs l k++[backAt l k]:=by simp[backs,List.range_succ]
theorem backs_length (l:List V)(k:Nat):(backs l k).length=k:=by simp[backs]
def encV (x:Nat×V):Array Value:=#[.int .i64 (x.1:Int),verAgg x.2.1]
theorem back1_in (F:Fence)(n:Nat)(h7:F.fn 199)(hro:F.round=none)(hn:1<=n)(l Bs n₀:Nat)(a:Option Addr)(cap:Nat)(vs:List V)(hl:vs.length<1000000)(J Jx:List (Nat×V)->World->Prop)
 (hY:∀ pre x W,J pre W->pre.length<vs.length->YieldAt F (n-1) Tryz.prog l (encV x) W fun e W' =>
   (e=.returned (.bool true)/\J (pre++[x]) W'/\Kq n₀ Bs W W')\/(e=.returned (.bool false)/\Jx (pre++[x]) W'))
 (W:World)(hBs:W.cell? ⟨Bs,0,none⟩=some (.slice a vs.length cap))
 (hc:∀ W',Kq n₀ Bs W W'->W'.ownsRow 0 174 4 (.slice a vs.length cap) vs.length (rowOf (plainV vs)))(h0:J [] W) :
 CallsIn F n Tryz.prog 199 #[.func (.yield l) #[] #[],.pointer (some ⟨Bs,0,none⟩)] W fun e W'=>(∃ v,e=.returned v) /\
  ((∃ ys,ys=backs vs vs.length/\J ys W')\/(∃ pre,(∃ k,k<=vs.length/\pre=backs vs k)/\Jx pre W')):=by
 refine callsIn_of_wp Tryz.func199 rfl h7 ?_ hro
 simp only[Tryz.ntmps199,List.size_toArray,List.length_cons,List.length_nil,Nat.reduceAdd,Nat.reduceSub,Array.replicate_succ,Array.replicate_zero,List.push_toArray,List.append_toArray,List.nil_append,List.cons_append]
 gi_wp2
 gi_loopw [3] (fun i wr=>∃ k:Nat,k<=vs.length/\i=.int .i64 ((vs.length:Int)-1-k)/\J (backs vs k) wr/\Kq n₀ Bs W wr)
  (fun i _=>(intOf i+1).toNat)
 case atStart=>exact⟨0,Nat.zero_le _,by simp,h0,Kq.refl _ _ _⟩
 case round =>
  obtain⟨k,hk,rfl,hJs,hnx⟩:=hrel
  have hB1:=hnx.cell.trans hBs
  by_cases hlt:k<vs.length
  ·obtain⟨m,hm⟩:∃ m,vs.length=m+1+k:=⟨vs.length-1-k,by omega⟩
   have hmI:(vs.length:Int)-1-k=(m:Int):=by omega
   rw[hmI]
   have hml:m<vs.length:=by omega
   have hvm:(plainV vs)[m]?=some (vs[m]).1:=by simp[plainV,List.getElem?_eq_getElem hml]
   have hbk:backAt vs k=(m,vs[m]):=by
    have e:vs.length-1-k=m:=by omega
    simp only[backAt,e,List.getElem?_eq_getElem hml,Option.getD_some]
   obtain⟨g,cp,e1,hn2,hmx,hg,_,hf,c0,c1,c2,c3⟩:=row_cells (l:=plainV vs) (by rw[show (plainV vs).length=vs.length by simp[plainV]];exact hc wr hnx) m _ hvm
   rw[show (plainV vs).length=vs.length by simp[plainV]] at e1 hn2
   cases e1
   obtain⟨fn,tmps,assign,body,hy,hR⟩:=hY _ (m,vs[m]) wr hJs (by rw[backs_length];exact hlt)
   unfold encV verAgg at hy
   dsimp only at hy
   obtain⟨v,hv⟩:∃ v,v=vs[m]:=⟨_,rfl⟩
   rw[<- hv] at hy hR c0 c1 c2 c3 hbk
   have HV:Hid _:=hbk
   have HM:Hid (vs.length=m+1+k):=hm
   clear hvm hv hbk hm hmI
   gi_wp2
   refine hR.mono ?_
   rintro e W3 (⟨rfl,hJ3,hk3⟩|⟨rfl,hJx3⟩)
   ·gi_wp2
    go_roundw
    case rel=>exact⟨k+1,by omega,by rw[HM.out];congr 1;omega,by rw[backs_succ,HV.out];exact hJ3,hnx.trans hk3⟩
    case measure=>simp[intOf]
   ·gi_wp2
    refine bodyPost_ret (results_none rfl _ _ _) rfl ?_
    exact⟨⟨_,rfl⟩,.inr ⟨_,⟨k+1,by omega,by rw[backs_succ,HV.out]⟩,hJx3⟩⟩
  ·obtain rfl:k=vs.length:=by omega
   have hmI:(vs.length:Int)-1-vs.length = -1:=by omega
   rw[hmI]
   gi_wp2
   go_end0
   exact⟨⟨_,rfl⟩,.inl ⟨_,rfl,hJs⟩⟩
theorem back_in (F:Fence)(n:Nat)(h5:F.fn 138)(hro:F.round=none)(a:Option Addr)(len cap:Nat)(w:World) :
 CallsIn F n Tryz.prog 138 #[.slice a len cap] w fun e w'=>e=.returned (.func (.func 199) #[] #[.pointer (some ⟨w.heap.size,0,none⟩)])/\w'=w.alloc (.cells #[.slice a len cap] 228):=by
 refine callsIn_of_wp Tryz.func138 rfl h5 ?_ hro
 simp only[Tryz.ntmps138,List.size_toArray,List.length_cons,List.length_nil,Nat.reduceAdd,Nat.reduceSub,Array.replicate_succ,Array.replicate_zero,List.push_toArray,List.append_toArray,List.nil_append,List.cons_append]
 gi_wp2
 go_ret
 exact⟨rfl,rfl⟩
theorem row_lower {w x:World}{base B:Nat}{e:TypeId}{k:Nat}{v:Value}{n:Nat}{xs:List Value}(h:w.ownsRow base e k v n xs)(hB:∀ g,v.ownBlock=some g->g<B)(hb:Below B w x):x.ownsRow base e k v n xs:=by
 refine⟨h.1,?_⟩
 rcases h.2 with h0|⟨g,cap,cur,hv,h1,hg,h2⟩
 ·exact Or.inl h0
 ·exact Or.inr ⟨g,cap,cur,hv,h1,(hb.block _ (hB g (by rw[hv];rfl))).trans hg,h2⟩
theorem back_stops (F:Fence)(n:Nat)(h7:F.fn 199)(hro:F.round=none)(hn:1<=n)(Bs n₀:Nat)(a:Option Addr)(cap:Nat)(vs:List V)(hl:vs.length<1000000)(w:World)(hBs:Bs<w.heap.size)(hn₀:n₀<=w.heap.size)
 (hc:w.cell? ⟨Bs,0,none⟩=some (.slice a vs.length cap))(hr:w.ownsRow 0 174 4 (.slice a vs.length cap) vs.length (rowOf (plainV vs)))(hrb:∀ g,(Value.slice a vs.length cap).ownBlock=some g->g<n₀) :
 SeqStopsK F n Tryz.prog 199 #[.pointer (some ⟨Bs,0,none⟩)] encV (Kq n₀ Bs) (fun ys=>ys=backs vs vs.length) (fun pre=>∃ k,k<=vs.length/\pre=backs vs k) vs.length w:=fun l J Jx W hW _ _ hY h0 =>
 back1_in F n h7 hro hn l Bs n₀ a cap vs hl J Jx hY W ((hW.cell (p:=⟨Bs,0,none⟩) hBs).trans hc) (fun _ hb=>row_lower (row_lower hr hrb (hW.mono hn₀)) hrb hb.low) h0
end Go.Proofs.YtmehkneofinmiaaGreatDoor
namespace Go.Proofs.YtmehkneofinmiaaGreatDoor
open Go.RowKit Go.Shelf
attribute [local go_sem] Oper.semAt_some
theorem builderF_same {T e B b:Nat}{bs:List Value}{W W':World}(h:Lib.IsBuilderF T e B b bs W)(hs:∀ (k:Nat) (c:Array Value) (t:TypeId) (f:Nat×Nat),W.heap[k]?=some (Obj.cells c t f)->W'.heap[k]?=some (Obj.cells c t f)):Lib.IsBuilderF T e B b bs W':=by
 have row:∀ v n xs,W.ownsRowF B e 1 v n xs->W'.ownsRowF B e 1 v n xs:=by
  intro v n xs h
  refine⟨h.1,?_⟩
  rcases h.2 with h0|⟨g,cap,cur,fz,hv,h1,hg,h2⟩
  ·exact Or.inl h0
  ·exact Or.inr ⟨g,cap,cur,fz,hv,h1,hs _ _ _ _ hg,h2⟩
 rcases h with ⟨h0,v,h1,h2,h3⟩|⟨h0,v,h1,h2,h3⟩
 ·exact Or.inl ⟨h0,v,hs _ _ _ _ h1,row _ _ _ h2,h3⟩
 ·exact Or.inr ⟨h0,v,hs _ _ _ _ h1,row _ _ _ h2,h3⟩
structure Vx (w0:World)(sl:Value)(t:List UInt8)(W:World):Prop where
 low:Below w0.heap.size w0 W
 res:W.heap[w0.heap.size]?=some (.cells #[.int .i64 0,.slice none 0 0,.string ⟨#[]⟩] 100 (0,0))
 bld:Lib.IsBuilderF 145 5 (w0.heap.size+1) (w0.heap.size+1) (Lib.byteCells t) W
 box:W.heap[w0.heap.size+2]?=some (.cells #[sl] 228 (0,0))
 sz:w0.heap.size+3<=W.heap.size
theorem Vx.grown {w0:World}{sl:Value}{t:List UInt8}{W W':World}{row:Option Nat}(h:Vx w0 sl t W)(hg:W.grownBy W' row)(hr:∀ r,row=some r->w0.heap.size+3<=r/\∃ o:Obj,W.heap[r]?=some o/\o.isCells=false):Vx w0 sl t W':=by
 have hs:∀ (k:Nat) (c:Array Value) (t:TypeId) (f:Nat×Nat),W.heap[k]?=some (Obj.cells c t f)->W'.heap[k]?=some (Obj.cells c t f):=by
  intro k c t f hk
  rw[hg.block k (Array.getElem?_eq_some_iff.1 hk).1 ?_]
  ·exact hk
  ·intro e
   obtain⟨_,o,ho,hc⟩:=hr k e.symm
   rw[hk] at ho
   cases ho
   cases hc
 exact⟨h.low.grown hg (by have:=h.sz;omega) (fun k e=>by have:=(hr k e).1;omega),hs _ _ _ _ h.res,builderF_same h.bld hs,hs _ _ _ _ h.box,Nat.le_trans h.sz hg.size⟩
theorem Vx.below {w0:World}{sl:Value}{t:List UInt8}{W W':World}(h:Vx w0 sl t W)(hb:Below W.heap.size W W'):Vx w0 sl t W' :=
 have hs:∀ (k:Nat) (c:Array Value) (t:TypeId) (f:Nat×Nat),W.heap[k]?=some (Obj.cells c t f)->W'.heap[k]?=some (Obj.cells c t f):=fun k _ _ _ hk=>(hb.block k (Array.getElem?_eq_some_iff.1 hk).1).trans hk
 ⟨h.low.trans (hb.mono (by have:=h.sz;omega)),hs _ _ _ _ h.res,builderF_same h.bld hs,hs _ _ _ _ h.box,Nat.le_trans h.sz hb.size⟩
theorem keeps_below {B:Nat}{W W':World}(hb:Below W.heap.size W W'):KeepsFrom B W W':=⟨hb.size,fun k _ _ hk _=>(hb.block k (Array.getElem?_eq_some_iff.1 hk).1).trans hk⟩
theorem Vx.write {w0:World}{sl:Value}{t:List UInt8}{W:World}(h:Vx w0 sl t W)(s:List UInt8)(hl:t.length+s.length<=140737488355328) :
 Calls Tryz.prog 73 #[.pointer (some ⟨w0.heap.size+1,0,none⟩),.string ⟨s.toArray⟩] W fun e W'=>(∃ v,e=.returned v)/\Vx w0 sl (t++s) W'/\KeepsFrom (w0.heap.size+3) W W'/\Kq w0.heap.size (w0.heap.size+2) W W':=by
 refine (Tryz.Builder_WriteString_k (w0.heap.size+1) (w0.heap.size+1) (Lib.byteCells t) ⟨s.toArray⟩ W h.bld (by rw[Lib.byteCells_length,Lib.size_eq];simpa using hl) (by have:=h.sz;omega)).mono ?_
 rintro e W' ⟨rfl,hB,hb,hk⟩
 rw[strCells_mk,<- byteCells_append] at hB
 have hbox:=hk _ _ h.box (by intro e;injection e;omega) (by intro c fz e;cases e)
 refine⟨⟨_,rfl⟩,⟨h.low.trans (hb.mono (by omega)),(hb.block _ (by omega)).trans h.res,Or.inr hB,hbox,Nat.le_trans h.sz hb.size⟩,⟨hb.size,fun k o hB2 hk2 ho=>hk k o hk2 ?_ ?_⟩,⟨hb.mono (by omega),hbox.trans h.box.symm⟩⟩
 ·intro e;injection e;omega
 ·intro c fz e;subst e;cases ho
theorem line_len (v:V):(lineF2 v.1).length<=60:=by
 have h1:=dec_len_pow 14 v.1.num (by have:=v.2.1;omega)
 have h2:=dec_len_pow 14 v.1.time (by have:=v.2.2.1;omega)
 unfold lineF2
 simp only[List.length_append,List.length_cons,List.length_nil]
 split
 ·simp only[List.length_cons,List.length_nil];omega
 ·rw[qTag_len];omega
def linesOf (l:List (Nat×V)):List UInt8:=l.flatMap fun x=>lineF2 x.2.1
theorem linesOf_snoc (l:List (Nat×V))(x:Nat×V):linesOf (l++[x])=linesOf l++lineF2 x.2.1:=by simp[linesOf]
theorem linesOf_len (l:List (Nat×V)):(linesOf l).length<=l.length*60:=by
 induction l with
 | nil=>simp[linesOf]
 | cons a l ih =>
   have:=line_len a.2
   simp only[linesOf,List.flatMap_cons,List.length_append,List.length_cons] at ih ⊢
   omega
theorem results_row1 {P:Program}{fn:Func}{p:Tmp}{ty:TypeId}(h:fn.results=#[.cell p ty])(tmps:Array Value)(w:World)(g:Nat)(t:TypeId)(cs:Array Value)(fr:Nat×Nat)(d:TypeDesc)
 (hp:tmps.getD p undef=.pointer (some ⟨g,0,none⟩))(hg:w.heap[g]?=some (.cells cs t fr))
 (hu:P.underlying ty=some d)(hd:(match d with|.struct _|.array _ _=>true|_=>false)=true)(hi:(P.info? ty).map (·.size)=some cs.size) :
 (results fn tmps).run P w=.ok (.agg cs) w:=by
 have hp':tmps[p]?.getD undef=.pointer (some ⟨g,0,none⟩):=by simpa using hp
 simp[results,h,hp',asAddr,run_loadVar_row w g t ty cs fr d hg hu hd hi]
theorem hiAns:(Tryz.prog.info? 100).map (·.size)=some 3:=by kernel_rfl
theorem backs_lines (l:List V):linesOf (backs l l.length)=(plainV l).reverse.flatMap lineF2:=by
 have e:(backs l l.length).map (fun x=>x.2)=l.reverse:=by
  apply List.ext_getElem
  ·simp[backs]
  ·intro i h1 h2
   have hi:i<l.length:=by simpa [backs] using h1
   have hm:l.length-1-i<l.length:=by omega
   simp[backs,backAt,hm]
 have e2:linesOf (backs l l.length)=((backs l l.length).map (fun x=>x.2)).flatMap (fun v=>lineF2 v.1):=by
  simp[linesOf,List.flatMap_map]
 rw[e2,e,plainV,<- List.map_reverse,List.flatMap_map]
theorem tellVersions_some (p:Nat)(key:List UInt8)(last:Nat)(vs:Value)(l:List V)(w:World)(hE:EntAt w p ⟨key,last,plainV l⟩ vs)(hl:l.length<1000)(h0:l≠[])(hz:Tz w)(hT:Tab w) :
 Calls Tryz.prog 89 #[.pointer (some ⟨p,0,none⟩)] w fun e w'=>e=.returned (.agg #[.int .i64 200,.slice none 0 0,.string ⟨((plainV l).reverse.flatMap lineF2).toArray⟩])/\Below w.heap.size w w':=by
 refine (callsIn_wide (n:=3)).1 ?_
 have hlen:∃ a c,vs=.slice a l.length c:=by
  have e:(plainV l).length=l.length:=by simp[plainV]
  rcases hE.row.2 with ⟨rfl,hz⟩|⟨g,cap,cur,hv,_⟩
  ·simp only at hz;rw[e] at hz;rw[hz];exact⟨_,_,rfl⟩
  ·simp only at hv;rw[e] at hv;exact⟨_,_,hv⟩
 obtain⟨a,c,rfl⟩:=hlen
 have c2:=hE.c2
 have hlt:=hE.lt
 have hne:((l.length:Int)==0)=false:=beq_eq_false_iff_ne.2 (by have:l.length≠0:=fun e=>h0 (List.length_eq_zero_iff.1 e);omega)
 have HE:Hid _:=hE
 clear hE
 refine callsIn_of_wp_marks Tryz.func89 rfl trivial ?_ rfl
 simp only[Tryz.ntmps89,List.size_toArray,List.length_cons,List.length_nil,Nat.reduceAdd,Nat.reduceSub,Array.replicate_succ,Array.replicate_zero,List.push_toArray,List.append_toArray,List.nil_append,List.cons_append]
 gi_wp2_with (refine⟨trivial,?_⟩;gi_at_call 138;refine (back_in _ _ trivial rfl _ _ _ _).mono ?_;rintro e w' ⟨rfl,rfl⟩)
 obtain⟨W0,hW0⟩:∃ W0,((w.alloc (.cells #[.int .i64 0,.slice none 0 0,.string ⟨#[]⟩] 100)).alloc (.cells #[.pointer none,.slice none 0 0] 145)).alloc (.cells #[.slice a l.length c] 228)=W0:=⟨_,rfl⟩
 have hsz:W0.heap.size=w.heap.size+3:=by rw[<- hW0];simp
 have hB0:Below w.heap.size w W0:=by rw[<- hW0];exact (((Below.refl _ w).alloc (Nat.le_refl _) _).alloc (by simp) _).alloc (by simp;omega) _
 have X0:Vx w (.slice a l.length c) [] W0:=by
  refine⟨hB0,?_,Lib.IsBuilderF.of (Or.inl ⟨Nat.le_refl _,.slice none 0 0,?_,⟨rfl,Or.inl ⟨rfl,rfl⟩⟩,by simp[Value.ownBlock]⟩),?_,by omega⟩
  ·rw[<- hW0,heap_alloc_old _ _ (by simp;omega),heap_alloc_old _ _ (by simp)]
   exact heap_alloc_new _ _
  ·rw[<- hW0,heap_alloc_old _ _ (by simp)]
   have:=heap_alloc_new (w.alloc (.cells #[.int .i64 0,.slice none 0 0,.string ⟨#[]⟩] 100)) (.cells #[.pointer none,.slice none 0 0] 145)
   simpa using this
  ·rw[<- hW0]
   have:=heap_alloc_new ((w.alloc (.cells #[.int .i64 0,.slice none 0 0,.string ⟨#[]⟩] 100)).alloc (.cells #[.pointer none,.slice none 0 0] 145)) (.cells #[.slice a l.length c] 228)
   simpa using this
 rw[hW0]
 clear hW0
 have hrow:W0.ownsRow 0 174 4 (.slice a l.length c) l.length (rowOf (plainV l)):=by
  have:=row_below HE.out.row hB0
  simp only[show (plainV l).length=l.length by simp[plainV]] at this
  exact this
 have hrb:∀ g,(Value.slice a l.length c).ownBlock=some g->g<w.heap.size:=by
  intro g hg
  rcases HE.out.row.2 with ⟨e,_⟩|⟨g',cap,cur,hv,_,hg',_⟩
  ·rw[e] at hg;cases hg
  ·rw[hv] at hg
   simp only[Value.ownBlock,Option.some.injEq] at hg
   rw[<- hg]
   exact (Array.getElem?_eq_some_iff.1 hg').1
 refine wpIn_rangeFunc_ownH rfl (by omega) (gf:=199) (lb:=#[.pointer (some ⟨w.heap.size+1+1,0,none⟩)]) rfl trivial (enters_of Tryz.func199 (by kernel_rfl) rfl)
  (back_stops Fence.wide (3-1) trivial rfl (by omega) (w.heap.size+1+1) w.heap.size a c l (by omega) W0 (by omega) (by omega) (by simp[World.cell?,X0.box]) hrow hrb) Kq.trans (Kq.put (by omega) (by omega)) (Below.refl _ _) (fun _=>rfl)
  (fun pre W=>Vx w (.slice a l.length c) (linesOf pre) W)
  (fun _ _ _=>False)
  (fun s A B row hs hg hr=>hs.grown hg (fun r e=>⟨by have:=(hr r e).1;omega,(hr r e).2⟩))
  (fun _ _ _ _ _ hs _ _=>hs)
  X0
  (fun x a' W=>∃ Bx,w.heap.size+3<=Bx/\W.heap[Bx]?=some (.cells #[.int .i64 x.2.1.num,.int .i64 x.2.1.time,.bool x.2.1.mark,.string ⟨x.2.1.body.toArray⟩] 174 (0,0))/\a'={ tmps:=#[.pointer (some ⟨p,0,none⟩),undef,.pointer (some ⟨w.heap.size,0,none⟩),.pointer (some ⟨w.heap.size+1,0,none⟩),undef,.pointer (some ⟨Bx,0,none⟩),.pointer (some ⟨p,0,none⟩),.pointer (some ⟨p,0,none⟩),.pointer (some ⟨p,2,none⟩),.slice a l.length c,.int .i64 l.length,.bool false,undef,.pointer (some ⟨p,0,none⟩),.pointer (some ⟨p,0,none⟩),.pointer (some ⟨p,2,none⟩),.slice a l.length c,.func (.func 199) #[] #[.pointer (some ⟨w.heap.size+1+1,0,none⟩)],.int .i64 x.1,verAgg x.2.1,undef,undef,undef,undef,undef],defers:=[] })
  (fun x a' _ X Y row hs hg hr=>by
    obtain⟨Bx,h1,h2,h3⟩:=hs
    refine⟨Bx,h1,?_,h3⟩
    rw[hg.block Bx (Array.getElem?_eq_some_iff.1 h2).1 ?_]
    ·exact h2
    ·intro e
     obtain⟨_,o,ho,hc⟩:=hr Bx e.symm
     rw[h2] at ho
     cases ho
     cases hc)
  ?assign ?body ?done ?stop
 case assign =>
  rintro l' pre x W K hI hK
  unfold encV verAgg at hK ⊢
  gi_wp2
  have hal:Below W.heap.size W (W.alloc (.cells #[.int .i64 x.2.1.num,.int .i64 x.2.1.time,.bool x.2.1.mark,.string ⟨x.2.1.body.toArray⟩] 174)):=(Below.refl _ _).alloc (Nat.le_refl _) _
  have hs:=hI.sz
  exact hK _ _ (keeps_below hal) ⟨hal.mono (by omega),hal.block _ (by omega)⟩ (hI.below hal) ⟨W.heap.size,hs,heap_alloc_new _ _,rfl⟩
 case body =>
  rintro l' pre x a' W hl' ⟨r,hr⟩ hI ⟨Bx,hBx,bX,rfl⟩ hlt'
  have b0:W.cell? ⟨Bx,0,none⟩=some (.int .i64 x.2.1.num):=by simp[World.cell?,bX]
  have b1:W.cell? ⟨Bx,1,none⟩=some (.int .i64 x.2.1.time):=by simp[World.cell?,bX]
  have b2:W.cell? ⟨Bx,2,none⟩=some (.bool x.2.1.mark):=by simp[World.cell?,bX]
  have b3:W.cell? ⟨Bx,3,none⟩=some (.string ⟨x.2.1.body.toArray⟩):=by simp[World.cell?,bX]
  have hll:=linesOf_len pre
  have hln:=line_len x.2
  have HI:Hid (Vx w (.slice a l.length c) (linesOf pre) W):=hI
  have HL:Hid _:=line_any x.2.1 W x.2.2.1 x.2.2.2.1 x.2.2.2.2 (hz.below hI.low) (hT.below hI.low)
  unfold verAgg at HL ⊢
  clear hI bX
  gi_wp2_with (refine⟨trivial,?_⟩;gi_at_call 139;refine (CallsIn.inRound l' (callsIn_wide.2 HL.out)).mono ?_;rintro e W1 ⟨rfl,hb1⟩)
  refine⟨trivial,?_⟩
  have X1:=HI.out.below hb1
  refine (CallsIn.inRound l' (callsIn_wide.2 (X1.write (lineF2 x.2.1) (by omega)))).mono ?_
  rintro e W2 ⟨⟨v2,rfl⟩,X2,k2,q2⟩
  have hs:=HI.out.sz
  have HX2:Hid _:=X2
  have HK2:Hid (KeepsFrom (w.heap.size+3) W W2):=(keeps_below hb1).trans k2
  have HQ2:Hid (Kq w.heap.size (w.heap.size+2) W W2):=Kq.trans ⟨hb1.mono (by omega),hb1.block _ (by omega)⟩ q2
  clear X1 X2 k2 q2 hb1 HI
  gi_wp2
  rw[<- hsz] at HK2
  exact⟨HK2.out,HQ2.out,by show Vx w _ (linesOf (pre++[x])) W2;rw[linesOf_snoc];exact HX2.out⟩
 case done =>
  rintro D zs W hD rfl hI hK
  have HI:Hid _:=hI
  have HK:Hid _:=hK
  clear hI hK
  gi_wp2_with fail
  refine⟨trivial,?_⟩
  refine (callsIn_wide.2 (Tryz.Builder_String_any_k (w.heap.size+1) (w.heap.size+1) _ _ HI.out.bld (by have:=HI.out.sz;omega))).mono ?_
  rintro e W1 ⟨rfl,h1,hb1,ho1⟩
  have hres:=(hb1.block w.heap.size (by omega)).trans HI.out.res
  have hKD:=ho1 D _ HK.out (by intro e;injection e;omega) (by intro c fz e;cases e)
  have hlow:Below w.heap.size w W1:=HI.out.low.trans (hb1.mono (by omega))
  have r0:W1.cell? ⟨w.heap.size,0,none⟩=some (.int .i64 0):=by simp[World.cell?,hres]
  have r1:W1.cell? ⟨w.heap.size,1,none⟩=some (.slice none 0 0):=by simp[World.cell?,hres]
  have r2:W1.cell? ⟨w.heap.size,2,none⟩=some (.string ⟨#[]⟩):=by simp[World.cell?,hres]
  have rf:∀ j,W1.frozen? ⟨w.heap.size,j,none⟩=false:=fun j=>by simp[World.frozen?,hres]
  have rf0:=rf 0
  have rf1:=rf 1
  have rf2:=rf 2
  have HR:Hid _:=hres
  have HD:Hid _:=hKD
  have HL:Hid _:=hlow
  clear h1 hb1 ho1 hres hKD hlow rf HI HK
  gi_wp2
  have hne2:w.heap.size≠D:=by omega
  have hK2:(((W1.setCell ⟨w.heap.size,0,none⟩ (.int .i64 200)).setCell ⟨w.heap.size,1,none⟩ (.slice none 0 0)).setCell ⟨w.heap.size,2,none⟩ (.string ⟨(linesOf (backs l l.length)).toArray⟩)).heap[D]?=some (.deferred (some [])):=by
   rw[<- HD.out]
   simp[World.setCell,Array.getElem?_modify,hne2]
  have hb3:Below w.heap.size w (((W1.setCell ⟨w.heap.size,0,none⟩ (.int .i64 200)).setCell ⟨w.heap.size,1,none⟩ (.slice none 0 0)).setCell ⟨w.heap.size,2,none⟩ (.string ⟨(linesOf (backs l l.length)).toArray⟩)) :=
   ((HL.out.setCell (p:=⟨w.heap.size,0,none⟩) (Nat.le_refl _) _).setCell (p:=⟨w.heap.size,1,none⟩) (Nat.le_refl _) _).setCell (p:=⟨w.heap.size,2,none⟩) (Nat.le_refl _) _
  have hblk:=heap_set (i:=2) (v:=.string ⟨(linesOf (backs l l.length)).toArray⟩) (heap_set (i:=1) (v:=.slice none 0 0) (heap_set (i:=0) (v:=.int .i64 200) HR.out))
  rw[<- backs_lines l]
  refine⟨by simp,.inl ⟨_,_,rfl,run_takeDeferred hK2,?_⟩⟩
  refine⟨.agg #[.int .i64 200,.slice none 0 0,.string ⟨(linesOf (backs l l.length)).toArray⟩],results_row1 Tryz.results89 _ _ w.heap.size 100 _ (0,0) _ rfl ?_ Tryz.underlying100 rfl hiAns,rfl,hb3.trans (belowK_b (w:=w) (Nat.le_refl _) _ D _ _ (by omega) hK2 rfl rfl)⟩
  simp only[World.putObj]
  rw[Array.getElem?_setIfInBounds_ne (Ne.symm hne2)]
  exact hblk
 case stop =>
  rintro D c pre W _ _ h _
  exact h.elim
end Go.Proofs.YtmehkneofinmiaaGreatDoor

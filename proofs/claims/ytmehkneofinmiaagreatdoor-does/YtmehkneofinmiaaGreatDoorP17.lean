/-
 Texts of this proof, part 17.
-/
import Derived.Test.YtmehkneofinmiaaGreatDoorP16
import Derived.RangeFuncNested
import Derived.RangeFuncBound
import Derived.Shelf.RegionOpen
import Derived.OwnWalkIn
import Derived.LoopNIn
import Derived.LoopIn
set_option maxRecDepth 100000
set_option maxHeartbeats 4000000
namespace Go.Proofs.YtmehkneofinmiaaGreatDoor
open Go.RowKit
theorem info144m:(Tryz.prog.info? 162).map (fun i=>(i.zero,i.size,i.bytes))=some (some (.slice none 0 0),1,24):=by kernel_rfl
structure LLs (w:World)(lv0:Value)(A:List (List Nat))(kf:Nat->List UInt8):Prop where
 is:∃ (a:Option Addr) (c:Nat),lv0=.slice a A.length c/\A.length<=c/\c<=maxLen
 at':∀ (i:Nat) (qs:List Nat),A[i]?=some qs->∃ g o c v,lv0=.slice (some ⟨g,o,none⟩) A.length c/\g<w.heap.size/\w.cell? ⟨g,o+i,none⟩=some v/\Lst w v qs
 key:∀ qs∈A,∀ q∈qs,q<w.heap.size/\w.cell? ⟨q,0,none⟩=some (.string ⟨(kf q).toArray⟩)
theorem LLs.below {w x:World}{lv0:Value}{A:List (List Nat)}{kf:Nat->List UInt8}(h:LLs w lv0 A kf)(hb:Below w.heap.size w x):LLs x lv0 A kf :=
 ⟨h.is,fun i qs hi=>by
   obtain⟨g,o,c,v,e1,e2,e3,e4⟩:=h.at' i qs hi
   exact⟨g,o,c,v,e1,Nat.lt_of_lt_of_le e2 hb.size,(hb.cell (p:=⟨g,o+i,none⟩) e2).trans e3,e4.below hb⟩,
  fun qs hq q hm=>⟨Nat.lt_of_lt_of_le (h.key qs hq q hm).1 hb.size,(hb.cell (p:=⟨q,0,none⟩) (h.key qs hq q hm).1).trans (h.key qs hq q hm).2⟩⟩
def full (qs:List Nat):Bool:=!qs.isEmpty
structure Hb (w x:World)(lv:Value)(rows:List Value)(Qs:List (List Nat)):Prop where
 low:Below w.heap.size w x
 blk:x.heap[w.heap.size]?=some (.cells #[lv,.func (.func 134) #[] #[]] 284 (0,0))
 row:x.ownsRow w.heap.size 162 1 lv rows.length rows
 ne:lv.ownBlock≠some w.heap.size
 len:Qs.length=rows.length
 lst:∀ (i:Nat) (v:Value) (qs:List Nat),rows[i]?=some v->Qs[i]?=some qs->Lst w v qs/\qs≠[]
theorem Hb.hp {w x:World}{lv lv0:Value}{rows:List Value}{Qs A:List (List Nat)}{kf:Nat->List UInt8}(h:Hb w x lv rows Qs)(hL:LLs w lv0 A kf)(hQ:∀ qs∈Qs,qs∈A):Hp x w.heap.size w.heap.size lv rows Qs kf :=
 ⟨Nat.le_refl _,h.blk,h.row,h.ne,h.len,fun i v qs h1 h2=>⟨(h.lst i v qs h1 h2).1.below h.low,(h.lst i v qs h1 h2).2⟩,
   fun qs hq q hm=>(hL.below h.low).key qs (hQ qs hq) q hm⟩
theorem take_filter_yes {A:List (List Nat)}{i:Nat}{qs:List Nat}(h:A[i]?=some qs)(hf:full qs=true):(A.take (i+1)).filter full=(A.take i).filter full++[qs]:=by
 rw[List.take_add_one,h]
 simp[hf]
theorem take_filter_no {A:List (List Nat)}{i:Nat}{qs:List Nat}(h:A[i]?=some qs)(hf:full qs=false):(A.take (i+1)).filter full=(A.take i).filter full:=by
 rw[List.take_add_one,h]
 simp[hf]
theorem newHeap_any (w:World)(lv0:Value)(A:List (List Nat))(kf:Nat->List UInt8)(hL:LLs w lv0 A kf)(hA:A.length<100) :
 Calls Tryz.prog 197 #[lv0,.func (.func 134) #[] #[]] w fun e w'=>∃ h lv rows Qs,e=.returned (.pointer (some ⟨h,0,none⟩))/\Hp w' w.heap.size h lv rows Qs kf/\Qs.Perm (A.filter full)/\HeapOK (fk Qs kf) Qs.length 0/\rows.length<=A.length/\Below w.heap.size w w':=by
 obtain⟨ti,HI1,HI2,HI3,HI4⟩:=info_parts info144m
 obtain⟨a,c,rfl,hc1,hc2⟩:=hL.is
 have HL:Hid _:=hL
 clear hL
 have X0:Hb w (w.alloc (.cells #[.slice none 0 0,.func (.func 134) #[] #[]] 284)) (.slice none 0 0) [] [] :=
  ⟨(Below.refl _ _).alloc (Nat.le_refl _) _,heap_alloc_new _ _,⟨rfl,Or.inl ⟨rfl,rfl⟩⟩,by simp[Value.ownBlock],rfl,fun i v qs h=>by simp at h⟩
 go_enter Tryz.func197,Tryz.ntmps197
 go_wp2
 go_loopw [14] (fun x wx=>∃ (i:Nat) (lv:Value) (rows:List Value),i<=A.length/\x=.int .i64 i/\rows.length<=i/\Hid (Hb w wx lv rows ((A.take i).filter full))) (fun x _=>A.length-(intOf x).toNat)
 case atStart=>exact⟨0,.slice none 0 0,[],by omega,rfl,by simp,by show Hb _ _ _ _ _;exact X0⟩
 case round =>
  clear X0
  obtain⟨i,lv,rows,hi,rfl,hri,HB⟩:=hrel
  by_cases hlt:i<A.length
  ·obtain⟨qs,hqs⟩:∃ qs,A[i]?=some qs:=⟨A[i],List.getElem?_eq_getElem hlt⟩
   obtain⟨g,o,c',v,e1,e2,e3,e4⟩:=HL.out.at' i qs hqs
   cases e1
   have c1:=(HB.out.low.cell (p:=⟨g,o+i,none⟩) e2).trans e3
   have hg1:g<wr.heap.size:=Nat.lt_of_lt_of_le e2 HB.out.low.size
   obtain⟨va,vc,hv,hv1,hv2,_⟩:=e4.is
   rw[hv] at c1
   have HV:Hid (Lst w v qs):=e4
   have HQ:Hid (A[i]?=some qs):=hqs
   have hltI:(i:Int)<(A.length:Int):=by omega
   clear e4 e3 hqs
   cases hf:full qs with
   | false =>
     have hq0:qs.length=0:=by cases qs with|nil=>rfl|cons _ _=>simp[full] at hf
     rw[hq0] at c1
     go_wp2
     refine⟨⟨i+1,lv,rows,by omega,rfl,by omega,by rw[take_filter_no HQ.out hf];exact HB⟩,?_⟩
     simp[intOf]
     omega
   | true =>
     have hq0:0<qs.length:=by cases qs with|nil=>simp[full] at hf|cons _ _=>simp
     have hqI:(0:Int)<(qs.length:Int):=by omega
     have b0:wr.cell? ⟨w.heap.size,0,none⟩=some lv:=by simp[World.cell?,HB.out.blk]
     have f0:wr.frozen? ⟨w.heap.size,0,none⟩=false:=by simp[World.frozen?,HB.out.blk]
     have hS:w.heap.size<wr.heap.size:=(Array.getElem?_eq_some_iff.1 HB.out.blk).1
     go_wp2_with (at_builtin;refine wpList_append_lies _ rfl (.tmp 25) (.tmp 27) 160 rfl w.heap.size 162 ti (.slice none 0 0) 1 24 Tryz.underlying160 HI1 HI2 HI3 HI4 rfl (by omega) lv rows.length rows rfl (World.ownsRow.alloc HB.out.row _) ⟨wr.heap.size,0,none⟩ 1 1 [.slice va qs.length vc] rfl rfl (by intro j u hj;cases j with|zero=>(simp at hj;subst hj;simp[Addr.add])|succ j=>simp at hj) (by intro u hu;simp at hu;subst hu;rfl) (by omega) (by unfold maxLen;omega) (by omega) (by simp;omega) _ rfl ?_;intro g2 cap2 w3 hown3 hgr3 hat3 hlt3;have k3:w3.cell? ⟨w.heap.size,0,none⟩=some lv:=(hgr3.cell_far ⟨w.heap.size,0,none⟩ (by simp;omega) (Ne.symm HB.out.ne)).trans ((World.cell?_of_block (heap_alloc_old _ _ hS)).trans b0);have f3:w3.frozen? ⟨w.heap.size,0,none⟩=false:=(hgr3.frozen_far ⟨w.heap.size,0,none⟩ (by simp;omega) (Ne.symm HB.out.ne)).trans ((World.frozen?_of_block (heap_alloc_old _ _ hS)).trans f0))
     have hne2:g2≠w.heap.size:=by
      intro e
      rcases hat3 with h|h
      ·exact HB.out.ne (e ▸ h)
      ·simp at h;omega
     have hlow3:Below w.heap.size w w3:=by
      have h1:Below w.heap.size w (wr.alloc (.cells #[.slice va qs.length vc] 162)):=HB.out.low.alloc HB.out.low.size _
      refine⟨hgr3.os.trans h1.os,hgr3.tape.trans h1.tape,hgr3.output.trans h1.output,Nat.le_trans h1.size hgr3.size,fun k hk=>?_⟩
      rw[hgr3.block k (by have:=h1.size;omega) ?_]
      ·exact h1.block k hk
      ·intro e
       rcases HB.out.row.2 with ⟨e0,_⟩|⟨g0,cap0,cur,hv0,hb0,_⟩
       ·rw[e0] at e;cases e
       ·rw[hv0] at e
        injection e with e
        simp only at e
        omega
     have hblk3:w3.heap[w.heap.size]?=some (.cells #[lv,.func (.func 134) #[] #[]] 284 (0,0)):=by
      rw[hgr3.block w.heap.size (by simp;omega) (Ne.symm HB.out.ne),heap_alloc_old _ _ hS]
      exact HB.out.blk
     have hrl:(rows++[Value.slice va qs.length vc]).length=rows.length+1:=by simp
     refine⟨⟨i+1,.slice (some ⟨g2,0,none⟩) (rows.length+1) cap2,rows++[.slice va qs.length vc],by omega,rfl,by rw[hrl];omega,?_⟩,?_⟩
     ·rw[take_filter_yes HQ.out hf]
      refine⟨hlow3.setCell (p:=⟨w.heap.size,0,none⟩) (Nat.le_refl _) _,?_,?_,fun e=>hne2 (by injection e),by rw[List.length_append,hrl,HB.out.len];rfl,?_⟩
      ·have:=heap_set (i:=0) (v:=.slice (some ⟨g2,0,none⟩) (rows.length+1) cap2) hblk3
       simpa using this
      ·rw[hrl]
       refine⟨hown3.1,?_⟩
       rcases hown3.2 with ⟨hc,_⟩|⟨g',cap',cur,hv',h1,hg',h2⟩
       ·cases hc
       ·cases hv'
        refine Or.inr ⟨g2,cap2,cur,rfl,h1,?_,h2⟩
        rw[<- hg']
        simp[World.setCell,Array.getElem?_modify,Ne.symm hne2]
      ·intro j v' qs' hv' hq'
       by_cases hj:j<rows.length
       ·rw[List.getElem?_append_left hj] at hv'
        rw[List.getElem?_append_left (by rw[HB.out.len];exact hj)] at hq'
        exact HB.out.lst j v' qs' hv' hq'
       ·have hj2:j=rows.length:=by have:=(List.getElem?_eq_some_iff.1 hv').1;rw[hrl] at this;omega
        subst hj2
        rw[List.getElem?_append_right (Nat.le_refl _),Nat.sub_self] at hv'
        rw[List.getElem?_append_right (by rw[HB.out.len];exact Nat.le_refl _),HB.out.len,Nat.sub_self] at hq'
        simp only[List.getElem?_cons_zero,Option.some.injEq] at hv' hq'
        subst hv' hq'
        refine⟨by rw[<- hv];exact HV.out,fun e=>?_⟩
        rw[e] at hq0
        simp at hq0
     ·simp[intOf]
      omega
  ·obtain rfl:i=A.length:=by omega
   rw[List.take_length] at HB
   have hH:=HB.out.hp HL.out (fun qs hq=>(List.mem_filter.1 hq).1)
   have HH:Hid _:=hH
   have hlow:=HB.out.low
   have HLW:Hid _:=hlow
   have b0:wr.cell? ⟨w.heap.size,0,none⟩=some lv:=by simp[World.cell?,HB.out.blk]
   have hlv:∃ a' c',lv=.slice a' rows.length c':=by
    rcases HB.out.row.2 with ⟨e0,hz⟩|⟨g0,cap0,cur,hv0,_⟩
    ·exact⟨none,0,by rw[e0,hz]⟩
    ·exact⟨_,_,hv0⟩
   obtain⟨a',c',hlv⟩:=hlv
   subst hlv
   have hrA:rows.length<=A.length:=hri
   clear hH hlow HB b0
   have b0:wr.cell? ⟨w.heap.size,0,none⟩=some (.slice a' rows.length c'):=by simp[World.cell?,HH.out.blk]
   go_wp2
   go_loopw [8] (fun x wx=>∃ (s:Nat) (rows':List Value) (Qs':List (List Nat)),s<=rows.length/2/\x=.int .i64 ((s:Int)-1)/\rows'.length=rows.length/\Hid (Hp wx w.heap.size w.heap.size (.slice a' rows.length c') rows' Qs' kf)/\Hid (Qs'.Perm (A.filter full))/\Hid (HeapOK (fk Qs' kf) Qs'.length s)/\Hid (Below w.heap.size w wx)) (fun x _=>(intOf x+1).toNat)
   case atStart=>exact⟨rows.length/2,rows,A.filter full,Nat.le_refl _,by congr 1,rfl,HH,List.Perm.refl _,fun i c hi hc hn=>by (have h1:=HH.out.len;unfold Child at hc;omega),HLW⟩
   case round =>
    clear HH HLW b0
    obtain⟨s,rows',Qs',hs,rfl,hrl,HH,HP,HK,HLW⟩:=hrel
    cases s with
    | zero =>
      have h0:((0:Nat):Int)-1 = -1:=rfl
      rw[h0]
      go_wp2
      go_ret
      exact⟨w.heap.size,_,rows',Qs',rfl,HH.out,HP.out,HK.out,by omega,HLW.out⟩
    | succ s =>
      have h0:((s+1:Nat):Int)-1=(s:Int):=by omega
      rw[h0]
      have hlen:=HH.out.len
      obtain⟨r,cp,hlv,hbr⟩:∃ r cp,Value.slice a' rows.length c'=.slice (some ⟨r,0,none⟩) rows'.length cp/\w.heap.size<=r:=by
       rcases HH.out.row.2 with ⟨_,hz⟩|⟨g0,cap0,cur,hv0,hb0,_⟩
       ·omega
       ·exact⟨g0,cap0,hv0,hb0⟩
      have HH2:Hid (Hp wr w.heap.size w.heap.size (.slice (some ⟨r,0,none⟩) rows'.length cp) rows' Qs' kf):=by rw[<- hlv];exact HH
      have HX:Hid (HeapEx (fk Qs' kf) Qs'.length s s):=by
       refine⟨Nat.le_refl _,fun i c hi hne hc hn=>HK.out i c (by omega) hc hn,fun i c hi hc=>?_⟩
       have:=hc.gt
       omega
      have HLV:Hid _:=hlv
      clear hlv HH HK
      go_wp2_with fail
      refine (sink_any _ w.heap.size w.heap.size s s r cp rows' Qs' kf HH2.out (by omega) HX.out (by omega)).mono ?_
      rintro e w3 ⟨⟨v3,rfl⟩,rows3,Qs3,hl3,hH3,hP3,hK3,hO3⟩
      have H3:Hid (Hp w3 w.heap.size w.heap.size (.slice a' rows.length c') rows3 Qs3 kf):=by rw[HLV.out];exact hH3
      have P3:Hid (Qs3.Perm (A.filter full)):=hP3.trans HP.out
      have K3:Hid _:=hK3
      have L3:Hid (Below w.heap.size w w3):=⟨hO3.os.trans HLW.out.os,hO3.tape.trans HLW.out.tape,hO3.output.trans HLW.out.output,Nat.le_trans HLW.out.size hO3.size,fun k hk=>(hO3.block k (by have:=HLW.out.size;omega) (by omega)).trans (HLW.out.block k hk)⟩
      clear hH3 hP3 hK3 hO3 HH2 HX HP HLW
      go_wp2
      refine⟨⟨s,rows3,Qs3,by omega,rfl,by omega,H3,P3,K3,L3⟩,?_⟩
      simp[intOf]
structure Turn (T:TypeId->Prop)(base:Nat)(A B:World):Prop where
 os:B.os=A.os
 tape:B.tape=A.tape
 output:B.output=A.output
 size:A.heap.size<=B.heap.size
 keep:∀ (k:Nat) (c:Array Value) (t:TypeId) (f:Nat×Nat),A.heap[k]?=some (Obj.cells c t f)->¬ T t->B.heap[k]?=some (Obj.cells c t f)
 low:∀ k,k<base->B.heap[k]?=A.heap[k]?
structure OwnT (T:TypeId->Prop)(base:Nat)(A B:World):Prop extends Turn T base A B where
 non:∀ (k:Nat) (o:Obj),A.heap[k]?=some o->o.isCells=false->B.heap[k]?=some o
theorem Turn.of_below {T:TypeId->Prop}{base:Nat}{A B:World}(hb:base<=A.heap.size)(h:Below A.heap.size A B):Turn T base A B :=
 ⟨h.os,h.tape,h.output,h.size,fun k _ _ _ hk _=>(h.block k (Array.getElem?_eq_some_iff.1 hk).1).trans hk,fun k hk=>h.block k (by omega)⟩
theorem OwnT.of_below {T:TypeId->Prop}{base:Nat}{A B:World}(hb:base<=A.heap.size)(h:Below A.heap.size A B):OwnT T base A B :=
 ⟨Turn.of_below hb h,fun k _ hk _=>(h.block k (Array.getElem?_eq_some_iff.1 hk).1).trans hk⟩
theorem Turn.put {T:TypeId->Prop}{base:Nat}{A:World}{l:Nat}{o:Obj}(o':Obj)(hl:base<=l)(h:A.heap[l]?=some o)(ho:o.isCells=false):Turn T base A (A.putObj l o'):=by
 refine⟨rfl,rfl,rfl,by simp[World.putObj],fun k c t f hk _=>?_,fun k hk=>?_⟩
 ·have hne:l≠k:=by intro e;subst e;rw[h] at hk;cases hk;cases ho
  simp only[World.putObj]
  rw[Array.getElem?_setIfInBounds_ne hne]
  exact hk
 ·simp only[World.putObj]
  rw[Array.getElem?_setIfInBounds_ne (by omega)]
def SeqOwn {α:Type}(F:Fence)(n:Nat)(P:Program)(g:Nat)(lb:Array Value)(encs:α->Array Value)(T:TypeId->Prop)(Kp:World->World->Prop)(S Sp:List α->Prop)(N:Nat)(w:World):Prop :=
 ∀ (l:Nat) (J Jx:List α->World->Prop) (W:World),Below w.heap.size w W->(∀ s A B,J s A->OwnT T w.heap.size A B->J s B)->(∀ s A B,Jx s A->OwnT T w.heap.size A B->Jx s B) ->
  (∀ pre x W1,J pre W1->pre.length<N->YieldAt F (n-1) P l (encs x) W1 fun e W' =>
    (e=.returned (.bool true)/\J (pre++[x]) W'/\Kp W1 W')\/(e=.returned (.bool false)/\Jx (pre++[x]) W')) ->
  J [] W ->
  CallsIn F n P g (#[.func (.yield l) #[] #[]]++lb) W fun e W'=>(∃ v,e=.returned v)/\((∃ xs,S xs/\J xs W')\/(∃ pre,Sp pre/\Jx pre W'))
def roundEnd {α:Type}(base:Nat)(Kp:World->World->Prop)(I:List α->World->Prop)(Ix:Code->List α->World->Prop)(xs:List α)(W:World):Exit->Act->World->Prop
 | .normal,_,W'=>KeepsFrom base W W'/\Kp W W'/\I xs W'
 | .ret,_,W'=>KeepsFrom base W W'/\Ix .ret xs W'
 | .exit id,_,W'=>KeepsFrom base W W'/\Ix (.exit id) xs W'
 | _,_,_=>False
theorem range_own {α:Type}{F:Fence}{n:Nat}{P:Program}{g:Operand}{ps:Array Tmp}{assign body:Code}{Q:Exit->Act->World->Prop}{a:Act}{w:World}
 (hro:F.round=none)(h1:1<=n){gf:Nat}{lb:Array Value}(hg:a.eval g=.func (.func gf) #[] lb)(hFg:F.fn gf)(eg:∀ args w,(callFunc gf args).run P w=.ok (.enter gf args) w)
 {encs:α->Array Value}{T:TypeId->Prop}{Kp:World->World->Prop}{S Sp:List α->Prop}{N:Nat}(hseq:SeqOwn F (n-1) P gf lb encs T Kp S Sp N w)
 (hKt:∀ {A B C:World},Kp A B->Kp B C->Kp A C)(hKb:∀ (W:World) (l:Nat) (o o':Obj),w.heap.size<=l->W.heap[l]?=some o->o.isCells=false->o.isWalk=false->Kp W (W.putObj l o'))(hps:∀ x,(encs x).size=ps.size)
 (I:List α->World->Prop)(Ix:Code->List α->World->Prop)(hI:∀ s A B,I s A->Turn T w.heap.size A B->I s B)(hIx:∀ c s A B,Ix c s A->Turn T w.heap.size A B->Ix c s B)(h0:I [] w)(Ax:α->Act)
 (hassign:∀ (l:Nat) (x:α) (W:World) (K:Act->World->Prop),K (Ax x) W ->
   assign.wpIn (F.inRound l) (n-1-1) P (Exit.then K (fun _ _ _=>False)) { tmps:=(ps.zip (encs x)).foldl (fun t (p,v)=>t.setIfInBounds p v) a.tmps,defers:=[] } W)
 (hbody:∀ (l:Nat) (pre:List α) (x:α) (W:World),w.heap.size<=l->I pre W->pre.length<N->body.wpIn (F.inRound l) (n-1-1) P (roundEnd w.heap.size Kp I Ix (pre++[x]) W) (Ax x) W)
 (hdone:∀ (D:Nat) (xs:List α) (W:World),w.heap.size<=D->S xs->I xs W->W.heap[D]?=some (.deferred (some []))->Q .normal { a with defers:={ target:=.collected D,args:=#[] }::a.defers } W)
 (hstop:∀ (D:Nat) (c:Code) (pre:List α) (W:World),w.heap.size<=D->Sp pre->Ix c pre W->W.heap[D]?=some (.deferred (some []))->c.wpIn F n P Q { a with defers:={ target:=.collected D,args:=#[] }::a.defers } W) :
 (Code.rangeFunc g ps assign body).wpIn F n P Q a w:=by
 refine wpIn_rangeFunc fun fn hfn=>?_
 rw[hro]
 obtain⟨R,hR⟩:∃ R:LoopState->Option Code->Loop,R=fun st pe=>{ state:=st,pending:=pe,fn,tmps:=a.tmps,params:=ps,assign,body,defers:=w.heap.size }:=⟨_,rfl⟩
 obtain⟨W1,hW1⟩:∃ W1,(w.alloc (.deferred (some []))).alloc (.loop (R .ready none))=W1:=⟨_,rfl⟩
 have b1:Below w.heap.size w W1:=by rw[<- hW1];exact ((Below.refl _ w).alloc (Nat.le_refl _) _).alloc (by simp) _
 have l1:W1.heap[w.heap.size+1]?=some (.loop (R .ready none)):=by
  rw[<- hW1]
  have:=World.alloc_heap_new (w.alloc (.deferred (some []))) (.loop (R .ready none))
  rwa [World.size_alloc] at this
 have d1:W1.heap[w.heap.size]?=some (.deferred (some [])):=by rw[<- hW1];exact (Below.heap_alloc _ _ _ (by simp)).trans (World.alloc_heap_new w _)
 refine⟨w.heap.size+1,[{ target:=.collected w.heap.size,args:=#[] }],W1,{ target:=.fn (.func gf) lb,args:=#[.func (.yield (w.heap.size+1)) #[] #[]] },W1,gf,#[.func (.yield (w.heap.size+1)) #[] #[]]++lb,W1,?_,?_,?_,?_,fun _=>h1,?_⟩
 ·rw[<- hW1,hR];exact run_enterLoop_outer _ _ _ _ _
 ·simp only[resolve,hg]
  simp[go_sem]
 ·intro f' hf'
  simp[Target.leads] at hf'
  subst hf'
  exact hFg
 ·simp[invoke,go_sem,eg]
 have hown:∀ {st:LoopState} {pe:Option Code} {A B:World},OwnT T w.heap.size A B->A.heap[w.heap.size+1]?=some (.loop (R st pe))->A.heap[w.heap.size]?=some (.deferred (some []))->B.heap[w.heap.size+1]?=some (.loop (R st pe))/\B.heap[w.heap.size]?=some (.deferred (some [])) :=
  fun h hl hd=>⟨h.non _ _ hl rfl,h.non _ _ hd rfl⟩
 refine (hseq (w.heap.size+1)
  (fun pre W=>I pre W/\W.heap[w.heap.size+1]?=some (.loop (R .ready none))/\W.heap[w.heap.size]?=some (.deferred (some [])))
  (fun pre W=>∃ c,Ix c pre W/\W.heap[w.heap.size+1]?=some (.loop (R .done (some c)))/\W.heap[w.heap.size]?=some (.deferred (some [])))
  W1 b1 (fun s A B h k=>⟨hI s A B h.1 k.toTurn,hown k h.2.1 h.2.2⟩)
  (fun s A B h k=>by obtain⟨c,hc,hl,hd⟩:=h;exact⟨c,hIx c s A B hc k.toTurn,hown k hl hd⟩)
  ?round ⟨hI _ _ _ h0 (Turn.of_below (Nat.le_refl _) b1),l1,d1⟩).mono ?_
 case round =>
  rintro pre x W ⟨hi,hl,hd⟩ hlen
  have hlt:w.heap.size+1<W.heap.size:=(Array.getElem?_eq_some_iff.1 hl).1
  have hy:=run_yield (P:=P) (args:=encs x) hl (by rw[hR];exact hps x)
  rw[hR] at hy
  refine⟨fn,_,assign,body,hy,roundIn_of_wpIn hfn (hassign _ x W _ ?_)⟩
  clear hy
  obtain⟨W2,hW2⟩:∃ W2,W.putObj (w.heap.size+1) (.loop { R .ready none with state:=.busy })=W2:=⟨_,rfl⟩
  have l2:W2.heap[w.heap.size+1]?=some (.loop { R .ready none with state:=.busy }):=by rw[<- hW2];exact World.putObj_heap_same hlt
  have d2:W2.heap[w.heap.size]?=some (.deferred (some [])):=by rw[<- hW2];exact (World.putObj_heap_other (by omega)).trans hd
  have i2:I pre W2:=by rw[<- hW2];exact hI _ _ _ hi (Turn.put _ (by omega) hl rfl)
  have k2:Kp W W2:=by rw[<- hW2];exact hKb _ _ _ _ (by omega) hl rfl rfl
  refine⟨W2,by rw[<- hW2];exact run_beginRound hl (by rw[hR]),?_⟩
  refine wpIn_mono (hbody _ pre x W2 (by omega) i2 hlen) ?_
  have fin:∀ (jump:Option Code) (W3:World),KeepsFrom w.heap.size W2 W3 ->
   (Instr.endRound (w.heap.size+1) jump).run P W3=.ok (.bool jump.isNone) (W3.putObj (w.heap.size+1) (.loop (R (if jump.isNone then .ready else .done) jump))) /\
   Turn T w.heap.size W3 (W3.putObj (w.heap.size+1) (.loop (R (if jump.isNone then .ready else .done) jump)))/\Kp W3 (W3.putObj (w.heap.size+1) (.loop (R (if jump.isNone then .ready else .done) jump))) /\
   (W3.putObj (w.heap.size+1) (.loop (R (if jump.isNone then .ready else .done) jump))).heap[w.heap.size+1]?=some (.loop (R (if jump.isNone then .ready else .done) jump)) /\
   (W3.putObj (w.heap.size+1) (.loop (R (if jump.isNone then .ready else .done) jump))).heap[w.heap.size]?=some (.deferred (some [])):=by
   intro jump W3 hk
   have l3:=hk.same _ _ (by omega) l2 rfl
   have d3:=hk.same _ _ (Nat.le_refl _) d2 rfl
   have he:=run_endRound (P:=P) jump l3
   have lt3:=(Array.getElem?_eq_some_iff.1 l3).1
   refine⟨by rw[hR] at he ⊢;exact he,Turn.put _ (by omega) l3 rfl,hKb _ _ _ _ (by omega) l3 rfl rfl,World.putObj_heap_same lt3,(World.putObj_heap_other (by omega)).trans d3⟩
  intro e a3 W3 hp
  cases e with
  | normal =>
    obtain⟨hk,hkp,hi3⟩:=hp
    obtain⟨hr,ht,hq,hl4,hd4⟩:=fin none W3 hk
    exact⟨_,_,hr,.inl ⟨rfl,⟨hI _ _ _ hi3 ht,hl4,hd4⟩,hKt k2 (hKt hkp hq)⟩⟩
  | ret =>
    obtain⟨hk,hi3⟩:=hp
    obtain⟨hr,ht,hq,hl4,hd4⟩:=fin (some .ret) W3 hk
    exact⟨_,_,hr,.inr ⟨rfl,.ret,hIx _ _ _ _ hi3 ht,hl4,hd4⟩⟩
  | exit id =>
    obtain⟨hk,hi3⟩:=hp
    obtain⟨hr,ht,hq,hl4,hd4⟩:=fin (some (.exit id)) W3 hk
    exact⟨_,_,hr,.inr ⟨rfl,.exit id,hIx _ _ _ _ hi3 ht,hl4,hd4⟩⟩
  | goto t=>exact hp.elim
  | panic ch=>exact hp.elim
  | outgrown=>exact hp.elim
 ·rintro e W2 ⟨⟨v,rfl⟩,⟨xs,hS,hi,hl,hd⟩|⟨pre,hSp,c,hi,hl,hd⟩⟩
  ·refine⟨none,_,by have:=run_endLoop (P:=P) hl (by rw[hR];simp);rw[hR] at this;exact this,hdone _ xs _ (Nat.le_refl _) hS (hI _ _ _ hi ?_) ((World.putObj_heap_other (by omega)).trans hd)⟩
   exact Turn.put _ (by omega) hl rfl
  ·refine⟨some c,_,by have:=run_endLoop (P:=P) hl (by rw[hR];simp);rw[hR] at this;exact this,hstop _ c pre _ (Nat.le_refl _) hSp (hIx _ _ _ _ hi ?_) ((World.putObj_heap_other (by omega)).trans hd)⟩
   exact Turn.put _ (by omega) hl rfl
end Go.Proofs.YtmehkneofinmiaaGreatDoor
namespace Go.Proofs.YtmehkneofinmiaaGreatDoor
open Go.RowKit Go.Shelf
attribute [local go_sem] Oper.semAt_some
def tHeap (t:TypeId):Prop:=t=284\/t=162
structure Km (n₀:Nat)(W W':World):Prop where
 low:Below n₀ W W'
 own:∀ (k:Nat) (c:Array Value) (t:TypeId) (f:Nat×Nat),W.heap[k]?=some (Obj.cells c t f)->(tHeap t\/t=170)->W'.heap[k]?=some (Obj.cells c t f)
theorem Km.trans {n₀:Nat}{A B C:World}(h:Km n₀ A B)(k:Km n₀ B C):Km n₀ A C:=⟨h.low.trans k.low,fun i c t f hi ht=>k.own i c t f (h.own i c t f hi ht) ht⟩
theorem Km.put {n₀:Nat}{w:World}(hn:n₀<=w.heap.size)(W:World)(l:Nat)(o o':Obj)(hl:w.heap.size<=l)(h:W.heap[l]?=some o)(h1:o.isCells=false)(h2:o.isWalk=false):Km n₀ W (W.putObj l o'):=by
 refine⟨belowK_b hn W l o o' hl h h1 h2,fun k c t f hk _=>?_⟩
 have hne:l≠k:=by intro e;subst e;rw[h] at hk;cases hk;cases h1
 simp only[World.putObj]
 rw[Array.getElem?_setIfInBounds_ne hne]
 exact hk
theorem Hp.kept {W W':World}{base h n₀:Nat}{lv:Value}{rows:List Value}{Qs:List (List Nat)}{kf:Nat->List UInt8}(H:Hp W base h lv rows Qs kf)(hk:Km n₀ W W')(hq:∀ qs∈Qs,∀ q∈qs,q<n₀):Hp W' base h lv rows Qs kf:=by
 refine⟨H.hb,hk.own _ _ _ _ H.blk (Or.inl (Or.inl rfl)),⟨H.row.1,?_⟩,H.ne,H.len,fun i v qs h1 h2=>⟨?_,(H.lst i v qs h1 h2).2⟩,fun qs h1 q h2=>?_⟩
 ·rcases H.row.2 with h0|⟨g,cap,cur,hv,hb,hg,hr⟩
  ·exact Or.inl h0
  ·exact Or.inr ⟨g,cap,cur,hv,hb,hk.own _ _ _ _ hg (Or.inl (Or.inr rfl)),hr⟩
 ·obtain⟨a,c,k1,k2,k3,k4⟩:=(H.lst i v qs h1 h2).1.is
  refine⟨⟨a,c,k1,k2,k3,fun j q hj=>?_⟩⟩
  obtain⟨g,o,e1,⟨cs,f,hcs⟩,e3⟩:=k4 j q hj
  have hcs':=hk.own _ _ _ _ hcs (Or.inr rfl)
  refine⟨g,o,e1,⟨cs,f,hcs'⟩,?_⟩
  rw[<- e3]
  simp only[World.cell?]
  rw[hcs',hcs]
 ·obtain⟨e1,e2⟩:=H.key qs h1 q h2
  exact⟨Nat.lt_of_lt_of_le e1 hk.low.size,(hk.low.cell (p:=⟨q,0,none⟩) (hq qs h1 q h2)).trans e2⟩
def RiseE (kf:Nat->List UInt8)(l:List Nat):Prop:=l.Pairwise fun a b=>leB (kf a) (kf b)
structure Came (kf:Nat->List UInt8)(A:List (List Nat))(pre:List Nat)(Qs:List (List Nat)):Prop where
 all:(pre++Qs.flatten).Perm A.flatten
 up:RiseE kf pre
 le:∀ a∈pre,∀ b∈Qs.flatten,leB (kf a) (kf b)
 each:∀ qs∈Qs,RiseE kf qs
theorem Came.take {kf:Nat->List UInt8}{A:List (List Nat)}{pre:List Nat}{Qs Qs':List (List Nat)}{q:Nat}{t:List Nat}(h:Came kf A pre Qs)(h0:Qs[0]?=some (q::t))(hok:HeapOK (fk Qs kf) Qs.length 0)(hne:∀ qs∈Qs,qs≠[])
 (hp:(q::Qs'.flatten).Perm Qs.flatten)(heach:∀ qs∈Qs',RiseE kf qs):Came kf A (pre++[q]) Qs':=by
 have hmin:∀ b∈Qs.flatten,leB (kf q) (kf b):=by
  intro b hb
  obtain⟨qs,hqs,hbq⟩:=List.mem_flatten.1 hb
  obtain⟨i,hi,e⟩:=List.getElem_of_mem hqs
  have h1:=hok.top i hi
  rw[fk_at (kf:=kf) h0,fk_at (kf:=kf) (List.getElem?_eq_getElem hi),e] at h1
  have h2:=h.each qs hqs
  cases qs with
  | nil=>exact absurd rfl (hne _ hqs)
  | cons x r =>
    simp only[hd,List.headD_cons] at h1
    rcases List.mem_cons.1 hbq with rfl|hbr
    ·exact h1
    ·exact leB_trans h1 ((List.pairwise_cons.1 h2).1 b hbr)
 have hq:q∈Qs.flatten:=hp.mem_iff.1 (by simp)
 refine⟨?_,?_,?_,heach⟩
 ·rw[List.append_assoc]
  exact (List.Perm.append_left pre hp).trans h.all
 ·unfold RiseE
  rw[List.pairwise_append]
  exact⟨h.up,by simp,fun a ha b hb=>by rw[List.mem_singleton.1 hb];exact h.le a ha q hq⟩
 ·intro a ha b hb
  rcases List.mem_append.1 ha with h1|h1
  ·exact h.le a h1 b (hp.mem_iff.1 (by simp[hb]))
  ·rw[List.mem_singleton.1 h1]
   exact hmin b (hp.mem_iff.1 (by simp[hb]))
end Go.Proofs.YtmehkneofinmiaaGreatDoor

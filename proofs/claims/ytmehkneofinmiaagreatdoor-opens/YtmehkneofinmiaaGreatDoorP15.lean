/-part 15-/
import Derived.Test.YtmehkneofinmiaaGreatDoorP14
import Derived.RangeFuncNested
import Derived.RangeFuncBound
import Derived.Shelf.RegionOpen
import Derived.OwnWalkIn
import Derived.LoopNIn
import Derived.Sort.LoopGhostIn
set_option maxRecDepth 100000
set_option maxHeartbeats 4000000
namespace Go.Proofs.YtmehkneofinmiaaGreatDoor
open Go.RowKit
theorem qX:(Tryz.prog.info? 162).map (λ i=>(i.zero,i.size,i.bytes))=some (some (.slice none 0 0),1,24):=by kernel_rfl
structure LLs (w:World)(lv0:Value)(A:List (List Nat))(kf:Nat->List UInt8):Prop where
 is:∃ (a:Option Addr) (c:Nat),lv0=.slice a A.length c/\A.length<=c/\c<=maxLen
 at':∀ (i:Nat) (qs:List Nat),A[i]?=some qs->∃ g o c v,lv0=.slice (some ⟨g,o,none⟩) A.length c/\g<w.heap.size/\w.cell? ⟨g,o+i,none⟩=some v/\Lst w v qs
 key:∀ qs∈A,∀ q∈qs,q<w.heap.size/\w.cell? ⟨q,0,none⟩=some (.string ⟨(kf q).toArray⟩)
theorem LLs.below {w x:World}{lv0:Value}{A:List (List Nat)}{kf:Nat->List UInt8}(h:LLs w lv0 A kf)(hb:Below w.heap.size w x):LLs x lv0 A kf :=
 ⟨h.is,λ i qs hi=>by
   obtain⟨g,o,c,v,e1,e2,e3,e4⟩:=h.at' i qs hi
   exact⟨g,o,c,v,e1,Nat.lt_of_lt_of_le e2 hb.size,(hb.cell (p:=⟨g,o+i,none⟩) e2).trans e3,e4.below hb⟩,
  λ qs hq q hm=>⟨Nat.lt_of_lt_of_le (h.key qs hq q hm).1 hb.size,(hb.cell (p:=⟨q,0,none⟩) (h.key qs hq q hm).1).trans (h.key qs hq q hm).2⟩⟩
def ik (qs:List Nat):Bool:=!qs.isEmpty
structure Hb (w x:World)(lv:Value)(rows:List Value)(Qs:List (List Nat)):Prop where
 low:Below w.heap.size w x
 blk:x.heap[w.heap.size]?=some (.cells #[lv,.func (.func 134) #[] #[]] 284 (0,0))
 row:x.ownsRow w.heap.size 162 1 lv rows.length rows
 ne:lv.ownBlock≠some w.heap.size
 len:Qs.length=rows.length
 lst:∀ (i:Nat) (v:Value) (qs:List Nat),rows[i]?=some v->Qs[i]?=some qs->Lst w v qs/\qs≠[]
theorem Hb.hp {w x:World}{lv lv0:Value}{rows:List Value}{Qs A:List (List Nat)}{kf:Nat->List UInt8}(h:Hb w x lv rows Qs)(hL:LLs w lv0 A kf)(hQ:∀ qs∈Qs,qs∈A):Hp x w.heap.size w.heap.size lv rows Qs kf :=
 ⟨Nat.le_refl _,h.blk,h.row,h.ne,h.len,λ i v qs h1 h2=>⟨(h.lst i v qs h1 h2).1.below h.low,(h.lst i v qs h1 h2).2⟩,
   λ qs hq q hm=>(hL.below h.low).key qs (hQ qs hq) q hm⟩
theorem lB {A:List (List Nat)}{i:Nat}{qs:List Nat}(h:A[i]?=some qs)(hf:ik qs=true):(A.take (i+1)).filter ik=(A.take i).filter ik++[qs]:=by
 rw[List.take_add_one,h];simp[hf]
theorem mj {A:List (List Nat)}{i:Nat}{qs:List Nat}(h:A[i]?=some qs)(hf:ik qs=false):(A.take (i+1)).filter ik=(A.take i).filter ik:=by
 rw[List.take_add_one,h];simp[hf]
theorem qP (w:World)(lv0:Value)(A:List (List Nat))(kf:Nat->List UInt8)(hL:LLs w lv0 A kf)(hA:A.length<100) :
 Calls Tryz.prog 197 #[lv0,.func (.func 134) #[] #[]] w λ e w'=>∃ h lv rows Qs,e=.returned (.pointer (some ⟨h,0,none⟩))/\Hp w' w.heap.size h lv rows Qs kf/\Qs.Perm (A.filter ik)/\cO (fk Qs kf) Qs.length 0/\rows.length<=A.length/\Below w.heap.size w w':=by
 obtain⟨ti,Az,Av,B1,Au⟩:=info_parts qX;obtain⟨a,c,rfl,B8,B9⟩:=hL.is;have HL:Hid _:=hL;clear hL;have X0:Hb w (w.alloc (.cells #[.slice none 0 0,.func (.func 134) #[] #[]] 284)) (.slice none 0 0) [] [] :=
  ⟨(Below.refl _ _).alloc (Nat.le_refl _) _,heap_alloc_new _ _,⟨rfl,Or.inl ⟨rfl,rfl⟩⟩,by simp[Value.ownBlock],rfl,λ i v qs h=>by simp at h⟩
 go_enter Tryz.func197,Tryz.ntmps197;go_wp2;go_loopw [14] (λ x wx=>∃ (i:Nat) (lv:Value) (rows:List Value),i<=A.length/\x=.int .i64 i/\rows.length<=i/\Hid (Hb w wx lv rows ((A.take i).filter ik))) (λ x _=>A.length-(intOf x).toNat);case atStart=>exact⟨0,.slice none 0 0,[],by omega,rfl,by simp,by show Hb _ _ _ _ _;exact X0⟩
 case round =>
  clear X0;obtain⟨i,lv,rows,hi,rfl,B3,HB⟩:=hrel;by_cases hlt:i<A.length
  ·obtain⟨qs,Al⟩:∃ qs,A[i]?=some qs:=⟨A[i],List.getElem?_eq_getElem hlt⟩;obtain⟨g,o,c',v,e1,e2,e3,e4⟩:=HL.out.at' i qs Al;cases e1;have c1:=(HB.out.low.cell (p:=⟨g,o+i,none⟩) e2).trans e3;have B6:g<wr.heap.size:=Nat.lt_of_lt_of_le e2 HB.out.low.size;obtain⟨va,vc,hv,B5,Bd,_⟩:=e4.is;rw[hv] at c1;have HV:Hid (Lst w v qs):=e4;have HQ:Hid (A[i]?=some qs):=Al;(have At:(i:Int)<(A.length:Int):=by omega);clear e4 e3 Al;cases hf:ik qs with
   | false =>(have Aj:qs.length=0:=by cases qs with|nil=>rfl|cons _ _=>simp[ik] at hf);rw[Aj] at c1;go_wp2;refine⟨⟨i+1,lv,rows,by omega,rfl,by omega,by rw[mj HQ.out hf];exact HB⟩,?_⟩;simp[intOf];omega
   | true =>
     (have Aj:0<qs.length:=by cases qs with|nil=>simp[ik] at hf|cons _ _=>simp);(have Bc:(0:Int)<(qs.length:Int):=by omega);(have b0:wr.cell? ⟨w.heap.size,0,none⟩=some lv:=by simp[World.cell?,HB.out.blk]);(have f0:wr.frozen? ⟨w.heap.size,0,none⟩=false:=by simp[World.frozen?,HB.out.blk]);have hS:w.heap.size<wr.heap.size:=(gL HB.out.blk);go_wp2_with (at_builtin;refine wpList_append_lies _ rfl (.tmp 25) (.tmp 27) 160 rfl w.heap.size 162 ti (.slice none 0 0) 1 24 Tryz.underlying160 Az Av B1 Au rfl (by omega) lv rows.length rows rfl (World.ownsRow.alloc HB.out.row _) ⟨wr.heap.size,0,none⟩ 1 1 [.slice va qs.length vc] rfl rfl (by intro j u hj;cases j with|zero=>(simp at hj;subst hj;simp[Addr.add])|succ j=>simp at hj) (by intro u hu;simp at hu;subst hu;rfl) (by omega) (by unfold maxLen;omega) (by omega) (by simp;omega) _ rfl ?_;intro g2 A8 w3 A6 A1 Am Aw;have k3:w3.cell? ⟨w.heap.size,0,none⟩=some lv:=(A1.cell_far ⟨w.heap.size,0,none⟩ (by simp;omega) (Ne.symm HB.out.ne)).trans ((World.cell?_of_block (heap_alloc_old _ _ hS)).trans b0);have f3:w3.frozen? ⟨w.heap.size,0,none⟩=false:=(A1.frozen_far ⟨w.heap.size,0,none⟩ (by simp;omega) (Ne.symm HB.out.ne)).trans ((World.frozen?_of_block (heap_alloc_old _ _ hS)).trans f0));have Ae:g2≠w.heap.size:=by
      intro e;rcases Am with h|h
      ·exact HB.out.ne (e ▸ h)
      ·simp at h;omega
     have Ac:Below w.heap.size w w3:=by
      have h1:Below w.heap.size w (wr.alloc (.cells #[.slice va qs.length vc] 162)):=HB.out.low.alloc HB.out.low.size _;refine⟨A1.os.trans h1.os,A1.tape.trans h1.tape,A1.output.trans h1.output,Nat.le_trans h1.size A1.size,λ k hk=>?_⟩;rw[A1.block k (by have:=h1.size;omega) ?_]
      ·exact h1.block k hk
      ·intro e;rcases HB.out.row.2 with ⟨e0,_⟩|⟨g0,A7,Ai,Ah,An,_⟩
       ·rw[e0] at e;cases e
       ·rw[Ah] at e;injection e with e;simp only at e;omega
     (have Ad:w3.heap[w.heap.size]?=some (.cells #[lv,.func (.func 134) #[] #[]] 284 (0,0)):=by rw[A1.block w.heap.size (by simp;omega) (Ne.symm HB.out.ne),heap_alloc_old _ _ hS];exact HB.out.blk);(have Ab:(rows++[Value.slice va qs.length vc]).length=rows.length+1:=by simp);refine⟨⟨i+1,.slice (some ⟨g2,0,none⟩) (rows.length+1) A8,rows++[.slice va qs.length vc],by omega,rfl,by rw[Ab];omega,?_⟩,?_⟩
     ·rw[lB HQ.out hf];refine⟨Ac.setCell (p:=⟨w.heap.size,0,none⟩) (Nat.le_refl _) _,?_,?_,λ e=>Ae (by injection e),by rw[List.length_append,Ab,HB.out.len];rfl,?_⟩
      ·have:=ah (i:=0) (v:=.slice (some ⟨g2,0,none⟩) (rows.length+1) A8) Ad;simpa using this
      ·rw[Ab];refine⟨A6.1,?_⟩;rcases A6.2 with ⟨hc,_⟩|⟨g',Ax,Ai,A4,h1,B0,h2⟩
       ·cases hc
       ·cases A4;refine Or.inr ⟨g2,A8,Ai,rfl,h1,?_,h2⟩;rw[<- B0];simp[World.setCell,Array.getElem?_modify,Ne.symm Ae]
      ·intro j v' B4 A4 Ag;by_cases hj:j<rows.length
       ·rw[List.getElem?_append_left hj] at A4;rw[List.getElem?_append_left (by rw[HB.out.len];exact hj)] at Ag;exact HB.out.lst j v' B4 A4 Ag
       ·(have Ay:j=rows.length:=by have:=(List.getElem?_eq_some_iff.1 A4).1;rw[Ab] at this;omega);subst Ay;rw[List.getElem?_append_right (Nat.le_refl _),Nat.sub_self] at A4;rw[List.getElem?_append_right (by rw[HB.out.len];exact Nat.le_refl _),HB.out.len,Nat.sub_self] at Ag;simp only[List.getElem?_cons_zero,Option.some.injEq] at A4 Ag;subst A4 Ag;refine⟨by rw[<- hv];exact HV.out,λ e=>?_⟩;rw[e] at Aj;simp at Aj
     ·simp[intOf];omega
  ·(obtain rfl:i=A.length:=by omega);rw[List.take_length] at HB;have hH:=HB.out.hp HL.out (λ qs hq=>(List.mem_filter.1 hq).1);have HH:Hid _:=hH;have Af:=HB.out.low;have A2:Hid _:=Af;(have b0:wr.cell? ⟨w.heap.size,0,none⟩=some lv:=by simp[World.cell?,HB.out.blk]);have A9:∃ a' c',lv=.slice a' rows.length c':=by
    rcases HB.out.row.2 with ⟨e0,hz⟩|⟨g0,A7,Ai,Ah,_⟩
    ·exact⟨none,0,by rw[e0,hz]⟩
    ·exact⟨_,_,Ah⟩
   obtain⟨a',c',A9⟩:=A9;subst A9;have Bb:rows.length<=A.length:=B3;clear hH Af HB b0;(have b0:wr.cell? ⟨w.heap.size,0,none⟩=some (.slice a' rows.length c'):=by simp[World.cell?,HH.out.blk]);go_wp2;go_loopw [8] (λ x wx=>∃ (s:Nat) (A0:List Value) (A3:List (List Nat)),s<=rows.length/2/\x=.int .i64 ((s:Int)-1)/\A0.length=rows.length/\Hid (Hp wx w.heap.size w.heap.size (.slice a' rows.length c') A0 A3 kf)/\Hid (A3.Perm (A.filter ik))/\Hid (cO (fk A3 kf) A3.length s)/\Hid (Below w.heap.size w wx)) (λ x _=>(intOf x+1).toNat);(case atStart=>exact⟨rows.length/2,rows,A.filter ik,Nat.le_refl _,by congr 1,rfl,HH,List.Perm.refl _,λ i c hi hc hn=>by (have h1:=HH.out.len;unfold cy at hc;omega),A2⟩);case round =>
    clear HH A2 b0;obtain⟨s,A0,A3,hs,rfl,Ab,HH,HP,HK,A2⟩:=hrel;cases s with
    | zero =>have h0:((0:Nat):Int)-1 = -1:=rfl;rw[h0];go_wp2;go_ret;exact⟨w.heap.size,_,A0,A3,rfl,HH.out,HP.out,HK.out,by omega,A2.out⟩
    | succ s =>
      (have h0:((s+1:Nat):Int)-1=(s:Int):=by omega);rw[h0];have B2:=HH.out.len;obtain⟨r,cp,A9,Ba⟩:∃ r cp,Value.slice a' rows.length c'=.slice (some ⟨r,0,none⟩) A0.length cp/\w.heap.size<=r:=by
       rcases HH.out.row.2 with ⟨_,hz⟩|⟨g0,A7,Ai,Ah,An,_⟩
       ·omega
       ·exact⟨g0,A7,Ah,An⟩
      (have Ar:Hid (Hp wr w.heap.size w.heap.size (.slice (some ⟨r,0,none⟩) A0.length cp) A0 A3 kf):=by rw[<- A9];exact HH);(have HX:Hid (eL (fk A3 kf) A3.length s s):=by refine⟨Nat.le_refl _,λ i c hi hne hc hn=>HK.out i c (by omega) hc hn,λ i c hi hc=>?_⟩;have:=hc.gt;omega);have As:Hid _:=A9;clear A9 HH HK;go_wp2_with fail;refine (mS _ w.heap.size w.heap.size s s r cp A0 A3 kf Ar.out (by omega) HX.out (by omega)).mono ?_;rintro e w3 ⟨⟨v3,rfl⟩,A5,Ak,B7,Ao,Aq,Ap,Aa⟩;(have H3:Hid (Hp w3 w.heap.size w.heap.size (.slice a' rows.length c') A5 Ak kf):=by rw[As.out];exact Ao);have P3:Hid (Ak.Perm (A.filter ik)):=Aq.trans HP.out;have K3:Hid _:=Ap;have L3:Hid (Below w.heap.size w w3):=⟨Aa.os.trans A2.out.os,Aa.tape.trans A2.out.tape,Aa.output.trans A2.out.output,Nat.le_trans A2.out.size Aa.size,λ k hk=>(Aa.block k (by have:=A2.out.size;omega) (by omega)).trans (A2.out.block k hk)⟩;clear Ao Aq Ap Aa Ar HX HP A2;go_wp2;refine⟨⟨s,A5,Ak,by omega,rfl,by omega,H3,P3,K3,L3⟩,?_⟩;simp[intOf]
structure jn (T:TypeId->Prop)(base:Nat)(A B:World):Prop where
 os:B.os=A.os
 tape:B.tape=A.tape
 output:B.output=A.output
 size:A.heap.size<=B.heap.size
 keep:∀ (k:Nat) (c:Array Value) (t:TypeId) (f:Nat×Nat),A.heap[k]?=some (Obj.cells c t f)->¬ T t->B.heap[k]?=some (Obj.cells c t f)
 low:∀ k,k<base->B.heap[k]?=A.heap[k]?
structure jC (T:TypeId->Prop)(base:Nat)(A B:World):Prop extends jn T base A B where
 non:∀ (k:Nat) (o:Obj),A.heap[k]?=some o->o.isCells=false->B.heap[k]?=some o
theorem jn.of_below {T:TypeId->Prop}{base:Nat}{A B:World}(hb:base<=A.heap.size)(h:Below A.heap.size A B):jn T base A B :=
 ⟨h.os,h.tape,h.output,h.size,λ k _ _ _ hk _=>(h.block k (gL hk)).trans hk,λ k hk=>h.block k (by omega)⟩
theorem jC.of_below {T:TypeId->Prop}{base:Nat}{A B:World}(hb:base<=A.heap.size)(h:Below A.heap.size A B):jC T base A B :=
 ⟨jn.of_below hb h,λ k _ hk _=>(h.block k (gL hk)).trans hk⟩
theorem jn.put {T:TypeId->Prop}{base:Nat}{A:World}{l:Nat}{o:Obj}(o':Obj)(hl:base<=l)(h:A.heap[l]?=some o)(ho:o.isCells=false):jn T base A (A.putObj l o'):=by
 refine⟨rfl,rfl,rfl,by simp[World.putObj],λ k c t f hk _=>?_,λ k hk=>?_⟩
 ·(have A0:l≠k:=by intro e;subst e;rw[h] at hk;cases hk;cases ho);simp only[World.putObj];rw[Array.getElem?_setIfInBounds_ne A0];exact hk
 ·simp only[World.putObj];rw[Array.getElem?_setIfInBounds_ne (by omega)]
def yg {α:Type}(F:Fence)(n:Nat)(P:Program)(g:Nat)(lb:Array Value)(encs:α->Array Value)(T:TypeId->Prop)(Kp:World->World->Prop)(S Sp:List α->Prop)(N:Nat)(w:World):Prop :=
 ∀ (l:Nat) (J Jx:List α->World->Prop) (W:World),Below w.heap.size w W->(∀ s A B,J s A->jC T w.heap.size A B->J s B)->(∀ s A B,Jx s A->jC T w.heap.size A B->Jx s B) ->
  (∀ pre x W1,J pre W1->pre.length<N->YieldAt F (n-1) P l (encs x) W1 λ e W' =>
    (e=.returned (.bool true)/\J (pre++[x]) W'/\Kp W1 W')\/(e=.returned (.bool false)/\Jx (pre++[x]) W')) ->
  J [] W ->
  CallsIn F n P g (#[.func (.yield l) #[] #[]]++lb) W λ e W'=>(∃ v,e=.returned v)/\((∃ xs,S xs/\J xs W')\/(∃ pre,Sp pre/\Jx pre W'))
def wK {α:Type}(base:Nat)(Kp:World->World->Prop)(I:List α->World->Prop)(Ix:Code->List α->World->Prop)(xs:List α)(W:World):Exit->Act->World->Prop
 | .normal,_,W'=>KeepsFrom base W W'/\Kp W W'/\I xs W'
 | .ret,_,W'=>KeepsFrom base W W'/\Ix .ret xs W'
 | .exit id,_,W'=>KeepsFrom base W W'/\Ix (.exit id) xs W'
 | _,_,_=>False
theorem wm {α:Type}{F:Fence}{n:Nat}{P:Program}{g:Operand}{ps:Array Tmp}{assign body:Code}{Q:Exit->Act->World->Prop}{a:Act}{w:World}
 (hro:F.round=none)(h1:1<=n){gf:Nat}{lb:Array Value}(hg:a.eval g=.func (.func gf) #[] lb)(hFg:F.fn gf)(eg:∀ args w,(callFunc gf args).run P w=.ok (.enter gf args) w)
 {encs:α->Array Value}{T:TypeId->Prop}{Kp:World->World->Prop}{S Sp:List α->Prop}{N:Nat}(hseq:yg F (n-1) P gf lb encs T Kp S Sp N w)
 (hKt:∀ {A B C:World},Kp A B->Kp B C->Kp A C)(hKb:∀ (W:World) (l:Nat) (o o':Obj),w.heap.size<=l->W.heap[l]?=some o->o.isCells=false->o.isWalk=false->Kp W (W.putObj l o'))(hps:∀ x,(encs x).size=ps.size)
 (I:List α->World->Prop)(Ix:Code->List α->World->Prop)(hI:∀ s A B,I s A->jn T w.heap.size A B->I s B)(hIx:∀ c s A B,Ix c s A->jn T w.heap.size A B->Ix c s B)(h0:I [] w)(Ax:α->Act)
 (hassign:∀ (l:Nat) (x:α) (W:World) (K:Act->World->Prop),K (Ax x) W ->
   assign.wpIn (F.inRound l) (n-1-1) P (Exit.then K (λ _ _ _=>False)) { tmps:=(ps.zip (encs x)).foldl (λ t (p,v)=>t.setIfInBounds p v) a.tmps,defers:=[] } W)
 (hbody:∀ (l:Nat) (pre:List α) (x:α) (W:World),w.heap.size<=l->I pre W->pre.length<N->body.wpIn (F.inRound l) (n-1-1) P (wK w.heap.size Kp I Ix (pre++[x]) W) (Ax x) W)
 (hdone:∀ (D:Nat) (xs:List α) (W:World),w.heap.size<=D->S xs->I xs W->W.heap[D]?=some (.deferred (some []))->Q .normal { a with defers:={ target:=.collected D,args:=#[] }::a.defers } W)
 (hstop:∀ (D:Nat) (c:Code) (pre:List α) (W:World),w.heap.size<=D->Sp pre->Ix c pre W->W.heap[D]?=some (.deferred (some []))->c.wpIn F n P Q { a with defers:={ target:=.collected D,args:=#[] }::a.defers } W) :
 (Code.rangeFunc g ps assign body).wpIn F n P Q a w:=by
 refine wpIn_rangeFunc λ fn hfn=>?_;rw[hro];obtain⟨R,hR⟩:∃ R:LoopState->Option Code->Loop,R=λ st pe=>{ state:=st,pending:=pe,fn,tmps:=a.tmps,params:=ps,assign,body,defers:=w.heap.size }:=⟨_,rfl⟩;obtain⟨W1,A6⟩:∃ W1,(w.alloc (.deferred (some []))).alloc (.loop (R .ready none))=W1:=⟨_,rfl⟩;have b1:Below w.heap.size w W1:=by rw[<- A6];exact ((Below.refl _ w).alloc (Nat.le_refl _) _).alloc (by simp) _
 have l1:W1.heap[w.heap.size+1]?=some (.loop (R .ready none)):=by
  rw[<- A6];have:=World.alloc_heap_new (w.alloc (.deferred (some []))) (.loop (R .ready none))
  rwa [World.size_alloc] at this
 have d1:W1.heap[w.heap.size]?=some (.deferred (some [])):=by rw[<- A6];exact (Below.heap_alloc _ _ _ (by simp)).trans (World.alloc_heap_new w _)
 refine⟨w.heap.size+1,[{ target:=.collected w.heap.size,args:=#[] }],W1,{ target:=.fn (.func gf) lb,args:=#[.func (.yield (w.heap.size+1)) #[] #[]] },W1,gf,#[.func (.yield (w.heap.size+1)) #[] #[]]++lb,W1,?_,?_,?_,?_,λ _=>h1,?_⟩
 ·rw[<- A6,hR];exact run_enterLoop_outer _ _ _ _ _
 ·simp only[resolve,hg];simp[go_sem]
 ·intro f' A9;simp[Target.leads] at A9;subst A9;exact hFg
 ·simp[invoke,go_sem,eg]
 have A5:∀ {st:LoopState} {pe:Option Code} {A B:World},jC T w.heap.size A B->A.heap[w.heap.size+1]?=some (.loop (R st pe))->A.heap[w.heap.size]?=some (.deferred (some []))->B.heap[w.heap.size+1]?=some (.loop (R st pe))/\B.heap[w.heap.size]?=some (.deferred (some [])) :=
  λ h hl hd=>⟨h.non _ _ hl rfl,h.non _ _ hd rfl⟩
 refine (hseq (w.heap.size+1)
  (λ pre W=>I pre W/\W.heap[w.heap.size+1]?=some (.loop (R .ready none))/\W.heap[w.heap.size]?=some (.deferred (some [])))
  (λ pre W=>∃ c,Ix c pre W/\W.heap[w.heap.size+1]?=some (.loop (R .done (some c)))/\W.heap[w.heap.size]?=some (.deferred (some [])))
  W1 b1 (λ s A B h k=>⟨hI s A B h.1 k.tojn,A5 k h.2.1 h.2.2⟩)
  (λ s A B h k=>by obtain⟨c,hc,hl,hd⟩:=h;exact⟨c,hIx c s A B hc k.tojn,A5 k hl hd⟩)
  ?round ⟨hI _ _ _ h0 (jn.of_below (Nat.le_refl _) b1),l1,d1⟩).mono ?_
 case round =>
  rintro pre x W ⟨hi,hl,hd⟩ A7;have Ad:w.heap.size+1<W.heap.size:=(gL hl);have hy:=run_yield (P:=P) (args:=encs x) hl (by rw[hR];exact hps x);rw[hR] at hy;refine⟨fn,_,assign,body,hy,roundIn_of_wpIn hfn (hassign _ x W _ ?_)⟩;clear hy;obtain⟨W2,A4⟩:∃ W2,W.putObj (w.heap.size+1) (.loop { R .ready none with state:=.busy })=W2:=⟨_,rfl⟩;(have l2:W2.heap[w.heap.size+1]?=some (.loop { R .ready none with state:=.busy }):=by rw[<- A4];exact World.putObj_heap_same Ad);(have d2:W2.heap[w.heap.size]?=some (.deferred (some [])):=by rw[<- A4];exact (World.putObj_heap_other (by omega)).trans hd);(have i2:I pre W2:=by rw[<- A4];exact hI _ _ _ hi (jn.put _ (by omega) hl rfl));(have k2:Kp W W2:=by rw[<- A4];exact hKb _ _ _ _ (by omega) hl rfl rfl);refine⟨W2,by rw[<- A4];exact run_beginRound hl (by rw[hR]),?_⟩;refine wpIn_mono (hbody _ pre x W2 (by omega) i2 A7) ?_;have A8:∀ (A0:Option Code) (W3:World),KeepsFrom w.heap.size W2 W3 ->
   (Instr.endRound (w.heap.size+1) A0).run P W3=.ok (.bool A0.isNone) (W3.putObj (w.heap.size+1) (.loop (R (if A0.isNone then .ready else .done) A0))) /\
   jn T w.heap.size W3 (W3.putObj (w.heap.size+1) (.loop (R (if A0.isNone then .ready else .done) A0)))/\Kp W3 (W3.putObj (w.heap.size+1) (.loop (R (if A0.isNone then .ready else .done) A0))) /\
   (W3.putObj (w.heap.size+1) (.loop (R (if A0.isNone then .ready else .done) A0))).heap[w.heap.size+1]?=some (.loop (R (if A0.isNone then .ready else .done) A0)) /\
   (W3.putObj (w.heap.size+1) (.loop (R (if A0.isNone then .ready else .done) A0))).heap[w.heap.size]?=some (.deferred (some [])):=by
   intro A0 W3 hk;have l3:=hk.same _ _ (by omega) l2 rfl;have d3:=hk.same _ _ (Nat.le_refl _) d2 rfl;have he:=run_endRound (P:=P) A0 l3;have Aa:=(gL l3);refine⟨by rw[hR] at he ⊢;exact he,jn.put _ (by omega) l3 rfl,hKb _ _ _ _ (by omega) l3 rfl rfl,World.putObj_heap_same Aa,(World.putObj_heap_other (by omega)).trans d3⟩
  intro e a3 W3 hp;cases e with
  | normal =>obtain⟨hk,Ac,A2⟩:=hp;obtain⟨hr,ht,hq,A3,A1⟩:=A8 none W3 hk;exact⟨_,_,hr,.inl ⟨rfl,⟨hI _ _ _ A2 ht,A3,A1⟩,hKt k2 (hKt Ac hq)⟩⟩
  | ret =>obtain⟨hk,A2⟩:=hp;obtain⟨hr,ht,hq,A3,A1⟩:=A8 (some .ret) W3 hk;exact⟨_,_,hr,.inr ⟨rfl,.ret,hIx _ _ _ _ A2 ht,A3,A1⟩⟩
  | exit id =>obtain⟨hk,A2⟩:=hp;obtain⟨hr,ht,hq,A3,A1⟩:=A8 (some (.exit id)) W3 hk;exact⟨_,_,hr,.inr ⟨rfl,.exit id,hIx _ _ _ _ A2 ht,A3,A1⟩⟩
  | goto t=>exact hp.elim
  | panic ch=>exact hp.elim
  | outgrown=>exact hp.elim
 ·rintro e W2 ⟨⟨v,rfl⟩,⟨xs,hS,hi,hl,hd⟩|⟨pre,Ab,c,hi,hl,hd⟩⟩
  ·refine⟨none,_,by have:=run_endLoop (P:=P) hl (by rw[hR];simp);rw[hR] at this;exact this,hdone _ xs _ (Nat.le_refl _) hS (hI _ _ _ hi ?_) ((World.putObj_heap_other (by omega)).trans hd)⟩;exact jn.put _ (by omega) hl rfl
  ·refine⟨some c,_,by have:=run_endLoop (P:=P) hl (by rw[hR];simp);rw[hR] at this;exact this,hstop _ c pre _ (Nat.le_refl _) Ab (hIx _ _ _ _ hi ?_) ((World.putObj_heap_other (by omega)).trans hd)⟩;exact jn.put _ (by omega) hl rfl
open Go.RowKit Go.Shelf
attribute [local go_sem] Oper.semAt_some
def ee (t:TypeId):Prop:=t=284\/t=162
structure Km (n₀:Nat)(W W':World):Prop where
 low:Below n₀ W W'
 own:∀ (k:Nat) (c:Array Value) (t:TypeId) (f:Nat×Nat),W.heap[k]?=some (Obj.cells c t f)->(ee t\/t=170)->W'.heap[k]?=some (Obj.cells c t f)
theorem Km.trans {n₀:Nat}{A B C:World}(h:Km n₀ A B)(k:Km n₀ B C):Km n₀ A C:=⟨h.low.trans k.low,λ i c t f hi ht=>k.own i c t f (h.own i c t f hi ht) ht⟩
theorem Km.put {n₀:Nat}{w:World}(hn:n₀<=w.heap.size)(W:World)(l:Nat)(o o':Obj)(hl:w.heap.size<=l)(h:W.heap[l]?=some o)(h1:o.isCells=false)(h2:o.isWalk=false):Km n₀ W (W.putObj l o'):=by
 refine⟨belowK_b hn W l o o' hl h h1 h2,λ k c t f hk _=>?_⟩;have A0:l≠k:=by intro e;subst e;rw[h] at hk;cases hk;cases h1
 simp only[World.putObj];rw[Array.getElem?_setIfInBounds_ne A0];exact hk
theorem Hp.kept {W W':World}{base h n₀:Nat}{lv:Value}{rows:List Value}{Qs:List (List Nat)}{kf:Nat->List UInt8}(H:Hp W base h lv rows Qs kf)(hk:Km n₀ W W')(hq:∀ qs∈Qs,∀ q∈qs,q<n₀):Hp W' base h lv rows Qs kf:=by
 refine⟨H.hb,hk.own _ _ _ _ H.blk (Or.inl (Or.inl rfl)),⟨H.row.1,?_⟩,H.ne,H.len,λ i v qs h1 h2=>⟨?_,(H.lst i v qs h1 h2).2⟩,λ qs h1 q h2=>?_⟩
 ·rcases H.row.2 with h0|⟨g,A3,A2,hv,hb,hg,hr⟩
  ·exact Or.inl h0
  ·exact Or.inr ⟨g,A3,A2,hv,hb,hk.own _ _ _ _ hg (Or.inl (Or.inr rfl)),hr⟩
 ·obtain⟨a,c,k1,k2,k3,k4⟩:=(H.lst i v qs h1 h2).1.is;refine⟨⟨a,c,k1,k2,k3,λ j q hj=>?_⟩⟩;obtain⟨g,o,e1,⟨cs,f,A1⟩,e3⟩:=k4 j q hj;have A0:=hk.own _ _ _ _ A1 (Or.inr rfl);refine⟨g,o,e1,⟨cs,f,A0⟩,?_⟩;rw[<- e3];simp only[World.cell?];rw[A0,A1]
 ·obtain⟨e1,e2⟩:=H.key qs h1 q h2;exact⟨Nat.lt_of_lt_of_le e1 hk.low.size,(hk.low.cell (p:=⟨q,0,none⟩) (hq qs h1 q h2)).trans e2⟩
def fW (kf:Nat->List UInt8)(l:List Nat):Prop:=l.Pairwise λ a b=>leB (kf a) (kf b)
structure wj (kf:Nat->List UInt8)(A:List (List Nat))(pre:List Nat)(Qs:List (List Nat)):Prop where
 all:(pre++Qs.flatten).Perm A.flatten
 up:fW kf pre
 le:∀ a∈pre,∀ b∈Qs.flatten,leB (kf a) (kf b)
 each:∀ qs∈Qs,fW kf qs
theorem wj.take {kf:Nat->List UInt8}{A:List (List Nat)}{pre:List Nat}{Qs Qs':List (List Nat)}{q:Nat}{t:List Nat}(h:wj kf A pre Qs)(h0:Qs[0]?=some (q::t))(hok:cO (fk Qs kf) Qs.length 0)(hne:∀ qs∈Qs,qs≠[])
 (hp:(q::Qs'.flatten).Perm Qs.flatten)(heach:∀ qs∈Qs',fW kf qs):wj kf A (pre++[q]) Qs':=by
 have A1:∀ b∈Qs.flatten,leB (kf q) (kf b):=by
  intro b hb;obtain⟨qs,A0,A3⟩:=List.mem_flatten.1 hb;obtain⟨i,hi,e⟩:=List.getElem_of_mem A0;have h1:=hok.top i hi;rw[lj (kf:=kf) h0,lj (kf:=kf) (List.getElem?_eq_getElem hi),e] at h1;have h2:=h.each qs A0;cases qs with
  | nil=>exact absurd rfl (hne _ A0)
  | cons x r =>
    simp only[hd,List.headD_cons] at h1;rcases List.mem_cons.1 A3 with rfl|A2
    ·exact h1
    ·exact fY h1 ((List.pairwise_cons.1 h2).1 b A2)
 have hq:q∈Qs.flatten:=hp.mem_iff.1 (by simp);refine⟨?_,?_,?_,heach⟩
 ·rw[List.append_assoc];exact (List.Perm.append_left pre hp).trans h.all
 ·unfold fW;rw[List.pairwise_append];exact⟨h.up,by simp,λ a ha b hb=>by rw[List.mem_singleton.1 hb];exact h.le a ha q hq⟩
 ·intro a ha b hb;rcases List.mem_append.1 ha with h1|h1
  ·exact h.le a h1 b (hp.mem_iff.1 (by simp[hb]))
  ·rw[List.mem_singleton.1 h1];exact A1 b (hp.mem_iff.1 (by simp[hb]))
open Go.RowKit Go.Shelf
attribute [local go_sem] Oper.semAt_some
theorem jC.of_off {T:TypeId->Prop}{base:Nat}{A B:World}{S:Nat->Prop}(h:Off S A B)(hb:base<=A.heap.size)(hS:∀ k,S k->base<=k/\∃ c t f,A.heap[k]?=some (Obj.cells c t f)/\T t):jC T base A B:=by
 refine⟨⟨h.os,h.tape,h.output,h.size,λ k c t f hk ht=>?_,λ k hk=>h.block k (by omega) (λ hs=>by have:=(hS k hs).1;omega)⟩,λ k o hk ho=>?_⟩
 ·rw[h.block k (gL hk) ?_]
  ·exact hk
  ·intro hs;obtain⟨_,c',t',f',h1,h2⟩:=hS k hs;rw[hk] at h1;cases h1;exact ht h2
 ·rw[h.block k (gL hk) ?_]
  ·exact hk
  ·intro hs;obtain⟨_,c',t',f',h1,h2⟩:=hS k hs;rw[hk] at h1;cases h1;cases ho
theorem te (w:World)(base h r cap:Nat)(rows:List Value)(Qs:List (List Nat))(kf:Nat->List UInt8)(H:Hp w base h (.slice (some ⟨r,0,none⟩) rows.length cap) rows Qs kf)(hl:rows.length<1000)(hx:cO (fk Qs kf) Qs.length 0)(q:Nat)(t:List Nat)(h0:Qs[0]?=some (q::t))(hll:t.length<1000000)(hbw:base<=w.heap.size) :
 Calls Tryz.prog 198 #[.pointer (some ⟨h,0,none⟩)] w λ e w'=>e=.returned (.pointer (some ⟨q,0,none⟩))/\∃ rows' Qs',rows'.length<=rows.length/\Hp w' base h (.slice (some ⟨r,0,none⟩) rows'.length cap) rows' Qs' kf/\(q::Qs'.flatten).Perm Qs.flatten/\(∀ qs∈Qs',qs∈Qs\/qs=t)/\cO (fk Qs' kf) Qs'.length 0/\jC ee base w w':=by
 have A1:∀ k,(k=r\/k=h)->base<=k/\∃ c t f,w.heap[k]?=some (Obj.cells c t f)/\ee t:=by
  rintro k (rfl|rfl)
  ·rcases H.row.2 with ⟨e0,_⟩|⟨g0,A3,A7,A6,A2,A4,_⟩
   ·cases e0
   ·cases A6;exact⟨A2,_,_,_,A4,Or.inr rfl⟩
  ·exact⟨H.hb,_,_,_,H.blk,Or.inl rfl⟩
 cases Qs with
 | nil=>simp at h0
 | cons Q R =>
   simp only[List.getElem?_cons_zero,Option.some.injEq] at h0;subst h0;cases t with
   | cons q2 t =>
     refine (vG w base h r cap rows _ kf H hl hx q q2 t rfl (by simp at hll;omega)).mono ?_;rintro e w' ⟨rfl,rows',Qs',h1,h2,h3,h4,h5⟩;simp only[List.set_cons_zero] at h3;refine⟨rfl,rows',Qs',by omega,h2,?_,λ qs hq=>?_,h4,jC.of_off h5 hbw A1⟩
     ·simp only[List.flatten_cons];refine (List.Perm.cons q h3.flatten).trans ?_;simp
     ·have:=h3.mem_iff.1 hq;rcases List.mem_cons.1 this with h|h
      ·exact Or.inr h
      ·exact Or.inl (by simp[h])
   | nil =>
     (have A5:R.length+1=rows.length:=by have:=H.len;simpa using this);obtain⟨qm,A0⟩:∃ qm,(([q]:List Nat)::R)[R.length]?=some qm:=⟨_,List.getElem?_eq_getElem (by simp)⟩;refine (xK w base h r cap R.length rows _ kf H hl hx q rfl (by omega) qm A0).mono ?_;rintro e w' ⟨rfl,rows',Qs',h1,h2,h3,h4,h5⟩;simp only[List.set_cons_zero] at h3;have hR:((qm::R).take R.length).Perm R:=by
      rcases List.eq_nil_or_concat R with rfl|⟨R,x,rfl⟩
      ·simp
      ·(have e1:(R.concat x).length=R.length+1:=by simp);rw[e1,List.getElem?_cons_succ] at A0;rw[e1,List.take_succ_cons];simp only[List.concat_eq_append] at A0 ⊢;rw[List.getElem?_append_right (Nat.le_refl _)] at A0;simp at A0;subst A0;rw[List.take_left];exact (List.perm_append_singleton x R).symm
     have h6:=h3.trans hR;refine⟨rfl,rows',Qs',by omega,h2,?_,λ qs hq=>Or.inl (by simp[h6.mem_iff.1 hq]),h4,jC.of_off h5 hbw A1⟩;simp only[List.flatten_cons,List.singleton_append];exact List.Perm.cons q h6.flatten
theorem vU (A:List (List Nat)):(A.filter ik).flatten.Perm A.flatten:=by
 induction A with
 | nil=>simp
 | cons Q A ih =>
   cases hf:ik Q with
   | true =>rw[List.filter_cons_of_pos hf];exact List.Perm.append_left Q ih
   | false =>rw[List.filter_cons_of_neg (by simp[hf])];(have:Q=[]:=by cases Q with|nil=>rfl|cons _ _=>simp[ik] at hf);subst this;simpa using ih
theorem jC.mono {T:TypeId->Prop}{b b':Nat}{A B:World}(h:jC T b A B)(hb:b'<=b):jC T b' A B:=⟨⟨h.os,h.tape,h.output,h.size,h.keep,λ k hk=>h.low k (by omega)⟩,h.non⟩
abbrev En (A:List (List Nat)):={ q:Nat // q∈A.flatten }
def AY {A:List (List Nat)}(x:En A):Array Value:=#[.pointer (some ⟨x.1,0,none⟩)]
def cE {A:List (List Nat)}(l:List (En A)):List Nat:=l.map (·.1)
theorem rt (A:List (List Nat))(kf:Nat->List UInt8)(lv0:Value)(w:World)(n₀ n Bl Bf:Nat)(hL:LLs w lv0 A kf)(hA:A.length<100)(hup:∀ qs∈A,fW kf qs)(hlow:∀ q∈A.flatten,q<n₀)(hcnt:A.flatten.length<1000000)
 (hBl:w.cell? ⟨Bl,0,none⟩=some lv0)(hBl2:Bl<w.heap.size)(hBf:w.cell? ⟨Bf,0,none⟩=some (.func (.func 134) #[] #[]))(hBf2:Bf<w.heap.size)(hn:1<=n) :
 yg Fence.wide n Tryz.prog 196 #[.pointer (some ⟨Bl,0,none⟩),.pointer (some ⟨Bf,0,none⟩)] (AY (A:=A)) ee (Km n₀)
  (λ xs=>(cE xs).Perm A.flatten/\fW kf (cE xs)) (λ pre=>∃ rest,(cE pre++rest).Perm A.flatten/\fW kf (cE pre)/\∀ a∈cE pre,∀ b∈rest,leB (kf a) (kf b)) A.flatten.length w:=by
 intro l J Jx W hW hJ Ay hY h0;have HL:Hid (LLs W lv0 A kf):=hL.below hW;have c1:=(hW.cell (p:=⟨Bl,0,none⟩) hBl2).trans hBl;have c2:=(hW.cell (p:=⟨Bf,0,none⟩) hBf2).trans hBf;have Ax:=hW.size;refine callsIn_of_wp Tryz.func196 rfl trivial ?_ rfl;simp only[Tryz.ntmps196,List.size_toArray,List.length_cons,List.length_nil,Nat.reduceAdd,Nat.reduceSub,Array.replicate_succ,Array.replicate_zero,List.push_toArray,List.append_toArray,List.nil_append,List.cons_append];gi_wp2_with fail;refine⟨trivial,?_⟩;refine (callsIn_wide.2 (qP W lv0 A kf HL.out hA)).mono ?_;rintro e W1 ⟨h,lv,A0,Qs,rfl,hH,hP,hK,An,Ad⟩;have Ak:J [] W1:=hJ _ _ _ h0 (jC.of_below (by omega) Ad);have hC:wj kf A [] Qs:=by refine⟨?_,List.Pairwise.nil,λ a ha=>by simp at ha,λ qs hq=>hup qs (List.mem_filter.1 (hP.mem_iff.1 hq)).1⟩;rw[List.nil_append];exact hP.flatten.trans (vU A)
 have HH:Hid _:=hH;have HC:Hid _:=hC;have HK:Hid _:=hK;have HJ:Hid _:=Ak;clear hH hC hK Ak hP;gi_wp2_with fail;have A4:=Ad.size;gi_loopg [] A.flatten.length (λ g wr=>∃ (pre:List (En A)) (lv:Value) (A0:List Value) (Qs:List (List Nat)),Qs.flatten.length=g/\A0.length<100/\Hid (Hp wr W.heap.size h lv A0 Qs kf)/\Hid (wj kf A (cE pre) Qs)/\Hid (cO (fk Qs kf) Qs.length 0)/\Hid (J pre wr)/\W.heap.size<=wr.heap.size);case atStart=>exact⟨[],lv,A0,Qs,by have:=HC.out.all.length_eq;simpa [cE] using this,by omega,HH,HC,HK,HJ,A4⟩
 case round =>
  clear HH HC HK HJ A4;obtain⟨pre,lv,A0,Qs,hg,An,HH,HC,HK,HJ,A4⟩:=hrel;have A2:=HH.out.len;cases Qs with
  | nil =>
    (have Ao:A0.length=0:=by simpa using A2.symm);obtain⟨a',c',Ac⟩:∃ a' c',lv=.slice a' 0 c':=by
     rcases HH.out.row.2 with ⟨e0,_⟩|⟨g0,A8,Av,A6,_⟩
     ·exact⟨_,_,e0⟩
     ·rw[Ao] at A6;exact⟨_,_,A6⟩
    (have b0:wr.cell? ⟨h,0,none⟩=some (.slice a' 0 c'):=by rw[<- Ac];simp[World.cell?,HH.out.blk]);gi_wp2;go_end0;refine⟨⟨_,rfl⟩,.inl ⟨pre,⟨by simpa using HC.out.all,HC.out.up⟩,HJ.out⟩⟩
  | cons Q R =>
    (have Al:∀ qs∈Q::R,qs≠[]:=by intro qs hq;obtain⟨i,hi,e⟩:=List.getElem_of_mem hq;(have Ar:i<A0.length:=by omega);exact (HH.out.lst i _ qs (List.getElem?_eq_getElem Ar) (by rw[List.getElem?_eq_getElem hi,e])).2);cases Q with
    | nil=>exact absurd rfl (Al [] (by simp))
    | cons q t =>
      obtain⟨r,cap,Ac⟩:∃ r cap,lv=.slice (some ⟨r,0,none⟩) A0.length cap:=by
       rcases HH.out.row.2 with ⟨_,hz⟩|⟨g0,A8,Av,A6,_⟩
       ·simp at A2;omega
       ·exact⟨_,_,A6⟩
      subst Ac;(have b0:wr.cell? ⟨h,0,none⟩=some (.slice (some ⟨r,0,none⟩) A0.length cap):=by simp[World.cell?,HH.out.blk]);(have B0:(0:Int)<(A0.length:Int):=by simp at A2;omega);have Ah:q∈A.flatten:=HC.out.all.mem_iff.1 (by simp);have A1:=HC.out.all.length_eq;simp only[List.length_append,List.flatten_cons,List.length_cons,cE,List.length_map] at A1;(have Aq:t.length<1000000:=by omega);have HT:Hid _:=te wr W.heap.size h r cap A0 _ kf HH.out (by omega) HK.out q t rfl Aq A4;clear HH;gi_wp2_with fail;refine⟨trivial,?_⟩;refine (callsIn_wide.2 HT.out).mono ?_;rintro e W2 ⟨rfl,A3,Qs2,B1,Ae,A5,Am,Ai,Aa⟩;have Af:J pre W2:=hJ _ _ _ HJ.out (Aa.mono (by omega));have Ag:wj kf A (cE (pre++[(⟨q,Ah⟩:En A)])) Qs2:=by
       have:=HC.out.take (t:=t) rfl HK.out Al A5 (λ qs hq=>by
        rcases Am qs hq with h|h
        ·exact HC.out.each qs h
        ·rw[h];exact (List.pairwise_cons.1 (HC.out.each (q::t) (by simp))).2)
       simpa [cE] using this
      (have As:pre.length<A.flatten.length:=by omega);obtain⟨fn,Au,Ab,body,hy,hR⟩:=hY pre ⟨q,Ah⟩ W2 Af As;unfold AY at hy;dsimp only at hy;have H2:Hid _:=Ae;have C2:Hid _:=Ag;have K2:Hid _:=Ai;(have Az:Qs2.flatten.length+1=gk:=by have:=A5.length_eq;simp only[List.length_cons] at this;omega);have Ap:W.heap.size<=W2.heap.size:=Nat.le_trans A4 Aa.size;(have A7:Hid (∀ qs∈Qs2,∀ x∈qs,x<n₀):=by intro qs hq x hx;exact hlow x (HC.out.all.mem_iff.1 (List.mem_append_right _ (A5.mem_iff.1 (List.mem_cons_of_mem _ (List.mem_flatten.2 ⟨qs,hq,hx⟩))))));clear Ae Ag Ai A5 Am Aa HT HC HK HJ b0 Af;gi_wp2;refine hR.mono ?_;rintro e W3 (⟨rfl,Aw,Aj⟩|⟨rfl,A9⟩)
      ·have H3:Hid _:=H2.out.kept Aj A7.out;have At:W.heap.size<=W3.heap.size:=Nat.le_trans Ap Aj.low.size;gi_wp2;go_roundg Qs2.flatten.length;(case measure=>omega);case rel=>exact⟨_,_,A3,Qs2,rfl,by omega,H3,C2,K2,Aw,At⟩
      ·gi_wp2;refine bodyPost_ret (results_none rfl _ _ _) rfl ?_;refine⟨⟨_,rfl⟩,.inr ⟨_,⟨Qs2.flatten,C2.out.all,C2.out.up,C2.out.le⟩,A9⟩⟩
end Go.Proofs.YtmehkneofinmiaaGreatDoor

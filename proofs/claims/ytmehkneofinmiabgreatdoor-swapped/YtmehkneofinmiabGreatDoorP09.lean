/-part 9-/
import Derived.Test.YtmehkneofinmiabGreatDoorP08
import Derived.Test.YtmehkneofinmiabGreatDoorRows
import Derived.OpenShut
open Go.Proofs.Tryz
open Go.Value renaming string->ID,bool->IF,int->IH,slice->Ks,pointer->K0,tuple->L3,agg->N0
open Option renaming some->IR,none->J1,map_some->NX
open Go.IntKind renaming i64->I3,i32->M1,u32->N5
open Go.World renaming cell?->Jx,frozen?->N1
open Go.Proofs.Tryz renaming prog->J0
open Go.Lib renaming decDigits->Kf,indexAny->Lo,indexByte->Mu,TabIs->Nx,size_eq->NO
open Bool renaming false->Kx,true->LI,false_eq_true->MA
open Go.Ending renaming returned->K1
open Nat renaming le_refl->K2,le_trans->Lz,mul_le_mul_right->LL,zero_add->L4,le_succ_of_le->MY,zero_le->N2,le_succ->N3
open List renaming replicate->Ln,pairwise_cons->LS,not_mem_nil->L2,mem_cons->Mz,length_append->MD,flatMap_cons->MT,length_cons->Nd,filter_cons->Nm
open Go renaming World->Lq,Value->Lw,heap_alloc_last->LN,bodyPost_ret->L5,Calls->Mb,heap_alloc_new->Mn,madeCells->Mp,TypeId->N4
open Or renaming inl->Ly
open Go.Obj renaming cells->LO
open Option.some renaming inj->LR
open Go.Act renaming put->L1
set_option maxRecDepth 1000000
set_option maxHeartbeats 8000000
namespace Go.Proofs.YtmehkneofinmiabGreatDoor
open Go.RowKit
variable {P:Program}{W w x:Lq}{B:Nat->Prop}{k:I9}{a b c d kc m n s t told:Nat}{rd:Int}{lk:Nat->Int}{σ σ':St}{M:Mem}{f:Nat×Nat}{en:Nat->IP}{vs:Nat->Lw}{bd body key l:List UInt8}
def fV (w:Lq)(k:Nat)(s:ByteArray)(pos:Nat):Lq:={ w with heap:=w.heap.setIfInBounds k (.stringIter s pos) }
theorem xF (w:Lq)(k:Nat)(s:ByteArray)(pos:Nat)(ty:N4)(hk:w.heap[k]?=IR (.stringIter s pos))(h:pos<s.size) :
 (Instr.next (K0 (IR ⟨k,0,J1⟩)) LI ty).run P w =
   .ok (L3 #[IF LI,IH I3 pos,IH M1 (Utf8.decode s pos).1]) (fV w k s (pos+(Utf8.decode s pos).2)):=by
 simp only[Instr.next,getObj,setObj,Sem.run_bind,Sem.run,hk,Result.andThen,h,if_true];simp[goInt,fV]
theorem zY (w:Lq)(k:Nat)(s:ByteArray)(pos:Nat)(ty:N4)(hk:w.heap[k]?=IR (.stringIter s pos))(h:¬ pos<s.size) :
 (Instr.next (K0 (IR ⟨k,0,J1⟩)) LI ty).run P w=.ok (L3 #[IF Kx]) w:=by
 simp[Instr.next,getObj,Sem.run,hk,h]
theorem oj (w:Lq)(k:Nat)(s:ByteArray)(pos:Nat)(hk:k<w.heap.size):(fV w k s pos).heap[k]?=IR (.stringIter s pos):=by
 simp[fV,hk]
theorem l4 {w0:Lq}{B k:Nat}{s:ByteArray}{pos:Nat}(h:Below B w0 w)(hk:B<=k):Below B w0 (fV w k s pos):=by
 refine⟨h.os,h.tape,h.output,?_,?_⟩
 ·simpa [fV] using h.size
 ·intro j hj;rw[<-h.block j hj];simp only[fV];rw[Array.getElem?_setIfInBounds_ne (by omega)]
theorem GC (x:UInt8):decide ((0:Int)<=Mu [13,10] (x.toNat:Int).toNat.toUInt8)=cU x:=by
 have:(x.toNat:Int).toNat.toUInt8=x:=by simp
 rw[this,<-Lib.contains_iff_indexByte];unfold cU;simp only[List.contains_cons,List.contains_nil,Bool.or_false]
theorem oo (v:List UInt8)(w:Lq)(h8:v.length<=8) :
 Mb J0 222 #[ID ⟨v.toArray⟩,ID ⟨#[13,10]⟩] w λe w'=>(∃n:Int,e=K1 (IH I3 n)/\decide (0<=n)=v.any cU)/\Below w.heap.size w w':=by
 obtain⟨s,hs⟩:∃s:ByteArray,s=⟨v.toArray⟩:=⟨_,rfl⟩;have hd:s.data.toList=v:=by rw[hs]
 have Ae:s.size=v.length:=by rw[NO,hd]
 rw[<-hs];have HD:Hid (s.data.toList=v):=hd;clear hs hd;have Aj:decide ((8:Int)<(s.size:Int))=Kx:=decide_eq_false (by omega);have HS:Hid (s.size=v.length):=Ae;clear Ae;go_enter func222,ntmps222;go_wp2_with (go_at_call 250;refine(strings_shouldUseASCIISet _ _).mono ?_;rintro e w' ⟨rfl,hw⟩;rw[hw,Aj]);go_loopg [9,10] s.size (λg _ _ wx=>∃i:Nat,i+g=s.size/\Hid (wx.heap[w.heap.size]?=IR (.stringIter s i))/\Hid (Below w.heap.size w wx)/\Hid (Fq v i));case atStart=>exact⟨0,by omega,World.iter_heap w s 0,(Below.refl _ _).alloc (K2 _) _,λj b h=>by omega⟩
 case round =>
  obtain⟨i,An,HI,HB,HN⟩:=hrel;cases gk with
  | zero =>(obtain rfl:i=s.size:=by omega);have A0:=λty=>zY (P:=J0) wr w.heap.size s s.size ty HI.out (by omega);go_wp2;go_ret;refine⟨⟨-1,rfl,?_⟩,HB.out⟩;rw[HS.out] at HN;rw[HN.out.end'];rfl
  | succ g =>
    (have hi:i<s.size:=by omega);obtain⟨x,hx⟩:∃x:UInt8,s[i]'hi=x:=⟨_,rfl⟩;(have Hx:Hid (v[i]?=IR x):=by have:=Lib.data_getElem? s i hi;rw[HD.out,hx] at this;exact this);have A8:w.heap.size<wr.heap.size:=(gL HI.out);by_cases Vl:x.toNat<128
    ·have A0:=λty=>xF (P:=J0) wr w.heap.size s i ty HI.out hi;rw[decode_ascii s i hi (by rw[hx];exact Vl),hx] at A0;simp only at A0;have A4:Hid (Below w.heap.size w (fV wr w.heap.size s (i+1))):=l4 HB.out (K2 _);have A2:Hid ((fV wr w.heap.size s (i+1)).heap[w.heap.size]?=IR (.stringIter s (i+1))):=oj _ _ _ _ A8;have A5:=GC x;obtain⟨w2,A7⟩:=IG (fV wr w.heap.size s (i+1));rw[A7] at A0 A4 A2;obtain⟨n,hn⟩:=IG (Mu [13,10] (x.toNat:Int).toNat.toUInt8);rw[hn] at A5;have Ac:Hid (Mu [13,10] (x.toNat:Int).toNat.toUInt8=n):=hn;clear hn A7 hx;cases hc:cU x with
     | true =>rw[hc] at A5;have Ah:(0:Int)<=n:=of_decide_eq_true A5;have HC:Hid (cU x=LI):=hc;clear A5 hc;go_wp2_with (go_at_call 249;refine(strings_IndexRune_ascii ⟨#[13,10]⟩ _ _ (by omega) (by omega)).mono ?_;rintro e w' ⟨rfl,hw⟩;rw[hw,show(ByteArray.mk #[13,10]).data.toList=[13,10] from rfl,Ac.out]);go_ret;refine⟨⟨i,rfl,?_⟩,A4.out⟩;rw[hit Hx.out HC.out];simp
     | false =>
       rw[hc] at A5;have Ah:¬ ((0:Int)<=n):=of_decide_eq_false A5;have HC:Hid (cU x=Kx):=hc;clear A5 hc;go_wp2_with (go_at_call 249;refine(strings_IndexRune_ascii ⟨#[13,10]⟩ _ _ (by omega) (by omega)).mono ?_;rintro e w' ⟨rfl,hw⟩;rw[hw,show(ByteArray.mk #[13,10]).data.toList=[13,10] from rfl,Ac.out]);go_roundg g;(case measure=>omega);case rel =>
        refine⟨i+1,by omega,A2,A4,λj b hj hb=>?_⟩;by_cases hji:j=i
        ·subst hji;rw[Hx.out] at hb;cases hb;exact HC.out
        ·exact HN.out j b (by omega) hb
    ·(have A3:128<=(s[i]'hi).toNat:=by rw[hx];omega);obtain⟨Af,Aa⟩:=decode_high s i hi A3;have Ad:=decode_le s i;obtain⟨Ab,A6⟩:=tE s i hi A3;have A0:=λty=>xF (P:=J0) wr w.heap.size s i ty HI.out hi;obtain⟨⟨r,d⟩,Ag⟩:∃p,Utf8.decode s i=p:=⟨_,rfl⟩;rw[Ag] at Af Aa Ad Ab A6 A0;simp only at Af Aa Ad Ab A6 A0;have A4:Hid (Below w.heap.size w (fV wr w.heap.size s (i+d))):=l4 HB.out (K2 _);have A2:Hid ((fV wr w.heap.size s (i+d)).heap[w.heap.size]?=IR (.stringIter s (i+d))):=oj _ _ _ _ A8;have A1:w.heap.size<(fV wr w.heap.size s (i+d)).heap.size:=(gL A2.out);obtain⟨w2,A7⟩:=IG (fV wr w.heap.size s (i+d));rw[A7] at A0 A4 A2 A1;rw[HD.out] at A6;have HK:Hid (∀j b,i<=j->j<i+d->v[j]?=IR b->128<=b.toNat):=A6;clear A6 A7 hx Ag Vl A3;go_wp2_with fail;refine(nM r _ (by omega) (by omega)).mono ?_;rintro e w3 ⟨rfl,A9⟩;have Ak:Hid (Below w.heap.size w w3):=A4.out.trans (A9.mono (Nat.le_of_lt A1));have Am:Hid (w3.heap[w.heap.size]?=IR (.stringIter s (i+d))):=(A9.block _ A1).trans A2.out;clear A9 A4 A2 A1 A0;go_wp2;go_roundg (s.size-(i+d));(case measure=>omega);case rel =>
      refine⟨i+d,by omega,Am,Ak,λj b hj hb=>?_⟩;by_cases hji:j<i
      ·exact HN.out j b hji hb
      ·have:=HK.out j b (by omega) hj hb;unfold cU;(have Ai:b≠13:=λe=>by rw[e] at this;simp at this);(have Al:b≠10:=λe=>by rw[e] at this;simp at this);simp[Ai,Al]
theorem rE (l:List UInt8):(0:Int)<=Lo l [13,10] ↔ l.any cU=LI:=by
 induction l with
 | nil=>simp[Lo]
 | cons b l ih =>
   (have hc:([13,10]:List UInt8).contains b=cU b:=by unfold cU;simp only[List.contains_cons,List.contains_nil,Bool.or_false]);have A0:=Lib.indexAny_ge [13,10] l;(have e:Lo (b::l) [13,10]=if cU b then 0 else if Lo l [13,10] == -1 then -1 else Lo l [13,10]+1:=by rw[<-hc];rfl);rw[e,List.any_cons];cases cU b with
   | true=>simp
   | false =>
     simp only[MA,if_false,Bool.false_or];rw[<-ih];by_cases h1:Lo l [13,10] = -1
     ·simp[h1]
     ·have:(Lo l [13,10] == -1)=Kx:=beq_eq_false_iff_ne.2 h1;rw[this];simp only[MA,if_false];omega
theorem rP (l:List UInt8):decide ((0:Int)<=Lo l [13,10])=l.any cU:=by
 rw[Bool.eq_iff_iff,decide_eq_true_iff];exact rE l
theorem rb (v:List UInt8)(w:Lq)(hv:v.length<=4000) :
 Mb J0 222 #[ID ⟨v.toArray⟩,ID ⟨#[13,10]⟩] w λe w'=>(∃n:Int,e=K1 (IH I3 n)/\decide (0<=n)=v.any cU)/\Below w.heap.size w w':=by
 by_cases h8:v.length<=8
 ·exact oo v w h8
 ·(have A0:(⟨v.toArray⟩:ByteArray).size=v.length:=by rw[NO]);refine(strings_IndexAny_long (zero_of_info Mq).1 ⟨v.toArray⟩ ⟨#[13,10]⟩ w (by decide) (by omega) (by omega) (by decide) (ascii_of_all (by decide))).mono ?_;rintro e w' ⟨rfl,rfl⟩;exact⟨⟨_,rfl,rP v⟩,((Below.refl _ _).alloc (K2 _) _).alloc (by simp) _⟩
theorem E5:uG:=by
 intro v w hv;go_enter func180,ntmps180;go_wp2_with fail;refine(rb v w hv).mono ?_;rintro e w1 ⟨⟨n,rfl,hn⟩,hb⟩;have HN:Hid (decide (0<=n)=v.any cU):=hn;clear hn;go_wp2;go_ret;refine⟨?_,hb⟩;rw[<-HN.out];rfl
open Go.RowKit Go.Shelf
attribute [local go_sem] Oper.semAt_some
open Go.RowKit Go.MuLone
theorem vM {ops:Array Oper}{S:Lq->Prop}{op:Oper}{a:Act}(hw:Region.wanted op (yielded ops a.tmps)=LI)(ty:N4)(x:Operand)(ho:op.op=.load ty x)
 (g:Nat)(hx:a.eval x=K0 (IR ⟨g,0,J1⟩))(t:N4)(cs:Array Lw)(fr:Nat×Nat)(d:TypeDesc)(hS:∀w:Lq,S w->w.heap[g]?=IR (LO cs t fr))
 (hu:P.underlying ty=IR d)(hd:(match d with|.struct _|.array _ _=>LI|_=>Kx)=LI)(hi:(P.info? ty).map (·.size)=IR cs.size):YieldsIf P ops S op (N0 cs) a :=
 .inl ⟨hw,λw hw'=>by
  unfold execOp
  simp only[ho,hx,Instr.loadAt,Instr.sureAddr,Sem.run_bind,Sem.run_pure,Result.andThen_ok,run_loadVar_row w g t ty cs fr d (hS w hw') hu hd hi]⟩
theorem vp (h:aN w s n rd lk σ M){k:Nat}(hk:M.own s n k){c:Array Lw}:w.heap[k]?≠IR (LO c 75 f):=by
 intro e;rcases hk with rfl|rfl|⟨i,hi,hb⟩|⟨i,hi,hb⟩|⟨i,p,hi,hp,hb⟩|hb
 ·exact aa h.blk e (by decide) rfl
 ·obtain⟨cs,hc,_⟩:=h.row;exact aa hc e (by decide) rfl
 ·exact ai (h.kt i hi).k.row e (by decide) hb
 ·exact aa (h.Jc i hi k hb).blk e (by decide) rfl
 ·exact ai (h.Jc i hi p hp).row e (by decide) hb
 ·exact ai h.Jn e (by decide) hb
def pM (a:L9):Prop:=a.told<100000/\a.IQ.length<1000/\(∀f∈a.IQ,f.name.length<1000/\f.value.length<1000)/\a.body.length<1000000
theorem ak.readers {B:Nat}(h:ak w s n rd lk σ M kc B)(r:Int)(hs:(if r<0 then(1:Int) else 0)=if rd<0 then 1 else 0:=by decide):ak (w.setCell ⟨s,4,J1⟩ (IH M1 r)) s n r lk σ M kc B:=by
 have ho:Off (λk=>k=s) w (w.setCell ⟨s,4,J1⟩ (IH M1 r)):=(Off.refl (λk=>k=s) w).set s 4 _ (Ly rfl);obtain⟨cs,hc,hr⟩:=h.row
 refine⟨h.n1,h.n8,(heap_set h.blk).trans (by simp[storeCells,hs]),⟨cs,(ho.block _ (gL hc) (aa hc h.blk (by decide))).trans hc,hr⟩,
  λj hj=>(h.kt j hj).off ho (λb hb e=>ai (h.kt j hj).k.row h.blk (by decide) (e ▸ hb)) (λq hq e=>by obtain⟨cq,A0⟩:=(h.kt j hj).t q hq;exact aa A0 h.blk (by decide) e),
  λj hj p hp=>(h.Jc j hj p hp).off ho (λe=>aa (h.Jc j hj p hp).blk h.blk (by decide) e) (λb hb e=>ai (h.Jc j hj p hp).row h.blk (by decide) (e ▸ hb)),
  h.JQ,I4.off (base:=0) h.Jn ho (λb hb e=>ai h.Jn h.blk (by decide) (e ▸ hb)),h.Le,h.Ka,h.rise,h.ok,h.many,h.time,h.lastB⟩
theorem mU:wrap32 (0+1)=1:=by simp[wrap32]
theorem jm:wrap32 (1 + -1)=0:=by simp[wrap32]
noncomputable def bF (σ:St)(l:List UInt8):L9×St:=match aZ l with
 | .error n=>(⟨n,[],[]⟩,σ)
 | .ok (m,t,k,body)=>if t.kind=0 then(⟨0,[],[]⟩,σ) else ir σ m t k body
noncomputable def OD (σ:St)(l:List UInt8):List UInt8×St:=(aL (bF σ l).1.told (bF σ l).1.IQ (bF σ l).1.body,(bF σ l).2)
theorem Gt (l:List UInt8)(w:Lq)(h:aN w s n 0 (λ_=>0) σ M)(hM:bu w)(hT:Jm w)(hHi:∀k,M.own s n k->eh k)(JL:σ.log.length<140000000000000)(hok:jX l)(MG:pM (bF σ l).1)(hl:l.length<=9223372036854775807) :
 Mb J0 11 #[K0 (IR ⟨s,0,J1⟩),ID ⟨l.toArray⟩] w λe w'=>e=K1 (ID ⟨(OD σ l).1.toArray⟩)/\∃M',aN w' s n 0 (λ_=>0) (OD σ l).2 M'/\Off (M.own s n) w w'/\∀k,M'.own s n k->M.own s n k\/w.heap.size<=k:=by
 have HH:=IA h;clear h;go_enter_defers func11,ntmps11;go_wp2_with fail;refine(uF E5 l w hM hl hok).mono ?_;rintro e w1 ⟨Au,m,t,k,body,c,g0,Ad,rfl,B9,B6,rq⟩;have At:Hid (t.kind≠0/\t.kind≠3):=by obtain⟨_,_,_,_,h,h0,h3,_⟩:=hok;rw[Ad] at h;cases h;exact⟨h0,h3⟩
 clear hok
 ·obtain⟨a1,m1,p1,e1⟩:=rq.m.list.2.2.2;obtain⟨a2,m2,p2,e2⟩:=rq.n.list.2.2.2;unfold eY;rw[e1,e2];have B3:=IA rq;have Aq:=IA Au;clear rq Au;go_wp2_with (first|(refine wpList_store_row rfl 75 (.tmp 5) (.tmp 10) rfl w1.heap.size #[IH I3 (m:Int),IH I3 (t.kind:Int),ID ⟨t.key.toArray⟩,IH I3 (t.num:Int),IF (Jb m),IF c.hm,IF c.am,Ks a1 m1 p1,IF c.hn,IF c.an,Ks a2 m2 p2,IF c.hs,IH I3 c.si,IF c.hu,IH I3 c.ul,IF Kx,ID ⟨#[]⟩,IH I3 0,ID ⟨body.toArray⟩] rfl rfl 75 #[IH I3 0,IH I3 0,ID ⟨#[]⟩,IH I3 0,IF Kx,IF Kx,IF Kx,Ks J1 0 0,IF Kx,IF Kx,Ks J1 0 0,IF Kx,IH I3 0,IF Kx,IH I3 0,IF Kx,ID ⟨#[]⟩,IH I3 0,ID ⟨#[]⟩] (LN _ _) gj rfl (by simp[Value.oneCell']) ?_;rw[World.setRow_alloc_new]));generalize (N0 #[IH I3 (m:Int),IH I3 (t.kind:Int),ID ⟨t.key.toArray⟩,IH I3 (t.num:Int),IF (Jb m),IF c.hm,IF c.am,Ks a1 m1 p1,IF c.hn,IF c.an,Ks a2 m2 p2,IF c.hs,IH I3 c.si,IF c.hu,IH I3 c.ul,IF Kx,ID ⟨#[]⟩,IH I3 0,ID ⟨body.toArray⟩])=Qv;obtain⟨X,hX⟩:=exj (w1.alloc (LO #[IH I3 (m:Int),IH I3 (t.kind:Int),ID ⟨t.key.toArray⟩,IH I3 (t.num:Int),IF (Jb m),IF c.hm,IF c.am,Ks a1 m1 p1,IF c.hn,IF c.an,Ks a2 m2 p2,IF c.hs,IH I3 c.si,IF c.hu,IH I3 c.ul,IF Kx,ID ⟨#[]⟩,IH I3 0,ID ⟨body.toArray⟩] 75));rw[<-hX];(have Ab:Below w.heap.size w X:=by rw[hX];exact Aq.out.alloc Aq.out.size _);(have Aa:X.heap[w1.heap.size]?=IR (LO #[IH I3 (m:Int),IH I3 (t.kind:Int),ID ⟨t.key.toArray⟩,IH I3 (t.num:Int),IF (Jb m),IF c.hm,IF c.am,Ks a1 m1 p1,IF c.hn,IF c.an,Ks a2 m2 p2,IF c.hs,IH I3 c.si,IF c.hu,IH I3 c.ul,IF Kx,ID ⟨#[]⟩,IH I3 0,ID ⟨body.toArray⟩] 75 (0,0)):=by rw[hX];exact Mn _ _);(have As:Rq X g0 c k:=by rw[hX];exact B3.out.below B6 ((Below.refl _ _).alloc (K2 _) _));(have Bb:w1.heap.size<X.heap.size:=by rw[hX];simp);clear hX;have A2:=HH.out.below Ab;(have x0:X.cell? ⟨s,0,J1⟩=IR (IH M1 0):=by simp[Jx,A2.blk,storeCells]);(have x3:X.cell? ⟨s,3,J1⟩=IR (IH N5 0):=by simp[Jx,A2.blk,storeCells]);(have x4:X.cell? ⟨s,4,J1⟩=IR (IH M1 0):=by simp[Jx,A2.blk,storeCells]);have xf:=Je A2.blk 4;have Ay:s≠w1.heap.size:=aa A2.blk Aa (by decide);have Aj:=IA A2;have Al:=IA Aa;have Ar:=IA Ab;have Ah:=IA As;clear A2 Aa Ab As;refine(Go.RwLone.rlock_open KG s 0 0 _ _ X x0 x3 x4 xf (by rw[mU];decide)).mono ?_;rintro e w2 ⟨rfl,A1⟩;rw[mU,L4] at A1;(have A6:w2.heap[w1.heap.size]?=IR (LO #[IH I3 (m:Int),IH I3 (t.kind:Int),ID ⟨t.key.toArray⟩,IH I3 (t.num:Int),IF (Jb m),IF c.hm,IF c.am,Ks a1 m1 p1,IF c.hn,IF c.an,Ks a2 m2 p2,IF c.hs,IH I3 c.si,IF c.hu,IH I3 c.ul,IF Kx,ID ⟨#[]⟩,IH I3 0,ID ⟨body.toArray⟩] 75 (0,0)):=by rw[A1,av Ay.symm];exact Al.out);(have q1:w2.cell? ⟨w1.heap.size,1,J1⟩=IR (IH I3 (t.kind:Int)):=by simp[Jx,A6]);(have q2:w2.cell? ⟨w1.heap.size,2,J1⟩=IR (ID ⟨t.key.toArray⟩):=by simp[Jx,A6]);(have Ap:aN w2 s n 1 (λ_=>0) σ M:=by rw[A1];exact Aj.out.readers 1);(have Ai:Jm w2:=by rw[A1];exact(hT.below Ar.out).off ((Off.refl (λk=>k=s) _).set s 4 _ (Ly rfl)) (λk e=>e ▸ hHi s (Ly rfl)));(have Ao:Rq w2 g0 c k:=by rw[A1];exact Ah.out.set (by have:=JB HH.out (Ly rfl:M.own s n s);omega));(have Ak:Off (M.own s n) w w2:=by rw[A1];exact(Off.of_below Ar.out).set s 4 _ (Ly (Ly rfl)));(have B1:X.heap.size=w2.heap.size:=by rw[A1];simp);have Af:=IA A6;have Am:=IA Ap;have Az:=IA Ao;have An:=IA Ak;clear A1 A6 x0 x3 x4 xf Ap Ao Ak Aj Al Ah;by_cases hkd:t.kind=0
  ·exact absurd hkd At.out.1
  ·have B4:((t.kind:Int)==0)=Kx:=beq_eq_false_iff_ne.2 (by omega);go_wp2_with fail;(have A7:bF σ l=ir σ m t k body:=by unfold bF;rw[Ad];simp only;rw[if_neg hkd]);obtain⟨rr,Ae⟩:=IG (ir σ m t k body);rw[Ae] at A7;(have HD:Hid (OD σ l=(aL rr.1.told rr.1.IQ rr.1.body,rr.2)):=by show _=_;unfold OD;rw[A7]);rw[A7] at MG;have hok:=xX Ad;have Ag:Below w2.heap.size w2 w2.drew:=(Below.refl _ _).drew;have Av:M.g<w.heap.size:=JB HH.out (Or.inr (Ly rfl));have A9:=vR m t c body w2.drew (Am.out.below Ag) rfl k g0 (Az.out.below (by omega) Ag) (by show g0<=w2.heap.size;omega) (by omega) (Ai.below Ag) hHi (hok.1 hkd) hok.2.2.2 (by have:=hok.2.2.1;omega) JL At.out.2;unfold eY at A9;rw[e1,e2,Ae] at A9;have B0:=IA A9;clear A9 Ae A7 hok;refine wp_region_noPanic ?_;refine wp_region_held_drew (S:=(λy=>y.heap[w1.heap.size]?=IR (LO #[IH I3 (m:Int),IH I3 (t.kind:Int),ID ⟨t.key.toArray⟩,IH I3 (t.num:Int),IF (Jb m),IF c.hm,IF c.am,Ks a1 m1 p1,IF c.hn,IF c.an,Ks a2 m2 p2,IF c.hs,IH I3 c.si,IF c.hu,IH I3 c.ul,IF Kx,ID ⟨#[]⟩,IH I3 0,ID ⟨body.toArray⟩] 75 (0,0)))) (by kernel_rfl) Af.out (λhHeld=>?_);refine IJ 0 hHeld ?_;(try simp only[L1]);refine Ky 1 rfl (by kernel_rfl) (λ_ _ _ h=>h) (vM (by rfl) 75 (.tmp 5) rfl w1.heap.size rfl 75 #[IH I3 (m:Int),IH I3 (t.kind:Int),ID ⟨t.key.toArray⟩,IH I3 (t.num:Int),IF (Jb m),IF c.hm,IF c.am,Ks a1 m1 p1,IF c.hn,IF c.an,Ks a2 m2 p2,IF c.hs,IH I3 c.si,IF c.hu,IH I3 c.ul,IF Kx,ID ⟨#[]⟩,IH I3 0,ID ⟨body.toArray⟩] (0,0) _ (λy hy=>hy) underlying75 rfl gj) hHeld ?_;(try simp only[L1]);refine IJ 2 hHeld ?_;(try simp only[L1]);refine IJ 3 hHeld ?_;(try simp only[L1]);refine IJ 4 hHeld ?_;(try simp only[L1]);refine IJ 5 hHeld ?_;(try simp only[L1]);refine I6 6 (λK hK=>?_);go_simp;refine Calls.mono B0.out ?_;rintro e w3 ⟨fs,M',rfl,Ac,B8,A0,Aw⟩;have A0:Off (M.own s n) w2 w3:=⟨A0.os,A0.tape,A0.output,A0.size,A0.block⟩;have A5:w3.heap[w1.heap.size]?=IR (LO #[IH I3 (m:Int),IH I3 (t.kind:Int),ID ⟨t.key.toArray⟩,IH I3 (t.num:Int),IF (Jb m),IF c.hm,IF c.am,Ks a1 m1 p1,IF c.hn,IF c.an,Ks a2 m2 p2,IF c.hs,IH I3 c.si,IF c.hu,IH I3 c.ul,IF Kx,ID ⟨#[]⟩,IH I3 0,ID ⟨body.toArray⟩] 75 (0,0)):=(A0.block _ (by omega) (λho=>vp Am.out ho Af.out)).trans Af.out;have Ax:Jm w3:=Ai.off A0 hHi;(try go_wp2_with fail);refine hK.out _ _ A5 (λhHeld=>?_);clear hK K;(try simp only[L1]);refine I6 7 (λK hK=>?_);go_simp;refine(sM rr.1.told fs rr.1.IQ rr.1.body w3 Ax.b MG.1 Ac MG.2.1 MG.2.2.1 MG.2.2.2).mono ?_;rintro e y ⟨rfl,A8⟩;have A3:aN y s n 1 (λ_=>0) rr.2 M':=B8.below A8;(have u0:y.cell? ⟨s,0,J1⟩=IR (IH M1 0):=by simp[Jx,A3.blk,storeCells]);(have u2:y.cell? ⟨s,2,J1⟩=IR (IH N5 0):=by simp[Jx,A3.blk,storeCells]);(have u4:y.cell? ⟨s,4,J1⟩=IR (IH M1 1):=by simp[Jx,A3.blk,storeCells]);have uf:=Je A3.blk 4;have B2:=IA A3;have B5:Hid (Off (M.own s n) w y):=(An.out.trans A0).trans (Off.of_below A8);have B7:=IA Aw;clear A3;(try go_wp2_with fail);refine hK.out _ _ ((A8.block _ (gL A5)).trans A5) (λhHeld=>?_);clear hK K;(try simp only[L1]);refine I6 8 (λK hK=>?_);go_simp;refine hK.out _ _ ((A8.block _ (gL A5)).trans A5) (λhHeld=>?_);clear hK K;(try simp only[L1]);refine wpAnyH_done (by kernel_rfl) ?_ _;refine NoPanic.normal ?_;go_wp2;refine leaves_cons (f:=33) (args:=#[K0 (IR ⟨s,0,J1⟩)]) (by simp) (by simp[go_sem]) ?_;refine(Go.RwLone.runlock_deferred KG s 0 1 _ _ .returning _ u0 u2 u4 uf (by rw[jm];decide)).mono ?_;rintro e u' Ba ⟨rfl,rfl,A4⟩;rw[jm,L4] at A4;subst A4;refine⟨_,results_tmp rfl _ _ _,by rw[HD.out];rfl,M',?_,B5.out.set s 4 _ (Ly (Ly rfl)),λk hk=>(B7.out k hk).imp_right (λh=>Lz An.out.size h)⟩;have:=B2.out.readers 0;rw[HD.out];exact this
theorem EL:(prog.info? 137).map (λi=>(i.zero,i.size,i.bytes))=IR (IR (N0 #[IH M1 0,IH N5 0,Ks J1 0 0]),3,32):=by kernel_rfl
def st0:St:=⟨0,[],[]⟩
theorem GH (a b c:Lw)(n i:Nat)(h:i<n):(Mp #[a,b,c] (n*3))[i*3]?=IR a/\(Mp #[a,b,c] (n*3))[i*3+2]?=IR c:=by
 have r1:(Array.range (n*3))[i*3]?=IR (i*3):=by rw[Array.getElem?_range];simp;omega
 have r2:(Array.range (n*3))[i*3+2]?=IR (i*3+2):=by rw[Array.getElem?_range,if_pos (by omega)]
 have h1:i*3%3=0:=by omega
 have h2:(i*3+2)%3=2:=by omega
 constructor
 ·unfold Mp;rw[Array.getElem?_map,r1,NX];show IR (#[a,b,c][i*3%3]!)=_;rw[h1];rfl
 ·unfold Mp;rw[Array.getElem?_map,r2,NX];show IR (#[a,b,c][(i*3+2)%3]!)=_;rw[h2];rfl
theorem xU (n:Nat)(w:Lq)(h1:1<=n)(h8:n<=8):Mb J0 27 #[IH I3 n] w λe w'=>∃s M,e=K1 (L3 #[K0 (IR ⟨s,0,J1⟩),IH I3 0])/\aN w' s n 0 (λ_=>0) st0 M/\Below w.heap.size w w'/\∀k,M.own s n k->w.heap.size<=k:=by
 have i1:¬ (n:Int)<1:=by omega
 have i8:¬ (8:Int)<(n:Int):=by omega
 obtain⟨i0,A6,A5,A2,A3⟩:=info_parts EL;have A0:=run_makeSlice (P:=J0) w 94 137 i0 _ underlying94 A6 A5 I3 I3 n n (by omega) (by omega) (by rw[A2];omega) (by rw[A3];omega) (by omega);rw[A2] at A0;simp only[Int.toNat_natCast] at A0;obtain⟨cs,A1⟩:=IG (Mp (N0 #[IH M1 0,IH N5 0,Ks J1 0 0]).cells (n*3));rw[A1] at A0;have A4:=IA A1;clear A1;go_enter func27,ntmps27;go_wp2;refine L5 (results_tmp2 rfl _ _ _) rfl ?_;refine⟨w.heap.size+1,rfl,⟨w.heap.size,n,λ_=>Ks J1 0 0,λ_=>[],λ_=>⟨[],0,[]⟩,λ_=>Ks J1 0 0,Ks J1 0 0⟩,⟨h1,h8,?_,⟨cs,(heap_alloc_old _ _ (by simp)).trans (Mn _ _),λi hi=>?_⟩,λi _=>⟨⟨⟨rfl,Ly ⟨rfl,rfl⟩⟩,rfl,λa p k hp=>by simp at hp,λp hp=>by simp at hp⟩,λq hq=>by simp at hq⟩,λi _ p hp=>by simp at hp,λi _=>rfl,⟨rfl,Ly ⟨rfl,rfl⟩⟩,λi j _ _ _ b hb=>by simp[Value.ownBlock] at hb,λi j p q _ _ hp=>by simp at hp,List.Pairwise.nil,λE hE=>by simp[st0] at hE,by simp[st0],by simp[st0],λE hE=>by simp[st0] at hE⟩,?_,?_⟩
 ·have:=Mn (w.alloc (LO cs 137)) (LO (storeCells 0 w.heap.size n n 0 0 (Ks J1 0 0)) 99);rw[World.size_alloc] at this;exact this
 ·have:=GH (IH M1 0) (IH N5 0) (Ks J1 0 0) n i hi;rw[<-A4.out];exact this
 ·exact((Below.refl _ _).alloc (K2 _) _).alloc (by simp) _
 ·intro k;rintro(e|e|⟨i,_,hb⟩|⟨i,_,hb⟩|⟨i,p,_,hp,_⟩|hb)
  ·omega
  ·change k=w.heap.size at e;omega
  ·simp[Value.ownBlock] at hb
  ·simp at hb
  ·simp at hp
  ·simp[Value.ownBlock] at hb
theorem ak.VD {B:Nat}(h:ak w s n rd lk σ M kc B):MO w s 7 σ.time kc:=nO h.blk rfl rfl rfl
theorem ak.tick {B:Nat}(h:ak w s n rd lk σ M kc B)(t:Nat)(ht:t<=253402300799):ak (w.setCell ⟨s,9,J1⟩ (IH I3 (t:Int))) s n rd lk ⟨t,σ.Iz,σ.log⟩ M kc B:=by
 have ho:Off (λk=>k=s) w (w.setCell ⟨s,9,J1⟩ (IH I3 (t:Int))):=(Off.refl (λk=>k=s) w).set s 9 _ (Ly rfl);obtain⟨cs,hc,hr⟩:=h.row
 exact⟨h.n1,h.n8,heap_set h.blk,⟨cs,(ho.block _ (gL hc) (aa hc h.blk (by decide))).trans hc,hr⟩,
  λj hj=>(h.kt j hj).off ho (λb hb e=>ai (h.kt j hj).k.row h.blk (by decide) (e ▸ hb)) (λq hq e=>by obtain⟨cq,A0⟩:=(h.kt j hj).t q hq;exact aa A0 h.blk (by decide) e),
  λj hj p hp=>(h.Jc j hj p hp).off ho (λe=>aa (h.Jc j hj p hp).blk h.blk (by decide) e) (λb hb e=>ai (h.Jc j hj p hp).row h.blk (by decide) (e ▸ hb)),
  h.JQ,I4.off (base:=0) h.Jn ho (λb hb e=>ai h.Jn h.blk (by decide) (e ▸ hb)),h.Le,h.Ka,h.rise,h.ok,h.many,ht,h.lastB⟩
theorem Ct (d:Nat)(w:Lq)(h:aN w s n 0 lk σ M)(hd:σ.time+d<=253402300799) :
 Mb J0 26 #[K0 (IR ⟨s,0,J1⟩),IH I3 d] w λe w'=>e=K1 (IH I3 0)/\aN w' s n 0 lk ⟨σ.time+d,σ.Iz,σ.log⟩ M/\Off (λk=>k=s) w w':=by
 have x0:w.cell? ⟨s,0,J1⟩=IR (IH M1 0):=by simp[Jx,h.blk,storeCells]
 have x3:w.cell? ⟨s,3,J1⟩=IR (IH N5 0):=by simp[Jx,h.blk,storeCells]
 have x4:w.cell? ⟨s,4,J1⟩=IR (IH M1 0):=by simp[Jx,h.blk,storeCells]
 have xf:=Je h.blk 4;have HH:=IA h;clear h;go_enter_defers func26,ntmps26;go_wp2_with fail;refine(Go.RwLone.rlock_open KG s 0 0 _ _ w x0 x3 x4 xf (by rw[mU];decide)).mono ?_;rintro e w2 ⟨rfl,A2⟩;rw[mU,L4] at A2;have A4:aN w2 s n 1 lk σ M:=by rw[A2];exact HH.out.readers 1
 have A5:Off (λk=>k=s) w w2:=by rw[A2];exact(Off.refl (λk=>k=s) _).set s 4 _ (Ly rfl)
 have A3:=IA A4;have A8:=IA A5;clear A2 A4 A5 x0 x3 x4 xf;go_wp2_with fail;refine(Bz s 7 σ.time σ.Iz.length d _ A3.out.VD (by omega) (by omega) (by omega) (by omega)).mono ?_;rintro e y ⟨rfl,A6⟩;have hy:y=w2.setCell ⟨s,9,J1⟩ (IH I3 ((σ.time+d:Nat):Int)):=A6;clear A6;have A0:aN y s n 1 lk ⟨σ.time+d,σ.Iz,σ.log⟩ M:=by rw[hy];exact A3.out.tick (σ.time+d) hd
 have u0:y.cell? ⟨s,0,J1⟩=IR (IH M1 0):=by simp[Jx,A0.blk,storeCells]
 have u2:y.cell? ⟨s,2,J1⟩=IR (IH N5 0):=by simp[Jx,A0.blk,storeCells]
 have u4:y.cell? ⟨s,4,J1⟩=IR (IH M1 1):=by simp[Jx,A0.blk,storeCells]
 have uf:=Je A0.blk 4;have A9:=IA A0;have A7:Hid (Off (λk=>k=s) w y):=by rw[hy];exact A8.out.set s 9 _ (Ly rfl)
 clear A0 hy;go_wp2;refine leaves_cons (f:=33) (args:=#[K0 (IR ⟨s,0,J1⟩)]) (by simp) (by simp[go_sem]) ?_;refine(Go.RwLone.runlock_deferred KG s 0 1 _ _ .returning _ u0 u2 u4 uf (by rw[jm];decide)).mono ?_;rintro e u' Aa ⟨rfl,rfl,A1⟩;rw[jm,L4] at A1;subst A1;exact⟨_,results_tmp rfl _ _ _,rfl,A9.out.readers 0,A7.out.set s 4 _ (Ly rfl)⟩
open Go.RowKit
theorem tu (wt:Bool)(k:I9)(v:Option IZ):aJ wt k v<1000:=by
 unfold aJ Jd.jd;repeat' split
 all_goals decide
theorem CN (E:IP)(k n:Nat):aX E k n<1000:=by
 unfold aX;repeat' split
 all_goals decide
theorem tJ (E:IP)(k:Nat):bN E k<1000:=by
 unfold bN;repeat' split
 all_goals decide
theorem Ej (σ:St)(key:List UInt8)(k n:Nat)(body:List UInt8):(dS σ key k n body).1<1000:=by
 unfold dS;split
 ·exact CN _ _ _
 ·split
  ·decide
  ·exact tJ _ _
theorem BR (h:n<1000000000000000):(Kf n).length<=15:=mD 14 n h
theorem zR {α:Type}(l:List α)(f:α->List UInt8)(b:Nat)(h:∀x∈l,(f x).length<=b):(l.flatMap f).length<=l.length*b:=by
 induction l with
 | nil=>simp
 | cons a l ih =>rw[MT,MD,Nd];have h1:=h a List.mem_cons_self;have h2:=ih λx hx=>h x (List.mem_cons_of_mem _ hx);rw[Nat.add_mul];omega
theorem sr (h:aN w s n rd lk σ M)(key:List UInt8) :
 (∀v∈(ae σ.Iz key).IB,v.num<=σ.log.length/\v.time<=253402300799/\v.body.length<=400)/\(ae σ.Iz key).IB.length<=20/\(ae σ.Iz key).last<=σ.log.length:=by
 by_cases hl:(ae σ.Iz key).last=0
 ·rw[(bV (λE hE=>(h.ok E hE).last) hl).2];simp
 ·have hm:=ee hl;have ho:=h.ok _ hm;have hb:=h.lastB _ hm;exact⟨λv hv=>⟨Lz (ho.num v hv) hb,ho.time v hv,ho.body v hv⟩,ho.len,hb⟩
theorem uW (h:aN w s n rd lk σ M)(JL:σ.log.length<140000000000000)(l:List UInt8):pM (bF σ l).1:=by
 unfold bF;split
 ·rename_i nn hr;have:=C8 hr;exact⟨by show nn<_;omega,by simp,λf hf=>by simp at hf,by simp⟩
 ·rename_i m t k body hr;obtain⟨r1,r2,r3,r4⟩:=xX hr;split
  ·exact⟨by show 0<_;omega,by simp,λf hf=>by simp at hf,by simp⟩
  ·obtain⟨f1,f2,f3⟩:=sr h t.key;have fv:∀f:J9,f=⟨[86,101,114,115,105,111,110],Kf (bJ (ae σ.Iz t.key) m t body).2.1⟩->f.name.length<1000/\f.value.length<1000:=by
    rintro f rfl;have:(bJ (ae σ.Iz t.key) m t body).2.1<1000000000000000:=by
     unfold bJ;split
     ·show(ae σ.Iz t.key).last+1<_;omega
     ·split
      ·show t.num<_;omega
      ·show(ae σ.Iz t.key).last+1<_;omega
    have:=BR this;exact⟨by simp,by show(Kf _).length<_;omega⟩
   unfold ir;split
   ·exact⟨by show 0<_;omega,by simp,λf hf=>by simp at hf,by simp⟩
   ·split
    ·have:=tu (Jb m) k (dA (ae σ.Iz t.key) t);exact⟨by show aJ _ _ _<_;omega,by simp,λf hf=>by simp at hf,by simp⟩
    ·split
     ·have A0:=Ej σ t.key (bJ (ae σ.Iz t.key) m t body).1 (bJ (ae σ.Iz t.key) m t body).2.1 (bJ (ae σ.Iz t.key) m t body).2.2;split
      ·rename_i told hc;rw[hc] at A0;exact⟨by show told<_;simp only at A0;omega,by simp,λf hf=>by simp at hf,by simp⟩
      ·rename_i told σ' hc;rw[hc] at A0;refine⟨by show told<_;simp only at A0;omega,?_,?_,by simp⟩
       ·show(if _ then _ else _:List J9).length<1000;split<;>simp
       ·intro f hf;change f∈(if _ then _ else _:List J9) at hf;split at hf
        ·simp only[Mz,L2,or_false] at hf;rcases hf with e|e
         ·rw[e];have:=gx body;exact⟨by simp,by show(bX body).length<_;omega⟩
         ·exact fv f e
        ·simp only[Mz,L2,or_false] at hf;exact fv f hf
     ·split
      ·exact⟨by show 404<_;omega,by simp,λf hf=>by simp at hf,by simp⟩
      ·rename_i v hv;have A1:=f1 v (qH hv);refine⟨by show 200<_;omega,by simp[cj],?_,?_⟩
       ·intro f hf;simp only[cj,Mz,L2,or_false] at hf;rcases hf with e|e|e
        ·rw[e];have:=gx v.body;exact⟨by simp,by show(bX v.body).length<_;omega⟩
        ·rw[e];refine⟨by simp,?_⟩;show(cw v.time).length<1000;unfold cw;rw[List.length_take];omega
        ·rw[e];have:=BR (n:=v.num) (by omega);exact⟨by simp,by show(Kf _).length<_;omega⟩
       ·show(if _ then _ else _:List UInt8).length<_;split
        ·omega
        ·simp
open Go.RowKit Go.MuLone
def JE (g:Nat):Nat->List Deferred
 | 0=>[]
 | j+1=>{ target:=.fn (.func 61) #[],args:=#[K0 (IR ⟨g,j*3,J1⟩)] }::JE g j
structure Lk (w x:Lq)(s n:Nat)(rd:Int)(σ:St)(M:Mem)(after:List UInt8)(i:Nat)(lv:Lw)(rows:List Lw)(Qs:List (List Nat)):Prop where
 st:aN x s n rd (λj=>if j<i then 1 else 0) σ M
 off:Off (M.own s n) w x
 ans:x.heap[w.heap.size]?=IR (LO #[IH I3 0,Ks J1 0 0,ID ⟨#[]⟩] 80 (0,0))
 row:x.ownsRow (w.heap.size+1) 135 1 lv i rows
 len:Qs.length=i
 JQ:∀(j:Nat) (v:Lw) (qs:List Nat),rows[j]?=IR v->Qs[j]?=IR qs->Lst x v qs
 LQ:∀(j:Nat) (qs:List Nat),Qs[j]?=IR qs->∃d,qs=(M.ps j).drop d/\Cl (M.keys j) after d
theorem Bb (l:List UInt8)(w:Lq)(h:aN w s n 0 (λ_=>0) σ M)(hM:bu w)(hT:Jm w)(hHi:∀k,M.own s n k->eh k)(JL:σ.log.length<140000000000000)(hl:l.length<=9223372036854775807)(hok:jX l) :
 Mb J0 11 #[K0 (IR ⟨s,0,J1⟩),ID ⟨l.toArray⟩] w λe w'=>e=K1 (ID ⟨(OD σ l).1.toArray⟩)/\∃M',aN w' s n 0 (λ_=>0) (OD σ l).2 M'/\Off (M.own s n) w w'/\∀k,M'.own s n k->M.own s n k\/w.heap.size<=k :=
 Gt l w h hM hT hHi JL hok (uW h JL l) hl
open Go.RowKit
def nZ (v:IZ):List UInt8:=if v.mark then[] else bX v.body
def eN (v:IZ):List Lw:=[IH I3 v.num,IH I3 v.time,IF v.mark,ID ⟨v.body.toArray⟩,ID ⟨(nZ v).toArray⟩]
def nV (v:IZ):Lw:=N0 #[IH I3 v.num,IH I3 v.time,IF v.mark,ID ⟨v.body.toArray⟩,ID ⟨(nZ v).toArray⟩]
def oE:Lw:=N0 #[IH I3 0,IH I3 0,IF Kx,ID ⟨#[]⟩,ID ⟨#[]⟩]
def jV (l:List IZ):List Lw:=l.flatMap eN
theorem A0 (l:List IZ)(i:Nat)(v:IZ)(h:l[i]?=IR v)(j:Nat)(hj:j<5):(jV l)[i*5+j]?=(eN v)[j]?:=by
 induction l generalizing i with
 | nil=>simp at h
 | cons a l ih =>
   simp only[jV,MT];cases i with
   | zero =>simp at h;subst h;rw[List.getElem?_append_left (by simp[eN];omega)];simp
   | succ i =>rw[List.getElem?_append_right (by simp[eN];omega)];(have e:(i+1)*5+j-(eN a).length=i*5+j:=by simp[eN];omega);rw[e];exact ih i (by simpa using h)
def aC (s:Nat)(en:Nat->IP)(vs:Nat->Lw)(t d:Nat):Array Lw :=
 #[K0 (IR ⟨s,0,J1⟩),ID ⟨(en 0).key.toArray⟩,vs 0,IH I3 (en 0).last,ID ⟨(en 1).key.toArray⟩,vs 1,IH I3 (en 1).last,ID ⟨(en 2).key.toArray⟩,vs 2,IH I3 (en 2).last,
   ID ⟨(en 3).key.toArray⟩,vs 3,IH I3 (en 3).last,ID ⟨(en 4).key.toArray⟩,vs 4,IH I3 (en 4).last,IH I3 t,IH I3 d]
structure aY (w:Lq)(b s:Nat)(en:Nat->IP)(vs:Nat->Lw)(t d:Nat):Prop where
 blk:w.heap[b]?=IR (LO (aC s en vs t d) 31 (0,0))
 row:∀i,i<5->w.ownsRow 0 42 5 (vs i) (en i).IB.length (jV (en i).IB)
 Ka:∀i j,i<5->j<5->i≠j->∀g,(vs i).ownBlock=IR g->(vs j).ownBlock≠IR g
theorem tY {P:Nat->Prop}(h0:P 0)(h1:P 1)(h2:P 2)(h3:P 3)(h4:P 4):∀i,i<5->P i:=by
 intro i hi;have:i=0\/i=1\/i=2\/i=3\/i=4:=by omega
 rcases this with rfl|rfl|rfl|rfl|rfl<;>assumption
theorem jG (s:Nat)(en:Nat->IP)(vs:Nat->Lw)(t d:Nat):∀i,i<5->(aC s en vs t d)[1+i*3]?=IR (ID ⟨(en i).key.toArray⟩)/\(aC s en vs t d)[1+i*3+1]?=IR (vs i)/\(aC s en vs t d)[1+i*3+2]?=IR (IH I3 (en i).last) :=
 tY ⟨rfl,rfl,rfl⟩ ⟨rfl,rfl,rfl⟩ ⟨rfl,rfl,rfl⟩ ⟨rfl,rfl,rfl⟩ ⟨rfl,rfl,rfl⟩
theorem aY.lt (h:aY w b s en vs t d):b<w.heap.size:=(gL h.blk)
theorem aY.ck (h:aY w b s en vs t d)(i:Nat)(hi:i<5):w.cell? ⟨b,1+i*3,J1⟩=IR (ID ⟨(en i).key.toArray⟩)/\w.cell? ⟨b,1+i*3+1,J1⟩=IR (vs i)/\w.cell? ⟨b,1+i*3+2,J1⟩=IR (IH I3 (en i).last):=by
 have:=jG s en vs t d i hi;simp only[Jx,h.blk];exact this
theorem aY.c0 (h:aY w b s en vs t d):w.cell? ⟨b,0,J1⟩=IR (K0 (IR ⟨s,0,J1⟩))/\w.cell? ⟨b,16,J1⟩=IR (IH I3 t)/\w.cell? ⟨b,17,J1⟩=IR (IH I3 d):=by
 simp only[Jx,h.blk];exact⟨rfl,rfl,rfl⟩
theorem aY.fz (h:aY w b s en vs t d)(j:Nat):w.frozen? ⟨b,j,J1⟩=Kx:=by simp[N1,h.blk]
theorem aY.off {S:Nat->Prop}(h:aY w b s en vs t d)(ho:Off S w x)(hb:¬ S b)(hv:∀i,i<5->∀g,(vs i).ownBlock=IR g->¬ S g):aY x b s en vs t d:=by
 refine⟨(ho.block b h.lt hb).trans h.blk,λi hi=>?_,h.Ka⟩;have hr:=h.row i hi;refine⟨hr.1,?_⟩;rcases hr.2 with h0|⟨g,A2,A1,A0,h1,hg,h2⟩
 ·exact Ly h0
 ·exact Or.inr ⟨g,A2,A1,A0,h1,(ho.block g (gL hg) (hv i hi g (by rw[A0];rfl))).trans hg,h2⟩
theorem aY.below (h:aY w b s en vs t d)(hb:Below w.heap.size w x):aY x b s en vs t d :=
 h.off (Off.of_below (S:=λ_=>False) hb) (λh=>h) (λ_ _ _ _ h=>h)
theorem iA {vs:Lw}{l:List IZ}(h:w.ownsRow 0 42 5 vs l.length (jV l))(i:Nat)(v:IZ)(hi:l[i]?=IR v) :
 ∃g cap,vs=Ks (IR ⟨g,0,J1⟩) l.length cap/\l.length<=cap/\cap<=maxLen/\g<w.heap.size/\(∀j,w.frozen? ⟨g,j,J1⟩=Kx) /\
  w.cell? ⟨g,i*5,J1⟩=IR (IH I3 v.num)/\w.cell? ⟨g,i*5+1,J1⟩=IR (IH I3 v.time)/\w.cell? ⟨g,i*5+2,J1⟩=IR (IF v.mark)/\w.cell? ⟨g,i*5+3,J1⟩=IR (ID ⟨v.body.toArray⟩)/\w.cell? ⟨g,i*5+4,J1⟩=IR (ID ⟨(nZ v).toArray⟩):=by
 have A4:i<l.length:=(List.getElem?_eq_some_iff.1 hi).1;rcases h.2 with⟨_,h0⟩|⟨g,cap,A3,hv,_,hg,hn,hm,hs,A2⟩
 ·omega
 ·refine⟨g,cap,hv,hn,hm,(gL hg),λj=>by simp[N1,hg],?_⟩;(have A1:∀j,j<5->w.cell? ⟨g,i*5+j,J1⟩=(eN v)[j]?:=by intro j hj;rw[<-A0 l i v hi j hj,<-A2,List.getElem?_take_of_lt (by omega)];simp[Jx,hg]);exact⟨A1 0 (by omega),A1 1 (by omega),A1 2 (by omega),A1 3 (by omega),A1 4 (by omega)⟩
theorem F5:(prog.info? 42).map (·.size)=IR 5:=by kernel_rfl
theorem Cs (b o:Nat)(vs:Lw)(w:Lq)(h2:w.cell? ⟨b,o+1,J1⟩=IR vs)(hr:w.ownsRow 0 42 5 vs 0 []) :
 Mb J0 18 #[K0 (IR ⟨b,o,J1⟩)] w λe w'=>e=K1 (L3 #[oE,IF Kx])/\Below w.heap.size w w':=by
 have A2:b<w.heap.size:=bj h2;have A0:∃a c,vs=Ks a 0 c:=by
  rcases hr.2 with⟨rfl,_⟩|⟨g,A3,A1,rfl,_⟩
  ·exact⟨_,_,rfl⟩
  ·exact⟨_,_,rfl⟩
 obtain⟨a,c,rfl⟩:=A0;clear hr;go_enter func18,ntmps18;go_wp2;exact L5 (v:=L3 #[oE,IF Kx]) (bm results18 _ _ w.heap.size _ _ _ _ rfl (LN _ _) underlying42 rfl F5) rfl ⟨rfl,(Below.refl _ _).alloc (K2 _) _⟩
theorem yM (b o:Nat)(vs:Lw)(l:List IZ)(w:Lq)(h2:w.cell? ⟨b,o+1,J1⟩=IR vs)(hr:w.ownsRow 0 42 5 vs l.length (jV l))(i:Nat)(v:IZ)(hi:l.length=i+1)(hv:l[i]?=IR v)(hb:i<1000)(hm:v.mark=LI) :
 Mb J0 18 #[K0 (IR ⟨b,o,J1⟩)] w λe w'=>e=K1 (L3 #[oE,IF Kx])/\Below w.heap.size w w':=by
 have A1:b<w.heap.size:=bj h2;obtain⟨g,A2,rfl,hn,A3,hg,hf,c0,c1,c2,c3,c4⟩:=iA hr i v hv;rw[hi] at h2 hn;rw[hm] at c2;have A0:((i+1:Nat):Int)-1=(i:Int):=by omega
 clear hr hv;go_enter func18,ntmps18;go_wp2;exact L5 (v:=L3 #[oE,IF Kx]) (bm results18 _ _ w.heap.size _ _ _ _ rfl (LN _ _) underlying42 rfl F5) rfl ⟨rfl,(Below.refl _ _).alloc (K2 _) _⟩
theorem zl (b o:Nat)(vs:Lw)(l:List IZ)(w:Lq)(h2:w.cell? ⟨b,o+1,J1⟩=IR vs)(hr:w.ownsRow 0 42 5 vs l.length (jV l))(i:Nat)(v:IZ)(hi:l.length=i+1)(hv:l[i]?=IR v)(hb:i<1000)(hm:v.mark=Kx) :
 Mb J0 18 #[K0 (IR ⟨b,o,J1⟩)] w λe w'=>e=K1 (L3 #[nV v,IF LI])/\Below w.heap.size w w':=by
 have A1:b<w.heap.size:=bj h2;obtain⟨g,A2,rfl,hn,A3,hg,hf,c0,c1,c2,c3,c4⟩:=iA hr i v hv;rw[hi] at h2 hn;rw[hm] at c2;have A0:((i+1:Nat):Int)-1=(i:Int):=by omega
 have HV:Hid (v.mark=Kx):=hm;clear hr hv hm;go_enter func18,ntmps18;go_wp2;exact L5 (v:=L3 #[nV v,IF LI]) (bm results18 _ _ w.heap.size _ #[IH I3 v.num,IH I3 v.time,IF v.mark,ID ⟨v.body.toArray⟩,ID ⟨(nZ v).toArray⟩] _ _ rfl (by rw[HV.out];exact LN _ _) underlying42 rfl F5) rfl ⟨rfl,(Below.refl _ _).alloc (K2 _) _⟩
def sG:Option IZ->Lw
 | none=>oE
 | some v=>nV v
theorem du (b o:Nat)(vs:Lw)(E:IP)(w:Lq)(h2:w.cell? ⟨b,o+1,J1⟩=IR vs)(hr:w.ownsRow 0 42 5 vs E.IB.length (jV E.IB))(hl:E.IB.length<1000) :
 Mb J0 18 #[K0 (IR ⟨b,o,J1⟩)] w λe w'=>e=K1 (L3 #[sG (ax E),IF (ax E).isSome])/\Below w.heap.size w w':=by
 cases hv:E.IB.getLast? with
 | none =>have h0:E.IB=[]:=List.getLast?_eq_none_iff.1 hv;rw[h0] at hr;(have hc:ax E=J1:=by simp[ax,hv]);rw[hc];exact Cs b o vs w h2 hr
 | some v =>
   (have A1:E.IB≠[]:=by intro e;rw[e] at hv;simp at hv);have A2:0<E.IB.length:=List.length_pos_iff.2 A1;(have A0:E.IB[E.IB.length-1]?=IR v:=by rw[<-hv,List.getLast?_eq_getElem?]);cases hm:v.mark with
   | true =>(have hc:ax E=J1:=by simp[ax,hv,hm]);rw[hc];exact yM b o vs E.IB w h2 hr (E.IB.length-1) v (by omega) A0 (by omega) hm
   | false =>(have hc:ax E=IR v:=by simp[ax,hv,hm]);rw[hc];exact zl b o vs E.IB w h2 hr (E.IB.length-1) v (by omega) A0 (by omega) hm
def IW:Nat->List UInt8
 | 0=>[97]
 | 1=>[98,46,49]
 | 2=>[65]
 | 3=>[107,45,50]
 | _=>[97,95]
theorem zd (i:Nat)(w:Lq)(hi:i<5):Mb J0 28 #[IH I3 i] w λe w'=>e=K1 (ID ⟨(IW i).toArray⟩)/\Below w.heap.size w w':=by
 have hb:∀o,Below w.heap.size w (w.alloc o):=λo=>(Below.refl _ _).alloc (K2 _) _;revert i;refine tY ?_ ?_ ?_ ?_ ?_;all_goals go_enter func28,ntmps28
 all_goals go_wp2
 all_goals go_ret
 all_goals exact⟨rfl,hb _⟩
def dm (c:Int):List UInt8:=Ln (pk c 9).toNat 120++Kf (pk c 4).toNat
theorem fA (c:Int)(w:Lq)(hT:J8 w)(hc0 : -9223372036854775808<=c)(hc1:c<=9223372036854775807):Mb J0 42 #[IH I3 c] w λe w'=>e=K1 (ID ⟨(dm c).toArray⟩)/\Below w.heap.size w w':=by
 have p9:=bZ c 9 (by omega);have p4:=bZ c 4 (by omega);obtain⟨n,hn⟩:∃n:Nat,pk c 9=n:=⟨(pk c 9).toNat,by omega⟩;obtain⟨m,hm⟩:∃n:Nat,pk c 4=n:=⟨(pk c 4).toNat,by omega⟩;have HX:Hid (dm c=Ln n 120++Kf m):=by show _=_;unfold dm;rw[hn,hm];simp
 go_enter func42,ntmps42;go_wp2_with (go_at_call 10;refine(bo _ _ _ (by omega) (by omega) (by omega) (by omega)).mono ?_;rintro e w' ⟨rfl,rfl⟩);go_loop [4,5] (λo i=>∃k:Nat,k<=n/\i=IH I3 k/\o=ID ⟨(Ln k 120).toArray⟩) (λ_ i=>n-(intOf i).toNat);case atStart=>exact⟨0,N2 _,rfl,rfl⟩
 case round =>
  obtain⟨k,hk,rfl,rfl⟩:=hrel;(have A1:(⟨(Ln k (120:UInt8)).toArray⟩:ByteArray).size=k:=by rw[NO];simp);(have HA:Hid ((⟨(Ln k (120:UInt8)).toArray⟩:ByteArray)++⟨#[120]⟩=⟨(Ln (k+1) 120).toArray⟩):=by show _=_;rw[show(⟨#[120]⟩:ByteArray)=⟨([120]:List UInt8).toArray⟩ from rfl,cZ,List.replicate_succ']);obtain⟨V,hV⟩:∃V:ByteArray,V=⟨(Ln k (120:UInt8)).toArray⟩:=⟨_,rfl⟩;rw[<-hV] at A1 HA ⊢;have HV:=IA hV;clear hV;by_cases hlt:k<n
  ·go_wp2;exact⟨⟨k+1,by omega,by go_num,by rw[HA.out]⟩,by simp[intOf];omega⟩
  ·have hd:=ec (n:=m) (k:=1) (by omega) (by omega);go_wp2_with (first|(go_at_call 10;refine(bo _ _ _ (by omega) (by omega) (by omega) (by omega)).mono ?_;rintro e w' ⟨rfl,rfl⟩)|(go_at_call 13;refine(jO _ _ (by omega) (by omega)).mono ?_;rintro e w1 ⟨rfl,A0⟩));go_ret;(obtain rfl:k=n:=by omega);refine⟨?_,A0⟩;rw[HX.out,HV.out,cZ];rfl
theorem dV (a:IP)(l:List IP)(key:List UInt8):ae (a::l) key=if a.key=key then a else ae l key:=by
 unfold ae;rw[List.find?_cons];by_cases h:a.key=key
 ·simp[h]
 ·have:(a.key==key)=Kx:=beq_eq_false_iff_ne.2 h;rw[this,if_neg h]
theorem ly {l:List IP}(hr:cG l)(E:IP)(key:List UInt8):ae (bT l E) key=if E.key=key then E else ae l key:=by
 induction l with
 | nil =>rw[show bT [] E=[E] from rfl,dV]
 | cons a l ih =>
   have⟨h1,h2⟩:=LS.1 hr;rw[eg];by_cases e:a.key=E.key
   ·rw[if_pos e,dV];by_cases hk:E.key=key
    ·rw[if_pos hk,if_pos hk]
    ·rw[if_neg hk,if_neg hk,dV,if_neg (by rw[e];exact hk)]
   ·rw[if_neg e];by_cases hlt:cK E.key a.key = -1
    ·rw[if_pos hlt,dV]
    ·rw[if_neg hlt,dV,ih h2];by_cases ha:a.key=key
     ·rw[if_pos ha,if_neg (by rw[<-ha];exact λh=>e h.symm),dV,if_pos ha]
     ·rw[if_neg ha,dV,if_neg ha]
theorem gZ (wt:Bool)(v:Option IZ):aJ wt k0 v=0:=by
 unfold aJ k0 vJ Jd.jd;simp
theorem DX (h1:¬ 20<=(ae σ.Iz key).IB.length)(h2:(ae σ.Iz key).last≠0\/σ.Iz.length<60) :
 dS σ key 1 ((ae σ.Iz key).last+1) body=((if(ax (ae σ.Iz key)).isSome then 200 else 201),IR ⟨σ.time,bT σ.Iz ⟨key,(ae σ.Iz key).last+1,(ae σ.Iz key).IB++[⟨(ae σ.Iz key).last+1,σ.time,Kx,body⟩]⟩,σ.log++bG 1 σ.time key ((ae σ.Iz key).last+1) body⟩):=by
 unfold dS;rw[if_neg (by unfold aX;simp;omega),if_neg (by omega)];unfold bN bn;rw[if_pos rfl,if_neg (show ¬ (1:Nat)=3 by decide),cx];rfl
theorem jT {t:Jg}(hr:aZ l=.ok (m,t,k,body))(h0:t.kind≠0):bF σ l=ir σ m t k body:=by
 unfold bF;rw[hr];simp only;rw[if_neg h0]
theorem BS {t:Jg}(h3:t.kind≠3)(hw:Jb m=LI)(h:aJ LI k (dA (ae σ.Iz t.key) t)≠0):ir σ m t k body=(⟨aJ LI k (dA (ae σ.Iz t.key) t),[],[]⟩,σ):=by
 unfold ir;rw[if_neg h3,hw,if_pos h]
theorem q9 {t:Jg}(h3:t.kind≠3)(hw:Jb m=LI)(h:aJ LI k (dA (ae σ.Iz t.key) t)=0)(hn:bJ (ae σ.Iz t.key) m t body=(a,n,bd))(hc:dS σ t.key a n bd=(told,J1)):ir σ m t k body=(⟨told,[],[]⟩,σ):=by
 unfold ir;rw[if_neg h3,hw,if_neg (by simp[h]),if_pos rfl,hn];simp only[hc]
theorem qZ {t:Jg}(h3:t.kind≠3)(hw:Jb m=LI)(h:aJ LI k (dA (ae σ.Iz t.key) t)=0)(hn:bJ (ae σ.Iz t.key) m t body=(a,n,bd))(hc:dS σ t.key a n bd=(told,IR σ')):ir σ m t k body=(⟨told,if m=2 then[⟨[69,84,97,103],bX body⟩,⟨[86,101,114,115,105,111,110],Kf n⟩] else[⟨[86,101,114,115,105,111,110],Kf n⟩],[]⟩,σ'):=by
 unfold ir;rw[if_neg h3,hw,if_neg (by simp[h]),if_pos rfl,hn];simp only[hc]
theorem qK {k:Nat}(ho:aX (ae σ.Iz key) k n=told)(h:told≠0):dS σ key k n body=(told,J1):=by
 unfold dS;rw[ho,if_pos h]
def mP:List UInt8:=[69,84,97,103]
def eF:List UInt8:=[86,101,114,115,105,111,110]
theorem Bt (hr:aZ l=.ok (2,⟨1,key,0⟩,k,body))(h:aJ LI k (ax (ae σ.Iz key))≠0):bF σ l=(⟨aJ LI k (ax (ae σ.Iz key)),[],[]⟩,σ) :=
 (jT hr (by simp)).trans (BS (by simp) rfl h)
theorem CV (hr:aZ l=.ok (2,⟨1,key,0⟩,k,body))(h:aJ LI k (ax (ae σ.Iz key))=0)(hf:20<=(ae σ.Iz key).IB.length):bF σ l=(⟨507,[],[]⟩,σ) :=
 (jT hr (by simp)).trans (q9 (by simp) rfl h rfl (qK (by unfold aX;simp;omega) (by decide)))
theorem tV (hr:aZ l=.ok (2,⟨1,key,0⟩,k,body))(h:aJ LI k (ax (ae σ.Iz key))=0)(h1:¬ 20<=(ae σ.Iz key).IB.length)(h2:(ae σ.Iz key).last≠0\/σ.Iz.length<60) :
 bF σ l=(⟨if(ax (ae σ.Iz key)).isSome then 200 else 201,[⟨mP,bX body⟩,⟨eF,Kf ((ae σ.Iz key).last+1)⟩],[]⟩,
  ⟨σ.time,bT σ.Iz ⟨key,(ae σ.Iz key).last+1,(ae σ.Iz key).IB++[⟨(ae σ.Iz key).last+1,σ.time,Kx,body⟩]⟩,σ.log++bG 1 σ.time key ((ae σ.Iz key).last+1) body⟩) :=
 (jT hr (by simp)).trans (qZ (by simp) rfl h rfl (DX h1 h2))
theorem Bq (hr:aZ l=.ok (3,⟨1,key,0⟩,k0,[]))(h2:(ae σ.Iz key).last≠0\/σ.Iz.length<60) :
 bF σ l=if(ax (ae σ.Iz key)).isSome=Kx then(⟨404,[],[]⟩,σ) else if 20<=(ae σ.Iz key).IB.length then(⟨507,[],[]⟩,σ) else(⟨204,[⟨eF,Kf ((ae σ.Iz key).last+1)⟩],[]⟩,
  ⟨σ.time,bT σ.Iz ⟨key,(ae σ.Iz key).last+1,(ae σ.Iz key).IB++[⟨(ae σ.Iz key).last+1,σ.time,LI,[]⟩]⟩,σ.log++bG 2 σ.time key ((ae σ.Iz key).last+1) []⟩):=by
 rw[jT hr (by simp)];by_cases hc:(ax (ae σ.Iz key)).isSome=Kx
 ·rw[if_pos hc];exact q9 (by simp) rfl (gZ _ _) rfl (qK (by unfold aX;simp[hc]) (by decide))
 ·rw[if_neg hc];by_cases h20:20<=(ae σ.Iz key).IB.length
  ·rw[if_pos h20];exact q9 (by simp) rfl (gZ _ _) rfl (qK (by unfold aX;simp[hc,h20]) (by decide))
  ·rw[if_neg h20];refine qZ (by simp) rfl (gZ _ _) rfl (?_:dS σ key 2 ((ae σ.Iz key).last+1) []=_);(have ho:aX (ae σ.Iz key) 2 ((ae σ.Iz key).last+1)=0:=by unfold aX;simp[hc,h20]);unfold dS;rw[ho,if_neg (by simp),if_neg (by omega)];unfold bN bn;rw[if_neg (show ¬ (2:Nat)=1 by decide),if_neg (show ¬ (2:Nat)=3 by decide),cx];rfl
theorem sK (l:List IZ)(n:Nat)(h:l.Pairwise λa b=>a.num<b.num):(eu l n=J1->l.filter (λv=>v.num != n)=l)/\∀i,eu l n=IR i->l.eraseIdx i=l.filter (λv=>v.num != n)/\(l.filter (λv=>v.num != n)).length<l.length:=by
 induction l with
 | nil=>simp[eu]
 | cons a l ih =>
   have⟨h1,h2⟩:=LS.1 h;have A0:=ih h2;unfold eu at A0 ⊢;rw[List.findIdx?_cons];by_cases e:a.num=n
   ·(have e1:((a.num:Int)==(n:Int))=LI:=by simp[e]);rw[e1,if_pos rfl];refine⟨λh=>by simp at h,λi hi=>?_⟩;(have:i=0:=by simpa using hi.symm);subst this;have hf:l.filter (λv=>v.num != n)=l:=List.filter_eq_self.2 (λb hb=>by have:=h1 b hb;simp;omega);rw[Nm,if_neg (by simp[e]),hf];simp
   ·have e1:((a.num:Int)==(n:Int))=Kx:=beq_eq_false_iff_ne.2 (by omega);rw[e1,if_neg (by simp)];rw[Nm,if_pos (by simp[e])];refine⟨λh=>?_,λi hi=>?_⟩
    ·rw[Option.map_eq_none_iff] at h;rw[A0.1 h]
    ·obtain⟨j,hj,rfl⟩:=Option.map_eq_some_iff.1 hi;have:=A0.2 j hj;rw[List.eraseIdx_cons_succ,this.1];exact⟨rfl,Nat.succ_lt_succ this.2⟩
theorem BQ (hr:aZ l=.ok (3,⟨2,key,n⟩,k0,[]))(hs:(ae σ.Iz key).IB.Pairwise λa b=>a.num<b.num)(h2:(ae σ.Iz key).last≠0\/σ.Iz.length<60) :
 bF σ l=if((ae σ.Iz key).IB.filter λv=>v.num != n).length=(ae σ.Iz key).IB.length then(⟨404,[],[]⟩,σ) else(⟨204,[⟨eF,Kf n⟩],[]⟩,
  ⟨σ.time,bT σ.Iz ⟨key,(ae σ.Iz key).last,(ae σ.Iz key).IB.filter λv=>v.num != n⟩,σ.log++bG 3 σ.time key n []⟩):=by
 have hv:=sK (ae σ.Iz key).IB n hs;rw[jT hr (by simp)];cases hi:eu (ae σ.Iz key).IB n with
 | none =>rw[hv.1 hi,if_pos rfl];exact q9 (by simp) rfl (gZ _ _) rfl (qK (by unfold aX;simp[hi]) (by decide))
 | some i =>have h3:=hv.2 i hi;rw[if_neg (by omega)];(have ho:aX (ae σ.Iz key) 3 n=0:=by unfold aX;simp[hi]);refine qZ (by simp) rfl (gZ _ _) rfl (?_:dS σ key 3 n []=_);unfold dS;rw[ho,if_neg (by simp),if_neg (by omega)];unfold bN bn;rw[if_neg (show ¬ (3:Nat)=1 by decide),if_pos rfl,hi,cx,Option.getD_some,h3.1]
open Go.RowKit
structure Env (B:Nat->Prop)(w:Lq):Prop where
 mx:bu w
 tb:Jm w
 hm:∀k,B k->1<k
 hi:∀k,B k->eh k
 sz:∀k,w.heap.size<=k->B k
theorem Env.high (h:Env B w){k:Nat}(hk:B k):eh k:=h.hi k hk
theorem Env.off (h:Env B w)(ho:Off B w x):Env B x:=by
 refine⟨?_,h.tb.off ho (λk hk=>h.high hk),h.hm,h.hi,λk hk=>h.sz k (Lz ho.size hk)⟩;obtain⟨m,hm⟩:=h.mx;refine⟨m,?_⟩;have A0:=bj hm;simp only[Jx] at hm ⊢;rw[ho.block _ A0 (λhB=>Nat.lt_irrefl _ (h.hm _ hB))];exact hm
theorem Env.made (hM:bu w)(hT:Jm w):Env (λk=>w.heap.size<=k) w:=by
 obtain⟨m,hm⟩:=hM;exact⟨⟨m,hm⟩,hT,λk hk=>Nat.lt_of_lt_of_le (bj hm) hk,λk hk=>hT.high hk,λk hk=>hk⟩
theorem Env.below (h:Env B w)(hb:Below w.heap.size w x):Env B x:=h.off (Off.of_below hb)
structure J4 (B:Nat->Prop)(w:Lq)(s n:Nat)(σ:St)(M:Mem):Prop where
 env:Env B w
 st:aN w s n 0 (λ_=>0) σ M
 own:∀k,M.own s n k->B k
theorem J4.below (h:J4 B w s n σ M)(hb:Below w.heap.size w x):J4 B x s n σ M:=⟨h.env.below hb,h.st.below hb,h.own⟩
theorem ot {a:L9}(h:pM a):(aL a.told a.IQ a.body).length<=1000000000:=by
 obtain⟨h1,h2,h3,h4⟩:=h;have h5:=zR a.IQ aH 2004 (λf hf=>by have:=h3 f hf;simp[aH];omega);have h6:a.IQ.length*2004<=1000*2004:=LL _ (by omega);have h7:=ec (n:=a.told) (k:=5) (by omega) (by omega);simp only[aL,MD,Nd,List.length_nil];omega
theorem jU (l:List UInt8)(h:J4 B w s n σ M)(JL:σ.log.length<140000000000000)(hl:l.length<=9223372036854775807){a:L9}(ha:bF σ l=(a,σ'))(hok:jX l) :
 Mb J0 11 #[K0 (IR ⟨s,0,J1⟩),ID ⟨l.toArray⟩] w λe w'=>e=K1 (ID ⟨(aL a.told a.IQ a.body).toArray⟩)/\(aL a.told a.IQ a.body).length<=1000000000/\∃M',J4 B w' s n σ' M'/\Off (M.own s n) w w'/\Off B w w':=by
 have A0:=uW h.st JL l;rw[ha] at A0;refine(Bb l w h.st h.env.mx h.env.tb (λk hk=>h.env.high (h.own k hk)) (by omega) hl hok).mono ?_;rintro e w' ⟨rfl,M',hS,hO,hW⟩;have hd:OD σ l=(aL a.told a.IQ a.body,σ'):=by unfold OD;rw[ha]
 rw[hd] at hS;rw[hd];have A1:Off B w w':=hO.mono h.own;exact⟨rfl,ot A0,M',⟨h.env.off A1,hS,λk hk=>(hW k hk).elim (h.own k) (λh1=>h.env.sz k h1)⟩,hO,A1⟩
theorem eT (h:aN w s n rd lk σ M){k:Nat}(hk:M.own s n k){c:Array Lw}:w.heap[k]?≠IR (LO c 31 f)/\w.heap[k]?≠IR (LO c 42 f):=by
 constructor;all_goals
  intro e;rcases hk with rfl|rfl|⟨i,hi,hb⟩|⟨i,hi,hb⟩|⟨i,p,hi,hp,hb⟩|hb
  ·exact aa h.blk e (by decide) rfl
  ·obtain⟨cs,hc,_⟩:=h.row;exact aa hc e (by decide) rfl
  ·exact ai (h.kt i hi).k.row e (by decide) hb
  ·exact aa (h.Jc i hi k hb).blk e (by decide) rfl
  ·exact ai (h.Jc i hi p hp).row e (by decide) hb
  ·exact ai h.Jn e (by decide) hb
def IE (σ:St)(i:Nat):IP:=ae σ.Iz (IW i)
theorem Dk:∀i,i<5->∀j,j<5->IW i=IW j->i=j:=by
 refine tY ?_ ?_ ?_ ?_ ?_<;>refine tY ?_ ?_ ?_ ?_ ?_<;>decide
theorem db:∀i,aW (IW i)=LI
 | 0=>by decide
 | 1=>by decide
 | 2=>by decide
 | 3=>by decide
 | _+4=>by show aW [97,95]=LI;decide
theorem rQ:∀{l m:List (List UInt8)},l.Pairwise (·≠·)->(∀x∈l,x∈m)->l.length<=m.length
 | [],_,_,_=>N2 _
 | a::l,m,h,hs=>by
   have⟨h1,h2⟩:=LS.1 h
   have ha:a∈m:=hs a (by simp)
   have:=rQ (l:=l) (m:=m.erase a) h2 (λx hx=>(List.mem_erase_of_ne (λe=>h1 x hx e.symm)).2 (hs x (by simp[hx])))
   rw[List.length_erase_of_mem ha] at this
   have:0<m.length:=List.length_pos_of_mem ha
   simp
   omega
structure Bk (B:Nat->Prop)(w:Lq)(b s n:Nat)(σ:St)(M:Mem)(vs:Nat->Lw)(d c:Nat):Prop where
 Js:J4 B w s n σ M
 bk:aY w b s (IE σ) vs σ.time d
 bB:B b
 vB:∀i,i<5->∀g,(vs i).ownBlock=IR g->B g
 ks:∀E∈σ.Iz,∃i,i<5/\E.key=IW i
 tm:σ.time<=c*5000
 lg:σ.log.length<=c*1000
 ls:∀i,(IE σ i).last<=c
 dn:d<=c
theorem Bk.many (h:Bk B w b s n σ M vs d c):σ.Iz.length<60:=by
 have hr:=h.Js.st.rise;have:=rQ (l:=σ.Iz.map IP.key) (m:=[IW 0,IW 1,IW 2,IW 3,IW 4]) (by
  rw[List.pairwise_map]
  exact List.Pairwise.imp (λh=>rG h) hr) (λx hx=>by
   obtain⟨E,hE,rfl⟩:=List.mem_map.1 hx;obtain⟨i,hi,e⟩:=h.ks E hE;rw[e];revert i
   exact λi hi _=>(tY (P:=λi=>IW i∈[IW 0,IW 1,IW 2,IW 3,IW 4]) (by simp) (by simp) (by simp) (by simp) (by simp)) i hi)
 simp at this;omega
theorem Bk.below (h:Bk B w b s n σ M vs d c)(hb:Below w.heap.size w x):Bk B x b s n σ M vs d c :=
 ⟨h.Js.below hb,h.bk.below hb,h.bB,h.vB,h.ks,h.tm,h.lg,h.ls,h.dn⟩
theorem Bk.more (h:Bk B w b s n σ M vs d c):Bk B w b s n σ M vs d (c+1) :=
 ⟨h.Js,h.bk,h.bB,h.vB,h.ks,Lz h.tm (LL _ (N3 _)),Lz h.lg (LL _ (N3 _)),λi=>MY (h.ls i),MY h.dn⟩
theorem aY.did (h:aY w b s en vs t d)(hS:aN w s n 0 (λ_=>0) σ M)(ho:Off (M.own s n) w x):aY x b s en vs t d :=
 h.off ho (λhk=>(eT hS hk).1 h.blk) (λi hi g hg hk=>by
  obtain⟨cur,hc⟩:=dN (h.row i hi) hg
  exact(eT hS hk).2 hc)
theorem Bk.facts (h:Bk B w b s n σ M vs d c)(i:Nat):(IE σ i).IB.length<=20/\((IE σ i).IB.Pairwise λa b=>a.num<b.num)/\(∀v∈(IE σ i).IB,v.num<=c)/\(IE σ i).key=IW i:=by
 unfold IE;by_cases hl:(ae σ.Iz (IW i)).last=0
 ·have:=bV (λE hE=>(h.Js.st.ok E hE).last) hl;rw[this.2];simp
 ·have hm:=ee hl;have ho:=h.Js.st.ok _ hm;exact⟨ho.len,ho.rise,λv hv=>Lz (ho.num v hv) (h.ls i),cx _ _⟩
open Go.ChangeShapes Go.WideShapes Go.ChangeAt Go.RowKit
theorem own:ownKnob prog.godebug=J1:=by kernel_rfl
theorem laidOut:laidOutB J0=LI:=by kernel_rfl
theorem GN : prog.globalNamed "math/bits.deBruijn64tab" = IR 3 := by kernel_rfl
theorem BF:(prog.globals[3]?).map (·.type)=IR 304:=by kernel_rfl
theorem Cb:prog.cellsOf 304=64:=by kernel_rfl
theorem D7:prog.cellsOf 5=1:=by kernel_rfl
theorem Fb : prog.globalNamed "internal/strconv.uint64pow10" = IR 0 := by kernel_rfl
theorem AC:(prog.globals[0]?).map (·.type)=IR 249:=by kernel_rfl
theorem BK:prog.cellsOf 249=20:=by kernel_rfl
theorem An:prog.cellsOf 194=1:=by kernel_rfl
def E2:List Int:=[0,1,56,2,57,49,28,3,61,58,42,50,38,29,17,4,62,47,59,36,45,43,51,22,53,39,33,30,24,18,12,5,63,55,48,27,60,41,37,16,46,35,44,21,52,32,23,11,54,26,40,15,34,20,31,10,25,14,19,9,13,8,7,6]
theorem Cx:Rows.laid_math_bits_deBruijn64tab=(Lib.tabData .u8 E2:DataW Unit):=by kernel_rfl
theorem Bv:Rows.laid_internal_strconv_uint64pow10=(Lib.tabData .u64 Lib.pow10Tab:DataW Unit):=by kernel_rfl
theorem GX (h:W.ShapedOpen J0):bu W :=
 Go.Proofs.cell_of_shapedOpen_int (zero:=#[IH I3 0]) (t:=3) h (of_decide_eq_true (by kernel_rfl)) (by kernel_rfl) rfl (by kernel_rfl) (by kernel_rfl) underlying3
def E9 : List (String × DataW Unit) := [("math/bits.deBruijn32tab", Rows.laid_math_bits_deBruijn32tab), ("math/bits.deBruijn64tab", Rows.laid_math_bits_deBruijn64tab), ("internal/strconv.uint64pow10", Rows.laid_internal_strconv_uint64pow10), ("unicode/utf8.acceptRanges", Rows.laid_unicode_utf8_acceptRanges), ("unicode.CaseRanges", Rows.laid_unicode_CaseRanges), ("unicode/utf8.first", Rows.laid_unicode_utf8_first)]
theorem tables (h:laidMetH J0 E9 W):Jm W:=by
 have h':laidMet J0 E9 W:=h;obtain⟨ps,⟨_,_,_,_,_,_,_,_,_,_,t1,_⟩,_⟩:=h';obtain⟨_,_,_,_,_,_,_,_,_,_,t2,_⟩:=id t1;obtain⟨g',t',cs,Aa,p,q,A6,A8,A2,hd,_,_⟩:=t1;obtain rfl:=LR (GN.symm.trans A6);obtain rfl:=LR (BF.symm.trans A8);rw[Cx] at hd;have A5 : Nx J0 W "math/bits.deBruijn64tab" .u8 E2 := by unfold Nx;rw[A2,<-Lib.cells_of_tab underlying304 underlying5 D7 Cb hd]
 obtain⟨g2,u2,Ab,A4,p2,q2,A7,A9,A1,A3,_,_⟩:=t2;obtain rfl:=LR (Fb.symm.trans A7);obtain rfl:=LR (AC.symm.trans A9);rw[Bv] at A3;have A0 : Nx J0 W "internal/strconv.uint64pow10" .u64 Lib.pow10Tab := by unfold Nx;rw[A1,<-Lib.cells_of_tab underlying249 underlying194 An BK A3]
 exact⟨A5.cell GN 15 (by decide),⟨A0,World.block_lt_of_cell? _ _ (A0.cell Fb 0 (by decide))⟩⟩
end Go.Proofs.YtmehkneofinmiabGreatDoor

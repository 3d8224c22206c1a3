/-part 2-/
import Derived.Test.YtmehkneofinmiabGreatDoorP01
import Derived.Deep.Heap
import Derived.Lib.AppendIntMem
import Derived.Lib.QuietBelow
open Go.Proofs.Tryz
open Nat renaming le_refl->ID,le_of_lt->Lz,lt_succ_self->Mn
open Go.Value renaming string->IF,bool->IH,slice->Ks,int->K2,tuple->Lw,agg->LS,pointer->L4
open Option renaming none->IR,some->Lq
open Go.Ending renaming returned->I3
open Go.Lib renaming trimPrefix->Jx,cut->Kf,hasPrefix->K0,toLowerA->K1,size_eq->Ly,trimPrefix_le->LN,trimS->LR,decDigits->L1
open Bool renaming false->J0,true->LO
open Go.Proofs.Tryz renaming prog->J1,results83->LL
open Go renaming bodyPost_ret->Kx,World->Lo,Calls->LI,Value->L2
open Go.IntKind renaming i64->Ln
open Go.Obj renaming cells->L3
open Or renaming inl->L5,inr->Mb
set_option maxRecDepth 100000
set_option maxHeartbeats 2000000
namespace Go.Proofs.YtmehkneofinmiabGreatDoor
open Go.RowKit
variable {w w' x y:Lo}{base g k size:Nat}{e:TypeId}{l v:L2}{xs:List L2}{a h wk:Bool}{LQ nm:List UInt8}
abbrev eC:=List (Bool×List UInt8)
def eE:Nat->List UInt8->Option eC
 | 0,_=>IR
 | k+1,l=>match pJ l with
   | none=>IR
   | some (wk,nm,LQ)=>if LQ=[] then Lq [(wk,nm)] else
     if K0 (strip LQ) [44] then(eE k (strip (Jx (strip LQ) [44]))).map ((wk,nm)::·) else IR
def cO (a:eC):List L2:=a.flatMap λt=>[IH t.1,IF ⟨t.2.toArray⟩]
theorem mA (a:eC)(x:Bool×List UInt8):cO (a++[x])=cO a++[IH x.1,IF ⟨x.2.toArray⟩]:=by simp[cO]
theorem kg {n:Nat}(h:w.ownsRow base e size v n xs)(hb:Below w.heap.size w w'):w'.ownsRow base e size v n xs:=by
 refine⟨h.1,?_⟩;rcases h.2 with h0|⟨g,A1,A0,hv,hg,hh,r⟩
 ·exact L5 h0
 ·have:g<w.heap.size:=(gL hh);exact Mb ⟨g,A1,A0,hv,hg,by rw[hb.block g this];exact hh,r⟩
theorem z6 {l:List UInt8}(h:pJ l=Lq (wk,nm,LQ)):LQ.length<l.length/\nm.length<l.length:=by
 rw[ov] at h;have z1:=LN l [87,47];generalize Jx l [87,47]=q at h z1;cases hq:K0 q [34] with
 | false=>simp[hq] at h
 | true =>
   (have A2:Jx q [34]=q.drop 1:=by unfold Jx;rw[if_pos hq];rfl);have A3:1<=q.length:=by
    cases q with
    | nil=>simp[K0] at hq
    | cons a b=>simp
   rw[A2] at h;have A1:(Kf (q.drop 1) [34]).1.length<=(q.drop 1).length:=xI _ _;have A0:(Kf (q.drop 1) [34]).2.1.length<=(q.drop 1).length:=by
    unfold Kf;split
    ·simp;omega
    ·simp
   generalize Kf (q.drop 1) [34]=c at h A1 A0;split at h
   ·simp only[Option.some.injEq,Prod.mk.injEq] at h;obtain⟨_,rfl,rfl⟩:=h;simp at A1 A0;omega
   ·cases h
theorem sQ (l:List UInt8):(strip l).length<=l.length:=(List.dropWhile_suffix _).length_le
structure Tg (w x:Lo):Prop where
 b:Below (w.heap.size+1) (w.alloc (L3 #[IH J0,Ks IR 0 0] 71)) x
 z:w.heap.size+1<=x.heap.size
theorem Tg.made (w:Lo):Tg w (w.alloc (L3 #[IH J0,Ks IR 0 0] 71)):=⟨Below.refl _ _,by simp⟩
theorem Tg.below (h:Tg w x)(hb:Below x.heap.size x y):Tg w y:=⟨h.b.trans (hb.mono h.z),by have:=hb.size;have:=h.z;omega⟩
theorem Tg.old (h:Tg w x):Below w.heap.size w x:=((Below.refl _ _).alloc (ID _) _).trans (h.b.mono (by omega))
theorem Tg.c0 (h:Tg w x):x.cell? ⟨w.heap.size,0,IR⟩=Lq (IH J0):=(h.b.cell (p:=⟨_,0,IR⟩) (by simp)).trans (by simp)
theorem Tg.c1 (h:Tg w x):x.cell? ⟨w.heap.size,1,IR⟩=Lq (Ks IR 0 0):=(h.b.cell (p:=⟨_,1,IR⟩) (by simp)).trans (by simp)
theorem Tg.f0 (h:Tg w x):x.frozen? ⟨w.heap.size,0,IR⟩=J0:=(h.b.frozen (p:=⟨_,0,IR⟩) (by simp)).trans (by simp)
theorem Tg.f1 (h:Tg w x):x.frozen? ⟨w.heap.size,1,IR⟩=J0:=(h.b.frozen (p:=⟨_,1,IR⟩) (by simp)).trans (by simp)
theorem CZ:(prog.info? 273).map (λi=>(i.size,i.bytes,i.zero))=Lq (2,24,Lq (LS #[IH J0,IF ⟨#[]⟩])):=by kernel_rfl
theorem Ge:∃i,prog.info? 273=Lq i/\i.size=2/\i.bytes=24/\i.zero=Lq (LS #[IH J0,IF ⟨#[]⟩]):=by
 have h:=CZ;cases hq:prog.info? 273 with
 | none=>rw[hq] at h;cases h
 | some i =>rw[hq] at h;simp only[Option.map_some,Option.some.injEq,Prod.mk.injEq] at h;exact⟨i,rfl,h.1,h.2.1,h.2.2⟩
def CK (l:List UInt8)(w:Lo)(e:Ending)(w':Lo):Prop :=
 Below w.heap.size w w' /\
 ((l=[42]/\e=I3 (Lw #[LS #[IH LO,Ks IR 0 0],IH LO])) \/
  (l≠[42] /\
    ((eE (l.length+1) l=IR/\e=I3 (Lw #[LS #[IH J0,Ks IR 0 0],IH J0])) \/
     ∃a v,eE (l.length+1) l=Lq a/\e=I3 (Lw #[LS #[IH J0,v],IH LO])/\w'.ownsRow (w.heap.size+1) 273 2 v a.length (cO a))))
theorem dp {u:L2}{n:Nat}{a:Addr}(h:x.ownsRow base e size v n xs)(ha:a.block<base):(x.setCell a u).ownsRow base e size v n xs :=
 ownsRow_setCell_below h ha u
theorem se {n:Nat}(h:x.ownsRow base e size v (n+1) xs):∃g cap,v=Ks (Lq ⟨g,0,IR⟩) (n+1) cap:=by
 rcases h.2 with⟨_,h0⟩|⟨g,cap,A0,hv,_⟩
 ·omega
 ·exact⟨g,cap,hv⟩
theorem oA {n:Nat}(h:x.ownsRow base e size v n xs):∀k,v.ownBlock=Lq k->base<=k:=by
 intro k hk;rcases h.2 with⟨rfl,_⟩|⟨g,A1,A0,rfl,hg,_⟩
 ·cases hk
 ·cases hk;exact hg
theorem zE {r:List UInt8}(hk:r.length<k)(ht:pJ r=Lq (wk,nm,[])):eE k r=Lq [(wk,nm)]:=by
 cases k with
 | zero=>omega
 | succ k=>simp[eE,ht]
theorem wM {r:List UInt8}(ht:pJ r=IR):eE k r=IR:=by
 cases k with
 | zero=>rfl
 | succ k=>simp[eE,ht]
theorem zw {r:List UInt8}(ht:pJ r=Lq (wk,nm,LQ))(hb:LQ≠[])(hc:K0 (strip LQ) [44]=J0):eE k r=IR:=by
 cases k with
 | zero=>rfl
 | succ k=>simp[eE,ht,hb,hc]
theorem Cr {r:List UInt8}(ht:pJ r=Lq (wk,nm,LQ))(hb:LQ≠[])(hc:K0 (strip LQ) [44]=LO) :
 eE (k+1) r=(eE k (strip (Jx (strip LQ) [44]))).map ((wk,nm)::·):=by simp[eE,ht,hb,hc]
theorem ow (o:Option eC):o.map ([]++·)=o:=by cases o<;>simp
theorem Aw (s:ByteArray)(l:List UInt8)(w:Lo)(hM:bu w)(hl:LR s.data.toList [32,9]=l)(hs:s.size<=67108864)(hz:l.length<=s.size):LI J1 224 #[IF s] w (CK l w):=by
 obtain⟨ti,i1,i2,i3,i4⟩:=Ge;have HI:=IA i1;have Ah:=IA i2;have An:=IA i3;have Ak:=IA i4;have HL:=IA hl;clear i1 i2 i3 i4 hl;go_enter func224,ntmps224;go_wp2_with fail;refine(JU _ _ (by omega)).mono ?_;rintro e w1 ⟨rfl,Ao⟩;rw[HL.out];have A9:Tg w w1:=(Tg.made w).below Ao;clear Ao HL;by_cases hst:l=[42]
 ·have k1:=A9.c0;have k2:=A9.c1;have k3:=A9.f0;have k4:=A9.f1;subst hst;go_wp2;exact Kx (v:=Lw #[LS #[IH LO,Ks IR 0 0],IH LO]) (by simp[results,results224,go_sem,k1,k2]) rfl ⟨(A9.old.setCell (ID _) _).setCell (ID _) _,L5 ⟨rfl,rfl⟩⟩
 ·(have Aq:(l==[42])=J0:=by simpa using hst);have Ag:=IA hst;clear hst;go_wp2;go_loopw [4,5] (λrest JQ wr=>∃(r:List UInt8) (k:Nat) (a:eC),rest=IF ⟨r.toArray⟩/\r.length<k/\r.length+a.length<=l.length/\Tg w wr/\wr.ownsRow (w.heap.size+1) 273 2 JQ a.length (cO a)/\Hid (eE (l.length+1) l=(eE k r).map (a++·)))
   (λrest _ _=>match rest with|IF b=>b.size|_=>0)
  (case atStart=>exact⟨l,l.length+1,[],rfl,by omega,by simp,A9,⟨rfl,L5 ⟨rfl,rfl⟩⟩,(ow _).symm⟩);case round =>
   obtain⟨r,k,a,rfl,hk,Ar,tg,Aa,hf⟩:=hrel;have zr:=Ly (⟨r.toArray⟩:ByteArray);simp only at zr;go_wp2_with fail;refine(wi ⟨r.toArray⟩ _ (hM.below tg.old) (by rw[zr];omega)).mono ?_;rintro e w2 ⟨⟨wk,nm,A3,ht,rfl⟩|⟨ht,rfl⟩,Ad⟩
   ·have A2:=tg.below Ad;have A6:=kg Aa Ad;have Aj:=z6 ht;have HT:=IA ht;have zz:=A2.z;clear tg Aa Ad ht;have Ac:Below w2.heap.size w2 ((w2.alloc (L3 #[IH wk,IF ⟨nm.toArray⟩] 273)).alloc (L3 #[IH wk,IF ⟨nm.toArray⟩] 273)):=((Below.refl _ _).alloc (ID _) _).alloc (by simp) _;have Ab:=kg A6 Ac;(have A4:∀j u,([IH wk,IF ⟨nm.toArray⟩]:List L2)[j]?=Lq u->((w2.alloc (L3 #[IH wk,IF ⟨nm.toArray⟩] 273)).alloc (L3 #[IH wk,IF ⟨nm.toArray⟩] 273)).cell? ((⟨w2.heap.size+1,0,IR⟩:Addr).add j)=Lq u:=by have:=cell_two_new (w2.alloc (L3 #[IH wk,IF ⟨nm.toArray⟩] 273)) (IH wk) (IF ⟨nm.toArray⟩) 273;simpa using this);have HO:=IA Ab;have HN:=IA A4;clear Ab A4;by_cases Oj:A3=[]
    ·subst Oj;go_wp2_with (first|(at_builtin;refine wpList_append_own _ rfl (.tmp 23) (.tmp 25) 69 rfl (w.heap.size+1) 273 ti (LS #[IH J0,IF ⟨#[]⟩]) 2 24 underlying69 HI.out Ak.out Ah.out An.out rfl (by omega) u5 a.length (cO a) rfl HO.out ⟨w2.heap.size+1,0,IR⟩ 1 1 [IH wk,IF ⟨nm.toArray⟩] rfl rfl HN.out (by intro u hu;simp at hu;rcases hu with rfl|rfl<;>rfl) (by unfold maxLen;omega) (by omega) (by simp;omega) ?_;intro v' w3 A0 A8 _;obtain⟨g,Al,A5⟩:=se A0;rw[A5] at A0;rw[A5];clear A5;have A1:Tg w w3:=⟨(A2.b.trans (Ac.mono zz)).grown A8 (by simp;omega) (oA A6),by have:=A8.size;simp at this;omega⟩;have k1:=A1.c0;have k2:=A1.c1;have k3:=A1.f0;have k4:=A1.f1));refine Kx (v:=Lw #[LS #[IH J0,Ks (Lq ⟨g,0,IR⟩) (a.length+1) Al],IH LO]) (by simp[results,results224,go_sem,k1,k2]) rfl ⟨(A1.old.setCell (ID _) _).setCell (ID _) _,Mb ⟨Ag.out,Mb ⟨a++[(wk,nm)],_,?_,rfl,?_⟩⟩⟩
     ·rw[hf.out,zE hk HT.out];rfl
     ·rw[List.length_append,List.length_singleton,mA];exact dp (dp A0 (by simp)) (by simp)
    ·(have As:(A3==[])=J0:=by simpa using Oj);go_wp2_with (first|(at_builtin;refine wpList_append_own _ rfl (.tmp 23) (.tmp 25) 69 rfl (w.heap.size+1) 273 ti (LS #[IH J0,IF ⟨#[]⟩]) 2 24 underlying69 HI.out Ak.out Ah.out An.out rfl (by omega) u5 a.length (cO a) rfl HO.out ⟨w2.heap.size+1,0,IR⟩ 1 1 [IH wk,IF ⟨nm.toArray⟩] rfl rfl HN.out (by intro u hu;simp at hu;rcases hu with rfl|rfl<;>rfl) (by unfold maxLen;omega) (by omega) (by simp;omega) ?_;intro v' w3 A0 A8 _;obtain⟨g,Al,A5⟩:=se A0;rw[A5] at A0;rw[A5];clear A5;have A1:Tg w w3:=⟨(A2.b.trans (Ac.mono zz)).grown A8 (by simp;omega) (oA A6),by have:=A8.size;simp at this;omega⟩;have k1:=A1.c0;have k2:=A1.c1;have k3:=A1.f0;have k4:=A1.f1));have Am:=IA Oj;clear Oj A8;refine(qL ⟨A3.toArray⟩ _).mono ?_;rintro e w4 ⟨rfl,Af⟩;have A7:=A1.below Af;have Ae:=kg A0 Af;have k5:=A7.c0;have k6:=A7.c1;have k7:=A7.f0;have k8:=A7.f1;clear k1 k2 k3 k4 A0 Af;cases hc:K0 (strip A3) [44] with
     | false =>have HC:=IA hc;clear hc;go_wp2;refine Kx (v:=Lw #[LS #[IH J0,Ks IR 0 0],IH J0]) (by simp[results,results224,go_sem,k5,k6]) rfl ⟨(A7.old.setCell (ID _) _).setCell (ID _) _,Mb ⟨Ag.out,L5 ⟨?_,rfl⟩⟩⟩;rw[hf.out,zw HT.out Am.out HC.out];rfl
     | true =>
       have HC:=IA hc;clear hc;have l1:=sQ (Jx (strip A3) [44]);have l2:=LN (strip A3) [44];have l3:=sQ A3;obtain⟨r',Ai⟩:=IG (strip (Jx (strip A3) [44]));rw[Ai] at l1;have HR:=IA Ai;go_wp2;refine⟨⟨r',k-1,a++[(wk,nm)],rfl,by omega,by simp;omega,A7,?_,?_⟩,?_⟩
       ·rw[List.length_append,List.length_singleton,mA];exact Ae
       ·show _=_;obtain⟨k',rfl⟩:∃k',k=k'+1:=⟨k-1,by omega⟩;rw[hf.out,Cr HT.out Am.out HC.out,HR.out,Nat.add_sub_cancel];cases eE k' r'<;>simp
       ·show(⟨r'.toArray⟩:ByteArray).size<(⟨r.toArray⟩:ByteArray).size;rw[Ly,Ly];simp;omega
   ·have A2:=tg.below Ad;have Ac:Below w2.heap.size w2 (w2.alloc (L3 #[IH J0,IF ⟨#[]⟩] 273)):=(Below.refl _ _).alloc (ID _) _;have A1:=A2.below Ac;have k1:=A2.c0;have k2:=A2.c1;have k3:=A2.f0;have k4:=A2.f1;(have Ap:w.heap.size<w2.heap.size:=by have:=A2.z;omega);have HT:=IA ht;clear ht;go_wp2;refine Kx (v:=Lw #[LS #[IH J0,Ks IR 0 0],IH J0]) (by simp[results,results224,go_sem,k1,k2,Ap]) rfl ⟨?_,Mb ⟨Ag.out,L5 ⟨?_,rfl⟩⟩⟩
    ·first|exact((A2.old.setCell (ID _) _).setCell (ID _) _).alloc (by simp[World.setCell];omega) _|exact(A1.old.setCell (ID _) _).setCell (ID _) _
    ·rw[hf.out,wM HT.out];rfl
structure Jg where
 kind:Nat
 key:List UInt8
 num:Nat
def QN (t:Jg):L2:=LS #[K2 Ln (t.kind:Int),IF ⟨t.key.toArray⟩,K2 Ln (t.num:Int)]
def gd (key query:List UInt8):Option Jg :=
 if query=[118,101,114,115,105,111,110,115] then Lq ⟨3,key,0⟩
 else if K0 query [118,61] then(jy (Jx query [118,61])).map (λn=>⟨2,key,n⟩) else IR
def eZ:List UInt8:=[63,97,102,116,101,114,61]
def pL (p:List UInt8):Option Jg :=
 if p=[] then Lq ⟨0,[],0⟩
 else if K0 p eZ then(if aW (Jx p eZ) then Lq ⟨0,Jx p eZ,0⟩ else IR)
 else if aW (Kf p [63]).1 then(if(Kf p [63]).2.2 then gd (Kf p [63]).1 (Kf p [63]).2.1 else Lq ⟨1,(Kf p [63]).1,0⟩) else IR
def bM (l:List UInt8):Option Jg:=if K0 l [47] then pL (Jx l [47]) else IR
def ng (o:Option Jg)(w:Lo)(e:Ending)(w':Lo):Prop :=
 Below w.heap.size w w'/\((∃t,o=Lq t/\e=I3 (Lw #[QN t,IH LO]))\/(o=IR/\∃(k n:Int) (s:ByteArray),e=I3 (Lw #[LS #[K2 Ln k,IF s,K2 Ln n],IH J0])))
theorem fp {o:Option Jg}(t:Jg)(hb:Below w.heap.size w w')(h:o=Lq t):ng o w (I3 (Lw #[LS #[K2 Ln (t.kind:Int),IF ⟨t.key.toArray⟩,K2 Ln (t.num:Int)],IH LO])) w':=⟨hb,L5 ⟨t,h,rfl⟩⟩
theorem fj {o:Option Jg}(k n:Int)(s:ByteArray)(hb:Below w.heap.size w w')(h:o=IR):ng o w (I3 (Lw #[LS #[K2 Ln k,IF s,K2 Ln n],IH J0])) w':=⟨hb,Mb ⟨h,k,n,s,rfl⟩⟩
theorem pf (key query:List UInt8)(w:Lo)(hq:query.length<=9223372036854775807):LI J1 131 #[IF ⟨key.toArray⟩,IF ⟨query.toArray⟩] w (ng (gd key query) w):=by
 by_cases h1:query=[118,101,114,115,105,111,110,115]
 ·subst h1;go_enter func131,ntmps131;go_wp2;exact Kx (v:=Lw #[LS #[K2 Ln 3,IF ⟨key.toArray⟩,K2 Ln 0],IH LO]) (by simp[results,results131,go_sem]) rfl (fp ⟨3,key,0⟩ (by repeat (first|exact Below.refl _ _|refine Below.setCell ?_ (by simp) _|refine Below.alloc ?_ (by simp) _)) rfl)
 ·(have b1:(query==[118,101,114,115,105,111,110,115])=J0:=by simpa using h1);(have HQ:Hid (gd key query=if K0 query [118,61] then(jy (Jx query [118,61])).map (λn=>⟨2,key,n⟩) else IR):=by show _=_;unfold gd;rw[if_neg h1]);have hl:=LN query [118,61];clear h1;go_enter func131,ntmps131;go_wp2_with fail;refine(strings_CutPrefix _ _ _).mono ?_;rintro e w1 ⟨rfl,rfl⟩;cases hp:K0 query [118,61] with
  | false =>(have HN:Hid (gd key query=IR):=by show _=_;rw[HQ.out,hp];rfl);clear HQ;go_wp2;exact Kx (v:=Lw #[LS #[K2 Ln 0,IF ⟨#[]⟩,K2 Ln 0],IH J0]) (by simp[results,results131,go_sem]) rfl (fj 0 0 ⟨#[]⟩ (by repeat (first|exact Below.refl _ _|refine Below.setCell ?_ (by simp) _|refine Below.alloc ?_ (by simp) _)) HN.out)
  | true =>
    (have HY:Hid (gd key query=(jy (Jx query [118,61])).map (λn=>⟨2,key,n⟩)):=by show _=_;rw[HQ.out,hp];rfl);obtain⟨ds,A0⟩:=IG (Jx query [118,61]);rw[A0] at hl HY ⊢;clear HQ hp A0;go_wp2_with fail;refine(oh ⟨ds.toArray⟩ _ (by rw[Ly];simp;omega)).mono ?_;rintro e w2 ⟨rfl,rfl⟩;(have e0:(⟨ds.toArray⟩:ByteArray).data.toList=ds:=by simp);rw[e0];cases hn:jy ds with
    | none =>rw[hn] at HY;simp only[lI];go_wp2;exact Kx (v:=Lw #[LS #[K2 Ln 2,IF ⟨key.toArray⟩,K2 Ln 0],IH J0]) (by simp[results,results131,go_sem]) rfl (fj 2 0 ⟨key.toArray⟩ (by repeat (first|exact Below.refl _ _|refine Below.setCell ?_ (by simp) _|refine Below.alloc ?_ (by simp) _)) HY.out)
    | some n =>rw[hn] at HY;simp only[lI];go_wp2;exact Kx (v:=Lw #[LS #[K2 Ln 2,IF ⟨key.toArray⟩,K2 Ln (n:Int)],IH LO]) (by simp[results,results131,go_sem]) rfl (fp ⟨2,key,n⟩ (by repeat (first|exact Below.refl _ _|refine Below.setCell ?_ (by simp) _|refine Below.alloc ?_ (by simp) _)) HY.out)
theorem kB (s sep:List UInt8)(w:Lo)(hM:bu w)(hs:s.length<4294967281) :
 LI J1 81 #[IF ⟨s.toArray⟩,IF ⟨sep.toArray⟩] w λe w'=>e=I3 (Lw #[IF ⟨(Kf s sep).1.toArray⟩,IF ⟨(Kf s sep).2.1.toArray⟩,IH (Kf s sep).2.2])/\Below w.heap.size w w':=by
 obtain⟨m,hm⟩:=hM;have:=strings_Cut ⟨s.toArray⟩ ⟨sep.toArray⟩ m w (by rw[Ly];simpa using hs) hm;refine this.mono ?_;rintro e w' ⟨rfl,n,rfl⟩;exact⟨rfl,below_drewN (Below.refl _ _) n⟩
theorem oz (s p:List UInt8)(w:Lo) :
 LI J1 129 #[IF ⟨s.toArray⟩,IF ⟨p.toArray⟩] w λe w'=>e=I3 (Lw #[IF ⟨(Jx s p).toArray⟩,IH (K0 s p)])/\w'=w:=strings_CutPrefix ⟨s.toArray⟩ ⟨p.toArray⟩ w
theorem xS (s:List UInt8)(w:Lo)(hs:s.length<=9223372036854775807):LI J1 130 #[IF ⟨s.toArray⟩] w λe w'=>e=I3 (IH (aW s))/\w'=w :=
 zh ⟨s.toArray⟩ w (by rw[Ly];simpa using hs)
theorem oP (l p:List UInt8):(Kf l p).1.length<=l.length/\(Kf l p).2.1.length<=l.length:=by
 unfold Kf;split
 ·simp;omega
 ·simp
structure Tb (w x:Lo):Prop where
 b:Below w.heap.size w x
 c0:x.cell? ⟨w.heap.size,0,IR⟩=Lq (K2 Ln 0)
 c1:x.cell? ⟨w.heap.size,1,IR⟩=Lq (IF ⟨#[]⟩)
 c2:x.cell? ⟨w.heap.size,2,IR⟩=Lq (K2 Ln 0)
 f0:x.frozen? ⟨w.heap.size,0,IR⟩=J0
 f1:x.frozen? ⟨w.heap.size,1,IR⟩=J0
 f2:x.frozen? ⟨w.heap.size,2,IR⟩=J0
 lt:w.heap.size<x.heap.size
theorem Tb.made (w:Lo):Tb w (w.alloc (L3 #[K2 Ln 0,IF ⟨#[]⟩,K2 Ln 0] 68)) :=
 ⟨(Below.refl _ _).alloc (ID _) _,by simp,by simp,by simp,by simp,by simp,by simp,by simp⟩
theorem Tb.below (h:Tb w x)(hb:Below x.heap.size x y):Tb w y:=by
 have lt:=h.lt;have k:=hb.size;exact⟨h.b.trans (hb.mono (by omega)),(hb.cell (p:=⟨_,0,IR⟩) lt).trans h.c0,(hb.cell (p:=⟨_,1,IR⟩) lt).trans h.c1,(hb.cell (p:=⟨_,2,IR⟩) lt).trans h.c2,(hb.frozen (p:=⟨_,0,IR⟩) lt).trans h.f0,(hb.frozen (p:=⟨_,1,IR⟩) lt).trans h.f1,(hb.frozen (p:=⟨_,2,IR⟩) lt).trans h.f2,by omega⟩
theorem nk (l:List UInt8)(w:Lo)(hM:bu w)(hl:l.length<=4000000000):LI J1 83 #[IF ⟨l.toArray⟩] w (ng (bM l) w):=by
 have tb:=Tb.made w;have Aa:=LN l [47];go_enter func83,ntmps83;go_wp2_with fail;refine(oz l [47] _).mono ?_;rintro e w1 ⟨rfl,A6⟩;rw[<-A6] at tb;clear A6;cases hp:K0 l [47] with
 | false =>(have HN:Hid (bM l=IR):=by show _=_;unfold bM;rw[hp];rfl);obtain⟨q1,q2,q3,q4,q5,q6,q7,q8⟩:=tb;clear hp;go_wp2;exact Kx (v:=Lw #[LS #[K2 Ln 0,IF ⟨#[]⟩,K2 Ln 0],IH J0]) (by simp[results,LL,go_sem,q2,q3,q4]) rfl (fj 0 0 ⟨#[]⟩ (((q1.setCell (ID _) _).setCell (ID _) _).setCell (ID _) _) HN.out)
 | true =>
   (have HT:Hid (bM l=pL (Jx l [47])):=by show _=_;unfold bM;rw[hp];rfl);obtain⟨p,A5⟩:=IG (Jx l [47]);rw[A5] at Aa HT ⊢;clear hp A5;by_cases hp0:p=[]
   ·subst hp0;obtain⟨q1,q2,q3,q4,q5,q6,q7,q8⟩:=tb;go_wp2;exact Kx (v:=Lw #[LS #[K2 Ln 0,IF ⟨#[]⟩,K2 Ln 0],IH LO]) (by simp[results,LL,go_sem,q2,q3,q4]) rfl (fp ⟨0,[],0⟩ (((q1.setCell (ID _) _).setCell (ID _) _).setCell (ID _) _) (HT.out.trans rfl))
   ·(have A9:(p==[])=J0:=by simpa using hp0);(have A0:Hid (bM l=if K0 p eZ then(if aW (Jx p eZ) then Lq ⟨0,Jx p eZ,0⟩ else IR) else if aW (Kf p [63]).1 then(if(Kf p [63]).2.2 then gd (Kf p [63]).1 (Kf p [63]).2.1 else Lq ⟨1,(Kf p [63]).1,0⟩) else IR):=by show _=_;rw[HT.out,pL,if_neg hp0]);clear hp0 HT;go_wp2_with fail;refine(oz p eZ _).mono ?_;rintro e w2 ⟨rfl,rfl⟩;have A4:=LN p eZ;cases ha:K0 p eZ with
    | true =>
      rw[ha,if_pos rfl] at A0;obtain⟨k,hk⟩:=IG (Jx p eZ);rw[hk] at A4 A0 ⊢;clear ha hk;go_wp2_with fail;refine(xS k _ (by omega)).mono ?_;rintro e w3 ⟨rfl,rfl⟩;obtain⟨q1,q2,q3,q4,q5,q6,q7,q8⟩:=tb;cases hok:aW k with
      | true =>rw[hok,if_pos rfl] at A0;clear hok;go_wp2;exact Kx (v:=Lw #[LS #[K2 Ln 0,IF ⟨k.toArray⟩,K2 Ln 0],IH LO]) (by simp[results,LL,go_sem,q2,q3,q4]) rfl (fp ⟨0,k,0⟩ (((q1.setCell (ID _) _).setCell (ID _) _).setCell (ID _) _) A0.out)
      | false =>rw[hok,if_neg (by decide)] at A0;clear hok;go_wp2;exact Kx (v:=Lw #[LS #[K2 Ln 0,IF ⟨k.toArray⟩,K2 Ln 0],IH J0]) (by simp[results,LL,go_sem,q2,q3,q4]) rfl (fj 0 0 ⟨k.toArray⟩ (((q1.setCell (ID _) _).setCell (ID _) _).setCell (ID _) _) A0.out)
    | false =>
      rw[ha,if_neg (by decide)] at A0;have A7:=oP p [63];clear ha A4;go_wp2_with fail;refine(kB p [63] _ (hM.below tb.b) (by omega)).mono ?_;rintro e w3 ⟨rfl,A8⟩;have A1:=tb.below A8;obtain⟨c,hc⟩:=IG (Kf p [63]);rw[hc] at A7 A0 ⊢;obtain⟨k,q,b⟩:=c;simp only at A7 A0 ⊢;clear A8 tb hc;go_wp2_with fail;refine(xS k _ (by omega)).mono ?_;rintro e w4 ⟨rfl,rfl⟩;cases hok:aW k with
      | false =>rw[hok,if_neg (by decide)] at A0;obtain⟨q1,q2,q3,q4,q5,q6,q7,q8⟩:=A1;clear hok;go_wp2;exact Kx (v:=Lw #[LS #[K2 Ln 0,IF ⟨#[]⟩,K2 Ln 0],IH J0]) (by simp[results,LL,go_sem,q2,q3,q4]) rfl (fj 0 0 ⟨#[]⟩ (((q1.setCell (ID _) _).setCell (ID _) _).setCell (ID _) _) A0.out)
      | true =>
        rw[hok,if_pos rfl] at A0;clear hok;cases b with
        | false =>rw[if_neg (by decide)] at A0;obtain⟨q1,q2,q3,q4,q5,q6,q7,q8⟩:=A1;go_wp2;exact Kx (v:=Lw #[LS #[K2 Ln 1,IF ⟨k.toArray⟩,K2 Ln 0],IH LO]) (by simp[results,LL,go_sem,q2,q3,q4]) rfl (fp ⟨1,k,0⟩ (((q1.setCell (ID _) _).setCell (ID _) _).setCell (ID _) _) A0.out)
        | true =>
          rw[if_pos rfl] at A0;go_wp2_with fail;refine(pf k q _ (by omega)).mono ?_;rintro e w5 ⟨A3,⟨t,ht,rfl⟩|⟨hn,k5,n5,s5,rfl⟩⟩
          ·obtain⟨q1,q2,q3,q4,q5,q6,q7,q8⟩:=A1.below A3;rw[ht] at A0;obtain⟨tk,A2,tn⟩:=t;simp only[QN];clear ht A3 A1;go_wp2;exact Kx (v:=Lw #[LS #[K2 Ln (tk:Int),IF ⟨A2.toArray⟩,K2 Ln (tn:Int)],IH LO]) (by simp[results,LL,go_sem,q2,q3,q4]) rfl (fp ⟨tk,A2,tn⟩ (((q1.setCell (ID _) _).setCell (ID _) _).setCell (ID _) _) A0.out)
          ·obtain⟨q1,q2,q3,q4,q5,q6,q7,q8⟩:=A1.below A3;rw[hn] at A0;clear hn A3 A1;go_wp2;exact Kx (v:=Lw #[LS #[K2 Ln k5,IF s5,K2 Ln n5],IH J0]) (by simp[results,LL,go_sem,q2,q3,q4]) rfl (fj k5 n5 s5 (((q1.setCell (ID _) _).setCell (ID _) _).setCell (ID _) _) A0.out)
structure I7 where
 hm:Bool
 am:Bool
 lm:L2
 hn:Bool
 an:Bool
 ln:L2
 hs:Bool
 si:Int
 hu:Bool
 ul:Int
 s0:Bool
 s1:Bool
 s2:Bool
 s3:Bool
def I7.cell (c:I7):Nat->L2
 | 1=>IH c.hm
 | 2=>IH c.am
 | 3=>c.lm
 | 4=>IH c.hn
 | 5=>IH c.an
 | 6=>c.ln
 | 7=>IH c.hs
 | 8=>K2 Ln c.si
 | 9=>IH c.hu
 | 10=>K2 Ln c.ul
 | 12=>IF ⟨#[]⟩
 | 13=>K2 Ln 0
 | 14=>IH c.s0
 | 15=>IH c.s1
 | 16=>IH c.s2
 | 17=>IH c.s3
 | _=>IH J0
structure Cm (x:Lo)(g:Nat)(c:I7):Prop where
 c:∀i,i<18->x.cell? ⟨g,i,IR⟩=Lq (c.cell i)
 f:∀i,i<18->x.frozen? ⟨g,i,IR⟩=J0
theorem Cm.lt {c:I7}(h:Cm x g c):g<x.heap.size:=World.block_lt_of_cell? _ _ (h.c 0 (by omega))
theorem Cm.below {c:I7}(h:Cm x g c)(hb:Below x.heap.size x y):Cm y g c :=
 ⟨λi hi=>(hb.cell (p:=⟨g,i,IR⟩) h.lt).trans (h.c i hi),λi hi=>(hb.frozen (p:=⟨g,i,IR⟩) h.lt).trans (h.f i hi)⟩
theorem Cm.set {c d:I7}(h:Cm x g c)(i:Nat)(v:L2)(hi:i<18)(hv:d.cell i=v)(hd:∀j,j<18->j≠i->d.cell j=c.cell j):Cm (x.setCell ⟨g,i,IR⟩ v) g d:=by
 refine⟨λj hj=>?_,λj hj=>?_⟩
 ·by_cases e:j=i
  ·subst e;rw[World.cell?_setCell_same _ _ _ (h.c j hj),hv]
  ·rw[World.cell?_setCell_other _ _ _ _ (by intro q;injection q;omega),h.c j hj,hd j hj e]
 ·rw[World.frozen?_setCell];exact h.f j hj
theorem Oy {j:Nat}(h:j<18):j=0\/j=1\/j=2\/j=3\/j=4\/j=5\/j=6\/j=7\/j=8\/j=9\/j=10\/j=11\/j=12\/j=13\/j=14\/j=15\/j=16\/j=17:=by omega
theorem Ea (c:I7)(x:Bool)(j:Nat)(hj:j<18)(hne:j≠1):({ c with hm:=x }:I7).cell j=c.cell j:=by
 rcases(Oy hj) with rfl|rfl|rfl|rfl|rfl|rfl|rfl|rfl|rfl|rfl|rfl|rfl|rfl|rfl|rfl|rfl|rfl|rfl<;>first|rfl|exact absurd rfl hne
theorem Er (c:I7)(x:Bool)(j:Nat)(hj:j<18)(hne:j≠2):({ c with am:=x }:I7).cell j=c.cell j:=by
 rcases(Oy hj) with rfl|rfl|rfl|rfl|rfl|rfl|rfl|rfl|rfl|rfl|rfl|rfl|rfl|rfl|rfl|rfl|rfl|rfl<;>first|rfl|exact absurd rfl hne
theorem Ei (c:I7)(x:L2)(j:Nat)(hj:j<18)(hne:j≠3):({ c with lm:=x }:I7).cell j=c.cell j:=by
 rcases(Oy hj) with rfl|rfl|rfl|rfl|rfl|rfl|rfl|rfl|rfl|rfl|rfl|rfl|rfl|rfl|rfl|rfl|rfl|rfl<;>first|rfl|exact absurd rfl hne
theorem Da (c:I7)(x:Bool)(j:Nat)(hj:j<18)(hne:j≠4):({ c with hn:=x }:I7).cell j=c.cell j:=by
 rcases(Oy hj) with rfl|rfl|rfl|rfl|rfl|rfl|rfl|rfl|rfl|rfl|rfl|rfl|rfl|rfl|rfl|rfl|rfl|rfl<;>first|rfl|exact absurd rfl hne
theorem Di (c:I7)(x:Bool)(j:Nat)(hj:j<18)(hne:j≠5):({ c with an:=x }:I7).cell j=c.cell j:=by
 rcases(Oy hj) with rfl|rfl|rfl|rfl|rfl|rfl|rfl|rfl|rfl|rfl|rfl|rfl|rfl|rfl|rfl|rfl|rfl|rfl<;>first|rfl|exact absurd rfl hne
theorem EU (c:I7)(x:L2)(j:Nat)(hj:j<18)(hne:j≠6):({ c with ln:=x }:I7).cell j=c.cell j:=by
 rcases(Oy hj) with rfl|rfl|rfl|rfl|rfl|rfl|rfl|rfl|rfl|rfl|rfl|rfl|rfl|rfl|rfl|rfl|rfl|rfl<;>first|rfl|exact absurd rfl hne
theorem C7 (c:I7)(x:Bool)(j:Nat)(hj:j<18)(hne:j≠14):({ c with s0:=x }:I7).cell j=c.cell j:=by
 rcases(Oy hj) with rfl|rfl|rfl|rfl|rfl|rfl|rfl|rfl|rfl|rfl|rfl|rfl|rfl|rfl|rfl|rfl|rfl|rfl<;>first|rfl|exact absurd rfl hne
theorem Dn (c:I7)(x:Bool)(j:Nat)(hj:j<18)(hne:j≠15):({ c with s1:=x }:I7).cell j=c.cell j:=by
 rcases(Oy hj) with rfl|rfl|rfl|rfl|rfl|rfl|rfl|rfl|rfl|rfl|rfl|rfl|rfl|rfl|rfl|rfl|rfl|rfl<;>first|rfl|exact absurd rfl hne
structure Kp (g:Nat)(w x:Lo):Prop where
 b:Below g w x
 o:∀k,k≠g->k<w.heap.size->x.heap[k]?=w.heap[k]?
theorem Kp.trans (h:Kp g w x)(h':Kp g x y):Kp g w y :=
 ⟨h.b.trans h'.b,λk hk hl=>(h'.o k hk (Nat.lt_of_lt_of_le hl h.b.size)).trans (h.o k hk hl)⟩
theorem Kp.of_below (hg:g<=w.heap.size)(h:Below w.heap.size w x):Kp g w x:=⟨h.mono hg,λk _ hl=>h.block k hl⟩
theorem Kp.set (h:Kp g w x)(i:Nat)(v:L2):Kp g w (x.setCell ⟨g,i,IR⟩ v) :=
 ⟨h.b.setCell (ID _) _,λk hk hl=>by
   rw[<-h.o k hk hl]
   exact Deep.blk_setCell_other x ⟨g,i,IR⟩ v k (by show k≠g;omega)⟩
theorem FP (g:Nat)(c:I7)(w:Lo)(h:Cm w g c):LI J1 225 #[L4 (Lq ⟨g,0,IR⟩),K2 Ln 0] w λe w'=>e=I3 (IH (!c.s0))/\w'=w.setCell ⟨g,14,IR⟩ (IH LO):=by
 have c1:=h.c 14 (by omega);have f1:=h.f 14 (by omega);simp only[I7.cell] at c1;go_enter func225,ntmps225;go_wp2;go_ret;exact⟨rfl,rfl⟩
theorem Fl (g:Nat)(c:I7)(w:Lo)(h:Cm w g c):LI J1 225 #[L4 (Lq ⟨g,0,IR⟩),K2 Ln 1] w λe w'=>e=I3 (IH (!c.s1))/\w'=w.setCell ⟨g,15,IR⟩ (IH LO):=by
 have c1:=h.c 15 (by omega);have f1:=h.f 15 (by omega);simp only[I7.cell] at c1;go_enter func225,ntmps225;go_wp2;go_ret;exact⟨rfl,rfl⟩
def Bd (l:List UInt8):Bool×Bool×eC :=
 if l=[42] then(LO,LO,[]) else match eE (l.length+1) l with
  | none=>(J0,J0,[])
  | some a=>(J0,LO,a)
def bI (value:List UInt8):Bool×Bool×eC:=Bd (LR value [32,9])
theorem sE (l:List UInt8):(LR l [32,9]).length<=l.length:=by
 unfold LR Lib.trimLeftS Lib.trimRightS;have h1:=(List.dropWhile_suffix (λc=>[32,9].contains c) (l:=(l.reverse.dropWhile λc=>[32,9].contains c).reverse)).length_le;have h2:=(List.dropWhile_suffix (λc=>[32,9].contains c) (l:=l.reverse)).length_le;rw[List.length_reverse] at h1 h2;omega
theorem Co (value:List UInt8)(w:Lo)(hM:bu w)(hs:value.length<=67108864) :
 LI J1 224 #[IF ⟨value.toArray⟩] w λe w'=>Below w.heap.size w w'/\∃o cp,e=I3 (Lw #[LS #[IH (bI value).1,Ks o (bI value).2.2.length cp],IH (bI value).2.1])/\w'.ownsRow (w.heap.size+1) 273 2 (Ks o (bI value).2.2.length cp) (bI value).2.2.length (cO (bI value).2.2):=by
 have hz:(⟨value.toArray⟩:ByteArray).size=value.length:=by rw[Ly]
 refine(Aw ⟨value.toArray⟩ (LR value [32,9]) w hM rfl (by rw[hz];exact hs) (by rw[hz];exact sE _)).mono ?_;unfold bI Bd;generalize LR value [32,9]=l;rintro e w' ⟨hb,⟨hl,rfl⟩|⟨hl,⟨hn,rfl⟩|⟨a,v,ha,rfl,ho⟩⟩⟩
 ·rw[if_pos hl];exact⟨hb,IR,0,rfl,rfl,L5 ⟨rfl,rfl⟩⟩
 ·rw[if_neg hl,hn];exact⟨hb,IR,0,rfl,rfl,L5 ⟨rfl,rfl⟩⟩
 ·rw[if_neg hl,ha];rcases ho.2 with⟨rfl,h0⟩|⟨g,A0,A1,rfl,r⟩
  ·have:a=[]:=List.eq_nil_of_length_eq_zero h0;subst this;exact⟨hb,IR,0,rfl,ho⟩
  ·exact⟨hb,Lq ⟨g,0,IR⟩,A0,rfl,ho⟩
def ji:List UInt8:=[105,102,45,109,97,116,99,104]
def lL:List UInt8:=[105,102,45,110,111,110,101,45,109,97,116,99,104]
def mS:List UInt8:=[105,102,45,109,111,100,105,102,105,101,100,45,115,105,110,99,101]
def kA:List UInt8:=[105,102,45,117,110,109,111,100,105,102,105,101,100,45,115,105,110,99,101]
theorem lU (name:List UInt8)(w:Lo)(hs:name.length<=140737488355328)(ha:∀(j:Nat) (b:UInt8),name[j]?=Lq b->b.toNat<128) :
 LI J1 223 #[IF ⟨name.toArray⟩] w λe w'=>e=I3 (IF ⟨(K1 name).toArray⟩)/\Below w.heap.size w w' :=
 strings_ToLower_ascii ⟨name.toArray⟩ w (by rw[Ly];simpa using hs) (by simpa using ha)
theorem gD {base':Nat}{n:Nat}(h:w.ownsRow base e size v n xs)(hb:base'<=base):w.ownsRow base' e size v n xs :=
 ⟨h.1,h.2.imp id λ⟨g,cap,cur,hv,hg,r⟩=>⟨g,cap,cur,hv,Nat.le_trans hb hg,r⟩⟩
theorem uZ (g:Nat)(c:I7)(name value:List UInt8)(w:Lo)(hM:bu w)(hC:Cm w g c)(hn:name.length<=140737488355328)(ha:∀(j:Nat) (b:UInt8),name[j]?=Lq b->b.toNat<128)(hl:K1 name=ji)(hv:value.length<=67108864) :
 LI J1 181 #[L4 (Lq ⟨g,0,IR⟩),IF ⟨name.toArray⟩,IF ⟨value.toArray⟩] w λe w'=>e=I3 (IH (!c.s0&&(bI value).2.1))/\Kp g w w'/\∃o cp,
  Cm w' g { c with hm:=(bI value).2.1,am:=(bI value).1,lm:=Ks o (bI value).2.2.length cp,s0:=LO }/\w'.ownsRow (w.heap.size+1) 273 2 (Ks o (bI value).2.2.length cp) (bI value).2.2.length (cO (bI value).2.2):=by
 have Ac:=hC.lt;go_enter func181,ntmps181;go_wp2_with fail;refine(lU name _ hn ha).mono ?_;rintro e w1 ⟨rfl,A3⟩;rw[hl];unfold ji;have k1:=Kp.of_below (Lz Ac) A3;have A6:=hC.below A3;have Aa:=hM.below A3;have Ad:=A3.size;clear hl ha A3;go_wp2_with fail;refine(Co value _ Aa hv).mono ?_;obtain⟨⟨A1,A0,a⟩,hT⟩:∃t,bI value=t:=⟨_,rfl⟩;rw[hT];simp only;rintro e w2 ⟨A7,o,cp,rfl,Ab⟩;have k2:=k1.trans (Kp.of_below (Lz A6.lt) A7);have A2:=A6.below A7;have c1:=A2.c 1 (by omega);have c2:=A2.c 2 (by omega);have c3:=A2.c 3 (by omega);have f1:=A2.f 1 (by omega);have f2:=A2.f 2 (by omega);have f3:=A2.f 3 (by omega);simp only[I7.cell] at c1 c2 c3;clear A7 k1 A6 Aa;have A5:Cm (((w2.setCell ⟨g,2,IR⟩ (IH A1)).setCell ⟨g,3,IR⟩ (Ks o a.length cp)).setCell ⟨g,1,IR⟩ (IH A0)) g { c with hm:=A0,am:=A1,lm:=Ks o a.length cp }:=by have s1:Cm (w2.setCell ⟨g,2,IR⟩ (IH A1)) g { c with am:=A1 }:=A2.set 2 _ (by omega) rfl (Er c A1);have s2:Cm ((w2.setCell ⟨g,2,IR⟩ (IH A1)).setCell ⟨g,3,IR⟩ (Ks o a.length cp)) g { c with am:=A1,lm:=Ks o a.length cp }:=s1.set 3 _ (by omega) rfl (Ei { c with am:=A1 } (Ks o a.length cp));exact s2.set 1 _ (by omega) rfl (Ea { c with am:=A1,lm:=Ks o a.length cp } A0)
 have k3:=((k2.set 2 (IH A1)).set 3 (Ks o a.length cp)).set 1 (IH A0);go_wp2_with fail;refine(FP g _ _ A5).mono ?_;rintro e w3 ⟨rfl,A4⟩;have A8:Cm w3 g { c with hm:=A0,am:=A1,lm:=Ks o a.length cp,s0:=LO }:=by rw[A4];exact A5.set 14 _ (by omega) rfl (C7 { c with hm:=A0,am:=A1,lm:=Ks o a.length cp } LO)
 have k4:Kp g w w3:=by rw[A4];exact k3.set 14 _
 have A9:w3.ownsRow (w.heap.size+1) 273 2 (Ks o a.length cp) a.length (cO a):=by rw[A4];exact gD (dp (dp (dp (dp Ab (by show g<_;omega)) (by show g<_;omega)) (by show g<_;omega)) (by show g<_;omega)) (by omega)
 have c4:=A8.c 1 (by omega);simp only[I7.cell] at c4;clear A4 A5 k3 A2 k2 Ab c1 c2 c3 f1 f2 f3;cases hs0:c.s0 with
 | true =>go_wp2;go_ret;rw[hT];exact⟨bl (by rw[hs0];rfl),k4,o,cp,A8,A9⟩
 | false =>go_wp2;go_ret;rw[hT];exact⟨bl (by rw[hs0];simp),k4,o,cp,A8,A9⟩
theorem yj (g:Nat)(c:I7)(name value:List UInt8)(w:Lo)(hM:bu w)(hC:Cm w g c)(hn:name.length<=140737488355328)(ha:∀(j:Nat) (b:UInt8),name[j]?=Lq b->b.toNat<128)(hl:K1 name=lL)(hv:value.length<=67108864) :
 LI J1 181 #[L4 (Lq ⟨g,0,IR⟩),IF ⟨name.toArray⟩,IF ⟨value.toArray⟩] w λe w'=>e=I3 (IH (!c.s1&&(bI value).2.1))/\Kp g w w'/\∃o cp,
  Cm w' g { c with hn:=(bI value).2.1,an:=(bI value).1,ln:=Ks o (bI value).2.2.length cp,s1:=LO }/\w'.ownsRow (w.heap.size+1) 273 2 (Ks o (bI value).2.2.length cp) (bI value).2.2.length (cO (bI value).2.2):=by
 have Ac:=hC.lt;go_enter func181,ntmps181;go_wp2_with fail;refine(lU name _ hn ha).mono ?_;rintro e w1 ⟨rfl,A3⟩;rw[hl];unfold lL;have k1:=Kp.of_below (Lz Ac) A3;have A6:=hC.below A3;have Aa:=hM.below A3;have Ad:=A3.size;clear hl ha A3;go_wp2_with fail;refine(Co value _ Aa hv).mono ?_;obtain⟨⟨A1,A0,a⟩,hT⟩:∃t,bI value=t:=⟨_,rfl⟩;rw[hT];simp only;rintro e w2 ⟨A7,o,cp,rfl,Ab⟩;have k2:=k1.trans (Kp.of_below (Lz A6.lt) A7);have A2:=A6.below A7;have c1:=A2.c 4 (by omega);have c2:=A2.c 5 (by omega);have c3:=A2.c 6 (by omega);have f1:=A2.f 4 (by omega);have f2:=A2.f 5 (by omega);have f3:=A2.f 6 (by omega);simp only[I7.cell] at c1 c2 c3;clear A7 k1 A6 Aa;have A5:Cm (((w2.setCell ⟨g,5,IR⟩ (IH A1)).setCell ⟨g,6,IR⟩ (Ks o a.length cp)).setCell ⟨g,4,IR⟩ (IH A0)) g { c with hn:=A0,an:=A1,ln:=Ks o a.length cp }:=by have s1:Cm (w2.setCell ⟨g,5,IR⟩ (IH A1)) g { c with an:=A1 }:=A2.set 5 _ (by omega) rfl (Di c A1);have s2:Cm ((w2.setCell ⟨g,5,IR⟩ (IH A1)).setCell ⟨g,6,IR⟩ (Ks o a.length cp)) g { c with an:=A1,ln:=Ks o a.length cp }:=s1.set 6 _ (by omega) rfl (EU { c with an:=A1 } (Ks o a.length cp));exact s2.set 4 _ (by omega) rfl (Da { c with an:=A1,ln:=Ks o a.length cp } A0)
 have k3:=((k2.set 5 (IH A1)).set 6 (Ks o a.length cp)).set 4 (IH A0);go_wp2_with fail;refine(Fl g _ _ A5).mono ?_;rintro e w3 ⟨rfl,A4⟩;have A8:Cm w3 g { c with hn:=A0,an:=A1,ln:=Ks o a.length cp,s1:=LO }:=by rw[A4];exact A5.set 15 _ (by omega) rfl (Dn { c with hn:=A0,an:=A1,ln:=Ks o a.length cp } LO)
 have k4:Kp g w w3:=by rw[A4];exact k3.set 15 _
 have A9:w3.ownsRow (w.heap.size+1) 273 2 (Ks o a.length cp) a.length (cO a):=by rw[A4];exact gD (dp (dp (dp (dp Ab (by show g<_;omega)) (by show g<_;omega)) (by show g<_;omega)) (by show g<_;omega)) (by omega)
 have c4:=A8.c 4 (by omega);simp only[I7.cell] at c4;clear A4 A5 k3 A2 k2 Ab c1 c2 c3 f1 f2 f3;cases hs1:c.s1 with
 | true =>go_wp2;go_ret;rw[hT];exact⟨bl (by rw[hs1];rfl),k4,o,cp,A8,A9⟩
 | false =>go_wp2;go_ret;rw[hT];exact⟨bl (by rw[hs1];simp),k4,o,cp,A8,A9⟩
theorem wY (g:Nat)(name value:List UInt8)(w:Lo)(hn:name.length<=140737488355328)(ha:∀(j:Nat) (b:UInt8),name[j]?=Lq b->b.toNat<128)
 (h1:K1 name≠ji)(h2:K1 name≠lL)(h3:K1 name≠mS)(h4:K1 name≠kA) :
 LI J1 181 #[L4 (Lq ⟨g,0,IR⟩),IF ⟨name.toArray⟩,IF ⟨value.toArray⟩] w λe w'=>e=I3 (IH LO)/\Below w.heap.size w w':=by
 go_enter func181,ntmps181;go_wp2_with fail;refine(lU name _ hn ha).mono ?_;rintro e w1 ⟨rfl,A0⟩;obtain⟨L,hL⟩:=IG (K1 name);rw[hL] at h1 h2 h3 h4 ⊢;unfold ji at h1;unfold lL at h2;unfold mS at h3;unfold kA at h4;have b1:=beq_false_of_ne h1;have b2:=beq_false_of_ne h2;have b3:=beq_false_of_ne h3;have b4:=beq_false_of_ne h4;clear h1 h2 h3 h4 ha;go_wp2;go_ret;exact⟨rfl,A0⟩
theorem GK (d:Int)(h:0<=d):IK.ahead (1970+d/366)<=d:=by unfold IK.ahead IK.MR;omega
theorem AN (y:Int)(h0:1970<=y)(h1:y<=10000):0<=IK.ahead y/\IK.ahead y<=2932897:=by
 have a:=IK.Jp h0;have b:=IK.Jp h1;rw[IK.Kk] at a;rw[IK.JD] at b;exact⟨a,b⟩
theorem Gj (y:Int)(m:Nat)(h:m<=12):0<=IK.J6 y m/\IK.J6 y m<=366:=by
 have a:=IK.Kg y m;have b:=IK.Kh y h;rw[IK.Lp] at b;have c:=IK.Lv y;omega
theorem zJ (d:Int)(w:Lo)(h0:0<=d)(h1:d<=2932896) :
 LI J1 153 #[K2 Ln d] w λe w'=>(∃(y:Int) (m:Nat) (k:Int),IK.Sp d y m k/\e=I3 (Lw #[K2 Ln y,K2 Ln m,K2 Ln (k+1)]))/\w'=w:=by
 have g:=GK d h0;go_enter func153,ntmps153;go_wp2;go_loop [2] (λt=>∃y:Int,1970<=y/\y<=9999/\IK.ahead y<=d/\t=K2 Ln y) (λt=>(10000-intOf t).toNat);case atStart=>exact⟨_,by omega,by omega,g,rfl⟩
 case round =>
  obtain⟨y,A3,A4,A5,rfl⟩:=hrel;have ab:=AN y A3 (by omega);by_cases hc:IK.ahead (y+1)<=d
  ·have hy:y+1<=9999:=by
    by_cases e:y=9999
    ·subst e;have:=IK.JD;rw[show(9999:Int)+1=10000 by rfl] at hc;omega
    ·omega
   go_wp2_with (go_at_call 203;refine(pQ _ _ (by omega) (by omega)).mono ?_;rintro e w' ⟨rfl,rfl⟩);go_round;(case rel=>exact⟨y+1,by omega,by omega,hc,rfl⟩);case measure=>simp[intOf];omega
  ·have A0:=IK.Kj y;have A2:=IK.Lv y;clear g;go_wp2_with (go_at_call 203;refine(pQ _ _ (by omega) (by omega)).mono ?_;rintro e w' ⟨rfl,rfl⟩);go_loop [3,5] (λmo r=>∃m:Nat,m<12/\mo=K2 Ln m/\0<=d-IK.ahead y-IK.J6 y m/\r=K2 Ln (d-IK.ahead y-IK.J6 y m)) (λmo _=>(12-intOf mo).toNat);(case atStart=>exact⟨0,by omega,rfl,by simp[IK.J6];omega,by simp[IK.J6]⟩);case round =>
    obtain⟨m,hm,rfl,hr,rfl⟩:=hrel;have mb:=IK.Mt y m;have cb:=Gj y m (by omega);have cs:Hid (IK.J6 y (m+1)=IK.J6 y m+IK.ml y m):=rfl;by_cases hl:IK.ml y m<=d-IK.ahead y-IK.J6 y m
    ·have A1:m+1<12:=by
      by_cases e:m=11
      ·subst e;have:=IK.Lp y;have A6:IK.J6 y 12=IK.J6 y 11+IK.ml y (11:Nat):=rfl;omega
      ·omega
     clear hc A0 A2;go_wp2_with (go_at_call 204;refine(jD _ _ _ (by omega) (by omega)).mono ?_;rintro e w' ⟨rfl,rfl⟩);go_round;(case rel=>exact⟨m+1,A1,by go_num,by rw[cs.out];omega,by rw[cs.out];go_num⟩);case measure=>simp[intOf];omega
    ·have sp:IK.Sp d y m (d-IK.ahead y-IK.J6 y m):=⟨A3,hm,hr,by omega,by omega⟩;clear hc A0 A2;go_wp2_with (go_at_call 204;refine(jD _ _ _ (by omega) (by omega)).mono ?_;rintro e w' ⟨rfl,rfl⟩);go_ret3;exact⟨⟨y,m,_,sp,rfl⟩,rfl⟩
def Ag:ByteArray:=⟨#[74,97,110,70,101,98,77,97,114,65,112,114,77,97,121,74,117,110,74,117,108,65,117,103,83,101,112,79,99,116,78,111,118,68,101,99]⟩
theorem zb:Ag.data.toList=IK.JR:=rfl
def QC:ByteArray:=⟨#[84,104,117,70,114,105,83,97,116,83,117,110,77,111,110,84,117,101,87,101,100]⟩
theorem AM:QC.data.toList=IK.KR:=rfl
theorem EA (d:Int)(w:Lo)(v:ByteArray)(hv:IK.nm IK.KR (d%7).toNat=v.data.toList) :
 LI J1 154 #[IF QC,K2 Ln (d%7)] w λe w'=>e=I3 (IF v)/\w'=w:=by
 refine(oC QC (d%7) w (by omega) (by have:QC.size=21:=rfl;omega) (by have:QC.size=21:=rfl;omega)).mono ?_;rintro e w' ⟨rfl,rfl⟩;rw[AM,hv,Lib.mk_data];exact⟨rfl,rfl⟩
theorem E0 {α:Type}{l:List α}(h:l.length=3):∃a b c,l=[a,b,c]:=by
 match l,h with
 | [a,b,c],_=>exact⟨a,b,c,rfl⟩
theorem AL (a b:List UInt8):(⟨a.toArray⟩:ByteArray)++⟨b.toArray⟩=⟨(a++b).toArray⟩:=by
 apply ByteArray.ext;simp[ByteArray.data_append]
theorem wQ (n:Int)(D:List UInt8)(hL:D.length=1)(w:Lo)(hI:LI J1 13 #[K2 Ln n] w λe w'=>e=I3 (IF ⟨D.toArray⟩)/\Below w.heap.size w w') :
 LI J1 155 #[K2 Ln n,K2 Ln 2] w λe w'=>e=I3 (IF ⟨(48::D).toArray⟩)/\Below w.heap.size w w':=by
 have HI:=IA hI;clear hI;go_enter func155,ntmps155;go_wp2_with fail;refine Calls.mono HI.out ?_;rintro e w1 ⟨rfl,A0⟩;go_wp2_with fail;rw[show(max (1:Int) 0)=((1:Nat):Int) from rfl];refine(strings_Repeat _ 1 _ (by omega) (by decide)).mono ?_;rintro e w2 ⟨rfl,A1⟩;rw[show Lib.repeatL (ByteArray.mk #[48]).data.toList 1=[48] from by decide];go_wp2;go_ret;refine⟨eM ?_,A0.trans (A1.mono (by have:=A0.size;omega))⟩;exact AL [48] D
theorem mC (n:Int)(wd:Nat)(D:List UInt8)(hL:D.length=wd)(hw:wd<=4)(w:Lo)(hI:LI J1 13 #[K2 Ln n] w λe w'=>e=I3 (IF ⟨D.toArray⟩)/\Below w.heap.size w w') :
 LI J1 155 #[K2 Ln n,K2 Ln wd] w λe w'=>e=I3 (IF ⟨D.toArray⟩)/\Below w.heap.size w w':=by
 have HI:=IA hI;clear hI;go_enter func155,ntmps155;go_wp2_with fail;refine Calls.mono HI.out ?_;rintro e w1 ⟨rfl,A0⟩;go_wp2_with fail;rw[show(0:Int)=((0:Nat):Int) from rfl];refine(strings_Repeat _ 0 _ (by omega) (by decide)).mono ?_;rintro e w2 ⟨rfl,A1⟩;rw[show Lib.repeatL (ByteArray.mk #[48]).data.toList 0=[] from by decide];go_wp2;go_ret;exact⟨eM (AL [] D),A0.trans (A1.mono (by have:=A0.size;omega))⟩
theorem G5 : prog.globalNamed "internal/strconv.uint64pow10" = Lq 0 := by kernel_rfl
structure J8 (w:Lo):Prop where
 tab : Lib.TabIs J1 w "internal/strconv.uint64pow10" .u64 Lib.pow10Tab
 lt:0<w.heap.size
theorem J8.below (h:J8 w)(hb:Below w.heap.size w w'):J8 w' :=
 ⟨var?_below hb G5 h.lt h.tab,by have:=hb.size;have:=h.lt;omega⟩
theorem jO (n:Int)(w:Lo)(h0:0<=n)(h:n<100) :
 LI J1 13 #[K2 Ln n] w λe w'=>e=I3 (IF ⟨(L1 n.toNat).toArray⟩)/\Below w.heap.size w w':=by
 have:=strconv_Itoa_small n.toNat (by omega) w;rw[Int.toNat_of_nonneg h0] at this;refine this.mono ?_;rintro e w' ⟨rfl,rfl⟩;exact⟨rfl,Below.refl _ _⟩
theorem fI (n:Int)(w:Lo)(h0:0<=n)(h:n<100000)(hT:J8 w) :
 LI J1 13 #[K2 Ln n] w λe w'=>e=I3 (IF ⟨(L1 n.toNat).toArray⟩)/\Below w.heap.size w w':=by
 refine(strconv_Itoa n (by omega) (by omega) w hT.tab).mono ?_;rintro e w' ⟨rfl,k,os,rfl⟩;refine⟨eM ?_,Lib.below_grow _ _ (ID _) _ _⟩;unfold Lib.itoa;rw[if_neg (by omega)]
theorem mX (n:Int)(w:Lo)(h0:0<=n)(h:n<100) :
 LI J1 155 #[K2 Ln n,K2 Ln 2] w λe w'=>e=I3 (IF ⟨(IK.two n).toArray⟩)/\Below w.heap.size w w':=by
 have hI:=jO n w h0 h;by_cases hl:n<10
 ·rw[Lib.decDigits_one (by omega)] at hI;refine(wQ n _ rfl w hI).mono ?_;rintro e w' ⟨rfl,hb⟩;refine⟨eM ?_,hb⟩;rw[IK.two,IK.Ld,IK.Ld,show n/10=0 by omega,show n%10=n by omega];rfl
 ·rw[Lib.decDigits_two (by omega) (by omega)] at hI;refine(mC n 2 _ rfl (by omega) w hI).mono ?_;rintro e w' ⟨rfl,hb⟩;refine⟨eM ?_,hb⟩;rw[IK.two,IK.Ld,IK.Ld,show(n/10).toNat=n.toNat/10 by omega,show(n%10).toNat=n.toNat%10 by omega]
theorem BB (n:Int)(h0:1000<=n)(h:n<10000):L1 n.toNat=IK.four n:=by
 rw[L1,dif_neg (by omega),L1,dif_neg (by omega),Lib.decDigits_two (by omega) (by omega),IK.four,IK.Ld,IK.Ld,IK.Ld,IK.Ld,
  show(n/1000).toNat=n.toNat/10/10/10 by omega,show(n/100%10).toNat=n.toNat/10/10%10 by omega,show(n/10%10).toNat=n.toNat/10%10 by omega,show(n%10).toNat=n.toNat%10 by omega]
 rfl
theorem De (n:Int)(w:Lo)(h0:1000<=n)(h:n<10000)(hT:J8 w) :
 LI J1 155 #[K2 Ln n,K2 Ln 4] w λe w'=>e=I3 (IF ⟨(IK.four n).toArray⟩)/\Below w.heap.size w w':=by
 have hI:=fI n w (by omega) (by omega) hT;rw[BB n h0 h] at hI;exact mC n 4 _ rfl (by omega) w hI
theorem Ga (m:Nat)(w:Lo)(h:m<12) :
 LI J1 154 #[IF Ag,K2 Ln (m:Int)] w λe w'=>e=I3 (IF ⟨(IK.nm IK.JR m).toArray⟩)/\w'=w:=by
 have:=oC Ag m w (by omega) (by have:Ag.size=36:=rfl;omega) (by have:Ag.size=36:=rfl;omega);rw[Int.toNat_natCast,zb] at this;exact this
theorem G0 (d:Int)(w:Lo) :
 LI J1 154 #[IF QC,K2 Ln (d%7)] w λe w'=>e=I3 (IF ⟨(IK.nm IK.KR (d%7).toNat).toArray⟩)/\w'=w:=EA d w _ (by simp)
theorem ze (sec:Int)(w:Lo)(h0:0<=sec)(h1:sec<=253402300799)(hT:J8 w) :
 LI J1 107 #[K2 Ln sec] w λe w'=>(∃l,IK.Jh sec l/\e=I3 (IF ⟨l.toArray⟩))/\Below w.heap.size w w':=by
 go_enter func107,ntmps107;go_wp2_with fail;refine(zJ _ _ (by omega) (by omega)).mono ?_;rintro e w1 ⟨⟨y,m,k,sp,rfl⟩,rfl⟩;have hy:=sp.range (by omega);have Ad:=sp.y0;have hm:=sp.m12;have Ab:=sp.k0;have Aa:=sp.k1;have Ac:=IK.Mt y m;obtain⟨c0,c1,c2,hw⟩:=E0 (IK.Mw ⟨(sec/86400%7).toNat,by omega⟩);obtain⟨m0,m1,m2,A1⟩:=E0 (IK.Ll ⟨m,hm⟩);simp only at hw A1;have HF:Hid (IK.fmt (sec/86400) y m k (sec%86400)=[c0,c1,c2]++[44,32]++IK.two (k+1)++[32]++[m0,m1,m2]++[32]++IK.four y++[32]++IK.two (sec%86400/3600)++[58]++IK.two (sec%86400%3600/60)++[58]++IK.two (sec%86400%60)++[32,71,77,84]):=by unfold IK.fmt;rw[hw,A1];rfl
 have HW:=IA hw;have HM:=IA A1;clear hw A1;go_wp2_with fail;refine(G0 _ _).mono ?_;rintro e w1 ⟨rfl,rfl⟩;rw[HW.out];go_wp2_with fail;refine(mX _ _ (by omega) (by omega)).mono ?_;rintro e w2 ⟨rfl,A0⟩;rw[IK.two];go_wp2_with fail;refine(Ga _ _ hm).mono ?_;rintro e w1 ⟨rfl,rfl⟩;rw[HM.out];go_wp2_with fail;refine(De _ _ (by omega) (by omega) (hT.below A0)).mono ?_;rintro e w3 ⟨rfl,A8⟩;rw[IK.four];have A4:=A0.trans (A8.mono A0.size);clear A0 A8;go_wp2_with fail;refine(mX _ _ (by omega) (by omega)).mono ?_;rintro e w4 ⟨rfl,A7⟩;rw[IK.two];have A2:=A4.trans (A7.mono A4.size);clear A4 A7;go_wp2_with fail;refine(mX _ _ (by omega) (by omega)).mono ?_;rintro e w5 ⟨rfl,A6⟩;rw[IK.two];have A3:=A2.trans (A6.mono A2.size);clear A2 A6;go_wp2_with fail;refine(mX _ _ (by omega) (by omega)).mono ?_;rintro e w6 ⟨rfl,A5⟩;rw[IK.two];have A9:=A3.trans (A5.mono A3.size);clear A3 A5;go_wp2;go_ret;refine⟨⟨_,⟨y,m,k,sp,rfl⟩,eM ?_⟩,A9⟩;rw[HF.out,show sec%86400%3600=sec%3600 by omega,show sec%86400%60=sec%60 by omega];simp only[IK.two,IK.four,show sec%60%10=sec%10 by omega];apply ByteArray.ext;simp[ByteArray.data_append]
def pz:Nat->List UInt8->List UInt8
 | 0,D=>D
 | k+1,D=>48::pz k D
noncomputable def E6 (l:List UInt8):Int×Bool:=open Classical in
 if h:∃sec:Int,0<=sec/\sec<=253402300799/\IK.Jh sec l then(Classical.choose h,LO) else(0,J0)
structure I9 where
 m:Option (Bool×eC)
 n:Option (Bool×eC)
 s:Option (Int×Bool)
 u:Option (Int×Bool)
noncomputable def dP (k:I9)(name value:List UInt8):Option I9 :=
 if K1 name=ji then(if !k.m.isSome&&(bI value).2.1 then Lq { k with m:=Lq ((bI value).1,(bI value).2.2) } else IR)
 else if K1 name=lL then(if !k.n.isSome&&(bI value).2.1 then Lq { k with n:=Lq ((bI value).1,(bI value).2.2) } else IR)
 else if K1 name=mS then(if k.s.isSome then IR else Lq { k with s:=Lq (E6 value) })
 else if K1 name=kA then(if k.u.isSome then IR else Lq { k with u:=Lq (E6 value) })
 else Lq k
def Rl (x:Lo)(g:Nat)(h a:Bool)(l:L2)(s:Bool)(o:Option (Bool×eC)):Prop :=
 s=o.isSome/\h=o.isSome/\match o with
  | none=>a=J0/\l=Ks IR 0 0
  | some (b,t)=>a=b/\x.ownsRow (g+1) 273 2 l t.length (cO t)
def OG (h:Bool)(n:Int)(s:Bool)(o:Option (Int×Bool)):Prop :=
 s=o.isSome/\match o with
  | none=>h=J0/\n=0
  | some (d,b)=>h=b/\n=d
structure Rc (x:Lo)(g:Nat)(c:I7)(k:I9):Prop where
 cm:Cm x g c
 m:Rl x g c.hm c.am c.lm c.s0 k.m
 n:Rl x g c.hn c.an c.ln c.s1 k.n
 s:OG c.hs c.si c.s2 k.s
 u:OG c.hu c.ul c.s3 k.u
theorem Rl.kept {s:Bool}{o:Option (Bool×eC)}(r:Rl x g h a l s o)(hk:Kp g x y):Rl y g h a l s o:=by
 obtain⟨r1,r2,r3⟩:=r;refine⟨r1,r2,?_⟩;cases o with
 | none=>exact r3
 | some p =>
   obtain⟨b,t⟩:=p;obtain⟨e,ho⟩:=r3;refine⟨e,ho.1,?_⟩;rcases ho.2 with h0|⟨q,A1,A0,hv,hg,hh,rr⟩
   ·exact L5 h0
   ·have hq:q<x.heap.size:=(gL hh);exact Mb ⟨q,A1,A0,hv,hg,by rw[hk.o q (by omega) hq];exact hh,rr⟩
theorem Ef {k k':I9}{name value:List UInt8}(h:dP k name value=Lq k'):(k'.s=IR->k.s=IR)/\(k'.u=IR->k.u=IR):=by
 unfold dP at h;split at h
 ·split at h<;>cases h;exact⟨id,id⟩
 ·split at h
  ·split at h<;>cases h;exact⟨id,id⟩
  ·split at h
   ·split at h<;>cases h;exact⟨λe=>by simp at e,id⟩
   ·split at h
    ·split at h<;>cases h;exact⟨id,λe=>by simp at e⟩
    ·cases h;exact⟨id,id⟩
theorem Cz (g:Nat)(c:I7)(k:I9)(name value:List UInt8)(w:Lo)(hM:bu w)(hR:Rc w g c k)(hn:name.length<=140737488355328)(ha:∀(j:Nat) (b:UInt8),name[j]?=Lq b->b.toNat<128)(hv:value.length<=67108864)(hok:∃k',dP k name value=Lq k'/\k'.s=IR/\k'.u=IR) :
 LI J1 181 #[L4 (Lq ⟨g,0,IR⟩),IF ⟨name.toArray⟩,IF ⟨value.toArray⟩] w λe w'=>Kp g w w'/\∃k' c',dP k name value=Lq k'/\e=I3 (IH LO)/\Rc w' g c' k':=by
 obtain⟨kx,hx,A2,A1⟩:=hok;have A0:=hR.cm.lt;by_cases h1:K1 name=ji
 ·refine(uZ g c name value w hM hR.cm hn ha h1 hv).mono ?_;rintro e w' ⟨rfl,hk,o,cp,hc,ho⟩;refine⟨hk,?_⟩;have hs:=hR.m.1;unfold dP;rw[if_pos h1,hs];cases hb:(!k.m.isSome&&(bI value).2.1) with
  | true =>(have hf:(bI value).2.1=LO:=by simp at hb;exact hb.2);refine⟨_,_,rfl,rfl,hc,⟨rfl,hf,rfl,gD ho (by omega)⟩,hR.n.kept hk,hR.s,hR.u⟩
  | false =>unfold dP at hx;rw[if_pos h1,hb] at hx;cases hx
 ·by_cases h2:K1 name=lL
  ·refine(yj g c name value w hM hR.cm hn ha h2 hv).mono ?_;rintro e w' ⟨rfl,hk,o,cp,hc,ho⟩;refine⟨hk,?_⟩;have hs:=hR.n.1;unfold dP;rw[if_neg h1,if_pos h2,hs];cases hb:(!k.n.isSome&&(bI value).2.1) with
   | true =>(have hf:(bI value).2.1=LO:=by simp at hb;exact hb.2);refine⟨_,_,rfl,rfl,hc,hR.m.kept hk,⟨rfl,hf,rfl,gD ho (by omega)⟩,hR.s,hR.u⟩
   | false =>unfold dP at hx;rw[if_neg h1,if_pos h2,hb] at hx;cases hx
  ·by_cases h3:K1 name=mS
   ·exfalso;unfold dP at hx;rw[if_neg h1,if_neg h2,if_pos h3] at hx;split at hx<;>cases hx;exact absurd A2 (by simp)
   ·by_cases h4:K1 name=kA
    ·exfalso;unfold dP at hx;rw[if_neg h1,if_neg h2,if_neg h3,if_pos h4] at hx;split at hx<;>cases hx;exact absurd A1 (by simp)
    ·refine(wY g name value w hn ha h1 h2 h3 h4).mono ?_;rintro e w' ⟨rfl,hb⟩;have hk:=Kp.of_below (Lz A0) hb;refine⟨hk,k,c,?_,rfl,hR.cm.below hb,hR.m.kept hk,hR.n.kept hk,hR.s,hR.u⟩;unfold dP;rw[if_neg h1,if_neg h2,if_neg h3,if_neg h4]
def cU (c:UInt8):Bool:=c==13||c==10
def uG:Prop:=∀(v:List UInt8) (w:Lo),v.length<=4000->LI J1 180 #[IF ⟨v.toArray⟩,IF ⟨#[13,10]⟩] w λe w'=>e=I3 (IH (v.any cU))/\Below w.heap.size w w'
noncomputable def fe (k:I9)(line:List UInt8):Option I9 :=
 if(Kf line [58]).2.2&&(gi (Kf line [58]).1&&!(Kf line [58]).2.1.any cU) then dP k (Kf line [58]).1 (LR (Kf line [58]).2.1 [32,9]) else IR
theorem vE {l:List UInt8}(h:gi l=LO):∀(j:Nat) (b:UInt8),l[j]?=Lq b->b.toNat<128:=by
 intro j b hb;unfold gi at h;simp only[Bool.and_eq_true] at h;have:=List.all_eq_true.1 h.1 b (List.mem_of_getElem? hb);unfold kI jI lj at this;simp at this;omega
theorem Cu (s:List UInt8)(w:Lo)(hs:s.length<=9223372036854775807):LI J1 179 #[IF ⟨s.toArray⟩] w λe w'=>e=I3 (IH (gi s))/\w'=w :=
 vw ⟨s.toArray⟩ w (by rw[Ly];simpa using hs)
theorem Cp (s:List UInt8)(w:Lo)(hs:s.length<=9223372036854775807):LI J1 182 #[IF ⟨s.toArray⟩,IF ⟨#[32,9]⟩] w λe w'=>e=I3 (IF ⟨(LR s [32,9]).toArray⟩)/\Below w.heap.size w w' :=
 JU ⟨s.toArray⟩ w (by rw[Ly];simpa using hs)
theorem qB (hA:uG)(g:Nat)(c:I7)(k:I9)(line:List UInt8)(w:Lo)(hM:bu w)(hR:Rc w g c k)(hl:line.length<=4000)(hok:∃k',fe k line=Lq k'/\k'.s=IR/\k'.u=IR) :
 LI J1 132 #[L4 (Lq ⟨g,0,IR⟩),IF ⟨line.toArray⟩] w λe w'=>Kp g w w'/\∃k' c',fe k line=Lq k'/\e=I3 (IH LO)/\Rc w' g c' k':=by
 have HN:Hid (fe k line≠IR):=by obtain⟨k',h,_⟩:=hok;show _≠_;rw[h];simp
 have Af:=IA hok;clear hok;have Ad:=hR.cm.lt;have Ac:=oP line [58];have HL:Hid (fe k line=if(Kf line [58]).2.2&&(gi (Kf line [58]).1&&!(Kf line [58]).2.1.any cU) then dP k (Kf line [58]).1 (LR (Kf line [58]).2.1 [32,9]) else IR):=rfl;go_enter func132,ntmps132;go_wp2_with fail;refine(kB line [58] _ hM (by omega)).mono ?_;rintro e w1 ⟨rfl,A5⟩;have k1:=Kp.of_below (Lz Ad) A5;have Aa:=hM.below A5;have A0:Rc w1 g c k:=⟨hR.cm.below A5,hR.m.kept k1,hR.n.kept k1,hR.s,hR.u⟩;obtain⟨⟨nm,v,ok⟩,hc⟩:∃t,Kf line [58]=t:=⟨_,rfl⟩;rw[hc] at Ac HL ⊢;simp only at Ac HL ⊢;clear A5 hR hM hc;cases ok with
 | false=>exact absurd (HL.out.trans rfl) HN.out
 | true =>
   go_wp2_with fail;refine(Cu nm _ (by omega)).mono ?_;rintro e w2 ⟨rfl,rfl⟩;cases hnm:gi nm with
   | false =>rw[hnm] at HL;exact absurd (HL.out.trans rfl) HN.out
   | true =>
     rw[hnm] at HL;have A6:=vE hnm;clear hnm;go_wp2_with fail;refine(hA v _ (by omega)).mono ?_;rintro e w3 ⟨rfl,A2⟩;have k3:=k1.trans (Kp.of_below (Lz A0.cm.lt) A2);have A7:Kp g w2 w3:=Kp.of_below (Lz A0.cm.lt) A2;have A1:Rc w3 g c k:=⟨A0.cm.below A2,A0.m.kept A7,A0.n.kept A7,A0.s,A0.u⟩;have A8:=Aa.below A2;clear A2 A7 A0 Aa;cases hva:v.any cU with
     | true =>rw[hva] at HL;exact absurd (HL.out.trans rfl) HN.out
     | false =>rw[hva] at HL;clear hva;go_wp2_with fail;refine(Cp v _ (by omega)).mono ?_;rintro e w4 ⟨rfl,A4⟩;have Ah:=sE v;have A3:Kp g w3 w4:=Kp.of_below (Lz A1.cm.lt) A4;have k4:=k3.trans A3;have Aj:Rc w4 g c k:=⟨A1.cm.below A4,A1.m.kept A3,A1.n.kept A3,A1.s,A1.u⟩;have Ag:=A8.below A4;obtain⟨tv,A9⟩:=IG (LR v [32,9]);rw[A9] at Ah HL ⊢;clear A4 A3 A1 A8 k3 A9;go_wp2_with fail;(have Ab:∃k',dP k nm tv=Lq k'/\k'.s=IR/\k'.u=IR:=by obtain⟨k',h,hs⟩:=Af.out;exact⟨k',(HL.out.trans rfl).symm.trans h,hs⟩);refine(Cz g c k nm tv _ Ag Aj (by omega) A6 (by omega) Ab).mono ?_;rintro e w5 ⟨Ai,k',c',hf,rfl,Ae⟩;clear Ab;go_wp2;go_ret;exact⟨k4.trans Ai,k',c',HL.out.trans hf,rfl,Ae⟩
theorem Gs {k k':I9}{line:List UInt8}(h:fe k line=Lq k'):(k'.s=IR->k.s=IR)/\(k'.u=IR->k.u=IR):=by
 unfold fe at h;split at h
 ·exact Ef h
 ·cases h
noncomputable def cg:Nat->I9->List UInt8->Option (I9×List UInt8)
 | 0,_,_=>IR
 | f+1,k,t=>if(Kf t [13,10]).2.2 then(if(Kf t [13,10]).1=[] then Lq (k,(Kf t [13,10]).2.1) else match fe k (Kf t [13,10]).1 with
    | none=>IR
    | some k'=>cg f k' (Kf t [13,10]).2.1) else IR
def k0:I9:=⟨IR,IR,IR,IR⟩
def z0:I7:=⟨J0,J0,Ks IR 0 0,J0,J0,Ks IR 0 0,J0,0,J0,0,J0,J0,J0,J0⟩
def FE (c:I7):L2:=LS #[IH J0,IH c.hm,IH c.am,c.lm,IH c.hn,IH c.an,c.ln,IH c.hs,K2 Ln c.si,IH c.hu,K2 Ln c.ul,IH J0,IF ⟨#[]⟩,K2 Ln 0]
theorem CQ (t p:List UInt8)(hp:0<p.length)(h:(Kf t p).2.2=LO):(Kf t p).2.1.length<t.length:=by
 unfold Kf at h ⊢;split at h
 ·rename_i hi;rw[if_pos hi];simp only[List.length_drop];have:0<t.length:=by
   cases t with
   | nil =>
     cases p with
     | nil=>simp at hp
     | cons a b=>simp[Lib.index] at hi
   | cons a b=>simp
  omega
 ·cases h
structure Fs (w x:Lo)(c:I7)(k:I9):Prop where
 b:Below w.heap.size w x
 rc:∀i,i<14->x.cell? ⟨w.heap.size,i,IR⟩=Lq (z0.cell i)
 rf:∀i,i<14->x.frozen? ⟨w.heap.size,i,IR⟩=J0
 r:Rc x (w.heap.size+1) c k
theorem Fs.kept {c c':I7}{k k':I9}(h:Fs w x c k)(hk:Kp (w.heap.size+1) x y)(hr:Rc y (w.heap.size+1) c' k'):Fs w y c' k' :=
 ⟨h.b.trans (hk.b.mono (by omega)),λi hi=>(hk.b.cell (p:=⟨_,i,IR⟩) (Mn _)).trans (h.rc i hi),λi hi=>(hk.b.frozen (p:=⟨_,i,IR⟩) (Mn _)).trans (h.rf i hi),hr⟩
theorem Fs.made (w:Lo):Fs w ((w.alloc (L3 #[IH J0,IH J0,IH J0,Ks IR 0 0,IH J0,IH J0,Ks IR 0 0,IH J0,K2 Ln 0,IH J0,K2 Ln 0,IH J0,IF ⟨#[]⟩,K2 Ln 0] 73)).alloc (L3 #[IH J0,IH J0,IH J0,Ks IR 0 0,IH J0,IH J0,Ks IR 0 0,IH J0,K2 Ln 0,IH J0,K2 Ln 0,IH J0,IF ⟨#[]⟩,K2 Ln 0,IH J0,IH J0,IH J0,IH J0] 225)) z0 k0:=by
 refine⟨((Below.refl _ _).alloc (ID _) _).alloc (by simp) _,λi hi=>?_,λi hi=>?_,⟨λi hi=>?_,λi hi=>?_⟩,⟨rfl,rfl,rfl,rfl⟩,⟨rfl,rfl,rfl,rfl⟩,⟨rfl,rfl,rfl⟩,⟨rfl,rfl,rfl⟩⟩
 ·rcases(by omega:i=0\/i=1\/i=2\/i=3\/i=4\/i=5\/i=6\/i=7\/i=8\/i=9\/i=10\/i=11\/i=12\/i=13) with rfl|rfl|rfl|rfl|rfl|rfl|rfl|rfl|rfl|rfl|rfl|rfl|rfl|rfl<;>simp[z0,I7.cell]
 ·rcases(by omega:i=0\/i=1\/i=2\/i=3\/i=4\/i=5\/i=6\/i=7\/i=8\/i=9\/i=10\/i=11\/i=12\/i=13) with rfl|rfl|rfl|rfl|rfl|rfl|rfl|rfl|rfl|rfl|rfl|rfl|rfl|rfl<;>simp
 ·rcases(by omega:i=0\/i=1\/i=2\/i=3\/i=4\/i=5\/i=6\/i=7\/i=8\/i=9\/i=10\/i=11\/i=12\/i=13\/i=14\/i=15\/i=16\/i=17) with rfl|rfl|rfl|rfl|rfl|rfl|rfl|rfl|rfl|rfl|rfl|rfl|rfl|rfl|rfl|rfl|rfl|rfl<;>simp[z0,I7.cell]
 ·rcases(by omega:i=0\/i=1\/i=2\/i=3\/i=4\/i=5\/i=6\/i=7\/i=8\/i=9\/i=10\/i=11\/i=12\/i=13\/i=14\/i=15\/i=16\/i=17) with rfl|rfl|rfl|rfl|rfl|rfl|rfl|rfl|rfl|rfl|rfl|rfl|rfl|rfl|rfl|rfl|rfl|rfl<;>simp
theorem Rl.slice {s:Bool}{o:Option (Bool×eC)}(r:Rl x g h a l s o):∃b n cp,l=Ks b n cp:=by
 obtain⟨_,_,r3⟩:=r;cases o with
 | none=>exact⟨_,_,_,r3.2⟩
 | some p =>
   obtain⟨b,t⟩:=p;rcases r3.2.2 with⟨e,_⟩|⟨q,A1,A0,e,_⟩
   ·exact⟨_,_,_,e⟩
   ·exact⟨_,_,_,e⟩
theorem Rl.set {b i:Nat}{u:L2}{s:Bool}{o:Option (Bool×eC)}(r:Rl x g h a l s o)(hb:b<g+1):Rl (x.setCell ⟨b,i,IR⟩ u) g h a l s o:=by
 obtain⟨r1,r2,r3⟩:=r;refine⟨r1,r2,?_⟩;cases o with
 | none=>exact r3
 | some p=>exact⟨r3.1,dp r3.2 (by show b<g+1;exact hb)⟩
theorem uA:∀(f:Nat) (k:I9) (t:List UInt8) {kf:I9} {b:List UInt8},cg f k t=Lq (kf,b)->(kf.s=IR->k.s=IR)/\(kf.u=IR->k.u=IR)
 | 0,_,_,_,_,h=>by cases h
 | f+1,k,t,kf,b,h=>by
   unfold cg at h
   split at h
   ·split at h
    ·cases h
     exact⟨id,id⟩
    ·split at h
     ·cases h
     ·rename_i k' hl
      have h1:=uA f k' _ h
      have h2:=Gs hl
      exact⟨λe=>h2.1 (h1.1 e),λe=>h2.2 (h1.2 e)⟩
   ·cases h
theorem nG (hA:uG)(text:List UInt8)(w:Lo)(hM:bu w)(hl:text.length<=4000)(hok:∃k' body,cg (text.length+1) k0 text=Lq (k',body)/\k'.s=IR/\k'.u=IR) :
 LI J1 84 #[IF ⟨text.toArray⟩] w λe w'=>Below w.heap.size w w' /\
  ∃k c body,cg (text.length+1) k0 text=Lq (k,body)/\e=I3 (Lw #[FE c,IF ⟨body.toArray⟩,IH LO])/\Rl w' (w.heap.size+1) c.hm c.am c.lm c.s0 k.m/\Rl w' (w.heap.size+1) c.hn c.an c.ln c.s1 k.n/\OG c.hs c.si c.s2 k.s/\OG c.hu c.ul c.s3 k.u:=by
 have HN:Hid (cg (text.length+1) k0 text≠IR):=by obtain⟨k',b,h,_⟩:=hok;show _≠_;rw[h];simp
 have B7:=IA hok;clear hok;have B4:=Fs.made w;go_enter func84,ntmps84;go_wp2;go_loopw [0] (λtx wr=>∃(t:List UInt8) (f:Nat) (c:I7) (k:I9),tx=IF ⟨t.toArray⟩/\t.length<=4000/\t.length<f/\Hid (cg (text.length+1) k0 text=cg f k t)/\Fs w wr c k) (λtx _=>match tx with|IF b=>b.size|_=>0);case atStart=>exact⟨text,text.length+1,z0,k0,rfl,hl,by omega,rfl,B4⟩
 case round =>
  obtain⟨t,f,c,k,rfl,ht,hf,hx,fs⟩:=hrel;obtain⟨f,rfl⟩:∃f',f=f'+1:=⟨f-1,by omega⟩
  have HX:Hid (cg (text.length+1) k0 text=if(Kf t [13,10]).2.2 then(if(Kf t [13,10]).1=[] then Lq (k,(Kf t [13,10]).2.1) else match fe k (Kf t [13,10]).1 with
   | none=>IR
   | some k'=>cg f k' (Kf t [13,10]).2.1) else IR):=hx.out.trans rfl
  have Au:=oP t [13,10];have A8:=CQ t [13,10] (by decide);clear hx;go_wp2_with fail;refine(kB t [13,10] _ (hM.below fs.b) (by omega)).mono ?_;rintro e w1 ⟨rfl,Ad⟩;have A7:Kp (w.heap.size+1) wr w1:=Kp.of_below (Lz fs.r.cm.lt) Ad;have As:=fs.kept A7 (⟨fs.r.cm.below Ad,fs.r.m.kept A7,fs.r.n.kept A7,fs.r.s,fs.r.u⟩:Rc w1 (w.heap.size+1) c k);clear fs Ad A7;have fs:=As;clear As;obtain⟨⟨A0,A1,ok⟩,hc⟩:∃t',Kf t [13,10]=t':=⟨_,rfl⟩;rw[hc] at Au A8 HX ⊢;simp only at Au A8 HX ⊢;clear hc;cases ok with
  | false=>exact absurd (HX.out.trans rfl) HN.out
  | true =>
    have B3:=A8 rfl;clear A8;rw[if_pos rfl] at HX;by_cases hl0:A0=[]
    ·subst hl0;rw[if_pos rfl] at HX;obtain⟨b1,n1,p1,e1⟩:=fs.r.m.slice;obtain⟨b2,n2,p2,e2⟩:=fs.r.n.slice;have Ah:=fs.rc 0 (by omega);have Be:=fs.rf 0 (by omega);have Aq:=fs.rc 1 (by omega);have Vh:=fs.rf 1 (by omega);have Aj:=fs.rc 2 (by omega);have rf2:=fs.rf 2 (by omega);have At:=fs.rc 3 (by omega);have Vg:=fs.rf 3 (by omega);have Ag:=fs.rc 4 (by omega);have Vf:=fs.rf 4 (by omega);have Ap:=fs.rc 5 (by omega);have TQ:=fs.rf 5 (by omega);have Ar:=fs.rc 6 (by omega);have Ov:=fs.rf 6 (by omega);have Ao:=fs.rc 7 (by omega);have Bh:=fs.rf 7 (by omega);have Ai:=fs.rc 8 (by omega);have Bf:=fs.rf 8 (by omega);have Af:=fs.rc 9 (by omega);have Bg:=fs.rf 9 (by omega);have A5:=fs.rc 10 (by omega);have Bd:=fs.rf 10 (by omega);have A6:=fs.rc 11 (by omega);have Ax:=fs.rf 11 (by omega);have A4:=fs.rc 12 (by omega);have B0:=fs.rf 12 (by omega);have A3:=fs.rc 13 (by omega);have Bb:=fs.rf 13 (by omega);simp only[z0,I7.cell] at Ah Aq Aj At Ag Ap Ar Ao Ai Af A5 A6 A4 A3;have Aw:=fs.r.cm.c 0 (by omega);have Ba:=fs.r.cm.c 1 (by omega);have B6:=fs.r.cm.c 2 (by omega);have Ak:=fs.r.cm.c 3 (by omega);have B2:=fs.r.cm.c 4 (by omega);have B5:=fs.r.cm.c 5 (by omega);have An:=fs.r.cm.c 6 (by omega);have B9:=fs.r.cm.c 7 (by omega);have B1:=fs.r.cm.c 8 (by omega);have Ay:=fs.r.cm.c 9 (by omega);have Ab:=fs.r.cm.c 10 (by omega);have Aa:=fs.r.cm.c 11 (by omega);have Ac:=fs.r.cm.c 12 (by omega);have A9:=fs.r.cm.c 13 (by omega);simp only[I7.cell] at Aw Ba B6 Ak B2 B5 An B9 B1 Ay Ab Aa Ac A9;rw[e1] at Ak;rw[e2] at An;have B8:=IA e1;have Bc:=IA e2;clear e1 e2;go_wp2;exact Kx (v:=Lw #[LS #[IH J0,IH c.hm,IH c.am,Ks b1 n1 p1,IH c.hn,IH c.an,Ks b2 n2 p2,IH c.hs,K2 Ln c.si,IH c.hu,K2 Ln c.ul,IH J0,IF ⟨#[]⟩,K2 Ln 0],IF ⟨A1.toArray⟩,IH LO]) (by simp[results,results84,go_sem,Ah,Aq,Aj,At,Ag,Ap,Ar,Ao,Ai,Af,A5,A6,A4,A3]) rfl
      ⟨((((((((((((((fs.b).setCell (ID _) _).setCell (ID _) _).setCell (ID _) _).setCell (ID _) _).setCell (ID _) _).setCell (ID _) _).setCell (ID _) _).setCell (ID _) _).setCell (ID _) _).setCell (ID _) _).setCell (ID _) _).setCell (ID _) _).setCell (ID _) _).setCell (ID _) _,k,c,A1,HX.out,by unfold FE;rw[B8.out,Bc.out],((((((((((((((fs.r.m).set (by omega)).set (by omega)).set (by omega)).set (by omega)).set (by omega)).set (by omega)).set (by omega)).set (by omega)).set (by omega)).set (by omega)).set (by omega)).set (by omega)).set (by omega)).set (by omega),((((((((((((((fs.r.n).set (by omega)).set (by omega)).set (by omega)).set (by omega)).set (by omega)).set (by omega)).set (by omega)).set (by omega)).set (by omega)).set (by omega)).set (by omega)).set (by omega)).set (by omega)).set (by omega),fs.r.s,fs.r.u⟩
    ·(have Av:(A0==[])=J0:=by simpa using hl0);rw[if_neg hl0] at HX;clear hl0;go_wp2_with fail;have Al:∃k',fe k A0=Lq k'/\k'.s=IR/\k'.u=IR:=by
      obtain⟨kf,bf,h,hs,hu⟩:=B7.out;rw[HX.out] at h;cases A2:fe k A0 with
      | none =>rw[A2] at h;cases h
      | some k' =>rw[A2] at h;have h1:=uA f k' _ h;exact⟨k',rfl,h1.1 hs,h1.2 hu⟩
     refine(qB hA (w.heap.size+1) c k A0 _ (hM.below fs.b) fs.r (by omega) Al).mono ?_;rintro e w2 ⟨Am,k',c',A2,rfl,Ae⟩;have Az:=fs.kept Am Ae;rw[A2] at HX;clear A2 fs Am Ae Al;go_wp2;refine⟨⟨A1,f,c',k',rfl,by omega,?_,HX.out,Az⟩,?_⟩
     ·omega
     ·show(⟨A1.toArray⟩:ByteArray).size<(⟨t.toArray⟩:ByteArray).size;rw[Ly,Ly];simpa using B3
end Go.Proofs.YtmehkneofinmiabGreatDoor

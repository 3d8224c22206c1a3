/-part 1-/
import Derived.Test.YtmehkneofinmiabGreatDoorProg
import Derived.ProofKit
import Derived.WalkSpells
import Derived.WalkLawsBesides
import Derived.Shelf.Small.Wraps
import Derived.Shelf.Strconv.Itoa3
import Derived.Shelf.Strconv.Clone
import Derived.Shelf.Strings.Shaped
import Derived.Shelf.Unicode.Decode
import Derived.Shelf.Strings.Repeat
import Derived.Shelf.Unicode.DecodeLast
import Derived.Shelf.Strings.CaseAny
import Derived.Shelf.Strings.BuilderCap
import Derived.Shelf.Strings.SlTrimAscii
open Go.Proofs.Tryz
open Go.Value renaming string->ID,bool->LI,int->MA,tuple->NO,agg->SD
open Go.Proofs.Tryz renaming prog->IF,underlying3->Jx,underlying9->J0,underlying5->J1,zeroValue3->Kf,zeroValue9->Ks,zeroValue5->Kx,underlying4->K0,zeroValue4->K1,sizeOf3->Ln,underlying251->Lq,underlying0->Lw,sizeOf9->Ly,sizeOf5->Lz,isAgg3->LL,zeroValue251->LN,zeroValue0->LO,sizeOf4->LR,isAgg9->LS,isAgg5->L1,isAgg4->L4,sizeOf251->Mb,sizeOf0->Mn,isAgg251->Mu,isAgg0->MD,underlying95->MT,underlying21->MY,zeroValue95->M1,zeroValue21->Nd,underlying84->NX,zeroValue84->N2,sizeOf95->N4,sizeOf21->N5,underlying169->Of,isAgg95->Ok,underlying20->On,isAgg21->ON,zeroValue20->O2,sizeOf84->Pa,isAgg84->Pu,underlying116->PP,underlying118->Q1,underlying194->Q2,sizeOf20->Rg,underlying127->R0,zeroValue127->R1,sizeOf127->So,isAgg127->Ss
open Option renaming some->IH,none->L5
open Go.Ending renaming returned->IR
open Go.Lib renaming trimPrefix->I3,hasPrefix->Mz,size_eq->Nm,cut->N3,trimPrefix_le->R2,indexByte->Sx
open Go.Shelf renaming Ren->K2
open Go renaming World->Lo,Calls->L2,bodyPost_ret->RK,Value->Sf
open Bool renaming false->L3,eq_iff_iff->Pi,true->PC,and_eq_true->Rr
open Nat renaming le_refl->Mp,zero_le->N1,pow_le_pow_right->RR
open List renaming take_of_length_le->Nx,all_append->N6,getElem_mem->OS,foldl_cons->Se
open Go.IntKind renaming i64->N0
open Go.Proofs renaming intOf->PF
open Go.World renaming cell?->Rd
open Go.Calls renaming mono->RE
set_option maxRecDepth 100000
set_option maxHeartbeats 4000000
namespace Go.Proofs.YtmehkneofinmiabGreatDoor
variable {α:Type}{w:Lo}{v0 v1 v2 v3 v4:Sf}{t:TypeId}{z:Nat×Nat}
theorem gL {a:Array α}{i:Nat}{v:α}(h:a[i]?=IH v):i<a.size:=(Array.getElem?_eq_some_iff.1 h).1
open Go.RowKit
theorem U8 {b:Nat}(h:w.heap[b]?=IH (.cells #[v0,v1] t z)):w.cell? ⟨b,0,L5⟩=IH v0/\w.cell? ⟨b,1,L5⟩=IH v1:=by simp[Rd,h]
theorem LP {b:Nat}(h:w.heap[b]?=IH (.cells #[v0,v1,v2] t z)):w.cell? ⟨b,0,L5⟩=IH v0/\w.cell? ⟨b,1,L5⟩=IH v1/\w.cell? ⟨b,2,L5⟩=IH v2:=by simp[Rd,h]
theorem MM {b:Nat}(h:w.heap[b]?=IH (.cells #[v0,v1,v2,v3] t z)):w.cell? ⟨b,0,L5⟩=IH v0/\w.cell? ⟨b,1,L5⟩=IH v1/\w.cell? ⟨b,2,L5⟩=IH v2/\w.cell? ⟨b,3,L5⟩=IH v3:=by simp[Rd,h]
theorem Ku {b:Nat}(h:w.heap[b]?=IH (.cells #[v0,v1,v2,v3,v4] t z)):w.cell? ⟨b,0,L5⟩=IH v0/\w.cell? ⟨b,1,L5⟩=IH v1/\w.cell? ⟨b,2,L5⟩=IH v2/\w.cell? ⟨b,3,L5⟩=IH v3/\w.cell? ⟨b,4,L5⟩=IH v4:=by simp[Rd,h]
theorem D3 {b:Nat}{v5 v6 v7 v8 v9 v10 v11 v12 v13 v14 v15 v16 v17 v18:Sf}(h:w.heap[b]?=IH (.cells #[v0,v1,v2,v3,v4,v5,v6,v7,v8,v9,v10,v11,v12,v13,v14,v15,v16,v17,v18] t z)):w.cell? ⟨b,0,L5⟩=IH v0/\w.cell? ⟨b,1,L5⟩=IH v1/\w.cell? ⟨b,2,L5⟩=IH v2/\w.cell? ⟨b,3,L5⟩=IH v3/\w.cell? ⟨b,4,L5⟩=IH v4/\w.cell? ⟨b,5,L5⟩=IH v5/\w.cell? ⟨b,6,L5⟩=IH v6/\w.cell? ⟨b,7,L5⟩=IH v7/\w.cell? ⟨b,8,L5⟩=IH v8/\w.cell? ⟨b,9,L5⟩=IH v9/\w.cell? ⟨b,10,L5⟩=IH v10/\w.cell? ⟨b,11,L5⟩=IH v11/\w.cell? ⟨b,12,L5⟩=IH v12/\w.cell? ⟨b,13,L5⟩=IH v13/\w.cell? ⟨b,14,L5⟩=IH v14/\w.cell? ⟨b,15,L5⟩=IH v15/\w.cell? ⟨b,16,L5⟩=IH v16/\w.cell? ⟨b,17,L5⟩=IH v17/\w.cell? ⟨b,18,L5⟩=IH v18:=by simp[Rd,h]
theorem Je {b:Nat}{cs:Array Sf}(h:w.heap[b]?=IH (.cells cs t (0,0)))(i:Nat):w.frozen? ⟨b,i,L5⟩=L3:=by simp[World.frozen?,h]
theorem IG (a:α):∃x,a=x:=⟨a,rfl⟩
theorem exj (a:α):∃x,x=a:=⟨a,rfl⟩
theorem IA {p:Prop}(h:p):Hid p:=h
namespace IK
variable {d k y:Int}{m:Nat}
def KJ (y:Int):Bool:=y%4==0&&(y%100 != 0||y%400==0)
def MR (y:Int):Int:=(y-1)/4-(y-1)/100+(y-1)/400
def ahead (y:Int):Int:=365*(y-1970)+MR y-477
def qU (y:Int):Int:=if KJ y then 366 else 365
def ml (y m:Int):Int:=if m=1 then(if KJ y then 29 else 28) else if m=3\/m=5\/m=8\/m=10 then 30 else 31
def J6 (y:Int):Nat->Int
 | 0=>0
 | m+1=>J6 y m+ml y m
theorem ug (y:Int):KJ y=PC ↔ y%4=0/\(y%100≠0\/y%400=0):=by simp[KJ]
theorem xb (y:Int):(y%4=0/\(y%100≠0\/y%400=0)/\qU y=366)\/(¬ (y%4=0/\(y%100≠0\/y%400=0))/\qU y=365):=by
 unfold qU;by_cases h:KJ y=PC
 ·have:=(ug y).1 h;simp[h,this]
 ·have h':¬ (y%4=0/\(y%100≠0\/y%400=0)):=λk=>h ((ug y).2 k);right;exact⟨h',by simp[h]⟩
theorem Lv (y:Int):365<=qU y/\qU y<=366:=by unfold qU;split<;>omega
theorem Kj (y:Int):ahead (y+1)=ahead y+qU y:=by
 unfold ahead MR;rcases xb y with⟨h1,h2,h3⟩|⟨h1,h3⟩
 ·rw[h3];omega
 ·rw[h3];omega
theorem Kk:ahead 1970=0:=by decide
theorem JD:ahead 10000=2932897:=by decide
theorem Jp {a b:Int}(h:a<=b):ahead a<=ahead b:=by unfold ahead MR;omega
theorem Mt (y m:Int):28<=ml y m/\ml y m<=31:=by unfold ml;repeat' split<;>omega
theorem Lp (y:Int):J6 y 12=qU y:=by
 simp only[J6,ml,qU];by_cases h:KJ y=PC<;>simp[h]
theorem Kh (y:Int){a b:Nat}(h:a<=b):J6 y a<=J6 y b:=by
 induction b with
 | zero=>obtain rfl:a=0:=by omega
         exact Int.le_refl _
 | succ b ih =>
   by_cases e:a=b+1
   ·rw[e];exact Int.le_refl _
   ·have:=ih (by omega);have:=Mt y b;simp only[J6];omega
theorem Kg (y:Int)(a:Nat):0<=J6 y a:=by have:=Kh y (N1 a);simpa [J6] using this
structure Sp (d y:Int)(m:Nat)(k:Int):Prop where
 y0:1970<=y
 m12:m<12
 k0:0<=k
 k1:k<ml y m
 eq:d=ahead y+J6 y m+k
theorem Sp.year (h:Sp d y m k):ahead y<=d/\d<ahead (y+1):=by
 obtain⟨_,hm,h0,h1,rfl⟩:=h;have:=Kg y m;have:=Kh y (show m+1<=12 by omega);rw[Lp] at this;rw[Kj];simp only[J6] at this;omega
theorem Sp.uniq {y':Int}{m':Nat}{k':Int}(h:Sp d y m k)(h':Sp d y' m' k'):y=y'/\m=m'/\k=k':=by
 have a:=h.year;have b:=h'.year;have e:y=y':=by
  rcases Int.lt_trichotomy y y' with l|l|l
  ·have:=Jp (show y+1<=y' by omega);omega
  ·exact l
  ·have:=Jp (show y'+1<=y by omega);omega
 subst e;have e1:=h.eq;have e2:=h'.eq;have k0:=h.k0;have k1:=h.k1;have A0:=h'.k0;have A1:=h'.k1;have em:m=m':=by
  rcases Nat.lt_trichotomy m m' with l|l|l
  ·have:=Kh y (show m+1<=m' by omega);simp only[J6] at this;omega
  ·exact l
  ·have:=Kh y (show m'+1<=m by omega);simp only[J6] at this;omega
 subst em;exact⟨rfl,rfl,by omega⟩
theorem Sp.range (h:Sp d y m k)(h1:d<=2932896):y<=9999:=by
 have:=h.year;by_cases e:y<=9999
 ·exact e
 ·have:=Jp (show(10000:Int)<=y by omega);rw[JD] at this;omega
def Ld (n:Int):UInt8:=UInt8.ofNat (48+n.toNat)
def two (n:Int):List UInt8:=[Ld (n/10),Ld (n%10)]
def four (n:Int):List UInt8:=[Ld (n/1000),Ld (n/100%10),Ld (n/10%10),Ld (n%10)]
def nm (s:List UInt8)(i:Nat):List UInt8:=(s.drop (i*3)).take 3
def KR:List UInt8:=[84,104,117,70,114,105,83,97,116,83,117,110,77,111,110,84,117,101,87,101,100]
def JR:List UInt8:=[74,97,110,70,101,98,77,97,114,65,112,114,77,97,121,74,117,110,74,117,108,65,117,103,83,101,112,79,99,116,78,111,118,68,101,99]
def fmt (d y:Int)(m:Nat)(k s:Int):List UInt8 :=
 nm KR (d%7).toNat++[44,32]++two (k+1)++[32]++nm JR m++[32]++four y++[32]++two (s/3600)++[58]++two (s%3600/60)++[58]++two (s%60)++[32,71,77,84]
def Jh (sec:Int)(l:List UInt8):Prop:=∃y m k,Sp (sec/86400) y m k/\l=fmt (sec/86400) y m k (sec%86400)
theorem Jh.uniq {sec:Int}{l l':List UInt8}(h:Jh sec l)(h':Jh sec l'):l=l':=by
 obtain⟨y,m,k,s,rfl⟩:=h;obtain⟨y',m',k',s',rfl⟩:=h';obtain⟨rfl,rfl,rfl⟩:=s.uniq s';rfl
theorem Mw:∀i:Fin 7,(nm KR i).length=3:=by decide
theorem Ll:∀i:Fin 12,(nm JR i).length=3:=by decide
end IK
open Go.RowKit
theorem fX {k:IntKind}{a b:Int}(h:a=b):IR (MA k a)=IR (MA k b):=by rw[h]
theorem bl {a b:Bool}(h:a=b):IR (LI a)=IR (LI b):=by rw[h]
theorem eM {a b:ByteArray}(h:a=b):IR (ID a)=IR (ID b):=by rw[h]
theorem wC (y:Int)(w:Lo)(h0:0<=y)(h1:y<=20000) :
 L2 IF 243 #[MA N0 y] w λe w'=>e=IR (LI (IK.KJ y))/\w'=w:=by
 go_enter func243,ntmps243;go_wp2;all_goals go_ret
 all_goals refine⟨bl ?_,rfl⟩
 all_goals first|(simp_all [IK.KJ];done)|(have h4:(y%400==0)=L3:=by simp;omega
                                          have h5:(y%4==0)=L3:=by simp;omega
                                          simp[IK.KJ,h4,h5])
theorem yb (y:Int)(w:Lo)(h0:1<=y)(h1:y<=20000) :
 L2 IF 242 #[MA N0 y] w λe w'=>e=IR (MA N0 (IK.MR y))/\w'=w:=by
 go_enter func242,ntmps242;go_wp2;go_ret;exact⟨fX (by simp[IK.MR]),rfl⟩
theorem Fh (y:Int)(h0:1<=y)(h1:y<=20000):0<=IK.MR y/\IK.MR y<=20000:=by unfold IK.MR;omega
theorem Ae:IK.MR 1970=477:=by decide
theorem pQ (y:Int)(w:Lo)(h0:1970<=y)(h1:y<=20000) :
 L2 IF 203 #[MA N0 y] w λe w'=>e=IR (MA N0 (IK.ahead y))/\w'=w:=by
 have hb:=Fh y (by omega) h1;go_enter func203,ntmps203;go_wp2_with fail;refine(yb _ _ (by omega) (by omega)).mono ?_;rintro e w1 ⟨rfl,rfl⟩;go_wp2_with fail;refine(yb _ _ (by omega) (by omega)).mono ?_;rintro e w1 ⟨rfl,rfl⟩;rw[Ae];go_wp2;go_ret;exact⟨fX (by simp[IK.ahead]),rfl⟩
theorem jD (y m:Int)(w:Lo)(h0:0<=y)(h1:y<=20000) :
 L2 IF 204 #[MA N0 y,MA N0 m] w λe w'=>e=IR (MA N0 (IK.ml y m))/\w'=w:=by
 go_enter func204,ntmps204;go_wp2_with (go_at_call 243;refine(wC _ _ h0 h1).mono ?_;rintro e w' ⟨rfl,rfl⟩);all_goals go_ret
 all_goals exact⟨fX (by simp_all [IK.ml]),rfl⟩
theorem oC (s:ByteArray)(p:Int)(w:Lo)(h0:0<=p)(h1:3*p+3<=s.size)(hs:s.size<=1000) :
 L2 IF 154 #[ID s,MA N0 p] w λe w'=>e=IR (ID ⟨(IK.nm s.data.toList p.toNat).toArray⟩)/\w'=w:=by
 go_enter func154,ntmps154;go_wp2;go_ret;refine⟨eM ?_,rfl⟩;rw[Lib.extract_eq,IK.nm];rw[show(p*3).toNat=p.toNat*3 by omega,show((p+1)*3).toNat-p.toNat*3=3 by omega]
def dv (c:UInt8):Int:=((c.toNat:Int)-48)%256
def num (l:List UInt8):Int:=l.foldl (λn c=>10*n+dv c) 0
theorem cV (s:ByteArray)(k:Nat)(h:k<s.size):s.data.toList.take (k+1)=s.data.toList.take k++[s[k]]:=by
 rw[List.take_succ_eq_append_getElem (by simpa using h)];rfl
def pk (c n:Int):Int:=if c<0 then(-(c+1))%n else c%n
theorem bZ (c n:Int)(h:0<n):0<=pk c n/\pk c n<n:=by
 unfold pk;split
 ·exact⟨Int.emod_nonneg _ (by omega),Int.emod_lt_of_pos _ h⟩
 ·exact⟨Int.emod_nonneg _ (by omega),Int.emod_lt_of_pos _ h⟩
theorem bo (c n:Int)(w:Lo)(hc0 : -9223372036854775808<=c)(hc1:c<=9223372036854775807)(h:0<n)(hn:n<=9223372036854775807) :
 L2 IF 10 #[MA N0 c,MA N0 n] w λe w'=>e=IR (MA N0 (pk c n))/\w'=w:=by
 by_cases hc:c<0
 ·go_enter func10,ntmps10;go_wp2;go_ret;refine⟨fX ?_,rfl⟩;unfold pk;rw[if_pos hc,<-Int.neg_tmod,Int.tmod_eq_emod_of_nonneg (by omega)]
 ·go_enter func10,ntmps10;go_wp2;go_ret;refine⟨fX ?_,rfl⟩;unfold pk;rw[if_neg (by omega)]
def lj (c:Int):Bool:=decide (48<=c)&&decide (c<=57)
def jI (c:Int):Bool:=(decide (97<=c)&&decide (c<=122))||((decide (65<=c)&&decide (c<=90))||(lj c||c==45))
def yW (c:Int):Bool:=jI c||(c==46||c==95)
def gM (c:UInt8):Bool:=lj c.toNat
def kI (c:UInt8):Bool:=jI c.toNat
def sN (c:UInt8):Bool:=yW c.toNat
def aW (l:List UInt8):Bool:=!l.isEmpty&&(decide (l.length<=40)&&l.all sN)
def gi (l:List UInt8):Bool:=l.all kI&&!l.isEmpty
theorem ja (c:Int)(w:Lo):L2 IF 221 #[MA .u8 c] w λe w'=>e=IR (LI (lj c))/\w'=w:=by
 go_enter func221,ntmps221;go_wp2;all_goals go_ret
 all_goals refine⟨bl ?_,rfl⟩
 all_goals first|(simp_all [lj];done)|(rw[Pi];simp[lj];omega)
theorem iT (c:Int)(w:Lo):L2 IF 220 #[MA .u8 c] w λe w'=>e=IR (LI (jI c))/\w'=w:=by
 go_enter func220,ntmps220;go_wp2_with (go_at_call 221;refine(ja _ _).mono ?_;rintro e w' ⟨rfl,rfl⟩);all_goals go_ret
 all_goals refine⟨bl ?_,rfl⟩
 all_goals first|(simp_all [jI];done)|(simp_all [jI,lj];done)|(simp_all [jI,lj];omega)|(rw[Pi];simp_all [jI,lj];omega)
theorem pE (c:Int)(w:Lo):L2 IF 177 #[MA .u8 c] w λe w'=>e=IR (LI (yW c))/\w'=w:=by
 go_enter func177,ntmps177;go_wp2_with (go_at_call 220;refine(iT _ _).mono ?_;rintro e w' ⟨rfl,rfl⟩);all_goals go_ret
 all_goals refine⟨bl ?_,rfl⟩
 all_goals first|(simp_all [yW];done)|(rw[Pi];simp[yW];omega)
theorem nil_of_size {s:ByteArray}(h:s.size=0):s=⟨#[]⟩:=by
 have hz:=Nm s;apply ByteArray.ext;apply Array.toList_inj.1;exact List.eq_nil_of_length_eq_zero (by omega)
theorem rB (s:ByteArray):s.toList=s.data.toList:=by
 obtain⟨⟨l⟩⟩:=s;simp
theorem ne_nil {s:ByteArray}(h:¬ s.size=0):(s.toList==[])=L3/\s.data.toList.isEmpty=L3:=by
 have hz:=Nm s;have:s.data.toList≠[]:=by intro e;rw[e] at hz;exact h hz
 refine⟨?_,by simpa using this⟩;rw[rB];simpa using this
theorem zh (s:ByteArray)(w:Lo)(hs:s.size<=9223372036854775807) :
 L2 IF 130 #[ID s] w λe w'=>e=IR (LI (aW s.data.toList))/\w'=w:=by
 have hz:=Nm s;by_cases h0:s.size=0
 ·obtain rfl:=nil_of_size h0;(try clear hz);(try clear A0);go_enter func130,ntmps130;go_wp2;go_ret;exact⟨rfl,rfl⟩
 ·obtain⟨A1,A0⟩:=ne_nil h0;by_cases Vx:s.size<=40
  ·(have HK:Hid (aW s.data.toList=s.data.toList.all sN):=by show _=_;unfold aW;rw[A0,<-hz,decide_eq_true Vx,Bool.not_false,Bool.true_and,Bool.true_and]);(try clear hz);(try clear A0);go_enter func130,ntmps130;go_wp2;go_loop [13] (λi=>∃k:Nat,k<=s.size/\i=MA N0 k/\Hid ((s.data.toList.take k).all sN=PC)) (λi=>s.size-(PF i).toNat);(case atStart=>exact⟨0,N1 _,rfl,rfl⟩);case round =>
    obtain⟨k,hk,rfl,ha⟩:=hrel;by_cases hlt:k<s.size
    ·(have HA:Hid ((s.data.toList.take (k+1)).all sN=sN s[k]):=by have:=ha.out;show _=_;rw[cV s k hlt,N6,this];simp);(have HN:Hid (sN s[k]=L3->aW s.data.toList=L3):=λhd=>by rw[HK.out,List.all_eq_false];exact⟨s[k],OS (l:=s.data.toList) (by simpa using hlt),by simp[hd]⟩);go_wp2_with (go_at_call 177;refine(pE _ _).mono ?_;rintro e w' ⟨rfl,rfl⟩)
     ·go_ret;have h:=‹(!yW _)=PC›;exact⟨bl (HN.out (by simpa [sN] using h)).symm,rfl⟩
     ·have h:=‹(!yW _)=L3›;exact⟨⟨k+1,by omega,by go_num,HA.out.trans (by simpa [sN] using h)⟩,by simp[PF];omega⟩
    ·go_wp2;go_ret;have:=ha.out;rw[Nx (by simp;omega)] at this;exact⟨bl (HK.out.trans this).symm,rfl⟩
  ·(have HK:Hid (aW s.data.toList=L3):=by show _=_;unfold aW;rw[<-hz,decide_eq_false Vx,Bool.false_and,Bool.and_false]);(try clear hz);(try clear A0);go_enter func130,ntmps130;go_wp2;go_ret;exact⟨bl HK.out.symm,rfl⟩
theorem vw (s:ByteArray)(w:Lo)(hs:s.size<=9223372036854775807) :
 L2 IF 179 #[ID s] w λe w'=>e=IR (LI (gi s.data.toList))/\w'=w:=by
 by_cases h0:s.size=0
 ·obtain rfl:=nil_of_size h0;(try clear hz);(try clear A0);go_enter func179,ntmps179;go_wp2;go_loop [6] (λi=>i=MA N0 0) (λ_=>0);(case atStart=>exact rfl);case round =>subst hrel;go_wp2;go_ret;exact⟨rfl,rfl⟩
 ·obtain⟨A1,A0⟩:=ne_nil h0;(have A2:(s.toList != [])=PC:=by simpa using A1);(have HK:Hid (gi s.data.toList=s.data.toList.all kI):=by show _=_;unfold gi;rw[A0];simp);(try clear hz);(try clear A0);go_enter func179,ntmps179;go_wp2;go_loop [6] (λi=>∃k:Nat,k<=s.size/\i=MA N0 k/\Hid ((s.data.toList.take k).all kI=PC)) (λi=>s.size-(PF i).toNat);(case atStart=>exact⟨0,N1 _,rfl,rfl⟩);case round =>
   obtain⟨k,hk,rfl,ha⟩:=hrel;by_cases hlt:k<s.size
   ·(have HA:Hid ((s.data.toList.take (k+1)).all kI=kI s[k]):=by have:=ha.out;show _=_;rw[cV s k hlt,N6,this];simp);(have HN:Hid (kI s[k]=L3->gi s.data.toList=L3):=λhd=>by rw[HK.out,List.all_eq_false];exact⟨s[k],OS (l:=s.data.toList) (by simpa using hlt),by simp[hd]⟩);go_wp2_with (go_at_call 220;refine(iT _ _).mono ?_;rintro e w' ⟨rfl,rfl⟩)
    ·go_ret;have h:=‹(!jI _)=PC›;exact⟨bl (HN.out (by simpa [kI] using h)).symm,rfl⟩
    ·have h:=‹(!jI _)=L3›;exact⟨⟨k+1,by omega,by go_num,HA.out.trans (by simpa [kI] using h)⟩,by simp[PF];omega⟩
   ·go_wp2;go_ret;have:=ha.out;rw[Nx (by simp;omega)] at this;exact⟨bl (HK.out.trans this).symm,rfl⟩
def gV (l:List UInt8):Nat:=l.foldl (λn c=>n*10+(c.toNat-48)) 0
def jy (l:List UInt8):Option Nat:=if l.isEmpty||(decide (9<l.length)||(l.head?==IH 48||!l.all gM)) then L5 else IH (gV l)
theorem jo (l:List UInt8)(c:UInt8):gV (l++[c])=gV l*10+(c.toNat-48):=by
 unfold gV;rw[List.foldl_append,Se,List.foldl_nil]
theorem qO (l:List UInt8)(h:l.all gM=PC):gV l<10 ^ l.length:=by
 suffices hg:∀(l:List UInt8) (x:Nat),l.all gM=PC->l.foldl (λn c=>n*10+(c.toNat-48)) x<(x+1)*10 ^ l.length by have:=hg l 0 h;rw[Nat.zero_add,Nat.one_mul] at this;exact this
 intro l;induction l with
 | nil=>intro x _;simp
 | cons c l ih =>intro x hx;simp only[List.all_cons,Rr] at hx;(have hc:c.toNat-48<=9:=by have:=hx.1;unfold gM lj at this;simp at this;omega);have:=ih (x*10+(c.toNat-48)) hx.2;rw[Se,List.length_cons,Nat.pow_succ];refine Nat.lt_of_lt_of_le this ?_;rw[show(x+1)*(10 ^ l.length*10)=((x+1)*10)*10 ^ l.length by rw[Nat.mul_comm (10 ^ l.length) 10,Nat.mul_assoc]];exact Nat.mul_le_mul_right _ (by omega)
def lI:Option Nat->Sf
 | some n=>NO #[MA N0 (n:Int),LI PC]
 | none=>NO #[MA N0 0,LI L3]
theorem x7 (s:ByteArray)(h:0<s.size):s.data.toList.head?=IH s[0]:=by
 rw[List.head?_eq_getElem?,List.getElem?_eq_getElem (by rw[<-Nm];exact h)];rfl
theorem oh (s:ByteArray)(w:Lo)(hs:s.size<=9223372036854775807) :
 L2 IF 178 #[ID s] w λe w'=>e=IR (lI (jy s.data.toList))/\w'=w:=by
 have hz:=Nm s;by_cases h0:s.size=0
 ·obtain rfl:=nil_of_size h0;(try clear hz);(try clear A0);go_enter func178,ntmps178;go_wp2;go_ret2;exact⟨rfl,rfl⟩
 ·obtain⟨A6,A0⟩:=ne_nil h0;(have A1:0<s.size:=by omega);by_cases h9:s.size<=9
  ·by_cases h48:(s[0].toNat:Int)=48
   ·(have HK:Hid (jy s.data.toList=L5):=by show _=_;unfold jy;(have e:s[0]=48:=by apply UInt8.toNat_inj.1;show _=48;omega);rw[x7 s A1,e];simp);(try clear hz);(try clear A0);go_enter func178,ntmps178;go_wp2;rw[HK.out];go_ret2;exact⟨rfl,rfl⟩
   ·(have A4:((s[0].toNat:Int)==48)=L3:=by simpa using h48);(have HK:Hid (jy s.data.toList=if s.data.toList.all gM then IH (gV s.data.toList) else L5):=by show _=_;unfold jy;(have e:¬ s[0]=48:=by intro e;rw[e] at h48;exact h48 rfl);rw[x7 s A1,A0,<-hz];cases s.data.toList.all gM<;>simp[e]<;>omega);(try clear hz);(try clear A0);go_enter func178,ntmps178;go_wp2;go_loop [4,20] (λn i=>∃k:Nat,k<=s.size/\i=MA N0 k/\n=MA N0 (gV (s.data.toList.take k):Int)/\Hid ((s.data.toList.take k).all gM=PC)) (λ_ i=>s.size-(PF i).toNat);(case atStart=>exact⟨0,N1 _,rfl,rfl,rfl⟩);case round =>
     obtain⟨k,hk,rfl,rfl,ha⟩:=hrel;by_cases hlt:k<s.size
     ·(have HA:Hid ((s.data.toList.take (k+1)).all gM=gM s[k]):=by have:=ha.out;show _=_;rw[cV s k hlt,N6,this];simp);(have HN:Hid (gM s[k]=L3->jy s.data.toList=L5):=λhd=>by rw[HK.out,if_neg];rw[Bool.not_eq_true,List.all_eq_false];exact⟨s[k],OS (l:=s.data.toList) (by simpa using hlt),by simp[hd]⟩);(have HV:Hid (gV (s.data.toList.take (k+1))=gV (s.data.toList.take k)*10+(s[k].toNat-48)):=by show _=_;rw[cV s k hlt,jo]);have hl:=qO (s.data.toList.take k) ha.out;have hp:10 ^ (s.data.toList.take k).length<=10 ^ 9:=RR (by decide) (by simp;omega);obtain⟨V,hV⟩:=IG (gV (s.data.toList.take k));rw[hV] at HV hl ⊢;(have A7:V<1000000000:=by omega);have A8:=s[k].toNat_lt;by_cases hd:gM s[k]=PC
      ·have A3:lj (s[k].toNat:Int)=PC:=hd;(have A5:48<=(s[k].toNat:Int)/\(s[k].toNat:Int)<=57:=by unfold lj at A3;simpa using A3);clear hl hp;go_wp2_with (go_at_call 221;refine(ja _ _).mono ?_;rintro e w' ⟨rfl,rfl⟩);refine⟨⟨k+1,by omega,by go_num,?_,HA.out.trans hd⟩,by simp[PF];omega⟩;rw[HV.out];congr 1;omega
      ·(have A3:lj (s[k].toNat:Int)=L3:=by simpa [gM] using hd);clear hl hp;go_wp2_with (go_at_call 221;refine(ja _ _).mono ?_;rintro e w' ⟨rfl,rfl⟩);rw[HN.out (by simpa using hd)];go_ret2;exact⟨rfl,rfl⟩
     ·go_wp2;have A2:=ha.out;rw[Nx (by simp;omega)] at A2 ⊢;rw[HK.out,A2,if_pos rfl];go_ret2;exact⟨rfl,rfl⟩
  ·(have HK:Hid (jy s.data.toList=L5):=by show _=_;unfold jy;rw[<-hz];simp;omega);(try clear hz);(try clear A0);go_enter func178,ntmps178;go_wp2;rw[HK.out];go_ret2;exact⟨rfl,rfl⟩
def eR (l:List UInt8):Option Nat:=if l=[71,69,84] then IH 0 else if l=[72,69,65,68] then IH 1 else if l=[80,85,84] then IH 2 else if l=[68,69,76,69,84,69] then IH 3 else L5
theorem kF (s:ByteArray)(l:List UInt8)(h:¬ s.data.toList=l):(s.toList==l)=L3:=by
 rw[rB];simpa using h
theorem nc {s:ByteArray}{l:List UInt8}(h:s.data.toList=l):s=⟨l.toArray⟩:=by
 apply ByteArray.ext;apply Array.toList_inj.1;rw[h]
theorem nv (s:ByteArray)(w:Lo):L2 IF 82 #[ID s] w λe w'=>e=IR (lI (eR s.data.toList))/\w'=w:=by
 by_cases h1:s.data.toList=[71,69,84]
 ·obtain rfl:=nc h1;go_enter func82,ntmps82;go_wp2;go_ret2;exact⟨rfl,rfl⟩
 ·by_cases h2:s.data.toList=[72,69,65,68]
  ·obtain rfl:=nc h2;go_enter func82,ntmps82;go_wp2;go_ret2;exact⟨rfl,rfl⟩
  ·by_cases h3:s.data.toList=[80,85,84]
   ·obtain rfl:=nc h3;go_enter func82,ntmps82;go_wp2;go_ret2;exact⟨rfl,rfl⟩
   ·by_cases h4:s.data.toList=[68,69,76,69,84,69]
    ·obtain rfl:=nc h4;go_enter func82,ntmps82;go_wp2;go_ret2;exact⟨rfl,rfl⟩
    ·have b1:=kF s _ h1;have b2:=kF s _ h2;have b3:=kF s _ h3;have b4:=kF s _ h4;(have HM:Hid (eR s.data.toList=L5):=by show _=_;unfold eR;rw[if_neg h1,if_neg h2,if_neg h3,if_neg h4]);clear h1 h2 h3 h4;go_enter func82,ntmps82;go_wp2;rw[HM.out];go_ret2;exact⟨rfl,rfl⟩
open Go.RowKit
theorem cZ (a b:List UInt8):(⟨a.toArray⟩:ByteArray)++⟨b.toArray⟩=⟨(a++b).toArray⟩:=by
 apply ByteArray.ext;simp
def fS:List UInt8:=[13,10]
def bp (method target fields body:List UInt8):List UInt8:=method++[32]++target++fS++fields++fS++body
theorem dw (a b c d:List UInt8)(w:Lo)(ha:a.length<100000)(hb:b.length<100000)(hc:c.length<100000)(hd:d.length<100000) :
 L2 IF 12 #[ID ⟨a.toArray⟩,ID ⟨b.toArray⟩,ID ⟨c.toArray⟩,ID ⟨d.toArray⟩] w λe w'=>e=IR (ID ⟨(bp a b c d).toArray⟩)/\w'=w:=by
 go_enter func12,ntmps12;go_wp2;go_ret;refine⟨?_,rfl⟩;show IR (ID _)=_;rw[cZ,cZ,cZ,cZ,cZ,cZ];rfl
theorem FB (s:ByteArray)(w:Lo)(h5:5<=s.size)(hs:s.size<=9223372036854775807)(he:(s.extract 3 5).toList=[13,10])(hd:(s.data.toList.take 3).all gM=PC) :
 L2 IF 14 #[ID s] w λe w'=>e=IR (MA N0 (gV (s.data.toList.take 3):Int))/\w'=w:=by
 have HD:=IA hd;clear hd;go_enter func14,ntmps14;go_wp2;go_loop [3,4] (λn i=>∃k:Nat,k<=3/\i=MA N0 k/\n=MA N0 (gV (s.data.toList.take k):Int)) (λ_ i=>3-(PF i).toNat);case atStart=>exact⟨0,N1 _,rfl,rfl⟩
 case round =>
  obtain⟨k,hk,rfl,rfl⟩:=hrel;have A0:∀j,j<=3->(s.data.toList.take j).all gM=PC:=λj hj=>by
   have:=HD.out;rw[List.all_eq_true] at this ⊢;intro x hx;exact this x (by
    rw[show s.data.toList.take j=(s.data.toList.take 3).take j by rw[List.take_take,Nat.min_eq_left hj]] at hx
    exact List.mem_of_mem_take hx)
  have hl:=qO (s.data.toList.take k) (A0 k hk);have hp:10 ^ (s.data.toList.take k).length<=10 ^ 3:=RR (by decide) (by simp;omega);by_cases hlt:k<3
  ·(have A2:k<s.size:=by omega);(have HV:Hid (gV (s.data.toList.take (k+1))=gV (s.data.toList.take k)*10+(s[k].toNat-48)):=by show _=_;rw[cV s k A2,jo]);(have A1:gM s[k]=PC:=by have:=A0 (k+1) (by omega);rw[cV s k A2,N6,Rr] at this;have h2:=this.2;rw[List.all_cons,Rr] at h2;exact h2.1);(have A3:48<=(s[k].toNat:Int)/\(s[k].toNat:Int)<=57:=by unfold gM lj at A1;simpa using A1);obtain⟨V,hV⟩:=IG (gV (s.data.toList.take k));rw[hV] at HV hl ⊢;(have A4:V<1000:=by omega);clear hl hp A0 A1;go_wp2;refine⟨⟨k+1,by omega,by go_num,?_⟩,by simp[PF];omega⟩;rw[HV.out];congr 1;omega
  ·(obtain rfl:k=3:=by omega);clear A0;obtain⟨V,hV⟩:=IG (gV (s.data.toList.take 3));rw[hV] at hl ⊢;go_wp2;go_ret;exact⟨rfl,rfl⟩
theorem CU (s:ByteArray)(w:Lo)(hs:s.size<=1000000000)(k:Nat)(hk:k+4<=s.size)(he:(s.extract k (k+4)).toList=[13,10,13,10])(hn:∀j,j<k->(s.extract j (j+4)).toList≠[13,10,13,10]) :
 L2 IF 21 #[ID s] w λe w'=>e=IR (MA N0 ((k+4:Nat):Int))/\w'=w:=by
 have HN:=IA hn;have HE:=IA he;clear hn he;go_enter func21,ntmps21;go_wp2;go_loop [3] (λi=>∃j:Nat,j<=k/\i=MA N0 j) (λi=>k-(PF i).toNat);case atStart=>exact⟨0,N1 _,rfl⟩
 case round =>
  obtain⟨j,hj,rfl⟩:=hrel;by_cases hlt:j<k
  ·have A0:((s.extract j (j+4)).toList==[13,10,13,10])=L3:=beq_eq_false_iff_ne.2 (HN.out j hlt);go_wp2;exact⟨⟨j+1,by omega,by go_num⟩,by simp[PF];omega⟩
  ·(obtain rfl:j=k:=by omega);have A1:(s.extract j (j+4)).toList=[13,10,13,10]:=HE.out;go_wp2;go_ret;exact⟨rfl,rfl⟩
structure uV (s:ByteArray)(k:Nat):Prop where
 le:k+4<=s.size
 hit:(s.extract k (k+4)).toList=[13,10,13,10]
 no:∀j,j<k->(s.extract j (j+4)).toList≠[13,10,13,10]
theorem FC (s:ByteArray)(w:Lo)(hs:s.size<=1000000000)(k:Nat)(h:uV s k) :
 L2 IF 15 #[ID s] w λe w'=>e=IR (ID (s.extract (k+4) s.size))/\w'=w:=by
 have hk:=h.le;have HH:=IA h;clear h;go_enter func15,ntmps15;go_wp2_with (go_at_call 21;refine(CU s _ hs k HH.out.le HH.out.hit HH.out.no).mono ?_;rintro e w' ⟨rfl,rfl⟩);go_ret;exact⟨rfl,rfl⟩
theorem DJ (s:ByteArray)(name:List UInt8)(w:Lo)(hs:s.size<=1000000000)(hn:name.length<=1000)(m:Nat)(hm:m=name.length+4)(k:Nat)(h:uV s k)(i:Nat)(hi:i+m<=k+2)(he:(s.extract i (i+m)).toList=[13,10]++name++[58,32])
 (hno:∀j,j<i->(s.extract j (j+m)).toList≠[13,10]++name++[58,32])(t:Nat)(ht:i+m<=t)(htn:t<k+4)(hv:∀(j:Nat) (hj:j<s.size),i+m<=j->j<t->s[j]≠13)(hc:∀h:t<s.size,s[t]=13) :
 L2 IF 16 #[ID s,ID ⟨name.toArray⟩] w λe w'=>e=IR (ID (s.extract (i+m) t))/\w'=w:=by
 have hk:=h.le;have HH:=IA h;have HE:=IA he;have HO:=IA hno;have HV:=IA hv;have HC:=IA hc;clear h he hno hv hc;go_enter func16,ntmps16;go_wp2_with (go_at_call 21;refine(CU s _ hs k HH.out.le HH.out.hit HH.out.no).mono ?_;rintro e w' ⟨rfl,rfl⟩);have A1:(({ data:=#[13,10] }++{ data:=name.toArray }++{ data:=#[58,32] }:ByteArray)).size=name.length+4:=by simp[ByteArray.size]
 have HW:Hid ((({ data:=#[13,10] }++{ data:=name.toArray }++{ data:=#[58,32] }:ByteArray)).toList=[13,10]++name++[58,32]):=by show _=_;rw[rB];simp
 generalize ({ data:=#[13,10] }++{ data:=name.toArray }++{ data:=#[58,32] }:ByteArray)=V at A1 HW ⊢;generalize ({ data:=#[13,10] }++{ data:=name.toArray }:ByteArray)=V1;rw[<-hm] at A1;have A4:m<=1004:=by omega
 clear hm;go_loop [7] (λx=>∃j:Nat,j<=i/\x=MA N0 j) (λx=>i-(PF x).toNat);case atStart=>exact⟨0,N1 _,rfl⟩
 case round =>
  obtain⟨j,hj,rfl⟩:=hrel;by_cases hlt:j<i
  ·have A3:((s.extract j (j+m)).toList==V.toList)=L3:=beq_eq_false_iff_ne.2 (by rw[HW.out];exact HO.out j hlt);go_wp2;exact⟨⟨j+1,by omega,by go_num⟩,by simp[PF];omega⟩
  ·(obtain rfl:j=i:=by omega);have A6:((s.extract j (j+m)).toList==V.toList)=PC:=beq_iff_eq.2 (by rw[HW.out];exact HE.out);go_wp2;go_loop [9] (λx=>∃z:Nat,j+m<=z/\z<=t/\x=MA N0 z) (λx=>t-(PF x).toNat);(case atStart=>exact⟨j+m,Mp _,ht,by go_num⟩);case round =>
    obtain⟨z,hz,A5,rfl⟩:=hrel;by_cases hlt2:z<t
    ·(have A0:z<s.size:=by omega);have A2:((s[z].toNat:Int)==13)=L3:=beq_eq_false_iff_ne.2 (λe=>HV.out z A0 hz hlt2 (UInt8.toNat_inj.1 (show s[z].toNat=13 by omega)));go_wp2;exact⟨⟨z+1,by omega,by omega,by go_num⟩,by simp[PF];omega⟩
    ·(obtain rfl:z=t:=by omega);(have A0:z<s.size:=by omega);have A2:((s[z].toNat:Int)==13)=PC:=beq_iff_eq.2 (by rw[HC.out A0];rfl);go_wp2;go_ret;exact⟨rfl,rfl⟩
end Go.Proofs.YtmehkneofinmiabGreatDoor
namespace Go.Proofs
open Go.Shelf
def Tryz.JX:K2:=⟨fun|169=>51|n=>n,fun|70=>116|9=>9|0=>0|72=>118|37=>95|127=>169|3=>3|5=>5|n=>n,fun|n=>n⟩
theorem Tryz.NU:Go.Proofs.Lays.n169 IF Tryz.JX:={
 mixed:=by kernel_rfl
 f169:=func51.trans (congrArg IH (by kernel_rfl))
 t0:=Lw
 a0:=MD
 z0:=Mn
 v0:=LO
 t3:=Jx
 a3:=LL
 z3:=Ln
 v3:=Kf
 t9:=J0
 a9:=LS
 z9:=Ly
 v9:=Ks
 t37:=MT
 a37:=Ok
 z37:=N4
 v37:=M1
 t70:=PP
 a70:=isAgg116
 z70:=sizeOf116
 v70:=zeroValue116
 t72:=Q1
 a72:=isAgg118
 z72:=sizeOf118
 v72:=zeroValue118
 t127:=Of
 a127:=isAgg169
 z127:=sizeOf169
 v127:=zeroValue169 }
theorem Tryz.JM:Builder.Extra IF Tryz.JX:={
 sizeBuilder:=by kernel_rfl
 liesBuilder:=by kernel_rfl
 t5:=J1
 a5:=L1
 z5:=Lz
 v5:=Kx
 infoByte:=by kernel_rfl
 cellsByte:=by kernel_rfl
 sizeByte:=by kernel_rfl
 neB5:=by decide }
open Go.RowKit in
theorem Tryz.Builder_String_any (B b:Nat)(l:List UInt8)(w:Lo)(h:Lib.IsBuilder 118 5 B b (Lib.byteCells l) w)(hBw:B<=w.heap.size) :
 L2 IF 51 #[.pointer (IH ⟨b,0,L5⟩)] w λe w'=>e=IR (ID ⟨l.toArray⟩)/\Below B w w':=Any.Builder_String_any Tryz.NU Tryz.JM B b l w h hBw
def Tryz.JZ:K2:=⟨fun|159=>223|165=>197|166=>50|167=>252|169=>51|230=>253|204=>254|240=>85|241=>238|197=>260|118=>269|168=>270|270=>271|262=>272|276=>133|277=>263|260=>278|242=>281|313=>282|278=>285|274=>286|275=>287|n=>n,fun|9=>9|4=>4|3=>3|5=>5|72=>118|0=>0|76=>121|75=>120|107=>129|70=>116|20=>20|37=>95|127=>169|21=>21|105=>315|164=>127|162=>330|203=>328|119=>331|46=>251|139=>334|138=>333|51=>84|160=>336|208=>342|206=>340|80=>53|n=>n,fun|13=>4|3=>5|4=>6|n=>n⟩
theorem Tryz.NZ:Go.Proofs.Lays.n159 IF Tryz.JZ:={
 mixed:=by kernel_rfl
 f118:=func269.trans (congrArg IH (by kernel_rfl))
 f159:=func223.trans (congrArg IH (by kernel_rfl))
 f165:=func197.trans (congrArg IH (by kernel_rfl))
 f166:=func50.trans (congrArg IH (by kernel_rfl))
 f167:=func252.trans (congrArg IH (by kernel_rfl))
 f168:=func270.trans (congrArg IH (by kernel_rfl))
 f169:=func51.trans (congrArg IH (by kernel_rfl))
 f197:=func260.trans (congrArg IH (by kernel_rfl))
 f204:=func254.trans (congrArg IH (by kernel_rfl))
 f230:=func253.trans (congrArg IH (by kernel_rfl))
 f240:=func85.trans (congrArg IH (by kernel_rfl))
 f241:=func238.trans (congrArg IH (by kernel_rfl))
 f242:=func281.trans (congrArg IH (by kernel_rfl))
 f260:=func278.trans (congrArg IH (by kernel_rfl))
 f262:=func272.trans (congrArg IH (by kernel_rfl))
 f270:=func271.trans (congrArg IH (by kernel_rfl))
 f274:=func286.trans (congrArg IH (by kernel_rfl))
 f275:=func287.trans (congrArg IH (by kernel_rfl))
 f276:=func133.trans (congrArg IH (by kernel_rfl))
 f277:=func263.trans (congrArg IH (by kernel_rfl))
 f278:=func285.trans (congrArg IH (by kernel_rfl))
 f313:=func282.trans (congrArg IH (by kernel_rfl))
 t0:=Lw
 a0:=MD
 z0:=Mn
 v0:=LO
 t3:=Jx
 a3:=LL
 z3:=Ln
 v3:=Kf
 t4:=K0
 a4:=L4
 z4:=LR
 v4:=K1
 t5:=J1
 a5:=L1
 z5:=Lz
 v5:=Kx
 t9:=J0
 a9:=LS
 z9:=Ly
 v9:=Ks
 t20:=On
 a20:=isAgg20
 z20:=Rg
 v20:=O2
 t21:=MY
 a21:=ON
 z21:=N5
 v21:=Nd
 t37:=MT
 a37:=Ok
 z37:=N4
 v37:=M1
 t46:=Lq
 a46:=Mu
 z46:=Mb
 v46:=LN
 t51:=NX
 a51:=Pu
 z51:=Pa
 v51:=N2
 t70:=PP
 a70:=isAgg116
 z70:=sizeOf116
 v70:=zeroValue116
 t72:=Q1
 a72:=isAgg118
 z72:=sizeOf118
 v72:=zeroValue118
 t75:=underlying120
 a75:=isAgg120
 z75:=sizeOf120
 v75:=zeroValue120
 t76:=underlying121
 a76:=isAgg121
 z76:=sizeOf121
 v76:=zeroValue121
 t105:=underlying315
 a105:=isAgg315
 z105:=sizeOf315
 v105:=zeroValue315
 t107:=underlying129
 a107:=isAgg129
 z107:=sizeOf129
 v107:=zeroValue129
 t119:=underlying331
 a119:=isAgg331
 z119:=sizeOf331
 t127:=Of
 a127:=isAgg169
 z127:=sizeOf169
 v127:=zeroValue169
 t138:=underlying333
 a138:=isAgg333
 z138:=sizeOf333
 v138:=zeroValue333
 t139:=underlying334
 a139:=isAgg334
 z139:=sizeOf334
 v139:=zeroValue334
 t160:=underlying336
 a160:=isAgg336
 z160:=sizeOf336
 v160:=zeroValue336
 t162:=underlying330
 a162:=isAgg330
 z162:=sizeOf330
 v162:=zeroValue330
 t164:=R0
 a164:=Ss
 z164:=So
 v164:=R1
 t203:=underlying328
 a203:=isAgg328
 z203:=sizeOf328
 v203:=zeroValue328
 t206:=underlying340
 a206:=isAgg340
 z206:=sizeOf340
 v206:=zeroValue340
 t208:=underlying342
 a208:=isAgg342
 z208:=sizeOf342
 v208:=zeroValue342
 g3:=by kernel_rfl
 g4:=by kernel_rfl
 g13:=by kernel_rfl }
theorem Tryz.JO:Builder.Extra IF Tryz.JZ:={
 sizeBuilder:=by kernel_rfl
 liesBuilder:=by kernel_rfl
 t5:=J1
 a5:=L1
 z5:=Lz
 v5:=Kx
 infoByte:=by kernel_rfl
 cellsByte:=by kernel_rfl
 sizeByte:=by kernel_rfl
 neB5:=by decide }
open Go.RowKit in
theorem Tryz.strings_ToLower_ascii (s:ByteArray)(w:Lo)(hs:s.size<=140737488355328)(hascii:∀(j:Nat) (b:UInt8),s.data.toList[j]?=IH b->b.toNat<128) :
 L2 IF 223 #[ID s] w λe w'=>e=IR (ID ⟨(Lib.toLowerA s.data.toList).toArray⟩)/\Below w.heap.size w w':=Any.strings_ToLower_ascii Tryz.NZ Tryz.JO s w hs hascii
def Tryz.KW:K2:=⟨fun|161=>274|231=>227|227=>229|233=>230|235=>232|228=>251|197=>260|151=>261|260=>278|152=>249|137=>267|119=>268|224=>217|225=>216|217=>215|266=>247|n=>n,fun|9=>9|4=>4|3=>3|5=>5|117=>293|116=>292|0=>0|124=>296|105=>315|21=>21|119=>331|46=>251|139=>334|138=>333|n=>n,fun|3=>5|4=>6|n=>n⟩
theorem Tryz.NW:Go.Proofs.Lays.n161 IF Tryz.KW:={
 mixed:=by kernel_rfl
 f119:=func268.trans (congrArg IH (by kernel_rfl))
 f137:=func267.trans (congrArg IH (by kernel_rfl))
 f151:=func261.trans (congrArg IH (by kernel_rfl))
 f152:=func249.trans (congrArg IH (by kernel_rfl))
 f161:=func274.trans (congrArg IH (by kernel_rfl))
 f197:=func260.trans (congrArg IH (by kernel_rfl))
 f217:=func215.trans (congrArg IH (by kernel_rfl))
 f224:=func217.trans (congrArg IH (by kernel_rfl))
 f225:=func216.trans (congrArg IH (by kernel_rfl))
 f227:=func229.trans (congrArg IH (by kernel_rfl))
 f228:=func251.trans (congrArg IH (by kernel_rfl))
 f231:=func227.trans (congrArg IH (by kernel_rfl))
 f233:=func230.trans (congrArg IH (by kernel_rfl))
 f235:=func232.trans (congrArg IH (by kernel_rfl))
 f260:=func278.trans (congrArg IH (by kernel_rfl))
 f266:=func247.trans (congrArg IH (by kernel_rfl))
 t0:=Lw
 a0:=MD
 z0:=Mn
 v0:=LO
 t3:=Jx
 a3:=LL
 z3:=Ln
 v3:=Kf
 t4:=K0
 a4:=L4
 z4:=LR
 v4:=K1
 t5:=J1
 a5:=L1
 z5:=Lz
 v5:=Kx
 t9:=J0
 a9:=LS
 z9:=Ly
 v9:=Ks
 t21:=MY
 a21:=ON
 z21:=N5
 v21:=Nd
 t46:=Lq
 a46:=Mu
 z46:=Mb
 v46:=LN
 t105:=underlying315
 a105:=isAgg315
 z105:=sizeOf315
 v105:=zeroValue315
 t116:=underlying292
 a116:=isAgg292
 z116:=sizeOf292
 t117:=underlying293
 a117:=isAgg293
 z117:=sizeOf293
 v117:=zeroValue293
 t119:=underlying331
 a119:=isAgg331
 z119:=sizeOf331
 t124:=underlying296
 a124:=isAgg296
 z124:=sizeOf296
 v124:=zeroValue296
 t138:=underlying333
 a138:=isAgg333
 z138:=sizeOf333
 v138:=zeroValue333
 t139:=underlying334
 a139:=isAgg334
 z139:=sizeOf334
 v139:=zeroValue334
 g3:=by kernel_rfl
 g4:=by kernel_rfl }
def Tryz.KX:K2:=⟨fun|160=>182|232=>228|231=>227|227=>229|234=>231|233=>230|236=>233|235=>232|228=>251|271=>262|151=>261|197=>260|120=>279|152=>249|260=>278|137=>267|119=>268|224=>217|225=>216|217=>215|266=>247|n=>n,fun|9=>9|4=>4|3=>3|5=>5|117=>293|116=>292|0=>0|124=>296|21=>21|105=>315|46=>251|119=>331|139=>334|138=>333|n=>n,fun|3=>5|4=>6|n=>n⟩
theorem Tryz.NY:Go.Proofs.Lays.n160 IF Tryz.KX:={
 mixed:=by kernel_rfl
 f119:=func268.trans (congrArg IH (by kernel_rfl))
 f120:=func279.trans (congrArg IH (by kernel_rfl))
 f137:=func267.trans (congrArg IH (by kernel_rfl))
 f151:=func261.trans (congrArg IH (by kernel_rfl))
 f152:=func249.trans (congrArg IH (by kernel_rfl))
 f160:=func182.trans (congrArg IH (by kernel_rfl))
 f197:=func260.trans (congrArg IH (by kernel_rfl))
 f217:=func215.trans (congrArg IH (by kernel_rfl))
 f224:=func217.trans (congrArg IH (by kernel_rfl))
 f225:=func216.trans (congrArg IH (by kernel_rfl))
 f227:=func229.trans (congrArg IH (by kernel_rfl))
 f228:=func251.trans (congrArg IH (by kernel_rfl))
 f231:=func227.trans (congrArg IH (by kernel_rfl))
 f232:=func228.trans (congrArg IH (by kernel_rfl))
 f233:=func230.trans (congrArg IH (by kernel_rfl))
 f234:=func231.trans (congrArg IH (by kernel_rfl))
 f235:=func232.trans (congrArg IH (by kernel_rfl))
 f236:=func233.trans (congrArg IH (by kernel_rfl))
 f260:=func278.trans (congrArg IH (by kernel_rfl))
 f266:=func247.trans (congrArg IH (by kernel_rfl))
 f271:=func262.trans (congrArg IH (by kernel_rfl))
 t0:=Lw
 a0:=MD
 z0:=Mn
 v0:=LO
 t3:=Jx
 a3:=LL
 z3:=Ln
 v3:=Kf
 t4:=K0
 a4:=L4
 z4:=LR
 v4:=K1
 t5:=J1
 a5:=L1
 z5:=Lz
 v5:=Kx
 t9:=J0
 a9:=LS
 z9:=Ly
 v9:=Ks
 t21:=MY
 a21:=ON
 z21:=N5
 v21:=Nd
 t46:=Lq
 a46:=Mu
 z46:=Mb
 v46:=LN
 t105:=underlying315
 a105:=isAgg315
 z105:=sizeOf315
 v105:=zeroValue315
 t116:=underlying292
 a116:=isAgg292
 z116:=sizeOf292
 t117:=underlying293
 a117:=isAgg293
 z117:=sizeOf293
 v117:=zeroValue293
 t119:=underlying331
 a119:=isAgg331
 z119:=sizeOf331
 t124:=underlying296
 a124:=isAgg296
 z124:=sizeOf296
 v124:=zeroValue296
 t138:=underlying333
 a138:=isAgg333
 z138:=sizeOf333
 v138:=zeroValue333
 t139:=underlying334
 a139:=isAgg334
 z139:=sizeOf334
 v139:=zeroValue334
 g3:=by kernel_rfl
 g4:=by kernel_rfl }
def Tryz.K5:K2:=⟨fun|119=>268|n=>n,fun|21=>21|4=>4|n=>n,fun|n=>n⟩
theorem Tryz.Ob:Go.Proofs.Lays.n119 IF Tryz.K5:={
 mixed:=by kernel_rfl
 f119:=func268.trans (congrArg IH (by kernel_rfl))
 t4:=K0
 a4:=L4
 z4:=LR
 v4:=K1
 t21:=MY
 a21:=ON
 z21:=N5
 v21:=Nd }
theorem Tryz.utf8_ValidRune (r:Int)(w:Lo) :
 L2 IF 268 #[MA .i32 r] w λe w'=>e=IR (LI (Lib.validRune r))/\w'=w:=Any.utf8_ValidRune Tryz.Ob r w
def Tryz.K6:K2:=⟨fun|106=>139|213=>190|265=>234|n=>n,fun|9=>9|3=>3|n=>n,fun|n=>n⟩
theorem Tryz.Oc:Go.Proofs.Lays.n106 IF Tryz.K6:={
 mixed:=by kernel_rfl
 f106:=func139.trans (congrArg IH (by kernel_rfl))
 f213:=func190.trans (congrArg IH (by kernel_rfl))
 f265:=func234.trans (congrArg IH (by kernel_rfl))
 t3:=Jx
 a3:=LL
 z3:=Ln
 v3:=Kf
 t9:=J0
 a9:=LS
 z9:=Ly
 v9:=Ks }
open Go.RowKit in
theorem Tryz.strings_Compare (a b:ByteArray)(w:Lo) :
 L2 IF 139 #[ID a,ID b] w λe w'=>e=IR (MA N0 (Lib.compareBytes a.data.toList b.data.toList))/\w'=w:=Any.strings_Compare Tryz.Oc a b w
def Tryz.K4:K2:=⟨fun|137=>267|217=>215|266=>247|n=>n,fun|9=>9|5=>5|3=>3|n=>n,fun|n=>n⟩
theorem Tryz.Oa:Go.Proofs.Lays.n137 IF Tryz.K4:={
 mixed:=by kernel_rfl
 f137:=func267.trans (congrArg IH (by kernel_rfl))
 f217:=func215.trans (congrArg IH (by kernel_rfl))
 f266:=func247.trans (congrArg IH (by kernel_rfl))
 t3:=Jx
 a3:=LL
 z3:=Ln
 v3:=Kf
 t5:=J1
 a5:=L1
 z5:=Lz
 v5:=Kx
 t9:=J0
 a9:=LS
 z9:=Ly
 v9:=Ks }
open Go.RowKit in
theorem Tryz.strings_IndexByte (s:ByteArray)(c:Int)(w:Lo) :
 L2 IF 267 #[ID s,MA .u8 c] w λe w'=>e=IR (MA N0 (Sx s.data.toList c.toNat.toUInt8))/\w'=w:=Any.strings_IndexByte Tryz.Oa s c w
def Tryz.K7:K2:=⟨fun|103=>129|210=>176|206=>219|n=>n,fun|9=>9|4=>4|24=>220|3=>3|n=>n,fun|n=>n⟩
theorem Tryz.Oe:Go.Proofs.Lays.n103 IF Tryz.K7:={
 mixed:=by kernel_rfl
 f103:=func129.trans (congrArg IH (by kernel_rfl))
 f206:=func219.trans (congrArg IH (by kernel_rfl))
 f210:=func176.trans (congrArg IH (by kernel_rfl))
 t3:=Jx
 a3:=LL
 z3:=Ln
 v3:=Kf
 t4:=K0
 a4:=L4
 z4:=LR
 v4:=K1
 t9:=J0
 a9:=LS
 z9:=Ly
 v9:=Ks
 t24:=underlying220
 a24:=isAgg220
 z24:=sizeOf220
 v24:=zeroValue220 }
open Go.RowKit in
theorem Tryz.strings_CutPrefix (s p:ByteArray)(w:Lo) :
 L2 IF 129 #[ID s,ID p] w λe w'=>e=IR (NO #[ID ⟨(I3 s.data.toList p.data.toList).toArray⟩,LI (Mz s.data.toList p.data.toList)])/\w'=w:=Any.strings_CutPrefix Tryz.Oe s p w
def Tryz.KM:K2:=⟨fun|171=>13|243=>36|246=>72|283=>108|284=>109|285=>110|286=>111|129=>157|317=>156|318=>158|319=>159|320=>160|337=>205|338=>206|n=>n,fun|3=>3|9=>9|2=>2|4=>4|171=>193|0=>0|53=>194|37=>95|5=>5|173=>197|212=>249|51=>84|20=>20|213=>250|46=>251|232=>303|233=>304|n=>n,fun|17=>0|18=>2|19=>3|n=>n⟩
theorem Tryz.MB:Go.Proofs.LaysM.n171 IF Tryz.KM:={
 mixed:=by kernel_rfl
 f129:=func157.trans (congrArg IH (by kernel_rfl))
 f171:=func13.trans (congrArg IH (by kernel_rfl))
 f243:=func36.trans (congrArg IH (by kernel_rfl))
 f246:=func72.trans (congrArg IH (by kernel_rfl))
 f283:=func108.trans (congrArg IH (by kernel_rfl))
 f284:=func109.trans (congrArg IH (by kernel_rfl))
 f285:=func110.trans (congrArg IH (by kernel_rfl))
 f286:=func111.trans (congrArg IH (by kernel_rfl))
 f317:=func156.trans (congrArg IH (by kernel_rfl))
 f318:=func158.trans (congrArg IH (by kernel_rfl))
 f319:=func159.trans (congrArg IH (by kernel_rfl))
 f320:=func160.trans (congrArg IH (by kernel_rfl))
 f337:=func205.trans (congrArg IH (by kernel_rfl))
 f338:=func206.trans (congrArg IH (by kernel_rfl))
 t0:=Lw
 a0:=MD
 z0:=Mn
 v0:=LO
 t2:=underlying2
 a2:=isAgg2
 z2:=sizeOf2
 v2:=zeroValue2
 t3:=Jx
 a3:=LL
 z3:=Ln
 v3:=Kf
 t4:=K0
 a4:=L4
 z4:=LR
 v4:=K1
 t5:=J1
 a5:=L1
 z5:=Lz
 v5:=Kx
 t9:=J0
 a9:=LS
 z9:=Ly
 v9:=Ks
 t20:=On
 a20:=isAgg20
 z20:=Rg
 v20:=O2
 t37:=MT
 a37:=Ok
 z37:=N4
 v37:=M1
 t46:=Lq
 a46:=Mu
 z46:=Mb
 v46:=LN
 t51:=NX
 a51:=Pu
 z51:=Pa
 v51:=N2
 t53:=Q2
 a53:=isAgg194
 z53:=sizeOf194
 v53:=zeroValue194
 t171:=underlying193
 a171:=isAgg193
 z171:=sizeOf193
 v171:=zeroValue193
 t173:=underlying197
 a173:=isAgg197
 z173:=sizeOf197
 v173:=zeroValue197
 t212:=underlying249
 a212:=isAgg249
 z212:=sizeOf249
 v212:=zeroValue249
 t213:=underlying250
 a213:=isAgg250
 z213:=sizeOf250
 t232:=underlying303
 a232:=isAgg303
 z232:=sizeOf303
 v232:=zeroValue303
 t233:=underlying304
 a233:=isAgg304
 z233:=sizeOf304
 v233:=zeroValue304
 g17:=by kernel_rfl
 g18:=by kernel_rfl
 g19:=by kernel_rfl
 i0:=by kernel_rfl
 i2:=by kernel_rfl
 i3:=by kernel_rfl
 i4:=by kernel_rfl
 i5:=by kernel_rfl
 i9:=by kernel_rfl
 i20:=by kernel_rfl
 i37:=by kernel_rfl
 i46:=by kernel_rfl
 i51:=by kernel_rfl
 i53:=by kernel_rfl
 i171:=by kernel_rfl
 i173:=by kernel_rfl
 i212:=by kernel_rfl
 i232:=by kernel_rfl
 i233:=by kernel_rfl
 m17:=by kernel_rfl
 m18:=by kernel_rfl
 m19:=by kernel_rfl }
open Go.RowKit Go.Sort Go.Lib in
theorem Tryz.strconv_Itoa (n : Int) (h0 : -9223372036854775808 <= n) (h1 : n <= 9223372036854775807) (w : Lo) (htab : Lib.TabIs IF w "internal/strconv.uint64pow10" .u64 Lib.pow10Tab) :
 L2 IF 13 #[MA N0 n] w λe w'=>e=IR (ID ⟨(Lib.itoa n).toArray⟩)/\∃k os,w'=grow (w.drewN k) os:=Any.strconv_Itoa Tryz.MB n h0 h1 w htab
def Tryz.KV:K2:=⟨fun|171=>13|243=>36|246=>72|283=>108|284=>109|285=>110|286=>111|129=>157|317=>156|318=>158|319=>159|320=>160|337=>205|338=>206|n=>n,fun|3=>3|9=>9|2=>2|4=>4|171=>193|0=>0|53=>194|37=>95|5=>5|173=>197|212=>249|51=>84|20=>20|213=>250|46=>251|232=>303|233=>304|n=>n,fun|17=>0|18=>2|19=>3|n=>n⟩
theorem Tryz.NT:Go.Proofs.Lays.n171 IF Tryz.KV:={
 mixed:=by kernel_rfl
 f129:=func157.trans (congrArg IH (by kernel_rfl))
 f171:=func13.trans (congrArg IH (by kernel_rfl))
 f243:=func36.trans (congrArg IH (by kernel_rfl))
 f246:=func72.trans (congrArg IH (by kernel_rfl))
 f283:=func108.trans (congrArg IH (by kernel_rfl))
 f284:=func109.trans (congrArg IH (by kernel_rfl))
 f285:=func110.trans (congrArg IH (by kernel_rfl))
 f286:=func111.trans (congrArg IH (by kernel_rfl))
 f317:=func156.trans (congrArg IH (by kernel_rfl))
 f318:=func158.trans (congrArg IH (by kernel_rfl))
 f319:=func159.trans (congrArg IH (by kernel_rfl))
 f320:=func160.trans (congrArg IH (by kernel_rfl))
 f337:=func205.trans (congrArg IH (by kernel_rfl))
 f338:=func206.trans (congrArg IH (by kernel_rfl))
 t0:=Lw
 a0:=MD
 z0:=Mn
 v0:=LO
 t2:=underlying2
 a2:=isAgg2
 z2:=sizeOf2
 v2:=zeroValue2
 t3:=Jx
 a3:=LL
 z3:=Ln
 v3:=Kf
 t4:=K0
 a4:=L4
 z4:=LR
 v4:=K1
 t5:=J1
 a5:=L1
 z5:=Lz
 v5:=Kx
 t9:=J0
 a9:=LS
 z9:=Ly
 v9:=Ks
 t20:=On
 a20:=isAgg20
 z20:=Rg
 v20:=O2
 t37:=MT
 a37:=Ok
 z37:=N4
 v37:=M1
 t46:=Lq
 a46:=Mu
 z46:=Mb
 v46:=LN
 t51:=NX
 a51:=Pu
 z51:=Pa
 v51:=N2
 t53:=Q2
 a53:=isAgg194
 z53:=sizeOf194
 v53:=zeroValue194
 t171:=underlying193
 a171:=isAgg193
 z171:=sizeOf193
 v171:=zeroValue193
 t173:=underlying197
 a173:=isAgg197
 z173:=sizeOf197
 v173:=zeroValue197
 t212:=underlying249
 a212:=isAgg249
 z212:=sizeOf249
 v212:=zeroValue249
 t213:=underlying250
 a213:=isAgg250
 z213:=sizeOf250
 t232:=underlying303
 a232:=isAgg303
 z232:=sizeOf303
 v232:=zeroValue303
 t233:=underlying304
 a233:=isAgg304
 z233:=sizeOf304
 v233:=zeroValue304
 g17:=by kernel_rfl
 g18:=by kernel_rfl
 g19:=by kernel_rfl }
open Go.RowKit Go.Sort Go.Lib in
theorem Tryz.strconv_Itoa_small (i:Nat)(hi:i<100)(w:Lo) :
 L2 IF 13 #[MA N0 i] w λe w'=>e=IR (ID ⟨(Lib.decDigits i).toArray⟩)/\w'=w:=Any.strconv_Itoa_small Tryz.NT i hi w
def Tryz.KL:K2:=⟨fun|316=>264|n=>n,fun|9=>9|3=>3|4=>4|37=>95|0=>0|127=>169|5=>5|n=>n,fun|n=>n⟩
theorem Tryz.Mx:Go.Proofs.LaysM.n316 IF Tryz.KL:={
 mixed:=by kernel_rfl
 f316:=func264.trans (congrArg IH (by kernel_rfl))
 t0:=Lw
 a0:=MD
 z0:=Mn
 v0:=LO
 t3:=Jx
 a3:=LL
 z3:=Ln
 v3:=Kf
 t4:=K0
 a4:=L4
 z4:=LR
 v4:=K1
 t9:=J0
 a9:=LS
 z9:=Ly
 v9:=Ks
 t37:=MT
 a37:=Ok
 z37:=N4
 v37:=M1
 t127:=Of
 a127:=isAgg169
 z127:=sizeOf169
 v127:=zeroValue169
 t5:=J1
 a5:=L1
 z5:=Lz
 v5:=Kx
 i0:=by kernel_rfl
 i3:=by kernel_rfl
 i4:=by kernel_rfl
 i5:=by kernel_rfl
 i9:=by kernel_rfl
 i37:=by kernel_rfl
 i127:=by kernel_rfl }
open Go.RowKit in
theorem Tryz.stringslite_Clone (s:ByteArray)(w:Lo)(hlim:s.size<=281474976710656) :
 L2 IF 264 #[ID s] w λe w'=>e=IR (ID s)/\Below w.heap.size w w':=Any.stringslite_Clone Tryz.Mx s w hlim
def Tryz.K3:K2:=⟨fun|145=>81|220=>128|219=>175|217=>215|225=>216|224=>217|267=>218|266=>247|314=>248|n=>n,fun|9=>9|4=>4|59=>161|3=>3|5=>5|46=>251|146=>297|51=>84|n=>n,fun|1=>1|n=>n⟩
theorem Tryz.N9:Go.Proofs.Lays.n145 IF Tryz.K3:={
 mixed:=by kernel_rfl
 f145:=func81.trans (congrArg IH (by kernel_rfl))
 f217:=func215.trans (congrArg IH (by kernel_rfl))
 f219:=func175.trans (congrArg IH (by kernel_rfl))
 f220:=func128.trans (congrArg IH (by kernel_rfl))
 f224:=func217.trans (congrArg IH (by kernel_rfl))
 f225:=func216.trans (congrArg IH (by kernel_rfl))
 f266:=func247.trans (congrArg IH (by kernel_rfl))
 f267:=func218.trans (congrArg IH (by kernel_rfl))
 f314:=func248.trans (congrArg IH (by kernel_rfl))
 t3:=Jx
 a3:=LL
 z3:=Ln
 v3:=Kf
 t4:=K0
 a4:=L4
 z4:=LR
 v4:=K1
 t5:=J1
 a5:=L1
 z5:=Lz
 v5:=Kx
 t9:=J0
 a9:=LS
 z9:=Ly
 v9:=Ks
 t46:=Lq
 a46:=Mu
 z46:=Mb
 v46:=LN
 t51:=NX
 a51:=Pu
 z51:=Pa
 v51:=N2
 t59:=underlying161
 a59:=isAgg161
 z59:=sizeOf161
 v59:=zeroValue161
 t146:=underlying297
 a146:=isAgg297
 z146:=sizeOf297
 v146:=zeroValue297
 g1:=by kernel_rfl }
open Go.RowKit Go.Lib in
theorem Tryz.strings_Cut (s sep:ByteArray)(m:Int)(w:Lo)(hs:s.size<4294967281)(hm:w.cell? ⟨1,0,L5⟩=IH (MA N0 m)) :
 L2 IF 81 #[ID s,ID sep] w λe w'=>e=IR (NO #[ID ⟨(N3 s.data.toList sep.data.toList).1.toArray⟩,ID ⟨(N3 s.data.toList sep.data.toList).2.1.toArray⟩,LI (N3 s.data.toList sep.data.toList).2.2])/\∃n,w'=w.drewN n:=Any.strings_Cut Tryz.N9 s sep m w hs hm
def Tryz.KZ:K2:=⟨fun|152=>249|137=>267|119=>268|224=>217|225=>216|217=>215|266=>247|n=>n,fun|9=>9|21=>21|3=>3|4=>4|5=>5|0=>0|46=>251|n=>n,fun|n=>n⟩
theorem Tryz.N8:Go.Proofs.Lays.n152 IF Tryz.KZ:={
 mixed:=by kernel_rfl
 f119:=func268.trans (congrArg IH (by kernel_rfl))
 f137:=func267.trans (congrArg IH (by kernel_rfl))
 f152:=func249.trans (congrArg IH (by kernel_rfl))
 f217:=func215.trans (congrArg IH (by kernel_rfl))
 f224:=func217.trans (congrArg IH (by kernel_rfl))
 f225:=func216.trans (congrArg IH (by kernel_rfl))
 f266:=func247.trans (congrArg IH (by kernel_rfl))
 t0:=Lw
 a0:=MD
 z0:=Mn
 v0:=LO
 t3:=Jx
 a3:=LL
 z3:=Ln
 v3:=Kf
 t4:=K0
 a4:=L4
 z4:=LR
 v4:=K1
 t5:=J1
 a5:=L1
 z5:=Lz
 v5:=Kx
 t9:=J0
 a9:=LS
 z9:=Ly
 v9:=Ks
 t21:=MY
 a21:=ON
 z21:=N5
 v21:=Nd
 t46:=Lq
 a46:=Mu
 z46:=Mb
 v46:=LN }
open Go.RowKit Go.Lib in
theorem Tryz.strings_IndexRune_ascii (s:ByteArray)(r:Int)(w:Lo)(h0:0<=r)(h1:r<128) :
 L2 IF 249 #[ID s,MA .i32 r] w λe w'=>e=IR (MA N0 (Sx s.data.toList r.toNat.toUInt8))/\w'=w:=Any.strings_IndexRune_ascii Tryz.N8 s r w h0 h1
def Tryz.KU:K2:=⟨fun|226=>250|n=>n,fun|3=>3|4=>4|n=>n,fun|n=>n⟩
theorem Tryz.NS:Go.Proofs.Lays.n226 IF Tryz.KU:={
 mixed:=by kernel_rfl
 f226:=func250.trans (congrArg IH (by kernel_rfl))
 t3:=Jx
 a3:=LL
 z3:=Ln
 v3:=Kf
 t4:=K0
 a4:=L4
 z4:=LR
 v4:=K1 }
open Go.RowKit Go.Lib in
theorem Tryz.strings_shouldUseASCIISet (n:Int)(w:Lo) :
 L2 IF 250 #[MA N0 n] w λe w'=>e=IR (LI (decide (8<n)))/\w'=w:=Any.strings_shouldUseASCIISet Tryz.NS n w
def Tryz.KY:K2:=⟨fun|153=>222|152=>249|226=>250|227=>229|228=>251|137=>267|119=>268|224=>217|225=>216|217=>215|266=>247|n=>n,fun|9=>9|3=>3|4=>4|5=>5|21=>21|117=>293|116=>292|0=>0|46=>251|124=>296|n=>n,fun|n=>n⟩
theorem Tryz.N7:Go.Proofs.Lays.n153 IF Tryz.KY:={
 mixed:=by kernel_rfl
 f119:=func268.trans (congrArg IH (by kernel_rfl))
 f137:=func267.trans (congrArg IH (by kernel_rfl))
 f152:=func249.trans (congrArg IH (by kernel_rfl))
 f153:=func222.trans (congrArg IH (by kernel_rfl))
 f217:=func215.trans (congrArg IH (by kernel_rfl))
 f224:=func217.trans (congrArg IH (by kernel_rfl))
 f225:=func216.trans (congrArg IH (by kernel_rfl))
 f226:=func250.trans (congrArg IH (by kernel_rfl))
 f227:=func229.trans (congrArg IH (by kernel_rfl))
 f228:=func251.trans (congrArg IH (by kernel_rfl))
 f266:=func247.trans (congrArg IH (by kernel_rfl))
 t0:=Lw
 a0:=MD
 z0:=Mn
 v0:=LO
 t3:=Jx
 a3:=LL
 z3:=Ln
 v3:=Kf
 t4:=K0
 a4:=L4
 z4:=LR
 v4:=K1
 t5:=J1
 a5:=L1
 z5:=Lz
 v5:=Kx
 t9:=J0
 a9:=LS
 z9:=Ly
 v9:=Ks
 t21:=MY
 a21:=ON
 z21:=N5
 v21:=Nd
 t46:=Lq
 a46:=Mu
 z46:=Mb
 v46:=LN
 t116:=underlying292
 a116:=isAgg292
 z116:=sizeOf292
 t117:=underlying293
 a117:=isAgg293
 z117:=sizeOf293
 v117:=zeroValue293
 t124:=underlying296
 a124:=isAgg296
 z124:=sizeOf296
 v124:=zeroValue296 }
open Go.RowKit Go.Lib in
theorem Tryz.strings_IndexAny_long (hv116:∀w,(zeroValue 292).run IF w=.ok (SD (Array.replicate 256 (LI L3))) w)(s chars:ByteArray)(w:Lo)(h2:2<=chars.size)(h8:8<s.size)(hs:s.size<4294967281)(hcs:chars.size<4294967281)(hascii:∀(j:Nat) b,chars.data.toList[j]?=IH b->b.toNat<128) :
 L2 IF 222 #[ID s,ID chars] w λe w'=>e=IR (MA N0 (Lib.indexAny s.data.toList chars.data.toList))/\w'=((w.alloc (.cells (Lib.setCells chars.data.toList) 292)).alloc (.cells (Lib.setCells chars.data.toList) 292)):=Any.strings_IndexAny_long Tryz.N7 hv116 (by kernel_rfl) s chars w h2 h8 hs hcs hascii
def Tryz.J2:K2:=⟨fun|105=>146|212=>195|99=>196|165=>197|166=>50|170=>198|169=>51|263=>236|264=>237|206=>219|240=>85|241=>238|276=>133|277=>263|n=>n,fun|9=>9|3=>3|4=>4|20=>20|0=>0|46=>251|109=>270|5=>5|72=>118|76=>121|51=>84|146=>297|53=>194|148=>299|70=>116|37=>95|75=>120|127=>169|164=>127|80=>53|n=>n,fun|n=>n⟩
theorem Tryz.Od:Go.Proofs.Lays.n105 IF Tryz.J2:={
 mixed:=by kernel_rfl
 f99:=func196.trans (congrArg IH (by kernel_rfl))
 f105:=func146.trans (congrArg IH (by kernel_rfl))
 f165:=func197.trans (congrArg IH (by kernel_rfl))
 f166:=func50.trans (congrArg IH (by kernel_rfl))
 f169:=func51.trans (congrArg IH (by kernel_rfl))
 f170:=func198.trans (congrArg IH (by kernel_rfl))
 f206:=func219.trans (congrArg IH (by kernel_rfl))
 f212:=func195.trans (congrArg IH (by kernel_rfl))
 f240:=func85.trans (congrArg IH (by kernel_rfl))
 f241:=func238.trans (congrArg IH (by kernel_rfl))
 f263:=func236.trans (congrArg IH (by kernel_rfl))
 f264:=func237.trans (congrArg IH (by kernel_rfl))
 f276:=func133.trans (congrArg IH (by kernel_rfl))
 f277:=func263.trans (congrArg IH (by kernel_rfl))
 t0:=Lw
 a0:=MD
 z0:=Mn
 v0:=LO
 t3:=Jx
 a3:=LL
 z3:=Ln
 v3:=Kf
 t4:=K0
 a4:=L4
 z4:=LR
 v4:=K1
 t5:=J1
 a5:=L1
 z5:=Lz
 v5:=Kx
 t9:=J0
 a9:=LS
 z9:=Ly
 v9:=Ks
 t20:=On
 a20:=isAgg20
 z20:=Rg
 v20:=O2
 t37:=MT
 a37:=Ok
 z37:=N4
 v37:=M1
 t46:=Lq
 a46:=Mu
 z46:=Mb
 v46:=LN
 t51:=NX
 a51:=Pu
 z51:=Pa
 v51:=N2
 t53:=Q2
 a53:=isAgg194
 z53:=sizeOf194
 v53:=zeroValue194
 t70:=PP
 a70:=isAgg116
 z70:=sizeOf116
 v70:=zeroValue116
 t72:=Q1
 a72:=isAgg118
 z72:=sizeOf118
 v72:=zeroValue118
 t75:=underlying120
 a75:=isAgg120
 z75:=sizeOf120
 v75:=zeroValue120
 t76:=underlying121
 a76:=isAgg121
 z76:=sizeOf121
 v76:=zeroValue121
 t109:=underlying270
 a109:=isAgg270
 z109:=sizeOf270
 v109:=zeroValue270
 t127:=Of
 a127:=isAgg169
 z127:=sizeOf169
 v127:=zeroValue169
 t146:=underlying297
 a146:=isAgg297
 z146:=sizeOf297
 v146:=zeroValue297
 t148:=underlying299
 a148:=isAgg299
 z148:=sizeOf299
 v148:=zeroValue299
 t164:=R0
 a164:=Ss
 z164:=So
 v164:=R1 }
theorem Tryz.JP:Builder.Extra IF Tryz.J2:={
 sizeBuilder:=by kernel_rfl
 liesBuilder:=by kernel_rfl
 t5:=J1
 a5:=L1
 z5:=Lz
 v5:=Kx
 infoByte:=by kernel_rfl
 cellsByte:=by kernel_rfl
 sizeByte:=by kernel_rfl
 neB5:=by decide }
open Go.RowKit Go.Lib in
theorem Tryz.strings_Repeat (s:ByteArray)(c:Nat)(w:Lo)(hc:c<=9223372036854775807)(hlen:s.size*c<=140737488355328) :
 L2 IF 146 #[ID s,MA N0 c] w λe w'=>e=IR (ID ⟨(Lib.repeatL s.data.toList c).toArray⟩)/\Below w.heap.size w w':=Any.strings_Repeat Tryz.Od Tryz.JP s c w hc hlen
end Go.Proofs
namespace Go.Proofs
theorem Tryz.Mq:(prog.info? 292).map (λi=>(i.zero,i.size))=IH (IH (SD (Array.replicate 256 (LI L3))),256):=by kernel_rfl
open Go.RowKit Go.Lib in
theorem Tryz.JU (s:ByteArray)(w:Lo)(hs:s.size<=9223372036854775807) :
 L2 IF 182 #[ID s,ID ⟨#[32,9]⟩] w λe w'=>e=IR (ID ⟨(Lib.trimS s.data.toList [32,9]).toArray⟩)/\Below w.heap.size w w' :=
 Any.strings_Trim_laid Tryz.NY Tryz.Mq s ⟨#[32,9]⟩ w hs (by decide) (ascii_of_all (by decide))
open Go.RowKit Go.Lib in
theorem Tryz.Jv (s:ByteArray)(w:Lo) :
 L2 IF 274 #[ID s,ID ⟨#[32,9]⟩] w λe w'=>e=IR (ID ⟨(Lib.trimLeftS s.data.toList [32,9]).toArray⟩)/\Below w.heap.size w w' :=
 Any.strings_TrimLeft_laid Tryz.NW Tryz.Mq s ⟨#[32,9]⟩ w (by decide) (ascii_of_all (by decide))
end Go.Proofs
namespace Go.Proofs.YtmehkneofinmiabGreatDoor
open Go.RowKit
def QD (c:Int):Bool:=c==33||(decide (35<=c)&&decide (c<=126))||decide (128<=c)
def tb (c:UInt8):Bool:=QD c.toNat
def dT (l:List UInt8):Bool:=l.all tb
theorem px (c:Int)(w:Lo) :
 L2 IF 283 #[MA .u8 c] w λe w'=>e=IR (LI (QD c))/\w'=w:=by
 go_enter func283,ntmps283;go_wp2;all_goals go_ret
 all_goals refine⟨bl ?_,rfl⟩
 all_goals first|(simp_all [QD];done)|(rw[Pi];simp[QD];omega)
theorem pI (s:ByteArray)(w:Lo)(hs:s.size<=9223372036854775807) :
 L2 IF 273 #[ID s] w λe w'=>e=IR (LI (dT s.data.toList))/\w'=w:=by
 go_enter func273,ntmps273;go_wp2;go_loop [6] (λi=>∃k:Nat,k<=s.size/\i=MA N0 k/\Hid ((s.data.toList.take k).all tb=PC)) (λi=>s.size-(PF i).toNat);case atStart=>exact⟨0,N1 _,rfl,rfl⟩
 case round =>
  obtain⟨k,hk,rfl,ha⟩:=hrel;by_cases hlt:k<s.size
  ·(have HA:Hid ((s.data.toList.take (k+1)).all tb=tb s[k]):=by have:=ha.out;show _=_;rw[cV s k hlt,N6,this];simp);(have HN:Hid (tb s[k]=L3->dT s.data.toList=L3):=λhd=>by unfold dT;rw[List.all_eq_false];exact⟨s[k],OS (l:=s.data.toList) (by simpa using hlt),by simp[hd]⟩);go_wp2_with (go_at_call 283;refine(px _ _).mono ?_;rintro e w' ⟨rfl,rfl⟩)
   ·go_ret;have h:=‹(!QD _)=PC›;exact⟨bl (HN.out (by simpa [tb] using h)).symm,rfl⟩
   ·have h:=‹(!QD _)=L3›;exact⟨⟨k+1,by omega,by go_num,HA.out.trans (by simpa [tb] using h)⟩,by simp[PF];omega⟩
  ·go_wp2;go_ret;have:=ha.out;rw[Nx (by simp;omega)] at this;exact⟨bl this.symm,rfl⟩
def strip (l:List UInt8):List UInt8:=Lib.trimLeftS l [32,9]
theorem qL (s:ByteArray)(w:Lo) :
 L2 IF 256 #[ID s] w λe w'=>e=IR (NO #[ID ⟨(strip (I3 (strip s.data.toList) [44])).toArray⟩,LI (Mz (strip s.data.toList) [44])])/\Below w.heap.size w w':=by
 go_enter func256,ntmps256;go_wp2_with fail;refine(Tryz.Jv _ _).mono ?_;rintro e w1 ⟨rfl,A0⟩;go_wp2_with fail;refine(Tryz.strings_CutPrefix _ _ _).mono ?_;rintro e w2 ⟨rfl,rfl⟩;go_wp2_with fail;refine(Tryz.Jv _ _).mono ?_;rintro e w3 ⟨rfl,A1⟩;go_wp2;go_ret2;exact⟨rfl,A0.trans (A1.mono A0.size)⟩
theorem je (s:ByteArray)(w:Lo)(hs:s.size<=281474976710656) :
 L2 IF 240 #[ID s] w λe w'=>e=IR (ID s)/\Below w.heap.size w w':=by
 go_enter func240,ntmps240;go_wp2_with fail;refine(Tryz.stringslite_Clone _ _ hs).mono ?_;rintro e w1 ⟨rfl,A0⟩;go_wp2;go_ret;exact⟨rfl,A0⟩
open Go.RowKit
def pJ (l:List UInt8):Option (Bool×List UInt8×List UInt8) :=
 let q:=I3 l [87,47]
 let c:=N3 (I3 q [34]) [34]
 if Mz q [34]&&(c.2.2&&dT c.1) then IH (Mz l [87,47],c.1,c.2.1) else L5
def bu (w:Lo):Prop:=∃m:Int,w.cell? ⟨1,0,L5⟩=IH (MA N0 m)
theorem bj {w:Lo}{b o:Nat}{v:Sf}(h:w.cell? ⟨b,o,L5⟩=IH v):b<w.heap.size:=World.block_lt_of_cell? _ _ h
theorem bu.below {w w':Lo}(h:bu w)(hb:Below w.heap.size w w'):bu w':=by
 obtain⟨m,hm⟩:=h;exact⟨m,(hb.cell (p:=⟨1,0,L5⟩) (bj hm)).trans hm⟩
def jF (f:FuncId)(args:Array Sf)(v:Sf)(T:Lo->Prop):Prop:=∀w,T w->L2 IF f args w λe w'=>e=IR v/\Below w.heap.size w w'
def Gb:Bool->Bool->ByteArray->ByteArray->Sf
 | true,weak,name,behind=>NO #[SD #[LI weak,ID name],ID behind,LI PC]
 | false,_,_,_=>NO #[SD #[LI L3,ID ⟨#[]⟩],ID ⟨#[]⟩,LI L3]
structure Bx (w x:Lo):Prop where
 b:Below w.heap.size w x
 c0:x.cell? ⟨w.heap.size,0,L5⟩=IH (LI L3)
 c1:x.cell? ⟨w.heap.size,1,L5⟩=IH (ID ⟨#[]⟩)
 f0:x.frozen? ⟨w.heap.size,0,L5⟩=L3
 f1:x.frozen? ⟨w.heap.size,1,L5⟩=L3
 lt:w.heap.size<x.heap.size
theorem Bx.made (w:Lo):Bx w (w.alloc (.cells #[LI L3,ID ⟨#[]⟩] 273)) :=
 ⟨(Below.refl _ _).alloc (Mp _) _,by simp,by simp,by simp,by simp,by simp⟩
theorem Bx.below {w x y:Lo}(h:Bx w x)(hb:Below x.heap.size x y):Bx w y:=by
 have lt:=h.lt;have k:=hb.size;exact⟨h.b.trans (hb.mono (by omega)),(hb.cell (p:=⟨_,0,L5⟩) lt).trans h.c0,(hb.cell (p:=⟨_,1,L5⟩) lt).trans h.c1,(hb.frozen (p:=⟨_,0,L5⟩) lt).trans h.f0,(hb.frozen (p:=⟨_,1,L5⟩) lt).trans h.f1,by omega⟩
theorem wX (s q inner name behind:ByteArray)(weak opened closed good:Bool)(w:Lo)(hM:bu w)
 (h1:jF 129 #[ID s,ID ⟨#[87,47]⟩] (NO #[ID q,LI weak]) bu)(h2:jF 129 #[ID q,ID ⟨#[34]⟩] (NO #[ID inner,LI opened]) bu)
 (h3:jF 81 #[ID inner,ID ⟨#[34]⟩] (NO #[ID name,ID behind,LI closed]) bu)(h4:jF 273 #[ID name] (LI good) bu)(h5:jF 240 #[ID name] (ID name) bu) :
 L2 IF 255 #[ID s] w λe w'=>e=IR (Gb (opened&&(closed&&good)) weak name behind)/\Below w.heap.size w w':=by
 have bx:=Bx.made w;have H1:=IA h1;have H2:=IA h2;have H3:=IA h3;have H4:=IA h4;have H5:=IA h5;clear h1 h2 h3 h4 h5;go_enter func255,ntmps255;go_wp2_with fail;refine RE (H1.out _ (hM.below bx.b)) ?_;rintro e w1 ⟨rfl,A7⟩;have A3:=bx.below A7;clear bx A7;go_wp2_with fail;refine RE (H2.out _ (hM.below A3.b)) ?_;rintro e w2 ⟨rfl,A5⟩;have A1:=A3.below A5;clear A3 A5;cases opened with
 | false =>obtain⟨q1,q2,q3,q4,q5,q6⟩:=A1;go_wp2;exact RK (v:=NO #[SD #[LI L3,ID ⟨#[]⟩],ID ⟨#[]⟩,LI L3]) (by simp[results,results255,go_sem,q2,q3]) rfl ⟨rfl,(q1.setCell (Mp _) _).setCell (Mp _) _⟩
 | true =>
   go_wp2_with fail;refine RE (H3.out _ (hM.below A1.b)) ?_;rintro e w3 ⟨rfl,A8⟩;have A2:=A1.below A8;clear A1 A8;cases closed with
   | false =>obtain⟨q1,q2,q3,q4,q5,q6⟩:=A2;go_wp2;exact RK (v:=NO #[SD #[LI L3,ID ⟨#[]⟩],ID ⟨#[]⟩,LI L3]) (by simp[results,results255,go_sem,q2,q3]) rfl ⟨rfl,(q1.setCell (Mp _) _).setCell (Mp _) _⟩
   | true =>
     go_wp2_with fail;refine RE (H4.out _ (hM.below A2.b)) ?_;rintro e w4 ⟨rfl,A6⟩;have A0:=A2.below A6;clear A2 A6;cases good with
     | false =>obtain⟨q1,q2,q3,q4,q5,q6⟩:=A0;go_wp2;exact RK (v:=NO #[SD #[LI L3,ID ⟨#[]⟩],ID ⟨#[]⟩,LI L3]) (by simp[results,results255,go_sem,q2,q3]) rfl ⟨rfl,(q1.setCell (Mp _) _).setCell (Mp _) _⟩
     | true =>go_wp2_with fail;refine RE (H5.out _ (hM.below A0.b)) ?_;rintro e w5 ⟨rfl,A4⟩;have A9:=A0.below A4;clear A0 A4;obtain⟨q1,q2,q3,q4,q5,q6⟩:=A9;go_wp2;exact RK (v:=NO #[SD #[LI weak,ID name],ID behind,LI PC]) (by simp[results,results255,go_sem,q2,q3]) rfl ⟨rfl,(q1.setCell (Mp _) _).setCell (Mp _) _⟩
theorem ov (l:List UInt8):pJ l=if Mz (I3 l [87,47]) [34]&&((N3 (I3 (I3 l [87,47]) [34]) [34]).2.2&&dT (N3 (I3 (I3 l [87,47]) [34]) [34]).1)
 then IH (Mz l [87,47],(N3 (I3 (I3 l [87,47]) [34]) [34]).1,(N3 (I3 (I3 l [87,47]) [34]) [34]).2.1) else L5:=rfl
theorem xI (l p:List UInt8):(N3 l p).1.length<=l.length:=by
 unfold N3;split
 ·simp;omega
 ·exact Mp _
theorem wi (s:ByteArray)(w:Lo)(hM:bu w)(hs:s.size<4294967281) :
 L2 IF 255 #[ID s] w λe w'=>((∃weak name behind,pJ s.data.toList=IH (weak,name,behind)/\e=IR (NO #[SD #[LI weak,ID ⟨name.toArray⟩],ID ⟨behind.toArray⟩,LI PC])) \/
  (pJ s.data.toList=L5/\e=IR (NO #[SD #[LI L3,ID ⟨#[]⟩],ID ⟨#[]⟩,LI L3])))/\Below w.heap.size w w':=by
 have z1:=R2 s.data.toList [87,47];have z2:=R2 (I3 s.data.toList [87,47]) [34];have z3:=xI (I3 (I3 s.data.toList [87,47]) [34]) [34];have z0:=Nm s;have g1:jF 129 #[ID s,ID ⟨#[87,47]⟩] (NO #[ID ⟨(I3 s.data.toList [87,47]).toArray⟩,LI (Mz s.data.toList [87,47])]) bu:=λw _=>by refine(Tryz.strings_CutPrefix s ⟨#[87,47]⟩ w).mono ?_;rintro e w' ⟨rfl,rfl⟩;exact⟨rfl,Below.refl _ _⟩
 have g2:jF 129 #[ID ⟨(I3 s.data.toList [87,47]).toArray⟩,ID ⟨#[34]⟩] (NO #[ID ⟨(I3 (I3 s.data.toList [87,47]) [34]).toArray⟩,LI (Mz (I3 s.data.toList [87,47]) [34])]) bu:=λw _=>by refine(Tryz.strings_CutPrefix ⟨(I3 s.data.toList [87,47]).toArray⟩ ⟨#[34]⟩ w).mono ?_;rintro e w' ⟨rfl,rfl⟩;exact⟨rfl,Below.refl _ _⟩
 generalize hq:I3 (I3 s.data.toList [87,47]) [34]=inner at z2 z3 g2;have g3:jF 81 #[ID ⟨inner.toArray⟩,ID ⟨#[34]⟩] (NO #[ID ⟨(N3 inner [34]).1.toArray⟩,ID ⟨(N3 inner [34]).2.1.toArray⟩,LI (N3 inner [34]).2.2]) bu:=λw hw=>by obtain⟨m,hm⟩:=hw;refine(Tryz.strings_Cut ⟨inner.toArray⟩ ⟨#[34]⟩ m w (by rw[Nm];simp;omega) hm).mono ?_;rintro e w' ⟨rfl,n,rfl⟩;exact⟨rfl,below_drewN (Below.refl _ _) n⟩
 generalize hc:N3 inner [34]=c at z3 g3;have g4:jF 273 #[ID ⟨c.1.toArray⟩] (LI (dT c.1)) bu:=λw _=>by refine(pI ⟨c.1.toArray⟩ w (by rw[Nm];simp;omega)).mono ?_;rintro e w' ⟨rfl,rfl⟩;exact⟨rfl,Below.refl _ _⟩
 have g5:jF 240 #[ID ⟨c.1.toArray⟩] (ID ⟨c.1.toArray⟩) bu:=λw _=>je ⟨c.1.toArray⟩ w (by rw[Nm];simp;omega);refine(wX s _ _ _ _ _ _ _ _ w hM g1 g2 g3 g4 g5).mono ?_;rintro e w' ⟨rfl,hb⟩;refine⟨?_,hb⟩;rw[ov,hq,hc];cases hB:(Mz (I3 s.data.toList [87,47]) [34]&&(c.2.2&&dT c.1)) with
 | true=>exact Or.inl ⟨_,_,_,rfl,rfl⟩
 | false=>exact Or.inr ⟨rfl,rfl⟩
end Go.Proofs.YtmehkneofinmiabGreatDoor

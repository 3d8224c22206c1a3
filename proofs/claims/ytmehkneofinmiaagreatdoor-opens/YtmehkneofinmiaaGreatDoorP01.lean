/-part 1-/
import Derived.Test.YtmehkneofinmiaaGreatDoorProg
import Derived.Lib.ItoaNum
import Derived.Lib.Strings
import Derived.WalkSpells
import Derived.WalkLawsBesides
import Derived.BigQuiet
set_option maxHeartbeats 1000000
namespace Go.Proofs.YtmehkneofinmiaaGreatDoor
theorem gL {α:Type}{a:Array α}{i:Nat}{v:α}(h:a[i]?=some v):i<a.size:=(Array.getElem?_eq_some_iff.1 h).1
namespace Cal
def leap (y:Int):Bool:=y%4==0&&(y%100 != 0||y%400==0)
def lya (y:Int):Int:=(y-1)/4-(y-1)/100+(y-1)/400
def ahead (y:Int):Int:=365*(y-1970)+lya y-477
def ylen (y:Int):Int:=if leap y then 366 else 365
def ml (y m:Int):Int:=if m=1 then (if leap y then 29 else 28) else if m=3\/m=5\/m=8\/m=10 then 30 else 31
def cum (y:Int):Nat->Int
 | 0=>0
 | m+1=>cum y m+ml y m
theorem rN (y:Int):leap y=true ↔ y%4=0/\(y%100≠0\/y%400=0):=by simp[leap]
theorem tB (y:Int):(y%4=0/\(y%100≠0\/y%400=0)/\ylen y=366)\/(¬ (y%4=0/\(y%100≠0\/y%400=0))/\ylen y=365):=by
 unfold ylen;by_cases h:leap y=true
 ·have:=(rN y).1 h;simp[h,this]
 ·have h':¬ (y%4=0/\(y%100≠0\/y%400=0)):=λ k=>h ((rN y).2 k);right;exact⟨h',by simp[h]⟩
theorem ylen_bd (y:Int):365<=ylen y/\ylen y<=366:=by unfold ylen;split<;>omega
theorem ahead_succ (y:Int):ahead (y+1)=ahead y+ylen y:=by
 unfold ahead lya;rcases tB y with ⟨h1,h2,h3⟩|⟨h1,h3⟩
 ·rw[h3];omega
 ·rw[h3];omega
theorem ahead_1970:ahead 1970=0:=by decide
theorem ahead_10000:ahead 10000=2932897:=by decide
theorem ahead_mono {a b:Int}(h:a<=b):ahead a<=ahead b:=by unfold ahead lya;omega
theorem ml_bd (y m:Int):28<=ml y m/\ml y m<=31:=by unfold ml;repeat' split<;>omega
theorem cum_12 (y:Int):cum y 12=ylen y:=by
 simp only[cum,ml,ylen];by_cases h:leap y=true<;>simp[h]
theorem cum_le (y:Int){a b:Nat}(h:a<=b):cum y a<=cum y b:=by
 induction b with
 | zero=>obtain rfl:a=0:=by omega
         exact Int.le_refl _
 | succ b ih =>
   by_cases e:a=b+1
   ·rw[e];exact Int.le_refl _
   ·have:=ih (by omega);have:=ml_bd y b;simp only[cum];omega
theorem cum_nonneg (y:Int)(a:Nat):0<=cum y a:=by have:=cum_le y (Nat.zero_le a);simpa [cum] using this
structure Sp (d y:Int)(m:Nat)(k:Int):Prop where
 y0:1970<=y
 m12:m<12
 k0:0<=k
 k1:k<ml y m
 eq:d=ahead y+cum y m+k
theorem Sp.year {d y:Int}{m:Nat}{k:Int}(h:Sp d y m k):ahead y<=d/\d<ahead (y+1):=by
 obtain⟨_,hm,h0,h1,rfl⟩:=h;have:=cum_nonneg y m;have:=cum_le y (show m+1<=12 by omega);rw[cum_12] at this;rw[ahead_succ];simp only[cum] at this;omega
theorem Sp.uniq {d y y':Int}{m m':Nat}{k k':Int}(h:Sp d y m k)(h':Sp d y' m' k'):y=y'/\m=m'/\k=k':=by
 have a:=h.year;have b:=h'.year;have e:y=y':=by
  rcases Int.lt_trichotomy y y' with l|l|l
  ·have:=ahead_mono (show y+1<=y' by omega);omega
  ·exact l
  ·have:=ahead_mono (show y'+1<=y by omega);omega
 subst e;have e1:=h.eq;have e2:=h'.eq;have k0:=h.k0;have k1:=h.k1;have A0:=h'.k0;have A1:=h'.k1;have em:m=m':=by
  rcases Nat.lt_trichotomy m m' with l|l|l
  ·have:=cum_le y (show m+1<=m' by omega);simp only[cum] at this;omega
  ·exact l
  ·have:=cum_le y (show m'+1<=m by omega);simp only[cum] at this;omega
 subst em;exact⟨rfl,rfl,by omega⟩
theorem Sp.range {d y:Int}{m:Nat}{k:Int}(h:Sp d y m k)(h1:d<=2932896):y<=9999:=by
 have:=h.year;by_cases e:y<=9999
 ·exact e
 ·have:=ahead_mono (show (10000:Int)<=y by omega);rw[ahead_10000] at this;omega
def dig (n:Int):UInt8:=UInt8.ofNat (48+n.toNat)
def two (n:Int):List UInt8:=[dig (n/10),dig (n%10)]
def four (n:Int):List UInt8:=[dig (n/1000),dig (n/100%10),dig (n/10%10),dig (n%10)]
def nm (s:List UInt8)(i:Nat):List UInt8:=(s.drop (i*3)).take 3
def week:List UInt8:=[84,104,117,70,114,105,83,97,116,83,117,110,77,111,110,84,117,101,87,101,100]
def Bp:List UInt8:=[83,117,110,77,111,110,84,117,101,87,101,100,84,104,117,70,114,105,83,97,116]
def months:List UInt8:=[74,97,110,70,101,98,77,97,114,65,112,114,77,97,121,74,117,110,74,117,108,65,117,103,83,101,112,79,99,116,78,111,118,68,101,99]
def fmt (d y:Int)(m:Nat)(k s:Int):List UInt8 :=
 nm week (d%7).toNat++[44,32]++two (k+1)++[32]++nm months m++[32]++four y++[32]++two (s/3600)++[58]++two (s%3600/60)++[58]++two (s%60)++[32,71,77,84]
def IsStamp (sec:Int)(l:List UInt8):Prop:=∃ y m k,Sp (sec/86400) y m k/\l=fmt (sec/86400) y m k (sec%86400)
theorem IsStamp.uniq {sec:Int}{l l':List UInt8}(h:IsStamp sec l)(h':IsStamp sec l'):l=l':=by
 obtain⟨y,m,k,s,rfl⟩:=h;obtain⟨y',m',k',s',rfl⟩:=h';obtain⟨rfl,rfl,rfl⟩:=s.uniq s';rfl
theorem nm_months_inj:∀ i j:Fin 12,nm months i=nm months j->i=j:=by decide
theorem week_same:∀ i:Fin 7,nm Bp ((i.val+4)%7)=nm week i:=by decide
theorem len_week:∀ i:Fin 7,(nm week i).length=3:=by decide
theorem len_months:∀ i:Fin 12,(nm months i).length=3:=by decide
end Cal
open Go.RowKit
theorem cu {k:IntKind}{a b:Int}(h:a=b):Ending.returned (.int k a)=.returned (.int k b):=by rw[h]
theorem aw {a b:Bool}(h:a=b):Ending.returned (.bool a)=.returned (.bool b):=by rw[h]
theorem aM {a b:ByteArray}(h:a=b):Ending.returned (.string a)=.returned (.string b):=by rw[h]
theorem j7 (y:Int)(w:World)(h0:0<=y)(h1:y<=20000) :
 Calls Tryz.prog 175 #[.int .i64 y] w λ e w'=>e=.returned (.bool (Cal.leap y))/\w'=w:=by
 go_enter Tryz.func175,Tryz.ntmps175;go_wp2;all_goals go_ret
 all_goals exact⟨aw (by simp_all [Cal.leap]),rfl⟩
theorem tr (y:Int)(w:World)(h0:0<=y)(h1:y<=20000) :
 Calls Tryz.prog 153 #[.int .i64 y] w λ e w'=>e=.returned (.bool (Cal.leap y))/\w'=w:=by
 go_enter Tryz.func153,Tryz.ntmps153;go_wp2;all_goals go_ret
 all_goals refine⟨aw ?_,rfl⟩
 all_goals first|(simp_all [Cal.leap];done)|(have h4:(y%400==0)=false:=by simp;omega
                                             have h5:(y%4==0)=false:=by simp;omega
                                             simp[Cal.leap,h4,h5])
theorem uB (y:Int)(w:World)(h0:1<=y)(h1:y<=20000) :
 Calls Tryz.prog 152 #[.int .i64 y] w λ e w'=>e=.returned (.int .i64 (Cal.lya y))/\w'=w:=by
 go_enter Tryz.func152,Tryz.ntmps152;go_wp2;go_ret;exact⟨cu (by simp[Cal.lya]),rfl⟩
theorem A2 (y:Int)(h0:1<=y)(h1:y<=20000):0<=Cal.lya y/\Cal.lya y<=20000:=by unfold Cal.lya;omega
theorem ye:Cal.lya 1970=477:=by decide
theorem kz (y:Int)(w:World)(h0:1970<=y)(h1:y<=20000) :
 Calls Tryz.prog 96 #[.int .i64 y] w λ e w'=>e=.returned (.int .i64 (Cal.ahead y))/\w'=w:=by
 have hb:=A2 y (by omega) h1;go_enter Tryz.func96,Tryz.ntmps96;go_wp2_with fail;refine (uB _ _ (by omega) (by omega)).mono ?_;rintro e w1 ⟨rfl,rfl⟩;go_wp2_with fail;refine (uB _ _ (by omega) (by omega)).mono ?_;rintro e w1 ⟨rfl,rfl⟩;rw[ye];go_wp2;go_ret;exact⟨cu (by simp[Cal.ahead]),rfl⟩
theorem dA (y m:Int)(w:World)(h0:0<=y)(h1:y<=20000) :
 Calls Tryz.prog 97 #[.int .i64 y,.int .i64 m] w λ e w'=>e=.returned (.int .i64 (Cal.ml y m))/\w'=w:=by
 go_enter Tryz.func97,Tryz.ntmps97;go_wp2_with (go_at_call 153;refine (tr _ _ h0 h1).mono ?_;rintro e w' ⟨rfl,rfl⟩);all_goals go_ret
 all_goals exact⟨cu (by simp_all [Cal.ml]),rfl⟩
theorem pW (m y:Int)(w:World)(h0:0<=y)(h1:y<=20000) :
 Calls Tryz.prog 176 #[.int .i64 m,.int .i64 y] w λ e w'=>e=.returned (.int .i64 (Cal.ml y m))/\w'=w:=by
 go_enter Tryz.func176,Tryz.ntmps176;go_wp2_with (go_at_call 175;refine (j7 _ _ h0 h1).mono ?_;rintro e w' ⟨rfl,rfl⟩);all_goals go_ret
 all_goals exact⟨cu (by simp_all [Cal.ml]),rfl⟩
theorem jo (s:ByteArray)(p:Int)(w:World)(h0:0<=p)(h1:3*p+3<=s.size)(hs:s.size<=1000) :
 Calls Tryz.prog 49 #[.string s,.int .i64 p] w λ e w'=>e=.returned (.string ⟨(Cal.nm s.data.toList p.toNat).toArray⟩)/\w'=w:=by
 go_enter Tryz.func49,Tryz.ntmps49;go_wp2;go_ret;refine⟨aM ?_,rfl⟩;rw[Lib.extract_eq,Cal.nm];rw[show (p*3).toNat=p.toNat*3 by omega,show ((p+1)*3).toNat-p.toNat*3=3 by omega]
def dv (c:UInt8):Int:=((c.toNat:Int)-48)%256
def num (l:List UInt8):Int:=l.foldl (λ n c=>10*n+dv c) 0
theorem yD (c:UInt8):0<=dv c/\dv c<=255:=by unfold dv;omega
theorem gY (l:List UInt8)(c:UInt8):num (l++[c])=10*num l+dv c:=by simp[num]
theorem uA:∀ (l:List UInt8) (n:Int),0<=n->0<=l.foldl (λ n c=>10*n+dv c) n/\l.foldl (λ n c=>10*n+dv c) n<=(n+29)*10 ^ l.length
 | [],n,h=>by simp;omega
 | c::l,n,h=>by
   have hc:=yD c
   obtain⟨a,b⟩:=uA l (10*n+dv c) (by omega)
   refine⟨a,Int.le_trans b ?_⟩
   rw[List.length_cons,Int.pow_succ,show (n+29)*(10 ^ l.length*10)=((n+29)*10)*10 ^ l.length by rw[Int.mul_comm (10 ^ l.length) 10,<- Int.mul_assoc]]
   exact Int.mul_le_mul_of_nonneg_right (by omega) (Int.pow_nonneg (by omega))
theorem eO (l:List UInt8)(h:l.length<=4):0<=num l/\num l<=290000:=by
 obtain⟨a,b⟩:=uA l 0 (Int.le_refl _);refine⟨a,Int.le_trans b ?_⟩;have:l.length=0\/l.length=1\/l.length=2\/l.length=3\/l.length=4:=by omega
 rcases this with e|e|e|e|e<;>rw[e]<;>decide
theorem aV (s:ByteArray)(k:Nat)(h:k<s.size):s.data.toList.take (k+1)=s.data.toList.take k++[s[k]]:=by
 rw[List.take_succ_eq_append_getElem (by simpa using h)];rfl
theorem aO (s:ByteArray)(w:World)(hs:s.size<=4) :
 Calls Tryz.prog 337 #[.string s] w λ e w'=>e=.returned (.int .i64 (num s.data.toList))/\w'=w:=by
 go_enter Tryz.func337,Tryz.ntmps337;go_wp2;go_loop [3,7] (λ n i=>∃ k:Nat,k<=s.size/\i=.int .i64 k/\n=.int .i64 (num (s.data.toList.take k))) (λ _ i=>s.size-(intOf i).toNat);case atStart=>exact⟨0,Nat.zero_le _,rfl,rfl⟩
 case round =>
  obtain⟨k,hk,rfl,rfl⟩:=hrel;have hb:=eO (s.data.toList.take k) (by simp;omega);by_cases hlt:k<s.size
  ·have hd:=yD s[k];(have HS:Hid (num (s.data.toList.take (k+1))=10*num (s.data.toList.take k)+dv s[k]):=by rw[aV s k hlt];exact gY _ _);unfold dv at hd HS;go_wp2;exact⟨⟨k+1,by omega,by go_num,by rw[HS.out];go_num⟩,by simp[intOf];omega⟩
  ·go_wp2;go_ret;exact⟨cu (by rw[List.take_of_length_le (by simp;omega)]),rfl⟩
def isD (c:UInt8):Bool:=decide (48<=c.toNat)&&decide (c.toNat<=57)
def dgs (l:List UInt8):Int:=if l.all isD then num l else -1
theorem eC {l:List UInt8}(h:l.all isD=true):dgs l=num l:=by simp only[dgs];rw[if_pos h]
theorem j9 {l:List UInt8}(h:l.all isD=false):dgs l = -1:=by simp only[dgs];rw[if_neg (by simp[h])]
theorem xm {s:ByteArray}{k:Nat}(h:k<s.size)(hd:isD s[k]=false):s.data.toList.all isD=false:=by
 rw[List.all_eq_false];exact⟨s[k],List.getElem_mem (l:=s.data.toList) (by simpa using h),by simp[hd]⟩
theorem ff (s:ByteArray)(w:World)(hs:s.size<=4) :
 Calls Tryz.prog 221 #[.string s] w λ e w'=>e=.returned (.int .i64 (dgs s.data.toList))/\w'=w:=by
 go_enter Tryz.func221,Tryz.ntmps221;go_wp2;go_loop [3,4] (λ n i=>∃ k:Nat,k<=s.size/\i=.int .i64 k/\n=.int .i64 (num (s.data.toList.take k))/\Hid ((s.data.toList.take k).all isD=true)) (λ _ i=>s.size-(intOf i).toNat);case atStart=>exact⟨0,Nat.zero_le _,rfl,rfl,rfl⟩
 case round =>
  obtain⟨k,hk,rfl,rfl,ha⟩:=hrel;have hb:=eO (s.data.toList.take k) (by simp;omega);by_cases hlt:k<s.size
  ·have hd:=yD s[k];(have HS:Hid (num (s.data.toList.take (k+1))=10*num (s.data.toList.take k)+dv s[k]):=by rw[aV s k hlt];exact gY _ _);(have HA:Hid ((s.data.toList.take (k+1)).all isD=isD s[k]):=by have:=ha.out;show _=_;rw[aV s k hlt,List.all_append,this];simp);unfold dv at hd HS;have HN:Hid (isD s[k]=false->dgs s.data.toList = -1):=λ h=>j9 (xm hlt h);go_wp2
   ·go_ret;exact⟨cu (HN.out (by simp[isD];omega)).symm,rfl⟩
   ·exact⟨⟨k+1,by omega,by go_num,by rw[HS.out];go_num,HA.out.trans (by simp[isD];omega)⟩,by simp[intOf];omega⟩
   ·go_ret;exact⟨cu (HN.out (by simp[isD];omega)).symm,rfl⟩
  ·go_wp2;go_ret;have:=ha.out;rw[List.take_of_length_le (by simp;omega)] at this;exact⟨cu (by rw[List.take_of_length_le (by simp;omega),eC this]),rfl⟩
def pk (c n:Int):Int:=if c<0 then (-(c+1))%n else c%n
def fP (c:Int):Bool:=decide (48<=c)&&decide (c<=57)
def eQ (c:Int):Bool:=(decide (97<=c)&&decide (c<=122))||((decide (65<=c)&&decide (c<=90))||(fP c||c==45))
def nw (c:Int):Bool:=eQ c||(c==46||c==95)
def iQ (c:UInt8):Bool:=fP c.toNat
def dp (c:UInt8):Bool:=eQ c.toNat
def jq (c:UInt8):Bool:=nw c.toNat
def aA (l:List UInt8):Bool:=!l.isEmpty&&(decide (l.length<=40)&&l.all jq)
def dx (l:List UInt8):Bool:=l.all dp&&!l.isEmpty
theorem io (c:Int)(w:World):Calls Tryz.prog 280 #[.int .u8 c] w λ e w'=>e=.returned (.bool (fP c))/\w'=w:=by
 go_enter Tryz.func280,Tryz.ntmps280;go_wp2;all_goals go_ret
 all_goals refine⟨aw ?_,rfl⟩
 all_goals first|(simp_all [fP];done)|(rw[Bool.eq_iff_iff];simp[fP];omega)
theorem il (c:Int)(w:World):Calls Tryz.prog 279 #[.int .u8 c] w λ e w'=>e=.returned (.bool (eQ c))/\w'=w:=by
 go_enter Tryz.func279,Tryz.ntmps279;go_wp2_with (go_at_call 280;refine (io _ _).mono ?_;rintro e w' ⟨rfl,rfl⟩);all_goals go_ret
 all_goals refine⟨aw ?_,rfl⟩
 all_goals first|(simp_all [eQ];done)|(simp_all [eQ,fP];done)|(simp_all [eQ,fP];omega)|(rw[Bool.eq_iff_iff];simp_all [eQ,fP];omega)
theorem nk (c:Int)(w:World):Calls Tryz.prog 237 #[.int .u8 c] w λ e w'=>e=.returned (.bool (nw c))/\w'=w:=by
 go_enter Tryz.func237,Tryz.ntmps237;go_wp2_with (go_at_call 279;refine (il _ _).mono ?_;rintro e w' ⟨rfl,rfl⟩);all_goals go_ret
 all_goals refine⟨aw ?_,rfl⟩
 all_goals first|(simp_all [nw];done)|(rw[Bool.eq_iff_iff];simp[nw];omega)
theorem iy {s:ByteArray}(h:s.size=0):s=⟨#[]⟩:=by
 have hz:=Lib.size_eq s;apply ByteArray.ext;apply Array.toList_inj.1;exact List.eq_nil_of_length_eq_zero (by omega)
theorem uk (s:ByteArray):s.toList=s.data.toList:=by
 obtain⟨⟨l⟩⟩:=s;simp
theorem sL {s:ByteArray}(h:¬ s.size=0):(s.toList==[])=false/\s.data.toList.isEmpty=false:=by
 have hz:=Lib.size_eq s;have:s.data.toList≠[]:=by intro e;rw[e] at hz;exact h hz
 refine⟨?_,by simpa using this⟩;rw[uk];simpa using this
theorem uT (s:ByteArray)(w:World)(hs:s.size<=9223372036854775807) :
 Calls Tryz.prog 186 #[.string s] w λ e w'=>e=.returned (.bool (aA s.data.toList))/\w'=w:=by
 have hz:=Lib.size_eq s;by_cases h0:s.size=0
 ·obtain rfl:=iy h0;(try clear hz);(try clear A0);go_enter Tryz.func186,Tryz.ntmps186;go_wp2;go_ret;exact⟨rfl,rfl⟩
 ·obtain⟨A1,A0⟩:=sL h0;by_cases h40:s.size<=40
  ·(have HK:Hid (aA s.data.toList=s.data.toList.all jq):=by show _=_;unfold aA;rw[A0,<- hz,decide_eq_true h40,Bool.not_false,Bool.true_and,Bool.true_and]);(try clear hz);(try clear A0);go_enter Tryz.func186,Tryz.ntmps186;go_wp2;go_loop [13] (λ i=>∃ k:Nat,k<=s.size/\i=.int .i64 k/\Hid ((s.data.toList.take k).all jq=true)) (λ i=>s.size-(intOf i).toNat);(case atStart=>exact⟨0,Nat.zero_le _,rfl,rfl⟩);case round =>
    obtain⟨k,hk,rfl,ha⟩:=hrel;by_cases hlt:k<s.size
    ·(have HA:Hid ((s.data.toList.take (k+1)).all jq=jq s[k]):=by have:=ha.out;show _=_;rw[aV s k hlt,List.all_append,this];simp);(have HN:Hid (jq s[k]=false->aA s.data.toList=false):=λ hd=>by rw[HK.out,List.all_eq_false];exact⟨s[k],List.getElem_mem (l:=s.data.toList) (by simpa using hlt),by simp[hd]⟩);go_wp2_with (go_at_call 237;refine (nk _ _).mono ?_;rintro e w' ⟨rfl,rfl⟩)
     ·go_ret;have h:=‹(!nw _)=true›;exact⟨aw (HN.out (by simpa [jq] using h)).symm,rfl⟩
     ·have h:=‹(!nw _)=false›;exact⟨⟨k+1,by omega,by go_num,HA.out.trans (by simpa [jq] using h)⟩,by simp[intOf];omega⟩
    ·go_wp2;go_ret;have:=ha.out;rw[List.take_of_length_le (by simp;omega)] at this;exact⟨aw (HK.out.trans this).symm,rfl⟩
  ·(have HK:Hid (aA s.data.toList=false):=by show _=_;unfold aA;rw[<- hz,decide_eq_false h40,Bool.false_and,Bool.and_false]);(try clear hz);(try clear A0);go_enter Tryz.func186,Tryz.ntmps186;go_wp2;go_ret;exact⟨aw HK.out.symm,rfl⟩
theorem s8 (s:ByteArray)(w:World)(hs:s.size<=9223372036854775807) :
 Calls Tryz.prog 239 #[.string s] w λ e w'=>e=.returned (.bool (dx s.data.toList))/\w'=w:=by
 by_cases h0:s.size=0
 ·obtain rfl:=iy h0;(try clear hz);(try clear A0);go_enter Tryz.func239,Tryz.ntmps239;go_wp2;go_loop [6] (λ i=>i=.int .i64 0) (λ _=>0);(case atStart=>exact rfl);case round =>subst hrel;go_wp2;go_ret;exact⟨rfl,rfl⟩
 ·obtain⟨A2,A0⟩:=sL h0;(have A1:(s.toList != [])=true:=by simpa using A2);(have HK:Hid (dx s.data.toList=s.data.toList.all dp):=by show _=_;unfold dx;rw[A0];simp);(try clear hz);(try clear A0);go_enter Tryz.func239,Tryz.ntmps239;go_wp2;go_loop [6] (λ i=>∃ k:Nat,k<=s.size/\i=.int .i64 k/\Hid ((s.data.toList.take k).all dp=true)) (λ i=>s.size-(intOf i).toNat);(case atStart=>exact⟨0,Nat.zero_le _,rfl,rfl⟩);case round =>
   obtain⟨k,hk,rfl,ha⟩:=hrel;by_cases hlt:k<s.size
   ·(have HA:Hid ((s.data.toList.take (k+1)).all dp=dp s[k]):=by have:=ha.out;show _=_;rw[aV s k hlt,List.all_append,this];simp);(have HN:Hid (dp s[k]=false->dx s.data.toList=false):=λ hd=>by rw[HK.out,List.all_eq_false];exact⟨s[k],List.getElem_mem (l:=s.data.toList) (by simpa using hlt),by simp[hd]⟩);go_wp2_with (go_at_call 279;refine (il _ _).mono ?_;rintro e w' ⟨rfl,rfl⟩)
    ·go_ret;have h:=‹(!eQ _)=true›;exact⟨aw (HN.out (by simpa [dp] using h)).symm,rfl⟩
    ·have h:=‹(!eQ _)=false›;exact⟨⟨k+1,by omega,by go_num,HA.out.trans (by simpa [dp] using h)⟩,by simp[intOf];omega⟩
   ·go_wp2;go_ret;have:=ha.out;rw[List.take_of_length_le (by simp;omega)] at this;exact⟨aw (HK.out.trans this).symm,rfl⟩
def ji (l:List UInt8):Nat:=l.foldl (λ n c=>n*10+(c.toNat-48)) 0
def gj (l:List UInt8):Option Nat:=if l.isEmpty||(decide (9<l.length)||(l.head?==some 48||!l.all iQ)) then none else some (ji l)
theorem vO (l:List UInt8)(c:UInt8):ji (l++[c])=ji l*10+(c.toNat-48):=by
 unfold ji;rw[List.foldl_append,List.foldl_cons,List.foldl_nil]
theorem uQ (l:List UInt8)(h:l.all iQ=true):ji l<10 ^ l.length:=by
 suffices hg:∀ (l:List UInt8) (x:Nat),l.all iQ=true->l.foldl (λ n c=>n*10+(c.toNat-48)) x<(x+1)*10 ^ l.length by have:=hg l 0 h;rw[Nat.zero_add,Nat.one_mul] at this;exact this
 intro l;induction l with
 | nil=>intro x _;simp
 | cons c l ih =>intro x hx;simp only[List.all_cons,Bool.and_eq_true] at hx;(have hc:c.toNat-48<=9:=by have:=hx.1;unfold iQ fP at this;simp at this;omega);have:=ih (x*10+(c.toNat-48)) hx.2;rw[List.foldl_cons,List.length_cons,Nat.pow_succ];refine Nat.lt_of_lt_of_le this ?_;rw[show (x+1)*(10 ^ l.length*10)=((x+1)*10)*10 ^ l.length by rw[Nat.mul_comm (10 ^ l.length) 10,Nat.mul_assoc]];exact Nat.mul_le_mul_right _ (by omega)
def je:Option Nat->Value
 | some n=>.tuple #[.int .i64 (n:Int),.bool true]
 | none=>.tuple #[.int .i64 0,.bool false]
theorem ub (s:ByteArray)(h:0<s.size):s.data.toList.head?=some s[0]:=by
 rw[List.head?_eq_getElem?,List.getElem?_eq_getElem (by rw[<- Lib.size_eq];exact h)];rfl
theorem mh (s:ByteArray)(w:World)(hs:s.size<=9223372036854775807) :
 Calls Tryz.prog 238 #[.string s] w λ e w'=>e=.returned (je (gj s.data.toList))/\w'=w:=by
 have hz:=Lib.size_eq s;by_cases h0:s.size=0
 ·obtain rfl:=iy h0;(try clear hz);(try clear A0);go_enter Tryz.func238,Tryz.ntmps238;go_wp2;go_ret2;exact⟨rfl,rfl⟩
 ·obtain⟨A7,A0⟩:=sL h0;(have A2:0<s.size:=by omega);by_cases h9:s.size<=9
  ·by_cases h48:(s[0].toNat:Int)=48
   ·(have HK:Hid (gj s.data.toList=none):=by show _=_;unfold gj;(have e:s[0]=48:=by apply UInt8.toNat_inj.1;show _=48;omega);rw[ub s A2,e];simp);(try clear hz);(try clear A0);go_enter Tryz.func238,Tryz.ntmps238;go_wp2;rw[HK.out];go_ret2;exact⟨rfl,rfl⟩
   ·(have A5:((s[0].toNat:Int)==48)=false:=by simpa using h48);(have HK:Hid (gj s.data.toList=if s.data.toList.all iQ then some (ji s.data.toList) else none):=by show _=_;unfold gj;(have e:¬ s[0]=48:=by intro e;rw[e] at h48;exact h48 rfl);rw[ub s A2,A0,<- hz];cases s.data.toList.all iQ<;>simp[e]<;>omega);(try clear hz);(try clear A0);go_enter Tryz.func238,Tryz.ntmps238;go_wp2;go_loop [4,20] (λ n i=>∃ k:Nat,k<=s.size/\i=.int .i64 k/\n=.int .i64 (ji (s.data.toList.take k):Int)/\Hid ((s.data.toList.take k).all iQ=true)) (λ _ i=>s.size-(intOf i).toNat);(case atStart=>exact⟨0,Nat.zero_le _,rfl,rfl,rfl⟩);case round =>
     obtain⟨k,hk,rfl,rfl,ha⟩:=hrel;by_cases hlt:k<s.size
     ·(have HA:Hid ((s.data.toList.take (k+1)).all iQ=iQ s[k]):=by have:=ha.out;show _=_;rw[aV s k hlt,List.all_append,this];simp);(have HN:Hid (iQ s[k]=false->gj s.data.toList=none):=λ hd=>by rw[HK.out,if_neg];rw[Bool.not_eq_true,List.all_eq_false];exact⟨s[k],List.getElem_mem (l:=s.data.toList) (by simpa using hlt),by simp[hd]⟩);(have HV:Hid (ji (s.data.toList.take (k+1))=ji (s.data.toList.take k)*10+(s[k].toNat-48)):=by show _=_;rw[aV s k hlt,vO]);have hl:=uQ (s.data.toList.take k) ha.out;have hp:10 ^ (s.data.toList.take k).length<=10 ^ 9:=Nat.pow_le_pow_right (by decide) (by simp;omega);obtain⟨V,hV⟩:∃ V,ji (s.data.toList.take k)=V:=⟨_,rfl⟩;rw[hV] at HV hl ⊢;(have A6:V<1000000000:=by omega);have A8:=s[k].toNat_lt;by_cases hd:iQ s[k]=true
      ·have A3:fP (s[k].toNat:Int)=true:=hd;(have A4:48<=(s[k].toNat:Int)/\(s[k].toNat:Int)<=57:=by unfold fP at A3;simpa using A3);clear hl hp;go_wp2_with (go_at_call 280;refine (io _ _).mono ?_;rintro e w' ⟨rfl,rfl⟩);refine⟨⟨k+1,by omega,by go_num,?_,HA.out.trans hd⟩,by simp[intOf];omega⟩;rw[HV.out];congr 1;omega
      ·(have A3:fP (s[k].toNat:Int)=false:=by simpa [iQ] using hd);clear hl hp;go_wp2_with (go_at_call 280;refine (io _ _).mono ?_;rintro e w' ⟨rfl,rfl⟩);rw[HN.out (by simpa using hd)];go_ret2;exact⟨rfl,rfl⟩
     ·go_wp2;have A1:=ha.out;rw[List.take_of_length_le (by simp;omega)] at A1 ⊢;rw[HK.out,A1,if_pos rfl];go_ret2;exact⟨rfl,rfl⟩
  ·(have HK:Hid (gj s.data.toList=none):=by show _=_;unfold gj;rw[<- hz];simp;omega);(try clear hz);(try clear A0);go_enter Tryz.func238,Tryz.ntmps238;go_wp2;rw[HK.out];go_ret2;exact⟨rfl,rfl⟩
def dD (l:List UInt8):Option Nat:=if l=[71,69,84] then some 0 else if l=[72,69,65,68] then some 1 else if l=[80,85,84] then some 2 else if l=[68,69,76,69,84,69] then some 3 else none
theorem jE (s:ByteArray)(l:List UInt8)(h:¬ s.data.toList=l):(s.toList==l)=false:=by
 rw[uk];simpa using h
theorem lL {s:ByteArray}{l:List UInt8}(h:s.data.toList=l):s=⟨l.toArray⟩:=by
 apply ByteArray.ext;apply Array.toList_inj.1;rw[h]
theorem m7 (s:ByteArray)(w:World):Calls Tryz.prog 123 #[.string s] w λ e w'=>e=.returned (je (dD s.data.toList))/\w'=w:=by
 by_cases h1:s.data.toList=[71,69,84]
 ·obtain rfl:=lL h1;go_enter Tryz.func123,Tryz.ntmps123;go_wp2;go_ret2;exact⟨rfl,rfl⟩
 ·by_cases h2:s.data.toList=[72,69,65,68]
  ·obtain rfl:=lL h2;go_enter Tryz.func123,Tryz.ntmps123;go_wp2;go_ret2;exact⟨rfl,rfl⟩
  ·by_cases h3:s.data.toList=[80,85,84]
   ·obtain rfl:=lL h3;go_enter Tryz.func123,Tryz.ntmps123;go_wp2;go_ret2;exact⟨rfl,rfl⟩
   ·by_cases h4:s.data.toList=[68,69,76,69,84,69]
    ·obtain rfl:=lL h4;go_enter Tryz.func123,Tryz.ntmps123;go_wp2;go_ret2;exact⟨rfl,rfl⟩
    ·have b1:=jE s _ h1;have b2:=jE s _ h2;have b3:=jE s _ h3;have b4:=jE s _ h4;(have HM:Hid (dD s.data.toList=none):=by show _=_;unfold dD;rw[if_neg h1,if_neg h2,if_neg h3,if_neg h4]);clear h1 h2 h3 h4;go_enter Tryz.func123,Tryz.ntmps123;go_wp2;rw[HM.out];go_ret2;exact⟨rfl,rfl⟩
end Go.Proofs.YtmehkneofinmiaaGreatDoor

/-
 Texts of this proof, part 1.
-/
import Derived.Test.YtmehkneofinmiaaGreatDoorProg
import Derived.Lib.ItoaNum
import Derived.Lib.Strings
import Derived.WalkSpells
import Derived.WalkLawsBesides
import Derived.BigQuiet
set_option maxHeartbeats 1000000
namespace Go.Proofs.YtmehkneofinmiaaGreatDoor
namespace Cal
def leap (y:Int):Bool:=y%4==0&&(y%100 != 0||y%400==0)
def lya (y:Int):Int:=(y-1)/4-(y-1)/100+(y-1)/400
def ahead (y:Int):Int:=365*(y-1970)+lya y-477
def ylen (y:Int):Int:=if leap y then 366 else 365
def ml (y m:Int):Int:=if m=1 then (if leap y then 29 else 28) else if m=3\/m=5\/m=8\/m=10 then 30 else 31
def cum (y:Int):Nat->Int
 | 0=>0
 | m+1=>cum y m+ml y m
theorem leap_iff (y:Int):leap y=true ↔ y%4=0/\(y%100≠0\/y%400=0):=by simp[leap]
theorem ylen_cases (y:Int):(y%4=0/\(y%100≠0\/y%400=0)/\ylen y=366)\/(¬ (y%4=0/\(y%100≠0\/y%400=0))/\ylen y=365):=by
 unfold ylen
 by_cases h:leap y=true
 ·have:=(leap_iff y).1 h;simp[h,this]
 ·have h':¬ (y%4=0/\(y%100≠0\/y%400=0)):=fun k=>h ((leap_iff y).2 k)
  right;exact⟨h',by simp[h]⟩
theorem ylen_bd (y:Int):365<=ylen y/\ylen y<=366:=by unfold ylen;split<;>omega
theorem ahead_succ (y:Int):ahead (y+1)=ahead y+ylen y:=by
 unfold ahead lya
 rcases ylen_cases y with ⟨h1,h2,h3⟩|⟨h1,h3⟩
 ·rw[h3];omega
 ·rw[h3];omega
theorem ahead_1970:ahead 1970=0:=by decide
theorem ahead_10000:ahead 10000=2932897:=by decide
theorem ahead_mono {a b:Int}(h:a<=b):ahead a<=ahead b:=by unfold ahead lya;omega
theorem ml_bd (y m:Int):28<=ml y m/\ml y m<=31:=by unfold ml;repeat' split<;>omega
theorem cum_12 (y:Int):cum y 12=ylen y:=by
 simp only[cum,ml,ylen]
 by_cases h:leap y=true<;>simp[h]
theorem cum_le (y:Int){a b:Nat}(h:a<=b):cum y a<=cum y b:=by
 induction b with
 | zero=>obtain rfl:a=0:=by omega
         exact Int.le_refl _
 | succ b ih =>
   by_cases e:a=b+1
   ·rw[e];exact Int.le_refl _
   ·have:=ih (by omega)
    have:=ml_bd y b
    simp only[cum];omega
theorem cum_nonneg (y:Int)(a:Nat):0<=cum y a:=by have:=cum_le y (Nat.zero_le a);simpa [cum] using this
structure Sp (d y:Int)(m:Nat)(k:Int):Prop where
 y0:1970<=y
 m12:m<12
 k0:0<=k
 k1:k<ml y m
 eq:d=ahead y+cum y m+k
theorem Sp.year {d y:Int}{m:Nat}{k:Int}(h:Sp d y m k):ahead y<=d/\d<ahead (y+1):=by
 obtain⟨_,hm,h0,h1,rfl⟩:=h
 have:=cum_nonneg y m
 have:=cum_le y (show m+1<=12 by omega)
 rw[cum_12] at this
 rw[ahead_succ]
 simp only[cum] at this
 omega
theorem Sp.uniq {d y y':Int}{m m':Nat}{k k':Int}(h:Sp d y m k)(h':Sp d y' m' k'):y=y'/\m=m'/\k=k':=by
 have a:=h.year
 have b:=h'.year
 have e:y=y':=by
  rcases Int.lt_trichotomy y y' with l|l|l
  ·have:=ahead_mono (show y+1<=y' by omega);omega
  ·exact l
  ·have:=ahead_mono (show y'+1<=y by omega);omega
 subst e
 have e1:=h.eq
 have e2:=h'.eq
 have k0:=h.k0
 have k1:=h.k1
 have k0':=h'.k0
 have k1':=h'.k1
 have em:m=m':=by
  rcases Nat.lt_trichotomy m m' with l|l|l
  ·have:=cum_le y (show m+1<=m' by omega)
   simp only[cum] at this;omega
  ·exact l
  ·have:=cum_le y (show m'+1<=m by omega)
   simp only[cum] at this;omega
 subst em
 exact⟨rfl,rfl,by omega⟩
theorem Sp.range {d y:Int}{m:Nat}{k:Int}(h:Sp d y m k)(h1:d<=2932896):y<=9999:=by
 have:=h.year
 by_cases e:y<=9999
 ·exact e
 ·have:=ahead_mono (show (10000:Int)<=y by omega)
  rw[ahead_10000] at this;omega
def dig (n:Int):UInt8:=UInt8.ofNat (48+n.toNat)
def two (n:Int):List UInt8:=[dig (n/10),dig (n%10)]
def four (n:Int):List UInt8:=[dig (n/1000),dig (n/100%10),dig (n/10%10),dig (n%10)]
def nm (s:List UInt8)(i:Nat):List UInt8:=(s.drop (i*3)).take 3
def week:List UInt8:=[84,104,117,70,114,105,83,97,116,83,117,110,77,111,110,84,117,101,87,101,100]
def weekR:List UInt8:=[83,117,110,77,111,110,84,117,101,87,101,100,84,104,117,70,114,105,83,97,116]
def months:List UInt8:=[74,97,110,70,101,98,77,97,114,65,112,114,77,97,121,74,117,110,74,117,108,65,117,103,83,101,112,79,99,116,78,111,118,68,101,99]
def fmt (d y:Int)(m:Nat)(k s:Int):List UInt8 :=
 nm week (d%7).toNat++[44,32]++two (k+1)++[32]++nm months m++[32]++four y++[32]++two (s/3600)++[58]++two (s%3600/60)++[58]++two (s%60)++[32,71,77,84]
def IsStamp (sec:Int)(l:List UInt8):Prop:=∃ y m k,Sp (sec/86400) y m k/\l=fmt (sec/86400) y m k (sec%86400)
theorem IsStamp.uniq {sec:Int}{l l':List UInt8}(h:IsStamp sec l)(h':IsStamp sec l'):l=l':=by
 obtain⟨y,m,k,s,rfl⟩:=h
 obtain⟨y',m',k',s',rfl⟩:=h'
 obtain⟨rfl,rfl,rfl⟩:=s.uniq s'
 rfl
theorem nm_months_inj:∀ i j:Fin 12,nm months i=nm months j->i=j:=by decide
theorem week_same:∀ i:Fin 7,nm weekR ((i.val+4)%7)=nm week i:=by decide
theorem len_week:∀ i:Fin 7,(nm week i).length=3:=by decide
theorem len_months:∀ i:Fin 12,(nm months i).length=3:=by decide
end Cal
end Go.Proofs.YtmehkneofinmiaaGreatDoor
namespace Go.Proofs.YtmehkneofinmiaaGreatDoor
open Go.RowKit
theorem ret_int {k:IntKind}{a b:Int}(h:a=b):Ending.returned (.int k a)=.returned (.int k b):=by rw[h]
theorem ret_bool {a b:Bool}(h:a=b):Ending.returned (.bool a)=.returned (.bool b):=by rw[h]
theorem ret_str {a b:ByteArray}(h:a=b):Ending.returned (.string a)=.returned (.string b):=by rw[h]
theorem leap_any (y:Int)(w:World)(h0:0<=y)(h1:y<=20000) :
 Calls Tryz.prog 175 #[.int .i64 y] w fun e w'=>e=.returned (.bool (Cal.leap y))/\w'=w:=by
 go_enter Tryz.func175,Tryz.ntmps175
 go_wp2
 all_goals go_ret
 all_goals exact⟨ret_bool (by simp_all [Cal.leap]),rfl⟩
theorem isLeap_any (y:Int)(w:World)(h0:0<=y)(h1:y<=20000) :
 Calls Tryz.prog 153 #[.int .i64 y] w fun e w'=>e=.returned (.bool (Cal.leap y))/\w'=w:=by
 go_enter Tryz.func153,Tryz.ntmps153
 go_wp2
 all_goals go_ret
 all_goals refine⟨ret_bool ?_,rfl⟩
 all_goals first|(simp_all [Cal.leap];done)|(have h4:(y%400==0)=false:=by simp;omega
                                             have h5:(y%4==0)=false:=by simp;omega
                                             simp[Cal.leap,h4,h5])
theorem lya_any (y:Int)(w:World)(h0:1<=y)(h1:y<=20000) :
 Calls Tryz.prog 152 #[.int .i64 y] w fun e w'=>e=.returned (.int .i64 (Cal.lya y))/\w'=w:=by
 go_enter Tryz.func152,Tryz.ntmps152
 go_wp2
 go_ret
 exact⟨ret_int (by simp[Cal.lya]),rfl⟩
theorem lya_bd (y:Int)(h0:1<=y)(h1:y<=20000):0<=Cal.lya y/\Cal.lya y<=20000:=by unfold Cal.lya;omega
theorem lya_1970:Cal.lya 1970=477:=by decide
theorem ahead_any (y:Int)(w:World)(h0:1970<=y)(h1:y<=20000) :
 Calls Tryz.prog 96 #[.int .i64 y] w fun e w'=>e=.returned (.int .i64 (Cal.ahead y))/\w'=w:=by
 have hb:=lya_bd y (by omega) h1
 go_enter Tryz.func96,Tryz.ntmps96
 go_wp2_with fail
 refine (lya_any _ _ (by omega) (by omega)).mono ?_
 rintro e w1 ⟨rfl,rfl⟩
 go_wp2_with fail
 refine (lya_any _ _ (by omega) (by omega)).mono ?_
 rintro e w1 ⟨rfl,rfl⟩
 rw[lya_1970]
 go_wp2
 go_ret
 exact⟨ret_int (by simp[Cal.ahead]),rfl⟩
theorem monthDays_any (y m:Int)(w:World)(h0:0<=y)(h1:y<=20000) :
 Calls Tryz.prog 97 #[.int .i64 y,.int .i64 m] w fun e w'=>e=.returned (.int .i64 (Cal.ml y m))/\w'=w:=by
 go_enter Tryz.func97,Tryz.ntmps97
 go_wp2_with (go_at_call 153;refine (isLeap_any _ _ h0 h1).mono ?_;rintro e w' ⟨rfl,rfl⟩)
 all_goals go_ret
 all_goals exact⟨ret_int (by simp_all [Cal.ml]),rfl⟩
theorem long_any (m y:Int)(w:World)(h0:0<=y)(h1:y<=20000) :
 Calls Tryz.prog 176 #[.int .i64 m,.int .i64 y] w fun e w'=>e=.returned (.int .i64 (Cal.ml y m))/\w'=w:=by
 go_enter Tryz.func176,Tryz.ntmps176
 go_wp2_with (go_at_call 175;refine (leap_any _ _ h0 h1).mono ?_;rintro e w' ⟨rfl,rfl⟩)
 all_goals go_ret
 all_goals exact⟨ret_int (by simp_all [Cal.ml]),rfl⟩
theorem nameAt_any (s:ByteArray)(p:Int)(w:World)(h0:0<=p)(h1:3*p+3<=s.size)(hs:s.size<=1000) :
 Calls Tryz.prog 49 #[.string s,.int .i64 p] w fun e w'=>e=.returned (.string ⟨(Cal.nm s.data.toList p.toNat).toArray⟩)/\w'=w:=by
 go_enter Tryz.func49,Tryz.ntmps49
 go_wp2
 go_ret
 refine⟨ret_str ?_,rfl⟩
 rw[Lib.extract_eq,Cal.nm]
 rw[show (p*3).toNat=p.toNat*3 by omega,show ((p+1)*3).toNat-p.toNat*3=3 by omega]
def dv (c:UInt8):Int:=((c.toNat:Int)-48)%256
def num (l:List UInt8):Int:=l.foldl (fun n c=>10*n+dv c) 0
theorem dv_bd (c:UInt8):0<=dv c/\dv c<=255:=by unfold dv;omega
theorem num_snoc (l:List UInt8)(c:UInt8):num (l++[c])=10*num l+dv c:=by simp[num]
theorem fold_bd:∀ (l:List UInt8) (n:Int),0<=n->0<=l.foldl (fun n c=>10*n+dv c) n/\l.foldl (fun n c=>10*n+dv c) n<=(n+29)*10 ^ l.length
 | [],n,h=>by simp;omega
 | c::l,n,h=>by
   have hc:=dv_bd c
   obtain⟨a,b⟩:=fold_bd l (10*n+dv c) (by omega)
   refine⟨a,Int.le_trans b ?_⟩
   rw[List.length_cons,Int.pow_succ,show (n+29)*(10 ^ l.length*10)=((n+29)*10)*10 ^ l.length by rw[Int.mul_comm (10 ^ l.length) 10,<- Int.mul_assoc]]
   exact Int.mul_le_mul_of_nonneg_right (by omega) (Int.pow_nonneg (by omega))
theorem num_bd (l:List UInt8)(h:l.length<=4):0<=num l/\num l<=290000:=by
 obtain⟨a,b⟩:=fold_bd l 0 (Int.le_refl _)
 refine⟨a,Int.le_trans b ?_⟩
 have:l.length=0\/l.length=1\/l.length=2\/l.length=3\/l.length=4:=by omega
 rcases this with e|e|e|e|e<;>rw[e]<;>decide
theorem take_snoc (s:ByteArray)(k:Nat)(h:k<s.size):s.data.toList.take (k+1)=s.data.toList.take k++[s[k]]:=by
 rw[List.take_succ_eq_append_getElem (by simpa using h)];rfl
theorem readNumber_any (s:ByteArray)(w:World)(hs:s.size<=4) :
 Calls Tryz.prog 337 #[.string s] w fun e w'=>e=.returned (.int .i64 (num s.data.toList))/\w'=w:=by
 go_enter Tryz.func337,Tryz.ntmps337
 go_wp2
 go_loop [3,7] (fun n i=>∃ k:Nat,k<=s.size/\i=.int .i64 k/\n=.int .i64 (num (s.data.toList.take k))) (fun _ i=>s.size-(intOf i).toNat)
 case atStart=>exact⟨0,Nat.zero_le _,rfl,rfl⟩
 case round =>
  obtain⟨k,hk,rfl,rfl⟩:=hrel
  have hb:=num_bd (s.data.toList.take k) (by simp;omega)
  by_cases hlt:k<s.size
  ·have hd:=dv_bd s[k]
   have HS:Hid (num (s.data.toList.take (k+1))=10*num (s.data.toList.take k)+dv s[k]):=by rw[take_snoc s k hlt];exact num_snoc _ _
   unfold dv at hd HS
   go_wp2
   exact⟨⟨k+1,by omega,by go_num,by rw[HS.out];go_num⟩,by simp[intOf];omega⟩
  ·go_wp2
   go_ret
   exact⟨ret_int (by rw[List.take_of_length_le (by simp;omega)]),rfl⟩
def isD (c:UInt8):Bool:=decide (48<=c.toNat)&&decide (c.toNat<=57)
def dgs (l:List UInt8):Int:=if l.all isD then num l else -1
theorem dgs_yes {l:List UInt8}(h:l.all isD=true):dgs l=num l:=by simp only[dgs];rw[if_pos h]
theorem dgs_no {l:List UInt8}(h:l.all isD=false):dgs l = -1:=by simp only[dgs];rw[if_neg (by simp[h])]
theorem all_no {s:ByteArray}{k:Nat}(h:k<s.size)(hd:isD s[k]=false):s.data.toList.all isD=false:=by
 rw[List.all_eq_false]
 exact⟨s[k],List.getElem_mem (l:=s.data.toList) (by simpa using h),by simp[hd]⟩
theorem digits_any (s:ByteArray)(w:World)(hs:s.size<=4) :
 Calls Tryz.prog 221 #[.string s] w fun e w'=>e=.returned (.int .i64 (dgs s.data.toList))/\w'=w:=by
 go_enter Tryz.func221,Tryz.ntmps221
 go_wp2
 go_loop [3,4] (fun n i=>∃ k:Nat,k<=s.size/\i=.int .i64 k/\n=.int .i64 (num (s.data.toList.take k))/\Hid ((s.data.toList.take k).all isD=true)) (fun _ i=>s.size-(intOf i).toNat)
 case atStart=>exact⟨0,Nat.zero_le _,rfl,rfl,rfl⟩
 case round =>
  obtain⟨k,hk,rfl,rfl,ha⟩:=hrel
  have hb:=num_bd (s.data.toList.take k) (by simp;omega)
  by_cases hlt:k<s.size
  ·have hd:=dv_bd s[k]
   have HS:Hid (num (s.data.toList.take (k+1))=10*num (s.data.toList.take k)+dv s[k]):=by rw[take_snoc s k hlt];exact num_snoc _ _
   have HA:Hid ((s.data.toList.take (k+1)).all isD=isD s[k]):=by
    have:=ha.out
    show _=_
    rw[take_snoc s k hlt,List.all_append,this];simp
   unfold dv at hd HS
   have HN:Hid (isD s[k]=false->dgs s.data.toList = -1):=fun h=>dgs_no (all_no hlt h)
   go_wp2
   ·go_ret
    exact⟨ret_int (HN.out (by simp[isD];omega)).symm,rfl⟩
   ·exact⟨⟨k+1,by omega,by go_num,by rw[HS.out];go_num,HA.out.trans (by simp[isD];omega)⟩,by simp[intOf];omega⟩
   ·go_ret
    exact⟨ret_int (HN.out (by simp[isD];omega)).symm,rfl⟩
  ·go_wp2
   go_ret
   have:=ha.out
   rw[List.take_of_length_le (by simp;omega)] at this
   exact⟨ret_int (by rw[List.take_of_length_le (by simp;omega),dgs_yes this]),rfl⟩
def pk (c n:Int):Int:=if c<0 then (-(c+1))%n else c%n
def digI (c:Int):Bool:=decide (48<=c)&&decide (c<=57)
def nameI (c:Int):Bool:=(decide (97<=c)&&decide (c<=122))||((decide (65<=c)&&decide (c<=90))||(digI c||c==45))
def keyI (c:Int):Bool:=nameI c||(c==46||c==95)
def digB (c:UInt8):Bool:=digI c.toNat
def nameB (c:UInt8):Bool:=nameI c.toNat
def keyB (c:UInt8):Bool:=keyI c.toNat
def keyOK (l:List UInt8):Bool:=!l.isEmpty&&(decide (l.length<=40)&&l.all keyB)
def nameOK (l:List UInt8):Bool:=l.all nameB&&!l.isEmpty
theorem isDigit_any (c:Int)(w:World):Calls Tryz.prog 280 #[.int .u8 c] w fun e w'=>e=.returned (.bool (digI c))/\w'=w:=by
 go_enter Tryz.func280,Tryz.ntmps280
 go_wp2
 all_goals go_ret
 all_goals refine⟨ret_bool ?_,rfl⟩
 all_goals first|(simp_all [digI];done)|(rw[Bool.eq_iff_iff];simp[digI];omega)
theorem isNameByte_any (c:Int)(w:World):Calls Tryz.prog 279 #[.int .u8 c] w fun e w'=>e=.returned (.bool (nameI c))/\w'=w:=by
 go_enter Tryz.func279,Tryz.ntmps279
 go_wp2_with (go_at_call 280;refine (isDigit_any _ _).mono ?_;rintro e w' ⟨rfl,rfl⟩)
 all_goals go_ret
 all_goals refine⟨ret_bool ?_,rfl⟩
 all_goals first|(simp_all [nameI];done)|(simp_all [nameI,digI];done)|(simp_all [nameI,digI];omega)|(rw[Bool.eq_iff_iff];simp_all [nameI,digI];omega)
theorem isKeyByte_any (c:Int)(w:World):Calls Tryz.prog 237 #[.int .u8 c] w fun e w'=>e=.returned (.bool (keyI c))/\w'=w:=by
 go_enter Tryz.func237,Tryz.ntmps237
 go_wp2_with (go_at_call 279;refine (isNameByte_any _ _).mono ?_;rintro e w' ⟨rfl,rfl⟩)
 all_goals go_ret
 all_goals refine⟨ret_bool ?_,rfl⟩
 all_goals first|(simp_all [keyI];done)|(rw[Bool.eq_iff_iff];simp[keyI];omega)
theorem nil_of_size {s:ByteArray}(h:s.size=0):s=⟨#[]⟩:=by
 have hz:=Lib.size_eq s
 apply ByteArray.ext
 apply Array.toList_inj.1
 exact List.eq_nil_of_length_eq_zero (by omega)
theorem list_of (s:ByteArray):s.toList=s.data.toList:=by
 obtain⟨⟨l⟩⟩:=s
 simp
theorem ne_nil {s:ByteArray}(h:¬ s.size=0):(s.toList==[])=false/\s.data.toList.isEmpty=false:=by
 have hz:=Lib.size_eq s
 have:s.data.toList≠[]:=by
  intro e
  rw[e] at hz
  exact h hz
 refine⟨?_,by simpa using this⟩
 rw[list_of]
 simpa using this
theorem isKey_any (s:ByteArray)(w:World)(hs:s.size<=9223372036854775807) :
 Calls Tryz.prog 186 #[.string s] w fun e w'=>e=.returned (.bool (keyOK s.data.toList))/\w'=w:=by
 have hz:=Lib.size_eq s
 by_cases h0:s.size=0
 ·obtain rfl:=nil_of_size h0
  try clear hz
  try clear hne2
  go_enter Tryz.func186,Tryz.ntmps186
  go_wp2
  go_ret
  exact⟨rfl,rfl⟩
 ·obtain⟨hne,hne2⟩:=ne_nil h0
  by_cases h40:s.size<=40
  ·have HK:Hid (keyOK s.data.toList=s.data.toList.all keyB):=by
    show _=_
    unfold keyOK
    rw[hne2,<- hz,decide_eq_true h40,Bool.not_false,Bool.true_and,Bool.true_and]
   try clear hz
   try clear hne2
   go_enter Tryz.func186,Tryz.ntmps186
   go_wp2
   go_loop [13] (fun i=>∃ k:Nat,k<=s.size/\i=.int .i64 k/\Hid ((s.data.toList.take k).all keyB=true)) (fun i=>s.size-(intOf i).toNat)
   case atStart=>exact⟨0,Nat.zero_le _,rfl,rfl⟩
   case round =>
    obtain⟨k,hk,rfl,ha⟩:=hrel
    by_cases hlt:k<s.size
    ·have HA:Hid ((s.data.toList.take (k+1)).all keyB=keyB s[k]):=by
      have:=ha.out
      show _=_
      rw[take_snoc s k hlt,List.all_append,this];simp
     have HN:Hid (keyB s[k]=false->keyOK s.data.toList=false):=fun hd=>by
      rw[HK.out,List.all_eq_false]
      exact⟨s[k],List.getElem_mem (l:=s.data.toList) (by simpa using hlt),by simp[hd]⟩
     go_wp2_with (go_at_call 237;refine (isKeyByte_any _ _).mono ?_;rintro e w' ⟨rfl,rfl⟩)
     ·go_ret
      have h:=‹(!keyI _)=true›
      exact⟨ret_bool (HN.out (by simpa [keyB] using h)).symm,rfl⟩
     ·have h:=‹(!keyI _)=false›
      exact⟨⟨k+1,by omega,by go_num,HA.out.trans (by simpa [keyB] using h)⟩,by simp[intOf];omega⟩
    ·go_wp2
     go_ret
     have:=ha.out
     rw[List.take_of_length_le (by simp;omega)] at this
     exact⟨ret_bool (HK.out.trans this).symm,rfl⟩
  ·have HK:Hid (keyOK s.data.toList=false):=by
    show _=_
    unfold keyOK
    rw[<- hz,decide_eq_false h40,Bool.false_and,Bool.and_false]
   try clear hz
   try clear hne2
   go_enter Tryz.func186,Tryz.ntmps186
   go_wp2
   go_ret
   exact⟨ret_bool HK.out.symm,rfl⟩
theorem isName_any (s:ByteArray)(w:World)(hs:s.size<=9223372036854775807) :
 Calls Tryz.prog 239 #[.string s] w fun e w'=>e=.returned (.bool (nameOK s.data.toList))/\w'=w:=by
 by_cases h0:s.size=0
 ·obtain rfl:=nil_of_size h0
  try clear hz
  try clear hne2
  go_enter Tryz.func239,Tryz.ntmps239
  go_wp2
  go_loop [6] (fun i=>i=.int .i64 0) (fun _=>0)
  case atStart=>exact rfl
  case round =>
   subst hrel
   go_wp2
   go_ret
   exact⟨rfl,rfl⟩
 ·obtain⟨hne,hne2⟩:=ne_nil h0
  have hne3:(s.toList != [])=true:=by simpa using hne
  have HK:Hid (nameOK s.data.toList=s.data.toList.all nameB):=by
   show _=_
   unfold nameOK
   rw[hne2]
   simp
  try clear hz
  try clear hne2
  go_enter Tryz.func239,Tryz.ntmps239
  go_wp2
  go_loop [6] (fun i=>∃ k:Nat,k<=s.size/\i=.int .i64 k/\Hid ((s.data.toList.take k).all nameB=true)) (fun i=>s.size-(intOf i).toNat)
  case atStart=>exact⟨0,Nat.zero_le _,rfl,rfl⟩
  case round =>
   obtain⟨k,hk,rfl,ha⟩:=hrel
   by_cases hlt:k<s.size
   ·have HA:Hid ((s.data.toList.take (k+1)).all nameB=nameB s[k]):=by
     have:=ha.out
     show _=_
     rw[take_snoc s k hlt,List.all_append,this];simp
    have HN:Hid (nameB s[k]=false->nameOK s.data.toList=false):=fun hd=>by
     rw[HK.out,List.all_eq_false]
     exact⟨s[k],List.getElem_mem (l:=s.data.toList) (by simpa using hlt),by simp[hd]⟩
    go_wp2_with (go_at_call 279;refine (isNameByte_any _ _).mono ?_;rintro e w' ⟨rfl,rfl⟩)
    ·go_ret
     have h:=‹(!nameI _)=true›
     exact⟨ret_bool (HN.out (by simpa [nameB] using h)).symm,rfl⟩
    ·have h:=‹(!nameI _)=false›
     exact⟨⟨k+1,by omega,by go_num,HA.out.trans (by simpa [nameB] using h)⟩,by simp[intOf];omega⟩
   ·go_wp2
    go_ret
    have:=ha.out
    rw[List.take_of_length_le (by simp;omega)] at this
    exact⟨ret_bool (HK.out.trans this).symm,rfl⟩
def numV (l:List UInt8):Nat:=l.foldl (fun n c=>n*10+(c.toNat-48)) 0
def numF (l:List UInt8):Option Nat:=if l.isEmpty||(decide (9<l.length)||(l.head?==some 48||!l.all digB)) then none else some (numV l)
theorem numV_snoc (l:List UInt8)(c:UInt8):numV (l++[c])=numV l*10+(c.toNat-48):=by
 unfold numV
 rw[List.foldl_append,List.foldl_cons,List.foldl_nil]
theorem numV_lt (l:List UInt8)(h:l.all digB=true):numV l<10 ^ l.length:=by
 suffices hg:∀ (l:List UInt8) (x:Nat),l.all digB=true->l.foldl (fun n c=>n*10+(c.toNat-48)) x<(x+1)*10 ^ l.length by
  have:=hg l 0 h
  rw[Nat.zero_add,Nat.one_mul] at this
  exact this
 intro l
 induction l with
 | nil=>intro x _;simp
 | cons c l ih =>
   intro x hx
   simp only[List.all_cons,Bool.and_eq_true] at hx
   have hc:c.toNat-48<=9:=by
    have:=hx.1
    unfold digB digI at this
    simp at this
    omega
   have:=ih (x*10+(c.toNat-48)) hx.2
   rw[List.foldl_cons,List.length_cons,Nat.pow_succ]
   refine Nat.lt_of_lt_of_le this ?_
   rw[show (x+1)*(10 ^ l.length*10)=((x+1)*10)*10 ^ l.length by rw[Nat.mul_comm (10 ^ l.length) 10,Nat.mul_assoc]]
   exact Nat.mul_le_mul_right _ (by omega)
def numOut:Option Nat->Value
 | some n=>.tuple #[.int .i64 (n:Int),.bool true]
 | none=>.tuple #[.int .i64 0,.bool false]
theorem head_of (s:ByteArray)(h:0<s.size):s.data.toList.head?=some s[0]:=by
 rw[List.head?_eq_getElem?,List.getElem?_eq_getElem (by rw[<- Lib.size_eq];exact h)]
 rfl
theorem wireNumber_any (s:ByteArray)(w:World)(hs:s.size<=9223372036854775807) :
 Calls Tryz.prog 238 #[.string s] w fun e w'=>e=.returned (numOut (numF s.data.toList))/\w'=w:=by
 have hz:=Lib.size_eq s
 by_cases h0:s.size=0
 ·obtain rfl:=nil_of_size h0
  try clear hz
  try clear hne2
  go_enter Tryz.func238,Tryz.ntmps238
  go_wp2
  go_ret2
  exact⟨rfl,rfl⟩
 ·obtain⟨hne,hne2⟩:=ne_nil h0
  have hpos:0<s.size:=by omega
  by_cases h9:s.size<=9
  ·by_cases h48:(s[0].toNat:Int)=48
   ·have HK:Hid (numF s.data.toList=none):=by
     show _=_
     unfold numF
     have e:s[0]=48:=by
      apply UInt8.toNat_inj.1
      show _=48
      omega
     rw[head_of s hpos,e]
     simp
    try clear hz
    try clear hne2
    go_enter Tryz.func238,Tryz.ntmps238
    go_wp2
    rw[HK.out]
    go_ret2
    exact⟨rfl,rfl⟩
   ·have h48':((s[0].toNat:Int)==48)=false:=by simpa using h48
    have HK:Hid (numF s.data.toList=if s.data.toList.all digB then some (numV s.data.toList) else none):=by
     show _=_
     unfold numF
     have e:¬ s[0]=48:=by
      intro e
      rw[e] at h48
      exact h48 rfl
     rw[head_of s hpos,hne2,<- hz]
     cases s.data.toList.all digB<;>simp[e]<;>omega
    try clear hz
    try clear hne2
    go_enter Tryz.func238,Tryz.ntmps238
    go_wp2
    go_loop [4,20] (fun n i=>∃ k:Nat,k<=s.size/\i=.int .i64 k/\n=.int .i64 (numV (s.data.toList.take k):Int)/\Hid ((s.data.toList.take k).all digB=true)) (fun _ i=>s.size-(intOf i).toNat)
    case atStart=>exact⟨0,Nat.zero_le _,rfl,rfl,rfl⟩
    case round =>
     obtain⟨k,hk,rfl,rfl,ha⟩:=hrel
     by_cases hlt:k<s.size
     ·have HA:Hid ((s.data.toList.take (k+1)).all digB=digB s[k]):=by
       have:=ha.out
       show _=_
       rw[take_snoc s k hlt,List.all_append,this];simp
      have HN:Hid (digB s[k]=false->numF s.data.toList=none):=fun hd=>by
       rw[HK.out,if_neg]
       rw[Bool.not_eq_true,List.all_eq_false]
       exact⟨s[k],List.getElem_mem (l:=s.data.toList) (by simpa using hlt),by simp[hd]⟩
      have HV:Hid (numV (s.data.toList.take (k+1))=numV (s.data.toList.take k)*10+(s[k].toNat-48)):=by
       show _=_
       rw[take_snoc s k hlt,numV_snoc]
      have hl:=numV_lt (s.data.toList.take k) ha.out
      have hp:10 ^ (s.data.toList.take k).length<=10 ^ 9:=Nat.pow_le_pow_right (by decide) (by simp;omega)
      obtain⟨V,hV⟩:∃ V,numV (s.data.toList.take k)=V:=⟨_,rfl⟩
      rw[hV] at HV hl ⊢
      have hV9:V<1000000000:=by omega
      have hcl:=s[k].toNat_lt
      by_cases hd:digB s[k]=true
      ·have hd':digI (s[k].toNat:Int)=true:=hd
       have h48k:48<=(s[k].toNat:Int)/\(s[k].toNat:Int)<=57:=by
        unfold digI at hd'
        simpa using hd'
       clear hl hp
       go_wp2_with (go_at_call 280;refine (isDigit_any _ _).mono ?_;rintro e w' ⟨rfl,rfl⟩)
       refine⟨⟨k+1,by omega,by go_num,?_,HA.out.trans hd⟩,by simp[intOf];omega⟩
       rw[HV.out]
       congr 1
       omega
      ·have hd':digI (s[k].toNat:Int)=false:=by simpa [digB] using hd
       clear hl hp
       go_wp2_with (go_at_call 280;refine (isDigit_any _ _).mono ?_;rintro e w' ⟨rfl,rfl⟩)
       rw[HN.out (by simpa using hd)]
       go_ret2
       exact⟨rfl,rfl⟩
     ·go_wp2
      have hall:=ha.out
      rw[List.take_of_length_le (by simp;omega)] at hall ⊢
      rw[HK.out,hall,if_pos rfl]
      go_ret2
      exact⟨rfl,rfl⟩
  ·have HK:Hid (numF s.data.toList=none):=by
    show _=_
    unfold numF
    rw[<- hz]
    simp
    omega
   try clear hz
   try clear hne2
   go_enter Tryz.func238,Tryz.ntmps238
   go_wp2
   rw[HK.out]
   go_ret2
   exact⟨rfl,rfl⟩
def methF (l:List UInt8):Option Nat:=if l=[71,69,84] then some 0 else if l=[72,69,65,68] then some 1 else if l=[80,85,84] then some 2 else if l=[68,69,76,69,84,69] then some 3 else none
theorem beq_list (s:ByteArray)(l:List UInt8)(h:¬ s.data.toList=l):(s.toList==l)=false:=by
 rw[list_of]
 simpa using h
theorem of_list {s:ByteArray}{l:List UInt8}(h:s.data.toList=l):s=⟨l.toArray⟩:=by
 apply ByteArray.ext
 apply Array.toList_inj.1
 rw[h]
theorem readMethod_any (s:ByteArray)(w:World):Calls Tryz.prog 123 #[.string s] w fun e w'=>e=.returned (numOut (methF s.data.toList))/\w'=w:=by
 by_cases h1:s.data.toList=[71,69,84]
 ·obtain rfl:=of_list h1
  go_enter Tryz.func123,Tryz.ntmps123
  go_wp2
  go_ret2
  exact⟨rfl,rfl⟩
 ·by_cases h2:s.data.toList=[72,69,65,68]
  ·obtain rfl:=of_list h2
   go_enter Tryz.func123,Tryz.ntmps123
   go_wp2
   go_ret2
   exact⟨rfl,rfl⟩
  ·by_cases h3:s.data.toList=[80,85,84]
   ·obtain rfl:=of_list h3
    go_enter Tryz.func123,Tryz.ntmps123
    go_wp2
    go_ret2
    exact⟨rfl,rfl⟩
   ·by_cases h4:s.data.toList=[68,69,76,69,84,69]
    ·obtain rfl:=of_list h4
     go_enter Tryz.func123,Tryz.ntmps123
     go_wp2
     go_ret2
     exact⟨rfl,rfl⟩
    ·have b1:=beq_list s _ h1
     have b2:=beq_list s _ h2
     have b3:=beq_list s _ h3
     have b4:=beq_list s _ h4
     have HM:Hid (methF s.data.toList=none):=by
      show _=_
      unfold methF
      rw[if_neg h1,if_neg h2,if_neg h3,if_neg h4]
     clear h1 h2 h3 h4
     go_enter Tryz.func123,Tryz.ntmps123
     go_wp2
     rw[HM.out]
     go_ret2
     exact⟨rfl,rfl⟩
end Go.Proofs.YtmehkneofinmiaaGreatDoor

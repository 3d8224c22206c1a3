/-
 Texts of this proof, part 5.
-/
import Derived.Test.YtmehkneofinmiaaGreatDoorP01
set_option maxHeartbeats 1000000
namespace Go.Proofs.YtmehkneofinmiaaGreatDoor
open Go.RowKit
theorem ret_pair {a b:Int}{c:Bool}(h:a=b):Ending.returned (.tuple #[.int .i64 a,.bool c])=.returned (.tuple #[.int .i64 b,.bool c]):=by rw[h]
theorem guess (d:Int)(h:0<=d):Cal.ahead (1970+d/366)<=d:=by unfold Cal.ahead Cal.lya;omega
theorem ahead_bd (y:Int)(h0:1970<=y)(h1:y<=10000):0<=Cal.ahead y/\Cal.ahead y<=2932897:=by
 have a:=Cal.ahead_mono h0
 have b:=Cal.ahead_mono h1
 rw[Cal.ahead_1970] at a
 rw[Cal.ahead_10000] at b
 exact⟨a,b⟩
theorem cum_bd (y:Int)(m:Nat)(h:m<=12):0<=Cal.cum y m/\Cal.cum y m<=366:=by
 have a:=Cal.cum_nonneg y m
 have b:=Cal.cum_le y h
 rw[Cal.cum_12] at b
 have c:=Cal.ylen_bd y
 omega
theorem split_any (d:Int)(w:World)(h0:0<=d)(h1:d<=2932896) :
 Calls Tryz.prog 48 #[.int .i64 d] w fun e w'=>(∃ (y:Int) (m:Nat) (k:Int),Cal.Sp d y m k/\e=.returned (.tuple #[.int .i64 y,.int .i64 m,.int .i64 (k+1)]))/\w'=w:=by
 have g:=guess d h0
 go_enter Tryz.func48,Tryz.ntmps48
 go_wp2
 go_loop [2] (fun t=>∃ y:Int,1970<=y/\y<=9999/\Cal.ahead y<=d/\t=.int .i64 y) (fun t=>(10000-intOf t).toNat)
 case atStart=>exact⟨_,by omega,by omega,g,rfl⟩
 case round =>
  obtain⟨y,hy0,hy1,hy2,rfl⟩:=hrel
  have ab:=ahead_bd y hy0 (by omega)
  by_cases hc:Cal.ahead (y+1)<=d
  ·have hy:y+1<=9999:=by
    by_cases e:y=9999
    ·subst e;have:=Cal.ahead_10000;rw[show (9999:Int)+1=10000 by rfl] at hc;omega
    ·omega
   go_wp2_with (go_at_call 96;refine (ahead_any _ _ (by omega) (by omega)).mono ?_;rintro e w' ⟨rfl,rfl⟩)
   go_round
   case rel=>exact⟨y+1,by omega,by omega,hc,rfl⟩
   case measure=>simp[intOf];omega
  ·have hsucc:=Cal.ahead_succ y
   have hyl:=Cal.ylen_bd y
   clear g
   go_wp2_with (go_at_call 96;refine (ahead_any _ _ (by omega) (by omega)).mono ?_;rintro e w' ⟨rfl,rfl⟩)
   go_loop [3,5] (fun mo r=>∃ m:Nat,m<12/\mo=.int .i64 m/\0<=d-Cal.ahead y-Cal.cum y m/\r=.int .i64 (d-Cal.ahead y-Cal.cum y m)) (fun mo _=>(12-intOf mo).toNat)
   case atStart=>exact⟨0,by omega,rfl,by simp[Cal.cum];omega,by simp[Cal.cum]⟩
   case round =>
    obtain⟨m,hm,rfl,hr,rfl⟩:=hrel
    have mb:=Cal.ml_bd y m
    have cb:=cum_bd y m (by omega)
    have cs:Hid (Cal.cum y (m+1)=Cal.cum y m+Cal.ml y m):=rfl
    by_cases hl:Cal.ml y m<=d-Cal.ahead y-Cal.cum y m
    ·have hm11:m+1<12:=by
      by_cases e:m=11
      ·subst e;have:=Cal.cum_12 y;have h12:Cal.cum y 12=Cal.cum y 11+Cal.ml y (11:Nat):=rfl;omega
      ·omega
     clear hc hsucc hyl
     go_wp2_with (go_at_call 97;refine (monthDays_any _ _ _ (by omega) (by omega)).mono ?_;rintro e w' ⟨rfl,rfl⟩)
     go_round
     case rel=>exact⟨m+1,hm11,by go_num,by rw[cs.out];omega,by rw[cs.out];go_num⟩
     case measure=>simp[intOf];omega
    ·have sp:Cal.Sp d y m (d-Cal.ahead y-Cal.cum y m):=⟨hy0,hm,hr,by omega,by omega⟩
     clear hc hsucc hyl
     go_wp2_with (go_at_call 97;refine (monthDays_any _ _ _ (by omega) (by omega)).mono ?_;rintro e w' ⟨rfl,rfl⟩)
     go_ret3
     exact⟨⟨y,m,_,sp,rfl⟩,rfl⟩
theorem placeOf_any (s t:ByteArray)(n:Nat)(w:World)(hs:s.size=3*n)(hn:n<=12) :
 Calls Tryz.prog 338 #[.string s,.string t] w fun e w'=>((∃ i:Nat,i<n/\Cal.nm s.data.toList i=t.data.toList/\e=.returned (.tuple #[.int .i64 i,.bool true])) \/
  ((∀ i,i<n->Cal.nm s.data.toList i≠t.data.toList)/\e=.returned (.tuple #[.int .i64 0,.bool false])))/\w'=w:=by
 go_enter Tryz.func338,Tryz.ntmps338
 go_wp2
 go_loop [10] (fun i=>∃ k:Nat,k<=n/\i=.int .i64 k/\Hid (∀ j,j<k->Cal.nm s.data.toList j≠t.data.toList)) (fun i=>n-(intOf i).toNat)
 case atStart=>exact⟨0,Nat.zero_le _,rfl,fun j hj=>absurd hj (by omega)⟩
 case round =>
  obtain⟨k,hk,rfl,hh⟩:=hrel
  by_cases hlt:k<n
  ·go_wp2_with (go_at_call 49;refine (nameAt_any _ _ _ (by omega) (by omega) (by omega)).mono ?_;rintro e w' ⟨rfl,rfl⟩)
   ·go_ret2
    exact⟨Or.inl ⟨k,hlt,by have:=‹(_==_)=true›;simpa [Lib.toList_data] using this,rfl⟩,rfl⟩
   ·refine⟨⟨k+1,by omega,by go_num,fun j hj=>?_⟩,by simp[intOf];omega⟩
    by_cases e:j=k
    ·subst e;have:=‹(_==_)=false›;simpa [Lib.toList_data] using this
    ·exact hh.out j (by omega)
  ·go_wp2
   go_ret2
   exact⟨Or.inr ⟨fun i hi=>hh.out i (by omega),rfl⟩,rfl⟩
def mons:ByteArray:=⟨#[74,97,110,70,101,98,77,97,114,65,112,114,77,97,121,74,117,110,74,117,108,65,117,103,83,101,112,79,99,116,78,111,118,68,101,99]⟩
theorem mons_list:mons.data.toList=Cal.months:=rfl
theorem place_yes (t:ByteArray)(i:Nat)(w:World)(hi:i<12)(h:Cal.nm Cal.months i=t.data.toList) :
 Calls Tryz.prog 338 #[.string mons,.string t] w fun e w'=>e=.returned (.tuple #[.int .i64 i,.bool true])/\w'=w:=by
 refine (placeOf_any mons t 12 w rfl (by omega)).mono ?_
 rintro e w' ⟨⟨j,hj,h',rfl⟩|⟨h',_⟩,rfl⟩
 ·rw[mons_list] at h'
  have:=Cal.nm_months_inj ⟨i,hi⟩ ⟨j,hj⟩ (h.trans h'.symm)
  simp at this
  subst this
  exact⟨rfl,rfl⟩
 ·rw[mons_list] at h'
  exact absurd h (h' i hi)
theorem place_no (t:ByteArray)(w:World)(h:∀ i,i<12->Cal.nm Cal.months i≠t.data.toList) :
 Calls Tryz.prog 338 #[.string mons,.string t] w fun e w'=>e=.returned (.tuple #[.int .i64 0,.bool false])/\w'=w:=by
 refine (placeOf_any mons t 12 w rfl (by omega)).mono ?_
 rintro e w' ⟨⟨j,hj,h',rfl⟩|⟨h',rfl⟩,rfl⟩
 ·exact absurd h' (h j hj)
 ·exact⟨rfl,rfl⟩
theorem clock_yes (a b c:ByteArray)(w:World)(ha:a.size<=4)(hb:b.size<=4)(hc:c.size<=4)(h1:num a.data.toList<=23)(h2:num b.data.toList<=59)(h3:num c.data.toList<=59) :
 Calls Tryz.prog 318 #[.string a,.string b,.string c] w fun e w'=>e=.returned (.tuple #[.int .i64 (num a.data.toList*3600+num b.data.toList*60+num c.data.toList),.bool true])/\w'=w:=by
 have ba:=num_bd a.data.toList ha
 have bb:=num_bd b.data.toList hb
 have bc:=num_bd c.data.toList hc
 go_enter Tryz.func318,Tryz.ntmps318
 go_wp2_with fail
 refine (readNumber_any _ _ ha).mono ?_
 rintro e w1 ⟨rfl,rfl⟩
 go_wp2_with fail
 refine (readNumber_any _ _ hb).mono ?_
 rintro e w1 ⟨rfl,rfl⟩
 go_wp2_with fail
 refine (readNumber_any _ _ hc).mono ?_
 rintro e w1 ⟨rfl,rfl⟩
 go_wp2
 go_ret2
 exact⟨rfl,rfl⟩
theorem clock_no (a b c:ByteArray)(w:World)(ha:a.size<=4)(hb:b.size<=4)(hc:c.size<=4)(h:¬ (num a.data.toList<=23/\num b.data.toList<=59/\num c.data.toList<=59)) :
 Calls Tryz.prog 318 #[.string a,.string b,.string c] w fun e w'=>e=.returned (.tuple #[.int .i64 0,.bool false])/\w'=w:=by
 have ba:=num_bd a.data.toList ha
 have bb:=num_bd b.data.toList hb
 have bc:=num_bd c.data.toList hc
 go_enter Tryz.func318,Tryz.ntmps318
 go_wp2_with fail
 refine (readNumber_any _ _ ha).mono ?_
 rintro e w1 ⟨rfl,rfl⟩
 go_wp2_with fail
 refine (readNumber_any _ _ hb).mono ?_
 rintro e w1 ⟨rfl,rfl⟩
 go_wp2_with fail
 refine (readNumber_any _ _ hc).mono ?_
 rintro e w1 ⟨rfl,rfl⟩
 have HN:Hid _:=h
 clear h
 go_wp2
 all_goals first|(exact absurd ⟨by omega,by omega,by omega⟩ HN.out)|(go_ret2;exact⟨rfl,rfl⟩)
def fitI (c f:Int):Bool:=if f=63 then true else if f=48 then decide (48<=c)&&decide (c<=57) else c==f
theorem fitsByte_any (c f:Int)(w:World) :
 Calls Tryz.prog 336 #[.int .u8 c,.int .u8 f] w fun e w'=>e=.returned (.bool (fitI c f))/\w'=w:=by
 go_enter Tryz.func336,Tryz.ntmps336
 go_wp2
 all_goals go_ret
 all_goals refine⟨ret_bool ?_,rfl⟩
 all_goals first|(simp_all [fitI];done)|(simp_all [fitI];omega)
theorem day_yes (a b c:ByteArray)(w:World)(i:Nat)(ha:a.size<=4)(hc:c.size<=4)(hi:i<12)(hm:Cal.nm Cal.months i=b.data.toList)(hy:1970<=num c.data.toList)(hy1:num c.data.toList<=9999)
 (hd:1<=num a.data.toList)(hd1:num a.data.toList<=Cal.ml (num c.data.toList) i) :
 Calls Tryz.prog 317 #[.string a,.string b,.string c] w fun e w'=>e=.returned (.tuple #[.int .i64 (Cal.ahead (num c.data.toList)+Cal.cum (num c.data.toList) i+(num a.data.toList-1)),.bool true])/\w'=w:=by
 have ba:=num_bd a.data.toList ha
 have bm:=Cal.ml_bd (num c.data.toList) i
 have bA:=ahead_bd (num c.data.toList) hy (by omega)
 have HM:Hid _:=hm
 clear hm
 go_enter Tryz.func317,Tryz.ntmps317
 go_wp2_with fail
 refine (readNumber_any _ _ hc).mono ?_
 rintro e w1 ⟨rfl,rfl⟩
 go_wp2_with fail
 refine (readNumber_any _ _ ha).mono ?_
 rintro e w1 ⟨rfl,rfl⟩
 go_wp2_with fail
 refine (place_yes _ i _ hi HM.out).mono ?_
 rintro e w1 ⟨rfl,rfl⟩
 go_wp2_with (first|(go_at_call 97;refine (monthDays_any _ _ _ (by omega) (by omega)).mono ?_;rintro e w' ⟨rfl,rfl⟩)|(go_at_call 96;refine (ahead_any _ _ (by omega) (by omega)).mono ?_;rintro e w' ⟨rfl,rfl⟩))
 go_loop [12,46] (fun n t=>∃ k:Nat,k<=i/\t=.int .i64 k/\n=.int .i64 (Cal.ahead (num c.data.toList)+num a.data.toList-1+Cal.cum (num c.data.toList) k)) (fun _ t=>i-(intOf t).toNat)
 case atStart=>exact⟨0,Nat.zero_le _,rfl,by simp[Cal.cum]⟩
 case round =>
  obtain⟨k,hk,rfl,rfl⟩:=hrel
  have cb:=cum_bd (num c.data.toList) k (by omega)
  by_cases hlt:k<i
  ·have mb:=Cal.ml_bd (num c.data.toList) k
   have cs:Hid (Cal.cum (num c.data.toList) (k+1)=Cal.cum (num c.data.toList) k+Cal.ml (num c.data.toList) k):=rfl
   go_wp2_with (go_at_call 97;refine (monthDays_any _ _ _ (by omega) (by omega)).mono ?_;rintro e w' ⟨rfl,rfl⟩)
   exact⟨⟨k+1,by omega,by go_num,by rw[cs.out];go_num⟩,by simp[intOf];omega⟩
  ·go_wp2
   go_ret2
   obtain rfl:k=i:=by omega
   exact⟨ret_pair (by omega),rfl⟩
theorem day_no (a b c:ByteArray)(w:World)(ha:a.size<=4)(hc:c.size<=4)(hy1:num c.data.toList<=9999)
 (h:¬ ∃ i,i<12/\Cal.nm Cal.months i=b.data.toList/\1970<=num c.data.toList/\1<=num a.data.toList/\num a.data.toList<=Cal.ml (num c.data.toList) i) :
 Calls Tryz.prog 317 #[.string a,.string b,.string c] w fun e w'=>e=.returned (.tuple #[.int .i64 0,.bool false])/\w'=w:=by
 have ba:=num_bd a.data.toList ha
 have bc:=num_bd c.data.toList hc
 by_cases hm:∃ i,i<12/\Cal.nm Cal.months i=b.data.toList
 ·obtain⟨i,hi,hm⟩:=hm
  have HN:Hid (¬ (1970<=num c.data.toList/\1<=num a.data.toList/\num a.data.toList<=Cal.ml (num c.data.toList) i)):=fun k=>h ⟨i,hi,hm,k⟩
  have HM:Hid _:=hm
  clear hm h
  go_enter Tryz.func317,Tryz.ntmps317
  go_wp2_with fail
  refine (readNumber_any _ _ hc).mono ?_
  rintro e w1 ⟨rfl,rfl⟩
  go_wp2_with fail
  refine (readNumber_any _ _ ha).mono ?_
  rintro e w1 ⟨rfl,rfl⟩
  go_wp2_with fail
  refine (place_yes _ i _ hi HM.out).mono ?_
  rintro e w1 ⟨rfl,rfl⟩
  by_cases h1:num c.data.toList<1970
  ·go_wp2
   go_ret2
   exact⟨rfl,rfl⟩
  by_cases h2:num a.data.toList<1
  ·go_wp2
   go_ret2
   exact⟨rfl,rfl⟩
  have h3:Cal.ml (num c.data.toList) i<num a.data.toList:=by
   have:=HN.out
   omega
  have bm:=Cal.ml_bd (num c.data.toList) i
  go_wp2_with (go_at_call 97;refine (monthDays_any _ _ _ (by omega) (by omega)).mono ?_;rintro e w' ⟨rfl,rfl⟩)
  go_ret2
  exact⟨rfl,rfl⟩
 ·have HM:Hid (∀ i,i<12->Cal.nm Cal.months i≠b.data.toList):=fun i hi e=>hm ⟨i,hi,e⟩
  clear hm h
  go_enter Tryz.func317,Tryz.ntmps317
  go_wp2_with fail
  refine (readNumber_any _ _ hc).mono ?_
  rintro e w1 ⟨rfl,rfl⟩
  go_wp2_with fail
  refine (readNumber_any _ _ ha).mono ?_
  rintro e w1 ⟨rfl,rfl⟩
  go_wp2_with fail
  refine (place_no _ _ HM.out).mono ?_
  rintro e w1 ⟨rfl,rfl⟩
  go_wp2
  go_ret2
  exact⟨rfl,rfl⟩
def form:ByteArray:=⟨#[63,63,63,44,32,48,48,32,63,63,63,32,48,48,48,48,32,48,48,58,48,48,58,48,48,32,71,77,84]⟩
theorem form_size:form.size=29:=rfl
theorem fits_short (s:ByteArray)(w:World)(hs:s.size≠29) :
 Calls Tryz.prog 316 #[.string s] w fun e w'=>e=.returned (.bool false)/\w'=w:=by
 go_enter Tryz.func316,Tryz.ntmps316
 go_wp2
 go_ret
 exact⟨rfl,rfl⟩
def at8 (s:ByteArray)(j:Nat):Int:=((s.data.toList.getD j 0).toNat:Int)
theorem at8_eq (s:ByteArray)(j:Nat)(h:j<s.size):(s[j].toNat:Int)=at8 s j:=by
 unfold at8
 rw[List.getD,List.getElem?_eq_getElem (by simpa using h)];rfl
theorem fits_long (s:ByteArray)(w:World)(hs:s.size=29) :
 Calls Tryz.prog 316 #[.string s] w fun e w'=>(∃ r:Bool,(r=true ↔ ∀ j,j<29->fitI (at8 s j) (at8 form j)=true)/\e=.returned (.bool r))/\∃ q,w'=w.drewN q:=by
 have HSZ:Hid (s.size=29):=hs
 have h29:s.size<=29:=by omega
 have h29':29<=s.size:=by omega
 clear hs
 go_enter Tryz.func316,Tryz.ntmps316
 go_wp2
 go_loopw [9] (fun i wr=>∃ k:Nat,k<=29/\i=.int .i64 k/\Hid (∃ q,wr=w.drewN q)/\Hid (∀ j,j<k->fitI (at8 s j) (at8 form j)=true)) (fun i _=>29-(intOf i).toNat)
 case atStart=>exact⟨0,Nat.zero_le _,rfl,⟨0,rfl⟩,fun j hj=>absurd hj (by omega)⟩
 case round =>
  obtain⟨k,hk,rfl,hq,hh⟩:=hrel
  by_cases hlt:k<29
  ·have e1:=at8_eq s k (by omega)
   have e2:=at8_eq form k (by rw[form_size];omega)
   have e3:∀ w',(Instr.index 9 (.string form) (.int .i64 (k:Int))).run Tryz.prog w'=.ok (.int .u8 (at8 form k)) w':=by
    intro w'
    rw[run_index_string _ 9 form .i64 k Tryz.underlying9,dif_pos ⟨by omega,by rw[form_size];omega⟩]
    exact congrArg (fun z=>Result.ok (Value.int .u8 z) w') e2
   unfold form at e3
   clear e2
   go_wp2
   go_quiet ((go_at_call 336;exact Calls.quiet_of_same (fitsByte_any _ _ _)))
   go_wp2
   ·go_ret
    have hno:=‹(!fitI _ _)=true›
    refine⟨⟨false,⟨fun h=>absurd h (by decide),fun h=>?_⟩,rfl⟩,?_⟩
    ·have:=h k hlt
     unfold form at this
     rw[this] at hno
     exact absurd hno (by decide)
    ·obtain⟨q,hq⟩:=hq.out
     exact⟨q+nq,by rw[hq,World.drewN_drewN]⟩
   ·have hyes:=‹(!fitI _ _)=false›
    refine⟨⟨k+1,by omega,by go_num,?_,fun j hj=>?_⟩,by simp[intOf];omega⟩
    ·obtain⟨q,hq⟩:=hq.out
     exact⟨q+nq,by rw[hq,World.drewN_drewN]⟩
    ·by_cases e:j=k
     ·subst e
      unfold form
      simpa using hyes
     ·exact hh.out j (by omega)
  ·go_wp2
   go_ret
   exact⟨⟨true,⟨fun _ j hj=>hh.out j (by omega),fun _=>rfl⟩,rfl⟩,hq.out⟩
def Fits (s:ByteArray):Prop:=∀ j,j<29->fitI (at8 s j) (at8 form j)=true
theorem fits_yes (s:ByteArray)(w:World)(hs:s.size=29)(h:Fits s) :
 Calls Tryz.prog 316 #[.string s] w fun e w'=>e=.returned (.bool true)/\∃ q,w'=w.drewN q:=by
 refine (fits_long s w hs).mono ?_
 rintro e w' ⟨⟨r,hr,rfl⟩,hq⟩
 exact⟨ret_bool (hr.2 h),hq⟩
theorem fits_no (s:ByteArray)(w:World)(hs:s.size=29)(h:¬ Fits s) :
 Calls Tryz.prog 316 #[.string s] w fun e w'=>e=.returned (.bool false)/\∃ q,w'=w.drewN q:=by
 refine (fits_long s w hs).mono ?_
 rintro e w' ⟨⟨r,hr,rfl⟩,hq⟩
 refine⟨ret_bool ?_,hq⟩
 cases r
 ·rfl
 ·exact absurd (hr.1 rfl) h
theorem date_short (s:ByteArray)(w:World)(hs:s.size≠29) :
 Calls Tryz.prog 285 #[.string s] w fun e w'=>e=.returned (.tuple #[.int .i64 0,.bool false])/\∃ q,w'=w.drewN q:=by
 go_enter Tryz.func285,Tryz.ntmps285
 go_wp2_with fail
 refine (fits_short _ _ hs).mono ?_
 rintro e w1 ⟨rfl,rfl⟩
 go_wp2
 go_ret2
 exact⟨rfl,0,rfl⟩
theorem date_unfit (s:ByteArray)(w:World)(hs:s.size=29)(h:¬ Fits s) :
 Calls Tryz.prog 285 #[.string s] w fun e w'=>e=.returned (.tuple #[.int .i64 0,.bool false])/\∃ q,w'=w.drewN q:=by
 have HS:Hid _:=hs
 clear hs
 go_enter Tryz.func285,Tryz.ntmps285
 go_wp2_with fail
 refine (fits_no _ _ HS.out h).mono ?_
 rintro e w1 ⟨rfl,hq⟩
 go_wp2
 go_ret2
 exact⟨rfl,hq⟩
theorem drew_some {w w1:World}{n:Nat}(h:∃ q,w1=w.drewN q):∃ q,w1.drewN n=w.drewN q:=by
 obtain⟨q,rfl⟩:=h
 exact⟨q+n,World.drewN_drewN _ _ _⟩
theorem size_ext (s:ByteArray)(a b:Nat)(h:s.size=29)(hb:b<=29):(s.extract a b).size=b-a:=by
 rw[ByteArray.size_extract,h];omega
theorem date_noday (s:ByteArray)(w:World)(hs:s.size=29)(h:Fits s)(hy1:num (s.extract 12 16).data.toList<=9999)
 (hn:¬ ∃ i,i<12/\Cal.nm Cal.months i=(s.extract 8 11).data.toList/\1970<=num (s.extract 12 16).data.toList/\1<=num (s.extract 5 7).data.toList/\num (s.extract 5 7).data.toList<=Cal.ml (num (s.extract 12 16).data.toList) i) :
 Calls Tryz.prog 285 #[.string s] w fun e w'=>e=.returned (.tuple #[.int .i64 0,.bool false])/\∃ q,w'=w.drewN q:=by
 have HS:Hid _:=hs
 have z1:29<=s.size:=by omega
 have hday:=fun w=>day_no (s.extract 5 7) (s.extract 8 11) (s.extract 12 16) w (by rw[size_ext s _ _ hs (by omega)];omega) (by rw[size_ext s _ _ hs (by omega)];omega) hy1 hn
 have HD:Hid _:=hday
 clear hs hday hn hy1
 go_enter Tryz.func285,Tryz.ntmps285
 go_wp2_with fail
 refine (fits_yes _ _ HS.out h).mono ?_
 rintro e w1 ⟨rfl,hq⟩
 have HQ:Hid _:=hq
 clear hq h
 go_wp2
 go_quiet ((go_at_call 317;exact Calls.quiet_of_same (HD.out _)))
 go_wp2
 go_quiet (fail)
 go_wp2
 go_ret2
 exact⟨rfl,drew_some (drew_some HQ.out)⟩
def wks:ByteArray:=⟨#[84,104,117,70,114,105,83,97,116,83,117,110,77,111,110,84,117,101,87,101,100]⟩
theorem wks_list:wks.data.toList=Cal.week:=rfl
theorem week_at (d:Int)(w:World)(v:ByteArray)(hv:Cal.nm Cal.week (d%7).toNat=v.data.toList) :
 Calls Tryz.prog 49 #[.string wks,.int .i64 (d%7)] w fun e w'=>e=.returned (.string v)/\w'=w:=by
 refine (nameAt_any wks (d%7) w (by omega) (by have:wks.size=21:=rfl;omega) (by have:wks.size=21:=rfl;omega)).mono ?_
 rintro e w' ⟨rfl,rfl⟩
 rw[wks_list,hv,Lib.mk_data]
 exact⟨rfl,rfl⟩
theorem date_week (s:ByteArray)(w:World)(D:Int)(d0:0<=D)(d1:D<=3000000)(hs:s.size=29)(h:Fits s)(v:ByteArray)(hv:Cal.nm Cal.week (D%7).toNat=v.data.toList)
 (hday:∀ w,Calls Tryz.prog 317 #[.string (s.extract 5 7),.string (s.extract 8 11),.string (s.extract 12 16)] w fun e w'=>e=.returned (.tuple #[.int .i64 D,.bool true])/\w'=w)
 (hne:((s.extract 0 3).toList==v.toList)=false) :
 Calls Tryz.prog 285 #[.string s] w fun e w'=>e=.returned (.tuple #[.int .i64 0,.bool false])/\∃ q,w'=w.drewN q:=by
 have HS:Hid _:=hs
 have z1:29<=s.size:=by omega
 have HD:Hid _:=hday
 have hwk:=fun w=>week_at D w v hv
 have HW:Hid _:=hwk
 clear hs hday hv hwk
 go_enter Tryz.func285,Tryz.ntmps285
 go_wp2_with fail
 refine (fits_yes _ _ HS.out h).mono ?_
 rintro e w1 ⟨rfl,hq⟩
 have HQ:Hid _:=hq
 clear hq h
 go_wp2
 go_quiet ((go_at_call 317;exact Calls.quiet_of_same (HD.out _)))
 go_wp2
 obtain⟨w2,hw2⟩:∃ w2,w2=w1.drewN nq:=⟨_,rfl⟩
 rw[<- hw2]
 have HQ2:Hid (∃ q,w2=w.drewN q):=by rw[hw2];exact drew_some HQ.out
 clear hw2 HQ
 go_quiet ((go_at_call 49;exact Calls.quiet_of_same (HW.out _)))
 go_wp2
 go_ret2
 exact⟨rfl,drew_some HQ2.out⟩
theorem date_noclock (s:ByteArray)(w:World)(D:Int)(d0:0<=D)(d1:D<=3000000)(hs:s.size=29)(h:Fits s)(v:ByteArray)(hv:Cal.nm Cal.week (D%7).toNat=v.data.toList)
 (hday:∀ w,Calls Tryz.prog 317 #[.string (s.extract 5 7),.string (s.extract 8 11),.string (s.extract 12 16)] w fun e w'=>e=.returned (.tuple #[.int .i64 D,.bool true])/\w'=w)
 (hne:((s.extract 0 3).toList==v.toList)=true)
 (hclk:∀ w,Calls Tryz.prog 318 #[.string (s.extract 17 19),.string (s.extract 20 22),.string (s.extract 23 25)] w fun e w'=>e=.returned (.tuple #[.int .i64 0,.bool false])/\w'=w) :
 Calls Tryz.prog 285 #[.string s] w fun e w'=>e=.returned (.tuple #[.int .i64 0,.bool false])/\∃ q,w'=w.drewN q:=by
 have HS:Hid _:=hs
 have z1:29<=s.size:=by omega
 have HD:Hid _:=hday
 have hwk:=fun w=>week_at D w v hv
 have HW:Hid _:=hwk
 have HC:Hid _:=hclk
 clear hs hday hv hwk hclk
 go_enter Tryz.func285,Tryz.ntmps285
 go_wp2_with fail
 refine (fits_yes _ _ HS.out h).mono ?_
 rintro e w1 ⟨rfl,hq⟩
 have HQ:Hid _:=hq
 clear hq h
 go_wp2
 go_quiet ((go_at_call 317;exact Calls.quiet_of_same (HD.out _)))
 go_wp2
 obtain⟨w2,hw2⟩:∃ w2,w2=w1.drewN nq:=⟨_,rfl⟩
 rw[<- hw2]
 have HQ2:Hid (∃ q,w2=w.drewN q):=by rw[hw2];exact drew_some HQ.out
 clear hw2 HQ
 go_quiet ((go_at_call 49;exact Calls.quiet_of_same (HW.out _)))
 go_wp2
 obtain⟨w3,hw3⟩:∃ w3,w3=w2.drewN nq:=⟨_,rfl⟩
 rw[<- hw3]
 have HQ3:Hid (∃ q,w3=w.drewN q):=by rw[hw3];exact drew_some HQ2.out
 clear hw3 HQ2
 go_quiet ((go_at_call 318;exact Calls.quiet_of_same (HC.out _)))
 go_wp2
 go_ret2
 exact⟨rfl,drew_some HQ3.out⟩
theorem date_yes (s:ByteArray)(w:World)(D:Int)(d0:0<=D)(d1:D<=3000000)(hs:s.size=29)(h:Fits s)(v:ByteArray)(hv:Cal.nm Cal.week (D%7).toNat=v.data.toList)
 (hday:∀ w,Calls Tryz.prog 317 #[.string (s.extract 5 7),.string (s.extract 8 11),.string (s.extract 12 16)] w fun e w'=>e=.returned (.tuple #[.int .i64 D,.bool true])/\w'=w)
 (hne:((s.extract 0 3).toList==v.toList)=true)
 (S:Int)(s0:0<=S)(s1:S<=100000)(hclk:∀ w,Calls Tryz.prog 318 #[.string (s.extract 17 19),.string (s.extract 20 22),.string (s.extract 23 25)] w fun e w'=>e=.returned (.tuple #[.int .i64 S,.bool true])/\w'=w) :
 Calls Tryz.prog 285 #[.string s] w fun e w'=>e=.returned (.tuple #[.int .i64 (D*86400+S),.bool true])/\∃ q,w'=w.drewN q:=by
 have HS:Hid _:=hs
 have z1:29<=s.size:=by omega
 have HD:Hid _:=hday
 have hwk:=fun w=>week_at D w v hv
 have HW:Hid _:=hwk
 have HC:Hid _:=hclk
 clear hs hday hv hwk hclk
 go_enter Tryz.func285,Tryz.ntmps285
 go_wp2_with fail
 refine (fits_yes _ _ HS.out h).mono ?_
 rintro e w1 ⟨rfl,hq⟩
 have HQ:Hid _:=hq
 clear hq h
 go_wp2
 go_quiet ((go_at_call 317;exact Calls.quiet_of_same (HD.out _)))
 go_wp2
 obtain⟨w2,hw2⟩:∃ w2,w2=w1.drewN nq:=⟨_,rfl⟩
 rw[<- hw2]
 have HQ2:Hid (∃ q,w2=w.drewN q):=by rw[hw2];exact drew_some HQ.out
 clear hw2 HQ
 go_quiet ((go_at_call 49;exact Calls.quiet_of_same (HW.out _)))
 go_wp2
 obtain⟨w3,hw3⟩:∃ w3,w3=w2.drewN nq:=⟨_,rfl⟩
 rw[<- hw3]
 have HQ3:Hid (∃ q,w3=w.drewN q):=by rw[hw3];exact drew_some HQ2.out
 clear hw3 HQ2
 go_quiet ((go_at_call 318;exact Calls.quiet_of_same (HC.out _)))
 go_wp2
 go_ret2
 exact⟨rfl,drew_some HQ3.out⟩
end Go.Proofs.YtmehkneofinmiaaGreatDoor

/-
 Texts of this proof, part 7.
-/
import Derived.Test.YtmehkneofinmiaaGreatDoorP06
import Derived.Test.YtmehkneofinmiaaGreatDoorP04
import Derived.Lib.QuietBelow
set_option maxHeartbeats 2000000
namespace Go.Proofs.YtmehkneofinmiaaGreatDoor
open Go.RowKit
def pz:Nat->List UInt8->List UInt8
 | 0,D=>D
 | k+1,D=>48::pz k D
theorem pz_len (D:List UInt8):∀ k,(pz k D).length=k+D.length
 | 0=>by simp[pz]
 | k+1=>by simp[pz,pz_len D k];omega
theorem wide_any (n:Int)(wd c:Nat)(D:List UInt8)(hL:D.length+c=wd)(hw:wd<=4)(w:World)(hI:Calls Tryz.prog 17 #[.int .i64 n] w fun e w'=>e=.returned (.string ⟨D.toArray⟩)/\Below w.heap.size w w') :
 Calls Tryz.prog 177 #[.int .i64 n,.int .i64 wd] w fun e w'=>e=.returned (.string ⟨(pz c D).toArray⟩)/\Below w.heap.size w w':=by
 have HI:Hid _:=hI
 clear hI
 have HL:Hid _:=hL
 have h1:D.length+c<=wd:=by omega
 have h2:wd<=D.length+c:=by omega
 clear hL
 go_enter Tryz.func177,Tryz.ntmps177
 go_wp2_with fail
 refine Calls.mono HI.out ?_
 rintro e w1 ⟨rfl,hb1⟩
 have HB:Hid _:=hb1
 clear hb1
 go_wp2
 go_loop [5] (fun s=>∃ k:Nat,k<=c/\s=.string ⟨(pz k D).toArray⟩) (fun s=>5-(match s with|.string b=>b.size|_=>0))
 case atStart=>exact⟨0,Nat.zero_le _,rfl⟩
 case round =>
  obtain⟨k,hk,rfl⟩:=hrel
  have hlen:=pz_len D k
  by_cases hlt:k<c
  ·go_wp2
   have e:(⟨#[48]⟩:ByteArray)++⟨(pz k D).toArray⟩=⟨(pz (k+1) D).toArray⟩:=app_mk [48] (pz k D)
   rw[e]
   refine⟨⟨k+1,by omega,rfl⟩,?_⟩
   have z1:(⟨(pz (k+1) D).toArray⟩:ByteArray).size=k+1+D.length:=(Lib.size_eq _).trans (by simpa using pz_len D (k+1))
   have z2:(⟨(pz k D).toArray⟩:ByteArray).size=k+D.length:=(Lib.size_eq _).trans (by simpa using pz_len D k)
   show 5-(⟨(pz (k+1) D).toArray⟩:ByteArray).size<5-(⟨(pz k D).toArray⟩:ByteArray).size
   rw[z1,z2];omega
  ·obtain rfl:k=c:=by omega
   go_wp2
   go_ret
   exact⟨rfl,HB.out⟩
theorem wide2 (n:Int)(w:World)(h0:0<=n)(h:n<100) :
 Calls Tryz.prog 177 #[.int .i64 n,.int .i64 2] w fun e w'=>e=.returned (.string ⟨(Cal.two n).toArray⟩)/\Below w.heap.size w w':=by
 have hI:=itoa_small n w h0 h
 by_cases hl:n<10
 ·rw[Lib.decDigits_one (by omega)] at hI
  refine (wide_any n 2 1 _ rfl (by omega) w hI).mono ?_
  rintro e w' ⟨rfl,hb⟩
  refine⟨ret_str ?_,hb⟩
  rw[Cal.two,Cal.dig,Cal.dig,show n/10=0 by omega,show n%10=n by omega]
  rfl
 ·rw[Lib.decDigits_two (by omega) (by omega)] at hI
  refine (wide_any n 2 0 _ rfl (by omega) w hI).mono ?_
  rintro e w' ⟨rfl,hb⟩
  refine⟨ret_str ?_,hb⟩
  rw[Cal.two,Cal.dig,Cal.dig,show (n/10).toNat=n.toNat/10 by omega,show (n%10).toNat=n.toNat%10 by omega]
  rfl
theorem wide4 (n:Int)(w:World)(h0:1000<=n)(h:n<10000)(hT:Tab w) :
 Calls Tryz.prog 177 #[.int .i64 n,.int .i64 4] w fun e w'=>e=.returned (.string ⟨(Cal.four n).toArray⟩)/\Below w.heap.size w w':=by
 have hI:=itoa_any n w (by omega) (by omega) hT
 rw[dec_four n h0 h] at hI
 exact wide_any n 4 0 _ rfl (by omega) w hI
theorem ref_stamp_no (sec:Int)(w:World)(h:sec<0\/253402300799<sec) :
 Calls Tryz.prog 119 #[.int .i64 sec] w fun e w'=>e=.returned (.string ⟨#[]⟩)/\w'=w:=by
 rcases h with h|h
 ·go_enter Tryz.func119,Tryz.ntmps119
  go_wp2
  go_ret
  exact⟨rfl,rfl⟩
 ·have h':¬ sec<0:=by omega
  go_enter Tryz.func119,Tryz.ntmps119
  go_wp2
  go_ret
  exact⟨rfl,rfl⟩
def wksR:ByteArray:=⟨#[83,117,110,77,111,110,84,117,101,87,101,100,84,104,117,70,114,105,83,97,116]⟩
theorem cut_const (s:ByteArray)(n:Nat)(i:Nat)(hs:s.size=3*n)(hi:i<n)(w:World)(j:Int)(hj:j=(i:Int)) :
 (Instr.slice 9 (.string s) (some (.int .i64 (3*j))) (some (.int .i64 (3*j+3))) none).run Tryz.prog w=.ok (.string ⟨(Cal.nm s.data.toList i).toArray⟩) w:=by
 subst hj
 rw[run_slice_string w 9 s .i64 .i64 (3*(i:Int)) (3*(i:Int)+3) Tryz.underlying9 (by omega) (by omega) (by omega)]
 rw[Lib.extract_eq,Cal.nm,show (3*(i:Int)).toNat=i*3 by omega,show (3*(i:Int)+3).toNat-i*3=3 by omega]
theorem val_int {a b:Int}(h:a=b):Value.int .i64 a=.int .i64 b:=by rw[h]
def boolN:Value->Nat
 | .bool true=>1
 | _=>0
theorem ref_stamp_yes (sec:Int)(w:World)(h0:0<=sec)(h1:sec<=253402300799)(hT:Tab w) :
 Calls Tryz.prog 119 #[.int .i64 sec] w fun e w'=>(∃ l,Cal.IsStamp sec l/\e=.returned (.string ⟨l.toArray⟩))/\Below w.heap.size w w':=by
 go_enter Tryz.func119,Tryz.ntmps119
 go_wp2
 go_loop [3,5,6] (fun d y ag=>∃ Y:Int,1970<=Y/\Y<=9999/\y=.int .i64 Y/\0<=sec/86400-Cal.ahead Y/\d=.int .i64 (sec/86400-Cal.ahead Y)/\((ag=.bool true)\/(ag=.bool false/\sec/86400<Cal.ahead (Y+1))))
  (fun _ y ag=>20000-2*(intOf y).toNat+boolN ag)
 case atStart=>exact⟨1970,by omega,by omega,rfl,by rw[Cal.ahead_1970];omega,by rw[Cal.ahead_1970];simp,Or.inl rfl⟩
 case round =>
  obtain⟨Y,hY0,hY1,rfl,hd,rfl,rfl|⟨rfl,hlt⟩⟩:=hrel
  ·have hsucc:=Cal.ahead_succ Y
   have hyl:=Cal.ylen_bd Y
   have ab:=ahead_bd Y hY0 (by omega)
   have hyc:(Cal.leap Y=true/\Cal.ylen Y=366)\/(Cal.leap Y=false/\Cal.ylen Y=365):=by
    unfold Cal.ylen;cases Cal.leap Y<;>simp
   rcases hyc with ⟨hlp,hy6⟩|⟨hlp,hy6⟩
   all_goals
    go_wp2_with (go_at_call 175;refine (leap_any _ _ (by omega) (by omega)).mono ?_;rintro e w' ⟨rfl,rfl⟩)
   ·have hY2:Y+1<=9999:=by
     by_cases e:Y=9999
     ·subst e;have:=Cal.ahead_10000;rw[show (9999:Int)+1=10000 from rfl] at hsucc;omega
     ·omega
    rw[show decide ((366:Int)<=sec/86400-Cal.ahead Y)=true from decide_eq_true (by omega)]
    exact⟨⟨Y+1,by omega,by omega,rfl,by omega,val_int (by omega),Or.inl rfl⟩,by simp[intOf,boolN];omega⟩
   ·rw[show decide ((366:Int)<=sec/86400-Cal.ahead Y)=false from decide_eq_false (by omega)]
    exact⟨⟨Y,by omega,by omega,rfl,hd,rfl,Or.inr ⟨rfl,by omega⟩⟩,by simp[boolN]⟩
   ·have hY2:Y+1<=9999:=by
     by_cases e:Y=9999
     ·subst e;have:=Cal.ahead_10000;rw[show (9999:Int)+1=10000 from rfl] at hsucc;omega
     ·omega
    rw[show decide ((365:Int)<=sec/86400-Cal.ahead Y)=true from decide_eq_true (by omega)]
    exact⟨⟨Y+1,by omega,by omega,rfl,by omega,val_int (by omega),Or.inl rfl⟩,by simp[intOf,boolN];omega⟩
   ·rw[show decide ((365:Int)<=sec/86400-Cal.ahead Y)=false from decide_eq_false (by omega)]
    exact⟨⟨Y,by omega,by omega,rfl,hd,rfl,Or.inr ⟨rfl,by omega⟩⟩,by simp[boolN]⟩
  ·have hsucc:=Cal.ahead_succ Y
   have hyl:=Cal.ylen_bd Y
   have ab:=ahead_bd Y hY0 (by omega)
   go_wp2
   go_loop [3,9,10] (fun d mo ag=>∃ m:Nat,m<12/\mo=.int .i64 m/\0<=sec/86400-Cal.ahead Y-Cal.cum Y m/\d=.int .i64 (sec/86400-Cal.ahead Y-Cal.cum Y m)/\((ag=.bool true)\/(ag=.bool false/\sec/86400-Cal.ahead Y-Cal.cum Y m<Cal.ml Y m)))
    (fun _ mo ag=>24-2*(intOf mo).toNat+boolN ag)
   case atStart=>exact⟨0,by omega,rfl,by simpa [Cal.cum] using hd,by simp[Cal.cum],Or.inl rfl⟩
   case round =>
    obtain⟨m,hm,rfl,hr,rfl,rfl|⟨rfl,hl⟩⟩:=hrel
    ·have mb:=Cal.ml_bd Y m
     have cb:=cum_bd Y m (by omega)
     have cs:Hid (Cal.cum Y (m+1)=Cal.cum Y m+Cal.ml Y m):=rfl
     have HM:Hid (Cal.ml Y m<=sec/86400-Cal.ahead Y-Cal.cum Y m->m+1<12):=by
      intro hge
      by_cases e:m=11
      ·subst e;have:=Cal.cum_12 Y;have h12:Cal.cum Y 12=Cal.cum Y 11+Cal.ml Y (11:Nat):=rfl;omega
      ·omega
     clear hsucc hyl hlt
     go_wp2_with (go_at_call 176;refine (long_any _ _ _ (by omega) (by omega)).mono ?_;rintro e w' ⟨rfl,rfl⟩)
     ·have h12:=HM.out (by omega)
      rw[show decide (Cal.ml Y m<=sec/86400-Cal.ahead Y-Cal.cum Y m)=true from decide_eq_true (by omega)]
      exact⟨⟨m+1,h12,by go_num,by rw[cs.out];omega,val_int (by rw[cs.out];omega),Or.inl rfl⟩,by simp[intOf,boolN];omega⟩
     ·rw[show decide (Cal.ml Y m<=sec/86400-Cal.ahead Y-Cal.cum Y m)=false from decide_eq_false (by omega)]
      exact⟨⟨m,hm,rfl,hr,rfl,Or.inr ⟨rfl,by omega⟩⟩,by simp[boolN]⟩
    ·have mb:=Cal.ml_bd Y m
     have cb:=cum_bd Y m (by omega)
     have sp:Cal.Sp (sec/86400) Y m (sec/86400-Cal.ahead Y-Cal.cum Y m):=⟨hY0,hm,hr,hl,by omega⟩
     clear hsucc hyl hlt
     obtain⟨c0,c1,c2,hw⟩:=list3 (Cal.len_week ⟨(sec/86400%7).toNat,by omega⟩)
     obtain⟨m0,m1,m2,hmo⟩:=list3 (Cal.len_months ⟨m,hm⟩)
     simp only at hw hmo
     have hs1:=fun w=>cut_const wksR 7 ((sec/86400+4)%7).toNat rfl (by omega) w ((sec/86400+4)%7) (by omega)
     have hs2:=fun w=>cut_const mons 12 m rfl hm w m rfl
     have hwr:Cal.nm wksR.data.toList ((sec/86400+4)%7).toNat=[c0,c1,c2]:=by
      have:=Cal.week_same ⟨(sec/86400%7).toNat,by omega⟩
      simp only at this
      rw[<- hw,<- this,show ((sec/86400%7).toNat+4)%7=((sec/86400+4)%7).toNat by omega]
      rfl
     rw[hwr] at hs1
     rw[mons_list,hmo] at hs2
     unfold wksR at hs1
     unfold mons at hs2
     have HF:Hid (Cal.fmt (sec/86400) Y m (sec/86400-Cal.ahead Y-Cal.cum Y m) (sec%86400)=[c0,c1,c2]++[44,32]++Cal.two (sec/86400-Cal.ahead Y-Cal.cum Y m+1)++[32]++[m0,m1,m2]++[32]++Cal.four Y++[32]++Cal.two (sec%86400/3600)++[58]++Cal.two (sec%86400%3600/60)++[58]++Cal.two (sec%86400%60)++[32,71,77,84]):=by
      unfold Cal.fmt;rw[hw,hmo];rfl
     have hwd:=fun (d:Nat) (os:Array Obj)=>Calls.regrown_of (wide2 (sec/86400-Cal.ahead Y-Cal.cum Y m+1) (Sort.grow (redrawn w d) os) (by omega) (by omega))
     have hwy:=fun (d:Nat) (os:Array Obj)=>Calls.regrown_of (wide4 Y (Sort.grow (redrawn w d) os) (by omega) (by omega) (hT.below (below_regrown w d os)))
     simp only[Cal.two,Cal.four] at hwd hwy
     have HD:Hid _:=hwd
     have HY:Hid _:=hwy
     clear hw hmo hwr hwd hwy
     go_wp2
     refine wp_region_quiet_below (by kernel_rfl) (by kernel_rfl) ?_
     repeat (first|go_big_quiet_step (first|(go_at_call_of 177 (Value.int IntKind.i64 2);exact HD.out _ _)|(go_at_call_of 177 (Value.int IntKind.i64 4);exact HY.out _ _))|quiet_step (first|(go_at_call_of 177 (Value.int IntKind.i64 2);exact HD.out _ _)|(go_at_call_of 177 (Value.int IntKind.i64 4);exact HY.out _ _)))
     refine wpQuiet_nil ?_
     intro w2 hw'
     have hB2:Below w.heap.size w w2:=by
      obtain⟨⟨dq,osq⟩,hw''⟩:=hw'
      rw[hw'']
      exact below_regrown w dq osq
     clear hw' HD HY hs1 hs2
     go_wp2_with fail
     refine (wide2 _ _ (by omega) (by omega)).mono ?_
     rintro e w4 ⟨rfl,hb4⟩
     rw[Cal.two]
     have hB4:=hB2.trans (hb4.mono hB2.size)
     clear hB2 hb4
     go_wp2_with fail
     refine (wide2 _ _ (by omega) (by omega)).mono ?_
     rintro e w5 ⟨rfl,hb5⟩
     rw[Cal.two]
     have hB5:=hB4.trans (hb5.mono hB4.size)
     clear hB4 hb5
     go_wp2_with fail
     refine (wide2 _ _ (by omega) (by omega)).mono ?_
     rintro e w6 ⟨rfl,hb6⟩
     rw[Cal.two]
     have hB6:=hB5.trans (hb6.mono hB5.size)
     clear hB5 hb6
     go_wp2
     go_ret
     refine⟨⟨_,⟨Y,m,_,sp,rfl⟩,ret_str ?_⟩,hB6⟩
     rw[HF.out,show sec%86400%3600/60=sec%86400/60%60 by omega,show sec%86400%60=sec%60 by omega]
     simp only[Cal.two,Cal.four,show sec%60%10=sec%10 by omega,show sec%86400/60%60%10=sec%86400/60%10 by omega]
     clear HF sp
     apply ByteArray.ext
     simp[ByteArray.data_append]
theorem isD_iff (a:UInt8):isD a=true ↔ 48<=a.toNat/\a.toNat<=57:=by simp[isD]
theorem dgs2_bd (l:List UInt8)(h:l.length=2) : -1<=dgs l/\dgs l<=99:=by
 by_cases ha:l.all isD=true
 ·rw[dgs_yes ha]
  match l,h with
  | [a,b],_ =>
    simp only[List.all_cons,List.all_nil,Bool.and_true,Bool.and_eq_true,isD_iff] at ha
    rw[num2,dv_d (by omega) (by omega),dv_d (by omega) (by omega)];omega
 ·rw[dgs_no (by simpa using ha)];omega
theorem dgs4_bd (l:List UInt8)(h:l.length=4) : -1<=dgs l/\dgs l<=9999:=by
 by_cases ha:l.all isD=true
 ·rw[dgs_yes ha]
  match l,h with
  | [a,b,c,d],_ =>
    simp only[List.all_cons,List.all_nil,Bool.and_true,Bool.and_eq_true,isD_iff] at ha
    rw[num4,dv_d (by omega) (by omega),dv_d (by omega) (by omega),dv_d (by omega) (by omega),dv_d (by omega) (by omega)];omega
 ·rw[dgs_no (by simpa using ha)];omega
theorem fits_digits {l:List UInt8}(hl:l.length=29)(h:all2 l form.data.toList=true) :
 dgs ((l.drop 12).take 4)=num ((l.drop 12).take 4)/\dgs ((l.drop 5).take 2)=num ((l.drop 5).take 2)/\dgs ((l.drop 17).take 2)=num ((l.drop 17).take 2)/\dgs ((l.drop 20).take 2)=num ((l.drop 20).take 2)/\dgs ((l.drop 23).take 2)=num ((l.drop 23).take 2):=by
 obtain⟨c0,c1,c2,c3,c4,c5,c6,c7,c8,c9,c10,c11,c12,c13,c14,c15,c16,c17,c18,c19,c20,c21,c22,c23,c24,c25,c26,c27,c28,rfl⟩:=list29 hl
 simp[form,all2,fitI] at h
 obtain⟨e3,e4,⟨p5,q5⟩,⟨p6,q6⟩,e7,e11,⟨p12,q12⟩,⟨p13,q13⟩,⟨p14,q14⟩,⟨p15,q15⟩,e16,⟨p17,q17⟩,⟨p18,q18⟩,e19,⟨p20,q20⟩,⟨p21,q21⟩,e22,⟨p23,q23⟩,⟨p24,q24⟩,e25,e26,e27,e28⟩:=h
 have d:∀ a:UInt8,(48:Int)<=a.toNat->(a.toNat:Int)<=57->isD a=true:=fun a x y=>(isD_iff a).2 (by omega)
 simp only[List.drop_succ_cons,List.drop_zero,List.take_succ_cons,List.take_zero]
 refine⟨dgs_yes ?_,dgs_yes ?_,dgs_yes ?_,dgs_yes ?_,dgs_yes ?_⟩
 ·simp[d c12 (by omega) (by omega),d c13 (by omega) (by omega),d c14 (by omega) (by omega),d c15 (by omega) (by omega)]
 ·simp[d c5 (by omega) (by omega),d c6 (by omega) (by omega)]
 ·simp[d c17 (by omega) (by omega),d c18 (by omega) (by omega)]
 ·simp[d c20 (by omega) (by omega),d c21 (by omega) (by omega)]
 ·simp[d c23 (by omega) (by omega),d c24 (by omega) (by omega)]
def NoStamp (l:List UInt8):Prop:=∀ sec:Int,0<=sec->sec<=253402300799->¬ Cal.IsStamp sec l
theorem pieces {sec:Int}{l:List UInt8}(h:Cal.IsStamp sec l)(h0:0<=sec)(h1:sec<=253402300799) :
 1970<=dgs ((l.drop 12).take 4)/\1<=dgs ((l.drop 5).take 2)/\0<=dgs ((l.drop 17).take 2)/\0<=dgs ((l.drop 20).take 2)/\0<=dgs ((l.drop 23).take 2) /\
 ∃ i,i<12/\Cal.nm Cal.months i=(l.drop 8).take 3 /\
  sec=86400*(dgs ((l.drop 5).take 2)-1+Cal.ahead (dgs ((l.drop 12).take 4))+Cal.cum (dgs ((l.drop 12).take 4)) i)+3600*dgs ((l.drop 17).take 2)+60*dgs ((l.drop 20).take 2)+dgs ((l.drop 23).take 2):=by
 obtain⟨hl,hf,i,hi,hm,k1,k2,k3,hw,c1,c2,c3,e⟩:=complete h h0 h1
 obtain⟨d1,d2,d3,d4,d5⟩:=fits_digits hl hf
 have a1:=num2_nonneg ((l.drop 17).take 2) (by simp;omega)
 have a2:=num2_nonneg ((l.drop 20).take 2) (by simp;omega)
 have a3:=num2_nonneg ((l.drop 23).take 2) (by simp;omega)
 rw[d1,d2,d3,d4,d5]
 refine⟨k1,k2,a1,a2,a3,i,hi,hm,?_⟩
 rw[e,dayNo,clockNo];omega
theorem ref_date_short (s:ByteArray)(w:World)(hs:s.size≠29) :
 Calls Tryz.prog 172 #[.string s] w fun e w'=>e=.returned (.tuple #[.int .i64 0,.bool false])/\w'=w:=by
 go_enter Tryz.func172,Tryz.ntmps172
 go_wp2
 go_ret2
 exact⟨rfl,rfl⟩
def RefPost (s:ByteArray)(w:World)(e:Ending)(w':World):Prop :=
 ((∃ sec:Int,0<=sec/\sec<=253402300799/\Cal.IsStamp sec s.data.toList/\e=.returned (.tuple #[.int .i64 sec,.bool true]))\/(NoStamp s.data.toList/\e=.returned (.tuple #[.int .i64 0,.bool false])))/\Below w.heap.size w w'
theorem ref_date_long (s:ByteArray)(w:World)(hs:s.size=29)(hT:Tab w):Calls Tryz.prog 172 #[.string s] w (RefPost s w):=by
 have HS:Hid _:=hs
 have z1:29<=s.size:=by omega
 have z2:s.size<=29:=by omega
 have x5:=ext_list s 5 7
 have x8:=ext_list s 8 11
 have x12:=ext_list s 12 16
 have x17:=ext_list s 17 19
 have x20:=ext_list s 20 22
 have x23:=ext_list s 23 25
 simp only[Nat.reduceSub] at x5 x8 x12 x17 x20 x23
 have hl:s.data.toList.length=29:=by rw[<- Lib.size_eq];exact hs
 have b12:=dgs4_bd ((s.data.toList.drop 12).take 4) (by simp[hl])
 have b5:=dgs2_bd ((s.data.toList.drop 5).take 2) (by simp[hl])
 have b17:=dgs2_bd ((s.data.toList.drop 17).take 2) (by simp[hl])
 have b20:=dgs2_bd ((s.data.toList.drop 20).take 2) (by simp[hl])
 have b23:=dgs2_bd ((s.data.toList.drop 23).take 2) (by simp[hl])
 have HP:Hid (∀ sec:Int,0<=sec->sec<=253402300799->Cal.IsStamp sec s.data.toList->_):=fun sec a b h=>pieces h a b
 have c12:=fun w=>digits_any (s.extract 12 16) w (by rw[size_ext s _ _ hs (by omega)];omega)
 have c5:=fun w=>digits_any (s.extract 5 7) w (by rw[size_ext s _ _ hs (by omega)];omega)
 have c17:=fun w=>digits_any (s.extract 17 19) w (by rw[size_ext s _ _ hs (by omega)];omega)
 have c20:=fun w=>digits_any (s.extract 20 22) w (by rw[size_ext s _ _ hs (by omega)];omega)
 have c23:=fun w=>digits_any (s.extract 23 25) w (by rw[size_ext s _ _ hs (by omega)];omega)
 rw[x12] at c12
 rw[x5] at c5
 rw[x17] at c17
 rw[x20] at c20
 rw[x23] at c23
 generalize dgs ((s.data.toList.drop 12).take 4)=Y at *
 generalize dgs ((s.data.toList.drop 5).take 2)=D at *
 generalize dgs ((s.data.toList.drop 17).take 2)=hh at *
 generalize dgs ((s.data.toList.drop 20).take 2)=mm at *
 generalize dgs ((s.data.toList.drop 23).take 2)=ss at *
 have C12:Hid _:=c12
 have C5:Hid _:=c5
 have C17:Hid _:=c17
 have C20:Hid _:=c20
 have C23:Hid _:=c23
 have X8:Hid _:=x8
 clear c12 c5 c17 c20 c23 x5 x8 x12 x17 x20 x23 hs hl
 go_enter Tryz.func172,Tryz.ntmps172
 go_wp2_with fail
 refine Calls.mono (C12.out _) ?_
 rintro e w1 ⟨rfl,rfl⟩
 go_wp2_with fail
 refine Calls.mono (C5.out _) ?_
 rintro e w1 ⟨rfl,rfl⟩
 go_wp2_with fail
 refine Calls.mono (C17.out _) ?_
 rintro e w1 ⟨rfl,rfl⟩
 go_wp2_with fail
 refine Calls.mono (C20.out _) ?_
 rintro e w1 ⟨rfl,rfl⟩
 go_wp2_with fail
 refine Calls.mono (C23.out _) ?_
 rintro e w1 ⟨rfl,rfl⟩
 clear C12 C5 C17 C20 C23
 go_wp2
 go_loopw [9,10] (fun mo i wr=>∃ k:Nat,k<=12/\i=.int .i64 k/\Hid (∃ q,wr=w1.drewN q)/\∃ M:Int,mo=.int .i64 M /\ -1<=M/\M<12/\Hid ((M = -1/\∀ j,j<k->Cal.nm Cal.months j≠(s.data.toList.drop 8).take 3)\/∃ j:Nat,j<k/\M=j/\Cal.nm Cal.months j=(s.data.toList.drop 8).take 3)) (fun _ i _=>12-(intOf i).toNat)
 case atStart=>exact⟨0,Nat.zero_le _,rfl,⟨0,rfl⟩,-1,rfl,by omega,by omega,Or.inl ⟨rfl,fun j hj=>absurd hj (by omega)⟩⟩
 case round =>
  obtain⟨k,hk,rfl,hq,M,rfl,hM0,hM1,hM⟩:=hrel
  by_cases hlt:k<12
  ·have hs2:=fun w=>cut_const mons 12 k rfl hlt w k rfl
   obtain⟨m0,m1,m2,hmo⟩:=list3 (Cal.len_months ⟨k,hlt⟩)
   simp only at hmo
   rw[mons_list,hmo] at hs2
   unfold mons at hs2
   have HM:Hid _:=hmo
   clear hmo
   go_wp2
   go_quiet (fail)
   go_wp2
   ·have he:=‹((s.extract 8 11).toList==_)=true›
    refine⟨⟨k+1,by omega,by go_num,drew_some hq.out,k,rfl,by omega,by omega,Or.inr ⟨k,by omega,rfl,?_⟩⟩,by simp[intOf];omega⟩
    rw[HM.out,<- X8.out,<- Lib.toList_data]
    exact (beq_iff_eq.1 he).symm
   ·have he:=‹((s.extract 8 11).toList==_)=false›
    refine⟨⟨k+1,by omega,by go_num,drew_some hq.out,M,rfl,hM0,hM1,?_⟩,by simp[intOf];omega⟩
    rcases hM.out with ⟨e,hn⟩|⟨j,hj,e,hn⟩
    ·refine Or.inl ⟨e,fun j hj=>?_⟩
     by_cases ej:j=k
     ·subst ej
      rw[HM.out,<- X8.out,<- Lib.toList_data]
      exact fun e=>beq_eq_false_iff_ne.1 he e.symm
     ·exact hn j (by omega)
    ·exact Or.inr ⟨j,by omega,e,hn⟩
  ·have hw:∀ e,(NoStamp s.data.toList/\e=Ending.returned (.tuple #[.int .i64 0,.bool false]))->RefPost s w1 e wr:=fun e h=>⟨Or.inr h,by
    obtain⟨q,hq⟩:=hq.out
    rw[hq]
    exact below_drewN (Below.refl _ _) q⟩
   have HW:Hid _:=hw
   clear hw
   have h12:k=12:=by omega
   have HK:Hid _:=h12
   by_cases g1:Y<1970
   ·go_wp2
    go_ret2
    exact HW.out _ ⟨fun sec a b h=>by have:=HP.out sec a b h;omega,rfl⟩
   by_cases g2:D<1
   ·go_wp2
    go_ret2
    exact HW.out _ ⟨fun sec a b h=>by have:=HP.out sec a b h;omega,rfl⟩
   by_cases g3:hh<0
   ·go_wp2
    go_ret2
    exact HW.out _ ⟨fun sec a b h=>by have:=HP.out sec a b h;omega,rfl⟩
   by_cases g4:mm<0
   ·go_wp2
    go_ret2
    exact HW.out _ ⟨fun sec a b h=>by have:=HP.out sec a b h;omega,rfl⟩
   by_cases g5:ss<0
   ·go_wp2
    go_ret2
    exact HW.out _ ⟨fun sec a b h=>by have:=HP.out sec a b h;omega,rfl⟩
   by_cases g6:M<0
   ·go_wp2
    go_ret2
    refine HW.out _ ⟨fun sec a b h=>?_,rfl⟩
    obtain⟨_,_,_,_,_,i,hi,hm,_⟩:=HP.out sec a b h
    rcases hM.out with ⟨e,hn⟩|⟨j,hj,e,hn⟩
    ·exact hn i (by omega) hm
    ·omega
   obtain⟨j,hj,hMj,hmn⟩:∃ j:Nat,j<12/\M=j/\Cal.nm Cal.months j=(s.data.toList.drop 8).take 3:=by
    rcases hM.out with ⟨e,_⟩|⟨j,hj,e,hn⟩
    ·omega
    ·exact⟨j,by omega,e,hn⟩
   subst hMj
   have HN:Hid _:=hmn
   have HB:Hid (Below w1.heap.size w1 wr):=by
    obtain⟨q,hq⟩:=hq.out
    rw[hq]
    exact below_drewN (Below.refl _ _) q
   clear hmn hM hM0 hM1 g6 HK hq X8
   go_wp2
   go_loop [11,12] (fun n y=>∃ y':Int,1970<=y'/\y'<=Y/\y=.int .i64 y'/\n=.int .i64 (D-1+Cal.ahead y')) (fun _ y=>(Y-intOf y).toNat)
   case atStart=>exact⟨1970,by omega,by omega,rfl,by rw[Cal.ahead_1970];simp⟩
   case round =>
    obtain⟨y,hy0,hy1,rfl,rfl⟩:=hrel
    have ab:=ahead_bd y hy0 (by omega)
    by_cases hlt:y<Y
    ·have hsucc:=Cal.ahead_succ y
     have HSC:Hid (Cal.ahead (y+1)=Cal.ahead y+Cal.ylen y):=hsucc
     have hyc:(Cal.leap y=true/\Cal.ylen y=366)\/(Cal.leap y=false/\Cal.ylen y=365):=by
      unfold Cal.ylen;cases Cal.leap y<;>simp
     clear hsucc
     rcases hyc with ⟨hlp,hy6⟩|⟨hlp,hy6⟩
     ·go_wp2_with (go_at_call 175;refine (leap_any _ _ (by omega) (by omega)).mono ?_;rintro e w' ⟨rfl,rfl⟩)
      exact⟨⟨y+1,by omega,by omega,rfl,val_int (by rw[HSC.out];omega)⟩,by simp[intOf];omega⟩
     ·go_wp2_with (go_at_call 175;refine (leap_any _ _ (by omega) (by omega)).mono ?_;rintro e w' ⟨rfl,rfl⟩)
      exact⟨⟨y+1,by omega,by omega,rfl,val_int (by rw[HSC.out];omega)⟩,by simp[intOf];omega⟩
    ·obtain rfl:y=Y:=by omega
     clear hlt hy1
     go_wp2
     go_loop [11,14] (fun n t=>∃ k:Nat,k<=j/\t=.int .i64 k/\n=.int .i64 (D-1+Cal.ahead y+Cal.cum y k)) (fun _ t=>j-(intOf t).toNat)
     case atStart=>exact⟨0,Nat.zero_le _,rfl,by simp[Cal.cum]⟩
     case round =>
      obtain⟨k,hk,rfl,rfl⟩:=hrel
      have cb:=cum_bd y k (by omega)
      by_cases hlt:k<j
      ·have mb:=Cal.ml_bd y k
       have cs:Hid (Cal.cum y (k+1)=Cal.cum y k+Cal.ml y k):=rfl
       go_wp2_with (go_at_call 176;refine (long_any _ _ _ (by omega) (by omega)).mono ?_;rintro e w' ⟨rfl,rfl⟩)
       exact⟨⟨k+1,by omega,by go_num,val_int (by rw[cs.out];omega)⟩,by simp[intOf];omega⟩
      ·obtain rfl:k=j:=by omega
       clear hlt hk
       have HX:Hid (∀ sec,0<=sec->sec<=253402300799->Cal.IsStamp sec s.data.toList->sec=86400*(D-1+Cal.ahead y+Cal.cum y k)+3600*hh+60*mm+ss):=by
        intro sec a b h
        obtain⟨_,_,_,_,_,i,hi,hm,e⟩:=HP.out sec a b h
        have:i=k:=by
         have:=Cal.nm_months_inj ⟨i,hi⟩ ⟨k,hj⟩ (hm.trans HN.out.symm)
         simpa using this
        rw[e,this]
       clear HP HN HW
       by_cases hsec:86400*(D-1+Cal.ahead y+Cal.cum y k)+3600*hh+60*mm+ss<=253402300799
       ·go_wp2_with fail
        refine (ref_stamp_yes _ _ (by omega) (by omega) (hT.below HB.out)).mono ?_
        rintro e w3 ⟨⟨l,hl,rfl⟩,hb3⟩
        have hB3:Below w1.heap.size w1 w3:=HB.out.trans (hb3.mono HB.out.size)
        by_cases heq:l=s.data.toList
        ·have ht:(l==s.toList)=true:=by rw[Lib.toList_data];simp[heq]
         have HE:Hid _:=heq
         clear heq
         go_wp2
         go_ret2
         refine⟨Or.inl ⟨_,?_,hsec,?_,rfl⟩,hB3⟩
         ·omega
         ·rw[<- HE.out];exact hl
        ·have ht:(l==s.toList)=false:=by rw[Lib.toList_data];simpa using heq
         have HE:Hid _:=heq
         clear heq
         go_wp2
         go_ret2
         refine⟨Or.inr ⟨fun sec a b h=>HE.out ?_,rfl⟩,hB3⟩
         have:=HX.out sec a b h
         subst this
         exact hl.uniq h
       ·go_wp2_with fail
        refine (ref_stamp_no _ _ (Or.inr (by omega))).mono ?_
        rintro e w3 ⟨rfl,rfl⟩
        have ht:([]==s.toList)=false:=by
         rw[Lib.toList_data,beq_eq_false_iff_ne]
         intro e
         have h29:s.size=0:=by rw[Lib.size_eq,<- e];rfl
         omega
        go_wp2
        go_ret2
        refine⟨Or.inr ⟨fun sec a b h=>?_,rfl⟩,HB.out⟩
        have:=HX.out sec a b h
        omega
theorem ref_date_any (s:ByteArray)(w:World)(hT:Tab w):Calls Tryz.prog 172 #[.string s] w (RefPost s w):=by
 by_cases hs:s.size=29
 ·exact ref_date_long s w hs hT
 ·refine (ref_date_short s w hs).mono ?_
  rintro e w' ⟨rfl,rfl⟩
  refine⟨Or.inr ⟨fun sec a b h=>hs ?_,rfl⟩,Below.refl _ _⟩
  rw[Lib.size_eq]
  exact (complete h a b).1
theorem stamp_inj {a b:Int}{l:List UInt8}(ha:Cal.IsStamp a l)(hb:Cal.IsStamp b l)(a0:0<=a)(a1:a<=253402300799)(b0:0<=b)(b1:b<=253402300799):a=b:=by
 obtain⟨_,_,_,_,_,i,hi,hm,e⟩:=pieces ha a0 a1
 obtain⟨_,_,_,_,_,j,hj,hn,f⟩:=pieces hb b0 b1
 have:i=j:=by
  have:=Cal.nm_months_inj ⟨i,hi⟩ ⟨j,hj⟩ (hm.trans hn.symm)
  simpa using this
 subst this
 exact e.trans f.symm
noncomputable def dateV (l:List UInt8):Int×Bool:=open Classical in
 if h:∃ sec:Int,0<=sec/\sec<=253402300799/\Cal.IsStamp sec l then (Classical.choose h,true) else (0,false)
theorem date_v (l:List UInt8)(w:World):Calls Tryz.prog 285 #[.string ⟨l.toArray⟩] w fun e w'=>e=.returned (.tuple #[.int .i64 (dateV l).1,.bool (dateV l).2])/\Below w.heap.size w w':=by
 refine (date_any ⟨l.toArray⟩ w).mono ?_
 rintro e w' ⟨hd,q,rfl⟩
 refine⟨?_,below_drewN (Below.refl _ _) q⟩
 rcases hd with ⟨sec,a,b,hs,rfl⟩|⟨hn,rfl⟩
 ·have hs':Cal.IsStamp sec l:=by simpa using hs
  have h:∃ sec:Int,0<=sec/\sec<=253402300799/\Cal.IsStamp sec l:=⟨sec,a,b,hs'⟩
  have hc:=Classical.choose_spec h
  have e1:=stamp_inj hs' hc.2.2 a b hc.1 hc.2.1
  unfold dateV
  rw[dif_pos h,<- e1]
 ·have h:¬ ∃ sec:Int,0<=sec/\sec<=253402300799/\Cal.IsStamp sec l:=by
   rintro ⟨sec,a,b,hs⟩
   exact hn sec a b (by simpa using hs)
  unfold dateV
  rw[dif_neg h]
theorem take_since (g:Nat)(c:Cst)(name value:List UInt8)(w:World)(hC:Cm w g c)(hn:name.length<=140737488355328)(ha:∀ (j:Nat) (b:UInt8),name[j]?=some b->b.toNat<128)(hl:Lib.toLowerA name=ifSince) :
 Calls Tryz.prog 241 #[.pointer (some ⟨g,0,none⟩),.string ⟨name.toArray⟩,.string ⟨value.toArray⟩] w fun e w'=>e=.returned (.bool (!c.s2))/\Kp g w w'/\Cm w' g { c with hs:=(dateV value).2,si:=(dateV value).1,s2:=true }:=by
 have hgl:=hC.lt
 go_enter Tryz.func241,Tryz.ntmps241
 go_wp2_with fail
 refine (lower_any name _ hn ha).mono ?_
 rintro e w1 ⟨rfl,hb1⟩
 rw[hl]
 unfold ifSince
 have k1:=Kp.of_below (Nat.le_of_lt hgl) hb1
 have cm1:=hC.below hb1
 clear hl ha hb1
 go_wp2_with fail
 refine (date_v value _).mono ?_
 obtain⟨⟨n,ok⟩,hT⟩:∃ t,dateV value=t:=⟨_,rfl⟩
 rw[hT]
 simp only
 rintro e w2 ⟨rfl,hb2⟩
 have k2:=k1.trans (Kp.of_below (Nat.le_of_lt cm1.lt) hb2)
 have cm2:=cm1.below hb2
 have c1:=cm2.c 7 (by omega)
 have c2:=cm2.c 8 (by omega)
 have f1:=cm2.f 7 (by omega)
 have f2:=cm2.f 8 (by omega)
 simp only[Cst.cell] at c1 c2
 clear hb2 k1 cm1
 have cm3:Cm ((w2.setCell ⟨g,8,none⟩ (.int .i64 n)).setCell ⟨g,7,none⟩ (.bool ok)) g { c with hs:=ok,si:=n }:=by
  have s1:Cm (w2.setCell ⟨g,8,none⟩ (.int .i64 n)) g { c with si:=n }:=cm2.set 8 _ (by omega) rfl (same_si c n)
  exact s1.set 7 _ (by omega) rfl (same_hs { c with si:=n } ok)
 have k3:=(k2.set 8 (.int .i64 n)).set 7 (.bool ok)
 go_wp2_with fail
 refine (first2 g _ _ cm3).mono ?_
 rintro e w3 ⟨rfl,hw3⟩
 have cm4:Cm w3 g { c with hs:=ok,si:=n,s2:=true }:=by rw[hw3];exact cm3.set 16 _ (by omega) rfl (same_s2 { c with hs:=ok,si:=n } true)
 have k4:Kp g w w3:=by rw[hw3];exact k3.set 16 _
 clear hw3 cm3 k3 cm2 k2 c1 c2 f1 f2
 go_wp2
 go_ret
 rw[hT]
 exact⟨rfl,k4,cm4⟩
theorem take_unless (g:Nat)(c:Cst)(name value:List UInt8)(w:World)(hC:Cm w g c)(hn:name.length<=140737488355328)(ha:∀ (j:Nat) (b:UInt8),name[j]?=some b->b.toNat<128)(hl:Lib.toLowerA name=ifUnless) :
 Calls Tryz.prog 241 #[.pointer (some ⟨g,0,none⟩),.string ⟨name.toArray⟩,.string ⟨value.toArray⟩] w fun e w'=>e=.returned (.bool (!c.s3))/\Kp g w w'/\Cm w' g { c with hu:=(dateV value).2,ul:=(dateV value).1,s3:=true }:=by
 have hgl:=hC.lt
 go_enter Tryz.func241,Tryz.ntmps241
 go_wp2_with fail
 refine (lower_any name _ hn ha).mono ?_
 rintro e w1 ⟨rfl,hb1⟩
 rw[hl]
 unfold ifUnless
 have k1:=Kp.of_below (Nat.le_of_lt hgl) hb1
 have cm1:=hC.below hb1
 clear hl ha hb1
 go_wp2_with fail
 refine (date_v value _).mono ?_
 obtain⟨⟨n,ok⟩,hT⟩:∃ t,dateV value=t:=⟨_,rfl⟩
 rw[hT]
 simp only
 rintro e w2 ⟨rfl,hb2⟩
 have k2:=k1.trans (Kp.of_below (Nat.le_of_lt cm1.lt) hb2)
 have cm2:=cm1.below hb2
 have c1:=cm2.c 9 (by omega)
 have c2:=cm2.c 10 (by omega)
 have f1:=cm2.f 9 (by omega)
 have f2:=cm2.f 10 (by omega)
 simp only[Cst.cell] at c1 c2
 clear hb2 k1 cm1
 have cm3:Cm ((w2.setCell ⟨g,10,none⟩ (.int .i64 n)).setCell ⟨g,9,none⟩ (.bool ok)) g { c with hu:=ok,ul:=n }:=by
  have s1:Cm (w2.setCell ⟨g,10,none⟩ (.int .i64 n)) g { c with ul:=n }:=cm2.set 10 _ (by omega) rfl (same_ul c n)
  exact s1.set 9 _ (by omega) rfl (same_hu { c with ul:=n } ok)
 have k3:=(k2.set 10 (.int .i64 n)).set 9 (.bool ok)
 go_wp2_with fail
 refine (first3 g _ _ cm3).mono ?_
 rintro e w3 ⟨rfl,hw3⟩
 have cm4:Cm w3 g { c with hu:=ok,ul:=n,s3:=true }:=by rw[hw3];exact cm3.set 17 _ (by omega) rfl (same_s3 { c with hu:=ok,ul:=n } true)
 have k4:Kp g w w3:=by rw[hw3];exact k3.set 17 _
 clear hw3 cm3 k3 cm2 k2 c1 c2 f1 f2
 go_wp2
 go_ret
 rw[hT]
 exact⟨rfl,k4,cm4⟩
end Go.Proofs.YtmehkneofinmiaaGreatDoor

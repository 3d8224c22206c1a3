/-part 6-/
import Derived.Test.YtmehkneofinmiaaGreatDoorP05
import Derived.Lib.QuietBelow
set_option maxHeartbeats 2000000
namespace Go.Proofs.YtmehkneofinmiaaGreatDoor
open Go.RowKit
def pz:Nat->List UInt8->List UInt8
 | 0,D=>D
 | k+1,D=>48::pz k D
theorem o9 (D:List UInt8):∀ k,(pz k D).length=k+D.length
 | 0=>by simp[pz]
 | k+1=>by simp[pz,o9 D k];omega
theorem mI (n:Int)(wd c:Nat)(D:List UInt8)(hL:D.length+c=wd)(hw:wd<=4)(w:World)(hI:Calls Tryz.prog 17 #[.int .i64 n] w λ e w'=>e=.returned (.string ⟨D.toArray⟩)/\Below w.heap.size w w') :
 Calls Tryz.prog 177 #[.int .i64 n,.int .i64 wd] w λ e w'=>e=.returned (.string ⟨(pz c D).toArray⟩)/\Below w.heap.size w w':=by
 have HI:Hid _:=hI;clear hI;have HL:Hid _:=hL;have h1:D.length+c<=wd:=by omega
 have h2:wd<=D.length+c:=by omega
 clear hL;go_enter Tryz.func177,Tryz.ntmps177;go_wp2_with fail;refine Calls.mono HI.out ?_;rintro e w1 ⟨rfl,A0⟩;have HB:Hid _:=A0;clear A0;go_wp2;go_loop [5] (λ s=>∃ k:Nat,k<=c/\s=.string ⟨(pz k D).toArray⟩) (λ s=>5-(match s with|.string b=>b.size|_=>0));case atStart=>exact⟨0,Nat.zero_le _,rfl⟩
 case round =>
  obtain⟨k,hk,rfl⟩:=hrel;have A1:=o9 D k;by_cases hlt:k<c
  ·go_wp2;have e:(⟨#[48]⟩:ByteArray)++⟨(pz k D).toArray⟩=⟨(pz (k+1) D).toArray⟩:=sD [48] (pz k D);rw[e];refine⟨⟨k+1,by omega,rfl⟩,?_⟩;have z1:(⟨(pz (k+1) D).toArray⟩:ByteArray).size=k+1+D.length:=(Lib.size_eq _).trans (by simpa using o9 D (k+1));have z2:(⟨(pz k D).toArray⟩:ByteArray).size=k+D.length:=(Lib.size_eq _).trans (by simpa using o9 D k);show 5-(⟨(pz (k+1) D).toArray⟩:ByteArray).size<5-(⟨(pz k D).toArray⟩:ByteArray).size;rw[z1,z2];omega
  ·(obtain rfl:k=c:=by omega);go_wp2;go_ret;exact⟨rfl,HB.out⟩
theorem uM (n:Int)(w:World)(h0:0<=n)(h:n<100) :
 Calls Tryz.prog 177 #[.int .i64 n,.int .i64 2] w λ e w'=>e=.returned (.string ⟨(Cal.two n).toArray⟩)/\Below w.heap.size w w':=by
 have hI:=mn n w h0 h;by_cases hl:n<10
 ·rw[Lib.decDigits_one (by omega)] at hI;refine (mI n 2 1 _ rfl (by omega) w hI).mono ?_;rintro e w' ⟨rfl,hb⟩;refine⟨aM ?_,hb⟩;rw[Cal.two,Cal.dig,Cal.dig,show n/10=0 by omega,show n%10=n by omega];rfl
 ·rw[Lib.decDigits_two (by omega) (by omega)] at hI;refine (mI n 2 0 _ rfl (by omega) w hI).mono ?_;rintro e w' ⟨rfl,hb⟩;refine⟨aM ?_,hb⟩;rw[Cal.two,Cal.dig,Cal.dig,show (n/10).toNat=n.toNat/10 by omega,show (n%10).toNat=n.toNat%10 by omega];rfl
theorem BH (n:Int)(w:World)(h0:1000<=n)(h:n<10000)(hT:Tab w) :
 Calls Tryz.prog 177 #[.int .i64 n,.int .i64 4] w λ e w'=>e=.returned (.string ⟨(Cal.four n).toArray⟩)/\Below w.heap.size w w':=by
 have hI:=lW n w (by omega) (by omega) hT;rw[qd n h0 h] at hI;exact mI n 4 0 _ rfl (by omega) w hI
theorem pI (sec:Int)(w:World)(h:sec<0\/253402300799<sec) :
 Calls Tryz.prog 119 #[.int .i64 sec] w λ e w'=>e=.returned (.string ⟨#[]⟩)/\w'=w:=by
 rcases h with h|h
 ·go_enter Tryz.func119,Tryz.ntmps119;go_wp2;go_ret;exact⟨rfl,rfl⟩
 ·(have h':¬ sec<0:=by omega);go_enter Tryz.func119,Tryz.ntmps119;go_wp2;go_ret;exact⟨rfl,rfl⟩
def A4:ByteArray:=⟨#[83,117,110,77,111,110,84,117,101,87,101,100,84,104,117,70,114,105,83,97,116]⟩
theorem kr (s:ByteArray)(n:Nat)(i:Nat)(hs:s.size=3*n)(hi:i<n)(w:World)(j:Int)(hj:j=(i:Int)) :
 (Instr.slice 9 (.string s) (some (.int .i64 (3*j))) (some (.int .i64 (3*j+3))) none).run Tryz.prog w=.ok (.string ⟨(Cal.nm s.data.toList i).toArray⟩) w:=by
 subst hj;rw[run_slice_string w 9 s .i64 .i64 (3*(i:Int)) (3*(i:Int)+3) Tryz.underlying9 (by omega) (by omega) (by omega)];rw[Lib.extract_eq,Cal.nm,show (3*(i:Int)).toNat=i*3 by omega,show (3*(i:Int)+3).toNat-i*3=3 by omega]
theorem iI {a b:Int}(h:a=b):Value.int .i64 a=.int .i64 b:=by rw[h]
def kW:Value->Nat
 | .bool true=>1
 | _=>0
theorem iW (sec:Int)(w:World)(h0:0<=sec)(h1:sec<=253402300799)(hT:Tab w) :
 Calls Tryz.prog 119 #[.int .i64 sec] w λ e w'=>(∃ l,Cal.IsStamp sec l/\e=.returned (.string ⟨l.toArray⟩))/\Below w.heap.size w w':=by
 go_enter Tryz.func119,Tryz.ntmps119;go_wp2;go_loop [3,5,6] (λ d y ag=>∃ Y:Int,1970<=Y/\Y<=9999/\y=.int .i64 Y/\0<=sec/86400-Cal.ahead Y/\d=.int .i64 (sec/86400-Cal.ahead Y)/\((ag=.bool true)\/(ag=.bool false/\sec/86400<Cal.ahead (Y+1))))
  (λ _ y ag=>20000-2*(intOf y).toNat+kW ag)
 case atStart=>exact⟨1970,by omega,by omega,rfl,by rw[Cal.ahead_1970];omega,by rw[Cal.ahead_1970];simp,Or.inl rfl⟩
 case round =>
  obtain⟨Y,A8,Aq,rfl,hd,rfl,rfl|⟨rfl,Ai⟩⟩:=hrel
  ·have A0:=Cal.ahead_succ Y;have A9:=Cal.ylen_bd Y;have ab:=gW Y A8 (by omega);(have Al:(Cal.leap Y=true/\Cal.ylen Y=366)\/(Cal.leap Y=false/\Cal.ylen Y=365):=by unfold Cal.ylen;cases Cal.leap Y<;>simp);rcases Al with ⟨An,Am⟩|⟨An,Am⟩;all_goals
    go_wp2_with (go_at_call 175;refine (j7 _ _ (by omega) (by omega)).mono ?_;rintro e w' ⟨rfl,rfl⟩)
   ·have Ap:Y+1<=9999:=by
     by_cases e:Y=9999
     ·subst e;have:=Cal.ahead_10000;rw[show (9999:Int)+1=10000 from rfl] at A0;omega
     ·omega
    rw[show decide ((366:Int)<=sec/86400-Cal.ahead Y)=true from decide_eq_true (by omega)];exact⟨⟨Y+1,by omega,by omega,rfl,by omega,iI (by omega),Or.inl rfl⟩,by simp[intOf,kW];omega⟩
   ·rw[show decide ((366:Int)<=sec/86400-Cal.ahead Y)=false from decide_eq_false (by omega)];exact⟨⟨Y,by omega,by omega,rfl,hd,rfl,Or.inr ⟨rfl,by omega⟩⟩,by simp[kW]⟩
   ·have Ap:Y+1<=9999:=by
     by_cases e:Y=9999
     ·subst e;have:=Cal.ahead_10000;rw[show (9999:Int)+1=10000 from rfl] at A0;omega
     ·omega
    rw[show decide ((365:Int)<=sec/86400-Cal.ahead Y)=true from decide_eq_true (by omega)];exact⟨⟨Y+1,by omega,by omega,rfl,by omega,iI (by omega),Or.inl rfl⟩,by simp[intOf,kW];omega⟩
   ·rw[show decide ((365:Int)<=sec/86400-Cal.ahead Y)=false from decide_eq_false (by omega)];exact⟨⟨Y,by omega,by omega,rfl,hd,rfl,Or.inr ⟨rfl,by omega⟩⟩,by simp[kW]⟩
  ·have A0:=Cal.ahead_succ Y;have A9:=Cal.ylen_bd Y;have ab:=gW Y A8 (by omega);go_wp2;go_loop [3,9,10] (λ d mo ag=>∃ m:Nat,m<12/\mo=.int .i64 m/\0<=sec/86400-Cal.ahead Y-Cal.cum Y m/\d=.int .i64 (sec/86400-Cal.ahead Y-Cal.cum Y m)/\((ag=.bool true)\/(ag=.bool false/\sec/86400-Cal.ahead Y-Cal.cum Y m<Cal.ml Y m)))
    (λ _ mo ag=>24-2*(intOf mo).toNat+kW ag)
   (case atStart=>exact⟨0,by omega,rfl,by simpa [Cal.cum] using hd,by simp[Cal.cum],Or.inl rfl⟩);case round =>
    obtain⟨m,hm,rfl,hr,rfl,rfl|⟨rfl,hl⟩⟩:=hrel
    ·have mb:=Cal.ml_bd Y m;have cb:=na Y m (by omega);have cs:Hid (Cal.cum Y (m+1)=Cal.cum Y m+Cal.ml Y m):=rfl;have HM:Hid (Cal.ml Y m<=sec/86400-Cal.ahead Y-Cal.cum Y m->m+1<12):=by
      intro Ar;by_cases e:m=11
      ·subst e;have:=Cal.cum_12 Y;have Ag:Cal.cum Y 12=Cal.cum Y 11+Cal.ml Y (11:Nat):=rfl;omega
      ·omega
     clear A0 A9 Ai;go_wp2_with (go_at_call 176;refine (pW _ _ _ (by omega) (by omega)).mono ?_;rintro e w' ⟨rfl,rfl⟩)
     ·have Ag:=HM.out (by omega);rw[show decide (Cal.ml Y m<=sec/86400-Cal.ahead Y-Cal.cum Y m)=true from decide_eq_true (by omega)];exact⟨⟨m+1,Ag,by go_num,by rw[cs.out];omega,iI (by rw[cs.out];omega),Or.inl rfl⟩,by simp[intOf,kW];omega⟩
     ·rw[show decide (Cal.ml Y m<=sec/86400-Cal.ahead Y-Cal.cum Y m)=false from decide_eq_false (by omega)];exact⟨⟨m,hm,rfl,hr,rfl,Or.inr ⟨rfl,by omega⟩⟩,by simp[kW]⟩
    ·have mb:=Cal.ml_bd Y m;have cb:=na Y m (by omega);have sp:Cal.Sp (sec/86400) Y m (sec/86400-Cal.ahead Y-Cal.cum Y m):=⟨A8,hm,hr,hl,by omega⟩;clear A0 A9 Ai;obtain⟨c0,c1,c2,hw⟩:=mT (Cal.len_week ⟨(sec/86400%7).toNat,by omega⟩);obtain⟨m0,m1,m2,A1⟩:=mT (Cal.len_months ⟨m,hm⟩);simp only at hw A1;have Ac:=λ w=>kr A4 7 ((sec/86400+4)%7).toNat rfl (by omega) w ((sec/86400+4)%7) (by omega);have A7:=λ w=>kr kK 12 m rfl hm w m rfl;(have Af:Cal.nm A4.data.toList ((sec/86400+4)%7).toNat=[c0,c1,c2]:=by have:=Cal.week_same ⟨(sec/86400%7).toNat,by omega⟩;simp only at this;rw[<- hw,<- this,show ((sec/86400%7).toNat+4)%7=((sec/86400+4)%7).toNat by omega];rfl);rw[Af] at Ac;rw[fQ,A1] at A7;unfold A4 at Ac;unfold kK at A7;(have HF:Hid (Cal.fmt (sec/86400) Y m (sec/86400-Cal.ahead Y-Cal.cum Y m) (sec%86400)=[c0,c1,c2]++[44,32]++Cal.two (sec/86400-Cal.ahead Y-Cal.cum Y m+1)++[32]++[m0,m1,m2]++[32]++Cal.four Y++[32]++Cal.two (sec%86400/3600)++[58]++Cal.two (sec%86400%3600/60)++[58]++Cal.two (sec%86400%60)++[32,71,77,84]):=by unfold Cal.fmt;rw[hw,A1];rfl);have A6:=λ (d:Nat) (os:Array Obj)=>Calls.regrown_of (uM (sec/86400-Cal.ahead Y-Cal.cum Y m+1) (Sort.grow (redrawn w d) os) (by omega) (by omega));have Aa:=λ (d:Nat) (os:Array Obj)=>Calls.regrown_of (BH Y (Sort.grow (redrawn w d) os) (by omega) (by omega) (hT.below (below_regrown w d os)));simp only[Cal.two,Cal.four] at A6 Aa;have HD:Hid _:=A6;have HY:Hid _:=Aa;clear hw A1 Af A6 Aa;go_wp2;refine wp_region_quiet_below (by kernel_rfl) (by kernel_rfl) ?_;(repeat (first|go_big_quiet_step (first|(go_at_call_of 177 (Value.int IntKind.i64 2);exact HD.out _ _)|(go_at_call_of 177 (Value.int IntKind.i64 4);exact HY.out _ _))|quiet_step (first|(go_at_call_of 177 (Value.int IntKind.i64 2);exact HD.out _ _)|(go_at_call_of 177 (Value.int IntKind.i64 4);exact HY.out _ _))));refine wpQuiet_nil ?_;intro w2 Aj;(have A2:Below w.heap.size w w2:=by obtain⟨⟨dq,Ao⟩,Ab⟩:=Aj;rw[Ab];exact below_regrown w dq Ao);clear Aj HD HY Ac A7;go_wp2_with fail;refine (uM _ _ (by omega) (by omega)).mono ?_;rintro e w4 ⟨rfl,Ah⟩;rw[Cal.two];have A5:=A2.trans (Ah.mono A2.size);clear A2 Ah;go_wp2_with fail;refine (uM _ _ (by omega) (by omega)).mono ?_;rintro e w5 ⟨rfl,Ae⟩;rw[Cal.two];have A3:=A5.trans (Ae.mono A5.size);clear A5 Ae;go_wp2_with fail;refine (uM _ _ (by omega) (by omega)).mono ?_;rintro e w6 ⟨rfl,Ad⟩;rw[Cal.two];have Ak:=A3.trans (Ad.mono A3.size);clear A3 Ad;go_wp2;go_ret;refine⟨⟨_,⟨Y,m,_,sp,rfl⟩,aM ?_⟩,Ak⟩;rw[HF.out,show sec%86400%3600/60=sec%86400/60%60 by omega,show sec%86400%60=sec%60 by omega];simp only[Cal.two,Cal.four,show sec%60%10=sec%10 by omega,show sec%86400/60%60%10=sec%86400/60%10 by omega];clear HF sp;apply ByteArray.ext;simp[ByteArray.data_append]
theorem pr (a:UInt8):isD a=true ↔ 48<=a.toNat/\a.toNat<=57:=by simp[isD]
theorem lD (l:List UInt8)(h:l.length=2) : -1<=dgs l/\dgs l<=99:=by
 by_cases ha:l.all isD=true
 ·rw[eC ha]
  match l,h with
  | [a,b],_ =>simp only[List.all_cons,List.all_nil,Bool.and_true,Bool.and_eq_true,pr] at ha;rw[Az,fB (by omega) (by omega),fB (by omega) (by omega)];omega
 ·rw[j9 (by simpa using ha)];omega
theorem zT (l:List UInt8)(h:l.length=4) : -1<=dgs l/\dgs l<=9999:=by
 by_cases ha:l.all isD=true
 ·rw[eC ha]
  match l,h with
  | [a,b,c,d],_ =>simp only[List.all_cons,List.all_nil,Bool.and_true,Bool.and_eq_true,pr] at ha;rw[zQ,fB (by omega) (by omega),fB (by omega) (by omega),fB (by omega) (by omega),fB (by omega) (by omega)];omega
 ·rw[j9 (by simpa using ha)];omega
theorem qB {l:List UInt8}(hl:l.length=29)(h:ly l form.data.toList=true) :
 dgs ((l.drop 12).take 4)=num ((l.drop 12).take 4)/\dgs ((l.drop 5).take 2)=num ((l.drop 5).take 2)/\dgs ((l.drop 17).take 2)=num ((l.drop 17).take 2)/\dgs ((l.drop 20).take 2)=num ((l.drop 20).take 2)/\dgs ((l.drop 23).take 2)=num ((l.drop 23).take 2):=by
 obtain⟨c0,c1,c2,c3,c4,c5,c6,c7,c8,c9,B2,Am,A0,A3,A6,A8,B5,A1,A2,At,A4,A7,B1,A5,A9,Aq,Ao,Ab,Ag,rfl⟩:=xt hl;simp[form,ly,jx] at h;obtain⟨e3,e4,⟨p5,q5⟩,⟨p6,q6⟩,e7,Av,⟨Ac,Au⟩,⟨B4,Ai⟩,⟨B7,As⟩,⟨Ax,Al⟩,B3,⟨Az,Aa⟩,⟨Ap,Ak⟩,Ad,⟨B9,B0⟩,⟨Ba,Aw⟩,B6,⟨Ay,Ae⟩,⟨Ar,Af⟩,Ah,Aj,B8,An⟩:=h;have d:∀ a:UInt8,(48:Int)<=a.toNat->(a.toNat:Int)<=57->isD a=true:=λ a x y=>(pr a).2 (by omega);simp only[List.drop_succ_cons,List.drop_zero,List.take_succ_cons,List.take_zero];refine⟨eC ?_,eC ?_,eC ?_,eC ?_,eC ?_⟩
 ·simp[d A0 (by omega) (by omega),d A3 (by omega) (by omega),d A6 (by omega) (by omega),d A8 (by omega) (by omega)]
 ·simp[d c5 (by omega) (by omega),d c6 (by omega) (by omega)]
 ·simp[d A1 (by omega) (by omega),d A2 (by omega) (by omega)]
 ·simp[d A4 (by omega) (by omega),d A7 (by omega) (by omega)]
 ·simp[d A5 (by omega) (by omega),d A9 (by omega) (by omega)]
def uq (l:List UInt8):Prop:=∀ sec:Int,0<=sec->sec<=253402300799->¬ Cal.IsStamp sec l
theorem tf {sec:Int}{l:List UInt8}(h:Cal.IsStamp sec l)(h0:0<=sec)(h1:sec<=253402300799) :
 1970<=dgs ((l.drop 12).take 4)/\1<=dgs ((l.drop 5).take 2)/\0<=dgs ((l.drop 17).take 2)/\0<=dgs ((l.drop 20).take 2)/\0<=dgs ((l.drop 23).take 2) /\
 ∃ i,i<12/\Cal.nm Cal.months i=(l.drop 8).take 3 /\
  sec=86400*(dgs ((l.drop 5).take 2)-1+Cal.ahead (dgs ((l.drop 12).take 4))+Cal.cum (dgs ((l.drop 12).take 4)) i)+3600*dgs ((l.drop 17).take 2)+60*dgs ((l.drop 20).take 2)+dgs ((l.drop 23).take 2):=by
 obtain⟨hl,hf,i,hi,hm,k1,k2,k3,hw,c1,c2,c3,e⟩:=fS h h0 h1;obtain⟨d1,d2,d3,d4,d5⟩:=qB hl hf;have a1:=co ((l.drop 17).take 2) (by simp;omega);have a2:=co ((l.drop 20).take 2) (by simp;omega);have a3:=co ((l.drop 23).take 2) (by simp;omega);rw[d1,d2,d3,d4,d5];refine⟨k1,k2,a1,a2,a3,i,hi,hm,?_⟩;rw[e,ed,bq];omega
theorem my (s:ByteArray)(w:World)(hs:s.size≠29) :
 Calls Tryz.prog 172 #[.string s] w λ e w'=>e=.returned (.tuple #[.int .i64 0,.bool false])/\w'=w:=by
 go_enter Tryz.func172,Tryz.ntmps172;go_wp2;go_ret2;exact⟨rfl,rfl⟩
def oU (s:ByteArray)(w:World)(e:Ending)(w':World):Prop :=
 ((∃ sec:Int,0<=sec/\sec<=253402300799/\Cal.IsStamp sec s.data.toList/\e=.returned (.tuple #[.int .i64 sec,.bool true]))\/(uq s.data.toList/\e=.returned (.tuple #[.int .i64 0,.bool false])))/\Below w.heap.size w w'
theorem nC (s:ByteArray)(w:World)(hs:s.size=29)(hT:Tab w):Calls Tryz.prog 172 #[.string s] w (oU s w):=by
 have HS:Hid _:=hs;have z1:29<=s.size:=by omega
 have z2:s.size<=29:=by omega
 have x5:=cS s 5 7;have x8:=cS s 8 11;have A5:=cS s 12 16;have Aa:=cS s 17 19;have A8:=cS s 20 22;have A7:=cS s 23 25;simp only[Nat.reduceSub] at x5 x8 A5 Aa A8 A7;have hl:s.data.toList.length=29:=by rw[<- Lib.size_eq];exact hs
 have At:=zT ((s.data.toList.drop 12).take 4) (by simp[hl]);have b5:=lD ((s.data.toList.drop 5).take 2) (by simp[hl]);have Av:=lD ((s.data.toList.drop 17).take 2) (by simp[hl]);have Au:=lD ((s.data.toList.drop 20).take 2) (by simp[hl]);have Ax:=lD ((s.data.toList.drop 23).take 2) (by simp[hl]);have HP:Hid (∀ A0:Int,0<=A0->A0<=253402300799->Cal.IsStamp A0 s.data.toList->_):=λ A0 a b h=>tf h a b;have A6:=λ w=>ff (s.extract 12 16) w (by rw[bV s _ _ hs (by omega)];omega);have c5:=λ w=>ff (s.extract 5 7) w (by rw[bV s _ _ hs (by omega)];omega);have A3:=λ w=>ff (s.extract 17 19) w (by rw[bV s _ _ hs (by omega)];omega);have A9:=λ w=>ff (s.extract 20 22) w (by rw[bV s _ _ hs (by omega)];omega);have A4:=λ w=>ff (s.extract 23 25) w (by rw[bV s _ _ hs (by omega)];omega);rw[A5] at A6;rw[x5] at c5;rw[Aa] at A3;rw[A8] at A9;rw[A7] at A4;generalize dgs ((s.data.toList.drop 12).take 4)=Y at *
 generalize dgs ((s.data.toList.drop 5).take 2)=D at *
 generalize dgs ((s.data.toList.drop 17).take 2)=hh at *
 generalize dgs ((s.data.toList.drop 20).take 2)=mm at *
 generalize dgs ((s.data.toList.drop 23).take 2)=ss at *
 have Ah:Hid _:=A6;have C5:Hid _:=c5;have Aj:Hid _:=A3;have Ac:Hid _:=A9;have Ag:Hid _:=A4;have X8:Hid _:=x8;clear A6 c5 A3 A9 A4 x5 x8 A5 Aa A8 A7 hs hl;go_enter Tryz.func172,Tryz.ntmps172;go_wp2_with fail;refine Calls.mono (Ah.out _) ?_;rintro e w1 ⟨rfl,rfl⟩;go_wp2_with fail;refine Calls.mono (C5.out _) ?_;rintro e w1 ⟨rfl,rfl⟩;go_wp2_with fail;refine Calls.mono (Aj.out _) ?_;rintro e w1 ⟨rfl,rfl⟩;go_wp2_with fail;refine Calls.mono (Ac.out _) ?_;rintro e w1 ⟨rfl,rfl⟩;go_wp2_with fail;refine Calls.mono (Ag.out _) ?_;rintro e w1 ⟨rfl,rfl⟩;clear Ah C5 Aj Ac Ag;go_wp2;go_loopw [9,10] (λ mo i wr=>∃ k:Nat,k<=12/\i=.int .i64 k/\Hid (∃ q,wr=w1.drewN q)/\∃ M:Int,mo=.int .i64 M /\ -1<=M/\M<12/\Hid ((M = -1/\∀ j,j<k->Cal.nm Cal.months j≠(s.data.toList.drop 8).take 3)\/∃ j:Nat,j<k/\M=j/\Cal.nm Cal.months j=(s.data.toList.drop 8).take 3)) (λ _ i _=>12-(intOf i).toNat);case atStart=>exact⟨0,Nat.zero_le _,rfl,⟨0,rfl⟩,-1,rfl,by omega,by omega,Or.inl ⟨rfl,λ j hj=>absurd hj (by omega)⟩⟩
 case round =>
  obtain⟨k,hk,rfl,hq,M,rfl,Ad,Ai,hM⟩:=hrel;by_cases hlt:k<12
  ·have Ae:=λ w=>kr kK 12 k rfl hlt w k rfl;obtain⟨m0,m1,m2,A2⟩:=mT (Cal.len_months ⟨k,hlt⟩);simp only at A2;rw[fQ,A2] at Ae;unfold kK at Ae;have HM:Hid _:=A2;clear A2;go_wp2;go_quiet (fail);go_wp2
   ·have he:=‹((s.extract 8 11).toList==_)=true›;refine⟨⟨k+1,by omega,by go_num,cj hq.out,k,rfl,by omega,by omega,Or.inr ⟨k,by omega,rfl,?_⟩⟩,by simp[intOf];omega⟩;rw[HM.out,<- X8.out,<- Lib.toList_data];exact (beq_iff_eq.1 he).symm
   ·have he:=‹((s.extract 8 11).toList==_)=false›;refine⟨⟨k+1,by omega,by go_num,cj hq.out,M,rfl,Ad,Ai,?_⟩,by simp[intOf];omega⟩;rcases hM.out with ⟨e,hn⟩|⟨j,hj,e,hn⟩
    ·refine Or.inl ⟨e,λ j hj=>?_⟩;by_cases ej:j=k
     ·subst ej;rw[HM.out,<- X8.out,<- Lib.toList_data];exact λ e=>beq_eq_false_iff_ne.1 he e.symm
     ·exact hn j (by omega)
    ·exact Or.inr ⟨j,by omega,e,hn⟩
  ·have hw:∀ e,(uq s.data.toList/\e=Ending.returned (.tuple #[.int .i64 0,.bool false]))->oU s w1 e wr:=λ e h=>⟨Or.inr h,by
    obtain⟨q,hq⟩:=hq.out;rw[hq]
    exact below_drewN (Below.refl _ _) q⟩
   have HW:Hid _:=hw;clear hw;(have Ao:k=12:=by omega);have HK:Hid _:=Ao;by_cases g1:Y<1970
   ·go_wp2;go_ret2;exact HW.out _ ⟨λ A0 a b h=>by have:=HP.out A0 a b h;omega,rfl⟩
   by_cases g2:D<1
   ·go_wp2;go_ret2;exact HW.out _ ⟨λ A0 a b h=>by have:=HP.out A0 a b h;omega,rfl⟩
   by_cases g3:hh<0
   ·go_wp2;go_ret2;exact HW.out _ ⟨λ A0 a b h=>by have:=HP.out A0 a b h;omega,rfl⟩
   by_cases g4:mm<0
   ·go_wp2;go_ret2;exact HW.out _ ⟨λ A0 a b h=>by have:=HP.out A0 a b h;omega,rfl⟩
   by_cases g5:ss<0
   ·go_wp2;go_ret2;exact HW.out _ ⟨λ A0 a b h=>by have:=HP.out A0 a b h;omega,rfl⟩
   by_cases g6:M<0
   ·go_wp2;go_ret2;refine HW.out _ ⟨λ A0 a b h=>?_,rfl⟩;obtain⟨_,_,_,_,_,i,hi,hm,_⟩:=HP.out A0 a b h;rcases hM.out with ⟨e,hn⟩|⟨j,hj,e,hn⟩
    ·exact hn i (by omega) hm
    ·omega
   obtain⟨j,hj,Aq,Ab⟩:∃ j:Nat,j<12/\M=j/\Cal.nm Cal.months j=(s.data.toList.drop 8).take 3:=by
    rcases hM.out with ⟨e,_⟩|⟨j,hj,e,hn⟩
    ·omega
    ·exact⟨j,by omega,e,hn⟩
   subst Aq;have HN:Hid _:=Ab;(have HB:Hid (Below w1.heap.size w1 wr):=by obtain⟨q,hq⟩:=hq.out;rw[hq];exact below_drewN (Below.refl _ _) q);clear Ab hM Ad Ai g6 HK hq X8;go_wp2;go_loop [11,12] (λ n y=>∃ y':Int,1970<=y'/\y'<=Y/\y=.int .i64 y'/\n=.int .i64 (D-1+Cal.ahead y')) (λ _ y=>(Y-intOf y).toNat);(case atStart=>exact⟨1970,by omega,by omega,rfl,by rw[Cal.ahead_1970];simp⟩);case round =>
    obtain⟨y,As,Am,rfl,rfl⟩:=hrel;have ab:=gW y As (by omega);by_cases hlt:y<Y
    ·have A1:=Cal.ahead_succ y;have Af:Hid (Cal.ahead (y+1)=Cal.ahead y+Cal.ylen y):=A1;(have Al:(Cal.leap y=true/\Cal.ylen y=366)\/(Cal.leap y=false/\Cal.ylen y=365):=by unfold Cal.ylen;cases Cal.leap y<;>simp);clear A1;rcases Al with ⟨Ar,Ap⟩|⟨Ar,Ap⟩
     ·go_wp2_with (go_at_call 175;refine (j7 _ _ (by omega) (by omega)).mono ?_;rintro e w' ⟨rfl,rfl⟩);exact⟨⟨y+1,by omega,by omega,rfl,iI (by rw[Af.out];omega)⟩,by simp[intOf];omega⟩
     ·go_wp2_with (go_at_call 175;refine (j7 _ _ (by omega) (by omega)).mono ?_;rintro e w' ⟨rfl,rfl⟩);exact⟨⟨y+1,by omega,by omega,rfl,iI (by rw[Af.out];omega)⟩,by simp[intOf];omega⟩
    ·(obtain rfl:y=Y:=by omega);clear hlt Am;go_wp2;go_loop [11,14] (λ n t=>∃ k:Nat,k<=j/\t=.int .i64 k/\n=.int .i64 (D-1+Cal.ahead y+Cal.cum y k)) (λ _ t=>j-(intOf t).toNat);(case atStart=>exact⟨0,Nat.zero_le _,rfl,by simp[Cal.cum]⟩);case round =>
      obtain⟨k,hk,rfl,rfl⟩:=hrel;have cb:=na y k (by omega);by_cases hlt:k<j
      ·have mb:=Cal.ml_bd y k;have cs:Hid (Cal.cum y (k+1)=Cal.cum y k+Cal.ml y k):=rfl;go_wp2_with (go_at_call 176;refine (pW _ _ _ (by omega) (by omega)).mono ?_;rintro e w' ⟨rfl,rfl⟩);exact⟨⟨k+1,by omega,by go_num,iI (by rw[cs.out];omega)⟩,by simp[intOf];omega⟩
      ·(obtain rfl:k=j:=by omega);clear hlt hk;(have HX:Hid (∀ A0,0<=A0->A0<=253402300799->Cal.IsStamp A0 s.data.toList->A0=86400*(D-1+Cal.ahead y+Cal.cum y k)+3600*hh+60*mm+ss):=by intro A0 a b h;obtain⟨_,_,_,_,_,i,hi,hm,e⟩:=HP.out A0 a b h;(have:i=k:=by have:=Cal.nm_months_inj ⟨i,hi⟩ ⟨k,hj⟩ (hm.trans HN.out.symm);simpa using this);rw[e,this]);clear HP HN HW;by_cases hsec:86400*(D-1+Cal.ahead y+Cal.cum y k)+3600*hh+60*mm+ss<=253402300799
       ·go_wp2_with fail;refine (iW _ _ (by omega) (by omega) (hT.below HB.out)).mono ?_;rintro e w3 ⟨⟨l,hl,rfl⟩,An⟩;have Ak:Below w1.heap.size w1 w3:=HB.out.trans (An.mono HB.out.size);by_cases heq:l=s.data.toList
        ·(have ht:(l==s.toList)=true:=by rw[Lib.toList_data];simp[heq]);have HE:Hid _:=heq;clear heq;go_wp2;go_ret2;refine⟨Or.inl ⟨_,?_,hsec,?_,rfl⟩,Ak⟩
         ·omega
         ·rw[<- HE.out];exact hl
        ·(have ht:(l==s.toList)=false:=by rw[Lib.toList_data];simpa using heq);have HE:Hid _:=heq;clear heq;go_wp2;go_ret2;refine⟨Or.inr ⟨λ A0 a b h=>HE.out ?_,rfl⟩,Ak⟩;have:=HX.out A0 a b h;subst this;exact hl.uniq h
       ·go_wp2_with fail;refine (pI _ _ (Or.inr (by omega))).mono ?_;rintro e w3 ⟨rfl,rfl⟩;(have ht:([]==s.toList)=false:=by rw[Lib.toList_data,beq_eq_false_iff_ne];intro e;(have Aw:s.size=0:=by rw[Lib.size_eq,<- e];rfl);omega);go_wp2;go_ret2;refine⟨Or.inr ⟨λ A0 a b h=>?_,rfl⟩,HB.out⟩;have:=HX.out A0 a b h;omega
theorem pb (s:ByteArray)(w:World)(hT:Tab w):Calls Tryz.prog 172 #[.string s] w (oU s w):=by
 by_cases hs:s.size=29
 ·exact nC s w hs hT
 ·refine (my s w hs).mono ?_;rintro e w' ⟨rfl,rfl⟩;refine⟨Or.inr ⟨λ sec a b h=>hs ?_,rfl⟩,Below.refl _ _⟩;rw[Lib.size_eq];exact (fS h a b).1
theorem og {a b:Int}{l:List UInt8}(ha:Cal.IsStamp a l)(hb:Cal.IsStamp b l)(a0:0<=a)(a1:a<=253402300799)(b0:0<=b)(b1:b<=253402300799):a=b:=by
 obtain⟨_,_,_,_,_,i,hi,hm,e⟩:=tf ha a0 a1;obtain⟨_,_,_,_,_,j,hj,hn,f⟩:=tf hb b0 b1;have:i=j:=by have:=Cal.nm_months_inj ⟨i,hi⟩ ⟨j,hj⟩ (hm.trans hn.symm);simpa using this
 subst this;exact e.trans f.symm
noncomputable def dN (l:List UInt8):Int×Bool:=open Classical in
 if h:∃ sec:Int,0<=sec/\sec<=253402300799/\Cal.IsStamp sec l then (Classical.choose h,true) else (0,false)
theorem xY (l:List UInt8)(w:World):Calls Tryz.prog 285 #[.string ⟨l.toArray⟩] w λ e w'=>e=.returned (.tuple #[.int .i64 (dN l).1,.bool (dN l).2])/\Below w.heap.size w w':=by
 refine (wy ⟨l.toArray⟩ w).mono ?_;rintro e w' ⟨hd,q,rfl⟩;refine⟨?_,below_drewN (Below.refl _ _) q⟩;rcases hd with ⟨A0,a,b,hs,rfl⟩|⟨hn,rfl⟩
 ·(have A1:Cal.IsStamp A0 l:=by simpa using hs);have h:∃ A0:Int,0<=A0/\A0<=253402300799/\Cal.IsStamp A0 l:=⟨A0,a,b,A1⟩;have hc:=Classical.choose_spec h;have e1:=og A1 hc.2.2 a b hc.1 hc.2.1;unfold dN;rw[dif_pos h,<- e1]
 ·(have h:¬ ∃ A0:Int,0<=A0/\A0<=253402300799/\Cal.IsStamp A0 l:=by rintro ⟨A0,a,b,hs⟩;exact hn A0 a b (by simpa using hs));unfold dN;rw[dif_neg h]
theorem sM (g:Nat)(c:Cst)(name value:List UInt8)(w:World)(hC:Cm w g c)(hn:name.length<=140737488355328)(ha:∀ (j:Nat) (b:UInt8),name[j]?=some b->b.toNat<128)(hl:Lib.toLowerA name=dV) :
 Calls Tryz.prog 241 #[.pointer (some ⟨g,0,none⟩),.string ⟨name.toArray⟩,.string ⟨value.toArray⟩] w λ e w'=>e=.returned (.bool (!c.s2))/\Kp g w w'/\Cm w' g { c with hs:=(dN value).2,si:=(dN value).1,s2:=true }:=by
 have A6:=hC.lt;go_enter Tryz.func241,Tryz.ntmps241;go_wp2_with fail;refine (fT name _ hn ha).mono ?_;rintro e w1 ⟨rfl,A1⟩;rw[hl];unfold dV;have k1:=Kp.of_below (Nat.le_of_lt A6) A1;have A3:=hC.below A1;clear hl ha A1;go_wp2_with fail;refine (xY value _).mono ?_;obtain⟨⟨n,ok⟩,hT⟩:∃ t,dN value=t:=⟨_,rfl⟩;rw[hT];simp only;rintro e w2 ⟨rfl,A5⟩;have k2:=k1.trans (Kp.of_below (Nat.le_of_lt A3.lt) A5);have A0:=A3.below A5;have c1:=A0.c 7 (by omega);have c2:=A0.c 8 (by omega);have f1:=A0.f 7 (by omega);have f2:=A0.f 8 (by omega);simp only[Cst.cell] at c1 c2;clear A5 k1 A3;have A2:Cm ((w2.setCell ⟨g,8,none⟩ (.int .i64 n)).setCell ⟨g,7,none⟩ (.bool ok)) g { c with hs:=ok,si:=n }:=by have s1:Cm (w2.setCell ⟨g,8,none⟩ (.int .i64 n)) g { c with si:=n }:=A0.set 8 _ (by omega) rfl (ui c n);exact s1.set 7 _ (by omega) rfl (tW { c with si:=n } ok)
 have k3:=(k2.set 8 (.int .i64 n)).set 7 (.bool ok);go_wp2_with fail;refine (A7 g _ _ A2).mono ?_;rintro e w3 ⟨rfl,A4⟩;have A8:Cm w3 g { c with hs:=ok,si:=n,s2:=true }:=by rw[A4];exact A2.set 16 _ (by omega) rfl (uE { c with hs:=ok,si:=n } true)
 have k4:Kp g w w3:=by rw[A4];exact k3.set 16 _
 clear A4 A2 k3 A0 k2 c1 c2 f1 f2;go_wp2;go_ret;rw[hT];exact⟨rfl,k4,A8⟩
theorem pR (g:Nat)(c:Cst)(name value:List UInt8)(w:World)(hC:Cm w g c)(hn:name.length<=140737488355328)(ha:∀ (j:Nat) (b:UInt8),name[j]?=some b->b.toNat<128)(hl:Lib.toLowerA name=cZ) :
 Calls Tryz.prog 241 #[.pointer (some ⟨g,0,none⟩),.string ⟨name.toArray⟩,.string ⟨value.toArray⟩] w λ e w'=>e=.returned (.bool (!c.s3))/\Kp g w w'/\Cm w' g { c with hu:=(dN value).2,ul:=(dN value).1,s3:=true }:=by
 have A6:=hC.lt;go_enter Tryz.func241,Tryz.ntmps241;go_wp2_with fail;refine (fT name _ hn ha).mono ?_;rintro e w1 ⟨rfl,A1⟩;rw[hl];unfold cZ;have k1:=Kp.of_below (Nat.le_of_lt A6) A1;have A3:=hC.below A1;clear hl ha A1;go_wp2_with fail;refine (xY value _).mono ?_;obtain⟨⟨n,ok⟩,hT⟩:∃ t,dN value=t:=⟨_,rfl⟩;rw[hT];simp only;rintro e w2 ⟨rfl,A5⟩;have k2:=k1.trans (Kp.of_below (Nat.le_of_lt A3.lt) A5);have A0:=A3.below A5;have c1:=A0.c 9 (by omega);have c2:=A0.c 10 (by omega);have f1:=A0.f 9 (by omega);have f2:=A0.f 10 (by omega);simp only[Cst.cell] at c1 c2;clear A5 k1 A3;have A2:Cm ((w2.setCell ⟨g,10,none⟩ (.int .i64 n)).setCell ⟨g,9,none⟩ (.bool ok)) g { c with hu:=ok,ul:=n }:=by have s1:Cm (w2.setCell ⟨g,10,none⟩ (.int .i64 n)) g { c with ul:=n }:=A0.set 10 _ (by omega) rfl (uO c n);exact s1.set 9 _ (by omega) rfl (ux { c with ul:=n } ok)
 have k3:=(k2.set 10 (.int .i64 n)).set 9 (.bool ok);go_wp2_with fail;refine (Aq g _ _ A2).mono ?_;rintro e w3 ⟨rfl,A4⟩;have A7:Cm w3 g { c with hu:=ok,ul:=n,s3:=true }:=by rw[A4];exact A2.set 17 _ (by omega) rfl (uw { c with hu:=ok,ul:=n } true)
 have k4:Kp g w w3:=by rw[A4];exact k3.set 17 _
 clear A4 A2 k3 A0 k2 c1 c2 f1 f2;go_wp2;go_ret;rw[hT];exact⟨rfl,k4,A7⟩
structure Cnd where
 m:Option (Bool×dz)
 n:Option (Bool×dz)
 s:Option (Int×Bool)
 u:Option (Int×Bool)
noncomputable def dy (k:Cnd)(name value:List UInt8):Option Cnd :=
 if Lib.toLowerA name=d8 then (if !k.m.isSome&&(aT value).2.1 then some { k with m:=some ((aT value).1,(aT value).2.2) } else none)
 else if Lib.toLowerA name=fm then (if !k.n.isSome&&(aT value).2.1 then some { k with n:=some ((aT value).1,(aT value).2.2) } else none)
 else if Lib.toLowerA name=dV then (if k.s.isSome then none else some { k with s:=some (dN value) })
 else if Lib.toLowerA name=cZ then (if k.u.isSome then none else some { k with u:=some (dN value) })
 else some k
def Rl (x:World)(g:Nat)(h a:Bool)(l:Value)(s:Bool)(o:Option (Bool×dz)):Prop :=
 s=o.isSome/\h=o.isSome/\match o with
  | none=>a=false/\l=.slice none 0 0
  | some (b,t)=>a=b/\x.ownsRow (g+1) 303 2 l t.length (bW t)
def Rd2 (h:Bool)(n:Int)(s:Bool)(o:Option (Int×Bool)):Prop :=
 s=o.isSome/\match o with
  | none=>h=false/\n=0
  | some (d,b)=>h=b/\n=d
structure Rc (x:World)(g:Nat)(c:Cst)(k:Cnd):Prop where
 cm:Cm x g c
 m:Rl x g c.hm c.am c.lm c.s0 k.m
 n:Rl x g c.hn c.an c.ln c.s1 k.n
 s:Rd2 c.hs c.si c.s2 k.s
 u:Rd2 c.hu c.ul c.s3 k.u
theorem Rl.kept {x y:World}{g:Nat}{h a:Bool}{l:Value}{s:Bool}{o:Option (Bool×dz)}(r:Rl x g h a l s o)(hk:Kp g x y):Rl y g h a l s o:=by
 obtain⟨r1,r2,r3⟩:=r;refine⟨r1,r2,?_⟩;cases o with
 | none=>exact r3
 | some p =>
   obtain⟨b,t⟩:=p;obtain⟨e,ho⟩:=r3;refine⟨e,ho.1,?_⟩;rcases ho.2 with h0|⟨q,A1,A0,hv,hg,hh,rr⟩
   ·exact Or.inl h0
   ·have hq:q<x.heap.size:=(gL hh);exact Or.inr ⟨q,A1,A0,hv,hg,by rw[hk.o q (by omega) hq];exact hh,rr⟩
theorem sB:fm≠d8/\dV≠d8/\dV≠fm/\cZ≠d8/\cZ≠fm/\cZ≠dV:=by decide
theorem xJ (g:Nat)(c:Cst)(k:Cnd)(name value:List UInt8)(w:World)(hM:bP w)(hR:Rc w g c k)(hn:name.length<=140737488355328)(ha:∀ (j:Nat) (b:UInt8),name[j]?=some b->b.toNat<128)(hv:value.length<=67108864) :
 Calls Tryz.prog 241 #[.pointer (some ⟨g,0,none⟩),.string ⟨name.toArray⟩,.string ⟨value.toArray⟩] w λ e w'=>Kp g w w'/\((∃ k' c',dy k name value=some k'/\e=.returned (.bool true)/\Rc w' g c' k')\/(dy k name value=none/\e=.returned (.bool false))):=by
 have A0:=hR.cm.lt;by_cases h1:Lib.toLowerA name=d8
 ·refine (tD g c name value w hM hR.cm hn ha h1 hv).mono ?_;rintro e w' ⟨rfl,hk,o,cp,hc,ho⟩;refine⟨hk,?_⟩;have hs:=hR.m.1;unfold dy;rw[if_pos h1,hs];cases hb:(!k.m.isSome&&(aT value).2.1) with
  | true =>(have hf:(aT value).2.1=true:=by simp at hb;exact hb.2);refine Or.inl ⟨_,_,rfl,rfl,hc,⟨rfl,hf,rfl,er ho (by omega)⟩,hR.n.kept hk,hR.s,hR.u⟩
  | false=>exact Or.inr ⟨rfl,rfl⟩
 ·by_cases h2:Lib.toLowerA name=fm
  ·refine (wf g c name value w hM hR.cm hn ha h2 hv).mono ?_;rintro e w' ⟨rfl,hk,o,cp,hc,ho⟩;refine⟨hk,?_⟩;have hs:=hR.n.1;unfold dy;rw[if_neg h1,if_pos h2,hs];cases hb:(!k.n.isSome&&(aT value).2.1) with
   | true =>(have hf:(aT value).2.1=true:=by simp at hb;exact hb.2);refine Or.inl ⟨_,_,rfl,rfl,hc,hR.m.kept hk,⟨rfl,hf,rfl,er ho (by omega)⟩,hR.s,hR.u⟩
   | false=>exact Or.inr ⟨rfl,rfl⟩
  ·by_cases h3:Lib.toLowerA name=dV
   ·refine (sM g c name value w hR.cm hn ha h3).mono ?_;rintro e w' ⟨rfl,hk,hc⟩;refine⟨hk,?_⟩;have hs:=hR.s.1;unfold dy;rw[if_neg h1,if_neg h2,if_pos h3,hs];cases hb:k.s.isSome with
    | true=>exact Or.inr ⟨rfl,rfl⟩
    | false=>exact Or.inl ⟨_,_,rfl,rfl,hc,hR.m.kept hk,hR.n.kept hk,⟨rfl,rfl,rfl⟩,hR.u⟩
   ·by_cases h4:Lib.toLowerA name=cZ
    ·refine (pR g c name value w hR.cm hn ha h4).mono ?_;rintro e w' ⟨rfl,hk,hc⟩;refine⟨hk,?_⟩;have hs:=hR.u.1;unfold dy;rw[if_neg h1,if_neg h2,if_neg h3,if_pos h4,hs];cases hb:k.u.isSome with
     | true=>exact Or.inr ⟨rfl,rfl⟩
     | false=>exact Or.inl ⟨_,_,rfl,rfl,hc,hR.m.kept hk,hR.n.kept hk,hR.s,⟨rfl,rfl,rfl⟩⟩
    ·refine (rW g name value w hn ha h1 h2 h3 h4).mono ?_;rintro e w' ⟨rfl,hb⟩;have hk:=Kp.of_below (Nat.le_of_lt A0) hb;refine⟨hk,Or.inl ⟨k,c,?_,rfl,hR.cm.below hb,hR.m.kept hk,hR.n.kept hk,hR.s,hR.u⟩⟩;unfold dy;rw[if_neg h1,if_neg h2,if_neg h3,if_neg h4]
end Go.Proofs.YtmehkneofinmiaaGreatDoor

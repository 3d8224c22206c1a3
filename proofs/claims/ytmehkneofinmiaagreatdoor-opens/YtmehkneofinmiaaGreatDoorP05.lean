/-part 5-/
import Derived.Test.YtmehkneofinmiaaGreatDoorP04
import Derived.Lib.AppendIntMem
set_option maxHeartbeats 1000000
namespace Go.Proofs.YtmehkneofinmiaaGreatDoor
open Go.RowKit
def form:ByteArray:=⟨#[63,63,63,44,32,48,48,32,63,63,63,32,48,48,48,48,32,48,48,58,48,48,58,48,48,32,71,77,84]⟩
theorem oz:form.size=29:=rfl
theorem sk (s:ByteArray)(w:World)(hs:s.size≠29) :
 Calls Tryz.prog 316 #[.string s] w λ e w'=>e=.returned (.bool false)/\w'=w:=by
 go_enter Tryz.func316,Tryz.ntmps316;go_wp2;go_ret;exact⟨rfl,rfl⟩
def at8 (s:ByteArray)(j:Nat):Int:=((s.data.toList.getD j 0).toNat:Int)
theorem xg (s:ByteArray)(j:Nat)(h:j<s.size):(s[j].toNat:Int)=at8 s j:=by
 unfold at8;rw[List.getD,List.getElem?_eq_getElem (by simpa using h)];rfl
theorem oB (s:ByteArray)(w:World)(hs:s.size=29) :
 Calls Tryz.prog 316 #[.string s] w λ e w'=>(∃ r:Bool,(r=true ↔ ∀ j,j<29->jx (at8 s j) (at8 form j)=true)/\e=.returned (.bool r))/\∃ q,w'=w.drewN q:=by
 have A4:Hid (s.size=29):=hs;have A3:s.size<=29:=by omega
 have A2:29<=s.size:=by omega
 clear hs;go_enter Tryz.func316,Tryz.ntmps316;go_wp2;go_loopw [9] (λ i wr=>∃ k:Nat,k<=29/\i=.int .i64 k/\Hid (∃ q,wr=w.drewN q)/\Hid (∀ j,j<k->jx (at8 s j) (at8 form j)=true)) (λ i _=>29-(intOf i).toNat);case atStart=>exact⟨0,Nat.zero_le _,rfl,⟨0,rfl⟩,λ j hj=>absurd hj (by omega)⟩
 case round =>
  obtain⟨k,hk,rfl,hq,hh⟩:=hrel;by_cases hlt:k<29
  ·have e1:=xg s k (by omega);have e2:=xg form k (by rw[oz];omega);(have e3:∀ w',(Instr.index 9 (.string form) (.int .i64 (k:Int))).run Tryz.prog w'=.ok (.int .u8 (at8 form k)) w':=by intro w';rw[run_index_string _ 9 form .i64 k Tryz.underlying9,dif_pos ⟨by omega,by rw[oz];omega⟩];exact congrArg (λ z=>Result.ok (Value.int .u8 z) w') e2);unfold form at e3;clear e2;go_wp2;go_quiet ((go_at_call 336;exact Calls.quiet_of_same (pi _ _ _)));go_wp2
   ·go_ret;have A1:=‹(!jx _ _)=true›;refine⟨⟨false,⟨λ h=>absurd h (by decide),λ h=>?_⟩,rfl⟩,?_⟩
    ·have:=h k hlt;unfold form at this;rw[this] at A1;exact absurd A1 (by decide)
    ·obtain⟨q,hq⟩:=hq.out;exact⟨q+nq,by rw[hq,World.drewN_drewN]⟩
   ·have A0:=‹(!jx _ _)=false›;refine⟨⟨k+1,by omega,by go_num,?_,λ j hj=>?_⟩,by simp[intOf];omega⟩
    ·obtain⟨q,hq⟩:=hq.out;exact⟨q+nq,by rw[hq,World.drewN_drewN]⟩
    ·by_cases e:j=k
     ·subst e;unfold form;simpa using A0
     ·exact hh.out j (by omega)
  ·go_wp2;go_ret;exact⟨⟨true,⟨λ _ j hj=>hh.out j (by omega),λ _=>rfl⟩,rfl⟩,hq.out⟩
def oR (s:ByteArray):Prop:=∀ j,j<29->jx (at8 s j) (at8 form j)=true
theorem jQ (s:ByteArray)(w:World)(hs:s.size=29)(h:oR s) :
 Calls Tryz.prog 316 #[.string s] w λ e w'=>e=.returned (.bool true)/\∃ q,w'=w.drewN q:=by
 refine (oB s w hs).mono ?_;rintro e w' ⟨⟨r,hr,rfl⟩,hq⟩;exact⟨aw (hr.2 h),hq⟩
theorem zx (s:ByteArray)(w:World)(hs:s.size=29)(h:¬ oR s) :
 Calls Tryz.prog 316 #[.string s] w λ e w'=>e=.returned (.bool false)/\∃ q,w'=w.drewN q:=by
 refine (oB s w hs).mono ?_;rintro e w' ⟨⟨r,hr,rfl⟩,hq⟩;refine⟨aw ?_,hq⟩;cases r
 ·rfl
 ·exact absurd (hr.1 rfl) h
theorem sS (s:ByteArray)(w:World)(hs:s.size≠29) :
 Calls Tryz.prog 285 #[.string s] w λ e w'=>e=.returned (.tuple #[.int .i64 0,.bool false])/\∃ q,w'=w.drewN q:=by
 go_enter Tryz.func285,Tryz.ntmps285;go_wp2_with fail;refine (sk _ _ hs).mono ?_;rintro e w1 ⟨rfl,rfl⟩;go_wp2;go_ret2;exact⟨rfl,0,rfl⟩
theorem s6 (s:ByteArray)(w:World)(hs:s.size=29)(h:¬ oR s) :
 Calls Tryz.prog 285 #[.string s] w λ e w'=>e=.returned (.tuple #[.int .i64 0,.bool false])/\∃ q,w'=w.drewN q:=by
 have HS:Hid _:=hs;clear hs;go_enter Tryz.func285,Tryz.ntmps285;go_wp2_with fail;refine (zx _ _ HS.out h).mono ?_;rintro e w1 ⟨rfl,hq⟩;go_wp2;go_ret2;exact⟨rfl,hq⟩
theorem cj {w w1:World}{n:Nat}(h:∃ q,w1=w.drewN q):∃ q,w1.drewN n=w.drewN q:=by
 obtain⟨q,rfl⟩:=h;exact⟨q+n,World.drewN_drewN _ _ _⟩
theorem bV (s:ByteArray)(a b:Nat)(h:s.size=29)(hb:b<=29):(s.extract a b).size=b-a:=by
 rw[ByteArray.size_extract,h];omega
theorem tN (s:ByteArray)(w:World)(hs:s.size=29)(h:oR s)(hy1:num (s.extract 12 16).data.toList<=9999)
 (hn:¬ ∃ i,i<12/\Cal.nm Cal.months i=(s.extract 8 11).data.toList/\1970<=num (s.extract 12 16).data.toList/\1<=num (s.extract 5 7).data.toList/\num (s.extract 5 7).data.toList<=Cal.ml (num (s.extract 12 16).data.toList) i) :
 Calls Tryz.prog 285 #[.string s] w λ e w'=>e=.returned (.tuple #[.int .i64 0,.bool false])/\∃ q,w'=w.drewN q:=by
 have HS:Hid _:=hs;have z1:29<=s.size:=by omega
 have A0:=λ w=>AF (s.extract 5 7) (s.extract 8 11) (s.extract 12 16) w (by rw[bV s _ _ hs (by omega)];omega) (by rw[bV s _ _ hs (by omega)];omega) hy1 hn;have HD:Hid _:=A0;clear hs A0 hn hy1;go_enter Tryz.func285,Tryz.ntmps285;go_wp2_with fail;refine (jQ _ _ HS.out h).mono ?_;rintro e w1 ⟨rfl,hq⟩;have HQ:Hid _:=hq;clear hq h;go_wp2;go_quiet ((go_at_call 317;exact Calls.quiet_of_same (HD.out _)));go_wp2;go_quiet (fail);go_wp2;go_ret2;exact⟨rfl,cj (cj HQ.out)⟩
def wks:ByteArray:=⟨#[84,104,117,70,114,105,83,97,116,83,117,110,77,111,110,84,117,101,87,101,100]⟩
theorem xr:wks.data.toList=Cal.week:=rfl
theorem lJ (d:Int)(w:World)(v:ByteArray)(hv:Cal.nm Cal.week (d%7).toNat=v.data.toList) :
 Calls Tryz.prog 49 #[.string wks,.int .i64 (d%7)] w λ e w'=>e=.returned (.string v)/\w'=w:=by
 refine (jo wks (d%7) w (by omega) (by have:wks.size=21:=rfl;omega) (by have:wks.size=21:=rfl;omega)).mono ?_;rintro e w' ⟨rfl,rfl⟩;rw[xr,hv,Lib.mk_data];exact⟨rfl,rfl⟩
theorem vx (s:ByteArray)(w:World)(D:Int)(d0:0<=D)(d1:D<=3000000)(hs:s.size=29)(h:oR s)(v:ByteArray)(hv:Cal.nm Cal.week (D%7).toNat=v.data.toList)
 (hday:∀ w,Calls Tryz.prog 317 #[.string (s.extract 5 7),.string (s.extract 8 11),.string (s.extract 12 16)] w λ e w'=>e=.returned (.tuple #[.int .i64 D,.bool true])/\w'=w)
 (hne:((s.extract 0 3).toList==v.toList)=false) :
 Calls Tryz.prog 285 #[.string s] w λ e w'=>e=.returned (.tuple #[.int .i64 0,.bool false])/\∃ q,w'=w.drewN q:=by
 have HS:Hid _:=hs;have z1:29<=s.size:=by omega
 have HD:Hid _:=hday;have A1:=λ w=>lJ D w v hv;have HW:Hid _:=A1;clear hs hday hv A1;go_enter Tryz.func285,Tryz.ntmps285;go_wp2_with fail;refine (jQ _ _ HS.out h).mono ?_;rintro e w1 ⟨rfl,hq⟩;have HQ:Hid _:=hq;clear hq h;go_wp2;go_quiet ((go_at_call 317;exact Calls.quiet_of_same (HD.out _)));go_wp2;obtain⟨w2,A0⟩:∃ w2,w2=w1.drewN nq:=⟨_,rfl⟩;rw[<- A0];have A2:Hid (∃ q,w2=w.drewN q):=by rw[A0];exact cj HQ.out
 clear A0 HQ;go_quiet ((go_at_call 49;exact Calls.quiet_of_same (HW.out _)));go_wp2;go_ret2;exact⟨rfl,cj A2.out⟩
theorem pC (s:ByteArray)(w:World)(D:Int)(d0:0<=D)(d1:D<=3000000)(hs:s.size=29)(h:oR s)(v:ByteArray)(hv:Cal.nm Cal.week (D%7).toNat=v.data.toList)
 (hday:∀ w,Calls Tryz.prog 317 #[.string (s.extract 5 7),.string (s.extract 8 11),.string (s.extract 12 16)] w λ e w'=>e=.returned (.tuple #[.int .i64 D,.bool true])/\w'=w)
 (hne:((s.extract 0 3).toList==v.toList)=true)
 (hclk:∀ w,Calls Tryz.prog 318 #[.string (s.extract 17 19),.string (s.extract 20 22),.string (s.extract 23 25)] w λ e w'=>e=.returned (.tuple #[.int .i64 0,.bool false])/\w'=w) :
 Calls Tryz.prog 285 #[.string s] w λ e w'=>e=.returned (.tuple #[.int .i64 0,.bool false])/\∃ q,w'=w.drewN q:=by
 have HS:Hid _:=hs;have z1:29<=s.size:=by omega
 have HD:Hid _:=hday;have A3:=λ w=>lJ D w v hv;have HW:Hid _:=A3;have HC:Hid _:=hclk;clear hs hday hv A3 hclk;go_enter Tryz.func285,Tryz.ntmps285;go_wp2_with fail;refine (jQ _ _ HS.out h).mono ?_;rintro e w1 ⟨rfl,hq⟩;have HQ:Hid _:=hq;clear hq h;go_wp2;go_quiet ((go_at_call 317;exact Calls.quiet_of_same (HD.out _)));go_wp2;obtain⟨w2,A1⟩:∃ w2,w2=w1.drewN nq:=⟨_,rfl⟩;rw[<- A1];have A2:Hid (∃ q,w2=w.drewN q):=by rw[A1];exact cj HQ.out
 clear A1 HQ;go_quiet ((go_at_call 49;exact Calls.quiet_of_same (HW.out _)));go_wp2;obtain⟨w3,A0⟩:∃ w3,w3=w2.drewN nq:=⟨_,rfl⟩;rw[<- A0];have A4:Hid (∃ q,w3=w.drewN q):=by rw[A0];exact cj A2.out
 clear A0 A2;go_quiet ((go_at_call 318;exact Calls.quiet_of_same (HC.out _)));go_wp2;go_ret2;exact⟨rfl,cj A4.out⟩
theorem wL (s:ByteArray)(w:World)(D:Int)(d0:0<=D)(d1:D<=3000000)(hs:s.size=29)(h:oR s)(v:ByteArray)(hv:Cal.nm Cal.week (D%7).toNat=v.data.toList)
 (hday:∀ w,Calls Tryz.prog 317 #[.string (s.extract 5 7),.string (s.extract 8 11),.string (s.extract 12 16)] w λ e w'=>e=.returned (.tuple #[.int .i64 D,.bool true])/\w'=w)
 (hne:((s.extract 0 3).toList==v.toList)=true)
 (S:Int)(s0:0<=S)(s1:S<=100000)(hclk:∀ w,Calls Tryz.prog 318 #[.string (s.extract 17 19),.string (s.extract 20 22),.string (s.extract 23 25)] w λ e w'=>e=.returned (.tuple #[.int .i64 S,.bool true])/\w'=w) :
 Calls Tryz.prog 285 #[.string s] w λ e w'=>e=.returned (.tuple #[.int .i64 (D*86400+S),.bool true])/\∃ q,w'=w.drewN q:=by
 have HS:Hid _:=hs;have z1:29<=s.size:=by omega
 have HD:Hid _:=hday;have A3:=λ w=>lJ D w v hv;have HW:Hid _:=A3;have HC:Hid _:=hclk;clear hs hday hv A3 hclk;go_enter Tryz.func285,Tryz.ntmps285;go_wp2_with fail;refine (jQ _ _ HS.out h).mono ?_;rintro e w1 ⟨rfl,hq⟩;have HQ:Hid _:=hq;clear hq h;go_wp2;go_quiet ((go_at_call 317;exact Calls.quiet_of_same (HD.out _)));go_wp2;obtain⟨w2,A1⟩:∃ w2,w2=w1.drewN nq:=⟨_,rfl⟩;rw[<- A1];have A2:Hid (∃ q,w2=w.drewN q):=by rw[A1];exact cj HQ.out
 clear A1 HQ;go_quiet ((go_at_call 49;exact Calls.quiet_of_same (HW.out _)));go_wp2;obtain⟨w3,A0⟩:∃ w3,w3=w2.drewN nq:=⟨_,rfl⟩;rw[<- A0];have A4:Hid (∃ q,w3=w.drewN q):=by rw[A0];exact cj A2.out
 clear A0 A2;go_quiet ((go_at_call 318;exact Calls.quiet_of_same (HC.out _)));go_wp2;go_ret2;exact⟨rfl,cj A4.out⟩
def ly:List UInt8->List UInt8->Bool
 | a::l,b::f=>jx a.toNat b.toNat&&ly l f
 | _,_=>true
theorem qQ:∀ (l f:List UInt8),l.length=f.length->(ly l f=true ↔ ∀ j,j<f.length->jx ((l.getD j 0).toNat:Int) ((f.getD j 0).toNat:Int)=true)
 | [],[],_=>by simp[ly]
 | a::l,b::f,h=>by
   have ih:=qQ l f (by simpa using h)
   rw[ly,Bool.and_eq_true,ih]
   constructor
   ·rintro ⟨h0,h1⟩ j hj
    cases j with
    | zero=>simpa using h0
    | succ j=>simpa using h1 j (by simpa using hj)
   ·intro hh
    exact⟨by simpa using hh 0 (by simp),λ j hj=>by simpa using hh (j+1) (by simpa using hj)⟩
theorem qE (s:ByteArray)(hs:s.size=29):oR s ↔ ly s.data.toList form.data.toList=true:=by
 rw[qQ _ _ (by rw[<- Lib.size_eq,hs];rfl)];rfl
theorem xt {α:Type}{l:List α}(h:l.length=29):∃ c0 c1 c2 c3 c4 c5 c6 c7 c8 c9 c10 c11 c12 c13 c14 c15 c16 c17 c18 c19 c20 c21 c22 c23 c24 c25 c26 c27 c28,l=[c0,c1,c2,c3,c4,c5,c6,c7,c8,c9,c10,c11,c12,c13,c14,c15,c16,c17,c18,c19,c20,c21,c22,c23,c24,c25,c26,c27,c28]:=by
 match l,h with
 | [c0,c1,c2,c3,c4,c5,c6,c7,c8,c9,c10,c11,c12,c13,c14,c15,c16,c17,c18,c19,c20,c21,c22,c23,c24,c25,c26,c27,c28],_ =>exact⟨c0,c1,c2,c3,c4,c5,c6,c7,c8,c9,c10,c11,c12,c13,c14,c15,c16,c17,c18,c19,c20,c21,c22,c23,c24,c25,c26,c27,c28,rfl⟩
theorem ip {a:UInt8}{n:Nat}(h:a.toNat=n)(hn:n<256):a=UInt8.ofNat n:=by
 apply UInt8.toNat_inj.1;rw[h];simp;omega
theorem fB {a:UInt8}(h0:48<=a.toNat)(h1:a.toNat<=57):dv a=(a.toNat:Int)-48:=by unfold dv;omega
theorem Az (a b:UInt8):num [a,b]=10*dv a+dv b:=by simp[num]
theorem zQ (a b c d:UInt8):num [a,b,c,d]=1000*dv a+100*dv b+10*dv c+dv d:=by simp[num];omega
theorem kC {a:UInt8}{n:Int}(h:n=(a.toNat:Int)-48)(h0:48<=a.toNat):Cal.dig n=a:=by
 unfold Cal.dig;rw[h,show 48+((a.toNat:Int)-48).toNat=a.toNat by omega];simp
theorem lH {a b:UInt8}(a0:48<=a.toNat)(a1:a.toNat<=57)(b0:48<=b.toNat)(b1:b.toNat<=57):Cal.two (num [a,b])=[a,b]:=by
 rw[Az,fB a0 a1,fB b0 b1,Cal.two,kC (a:=a) (by omega) a0,kC (a:=b) (by omega) b0]
theorem yw {a b c d:UInt8}(a0:48<=a.toNat)(a1:a.toNat<=57)(b0:48<=b.toNat)(b1:b.toNat<=57)(c0:48<=c.toNat)(c1:c.toNat<=57)(d0:48<=d.toNat)(d1:d.toNat<=57) :
 Cal.four (num [a,b,c,d])=[a,b,c,d]:=by
 rw[zQ,fB a0 a1,fB b0 b1,fB c0 c1,fB d0 d1,Cal.four,kC (a:=a) (by omega) a0,kC (a:=b) (by omega) b0,kC (a:=c) (by omega) c0,kC (a:=d) (by omega) d0]
theorem gu {n:Int}(h0:0<=n)(h1:n<10):(Cal.dig n).toNat=48+n.toNat:=by simp[Cal.dig];omega
theorem lM {n:Int}(h0:0<=n)(h1:n<100):num (Cal.two n)=n:=by
 have a:=gu (n:=n/10) (by omega) (by omega);have b:=gu (n:=n%10) (by omega) (by omega);rw[Cal.two,Az,fB (by omega) (by omega),fB (by omega) (by omega)];omega
theorem xR {n:Int}(h0:0<=n)(h1:n<10000):num (Cal.four n)=n:=by
 have a:=gu (n:=n/1000) (by omega) (by omega);have b:=gu (n:=n/100%10) (by omega) (by omega);have c:=gu (n:=n/10%10) (by omega) (by omega);have d:=gu (n:=n%10) (by omega) (by omega);rw[Cal.four,zQ,fB (by omega) (by omega),fB (by omega) (by omega),fB (by omega) (by omega),fB (by omega) (by omega)];omega
theorem mw {l:List UInt8}(hl:l.length=29)(h:ly l form.data.toList=true) :
 (l.drop 12).take 4=Cal.four (num ((l.drop 12).take 4))/\num ((l.drop 12).take 4)<=9999/\0<=num ((l.drop 12).take 4) /\
 l=l.take 3++[44,32]++Cal.two (num ((l.drop 5).take 2))++[32]++(l.drop 8).take 3++[32]++Cal.four (num ((l.drop 12).take 4))++[32]++Cal.two (num ((l.drop 17).take 2))++[58]++Cal.two (num ((l.drop 20).take 2))++[58]++Cal.two (num ((l.drop 23).take 2))++[32,71,77,84]:=by
 obtain⟨c0,c1,c2,c3,c4,c5,c6,c7,c8,c9,B3,A8,A0,A1,A2,A3,Ag,A6,A7,Ab,Ac,Ae,Af,Ad,Ah,Aa,A9,A4,A5,rfl⟩:=xt hl;simp[form,ly,jx] at h;obtain⟨e3,e4,⟨p5,q5⟩,⟨p6,q6⟩,e7,Ax,⟨Aj,Aw⟩,⟨B5,Ao⟩,⟨B7,Av⟩,⟨Az,Ar⟩,B4,⟨B1,Ai⟩,⟨At,Aq⟩,Ak,⟨B9,B2⟩,⟨Ba,Ay⟩,B6,⟨B0,Al⟩,⟨Au,Am⟩,An,Ap,B8,As⟩:=h;have y:=yw (a:=A0) (b:=A1) (c:=A2) (d:=A3) (by omega) (by omega) (by omega) (by omega) (by omega) (by omega) (by omega) (by omega);have ny:=zQ A0 A1 A2 A3;rw[fB (by omega) (by omega),fB (by omega) (by omega),fB (by omega) (by omega),fB (by omega) (by omega)] at ny;simp only[List.drop_succ_cons,List.drop_zero,List.take_succ_cons,List.take_zero];refine⟨y.symm,by omega,by omega,?_⟩
 rw[y,lH (a:=c5) (b:=c6) (by omega) (by omega) (by omega) (by omega),lH (a:=A6) (b:=A7) (by omega) (by omega) (by omega) (by omega),
  lH (a:=Ac) (b:=Ae) (by omega) (by omega) (by omega) (by omega),lH (a:=Ad) (b:=Ah) (by omega) (by omega) (by omega) (by omega)]
 rw[ip (a:=c3) (n:=44) (by omega) (by omega),ip (a:=c4) (n:=32) (by omega) (by omega),ip (a:=c7) (n:=32) (by omega) (by omega),ip (a:=A8) (n:=32) (by omega) (by omega),
  ip (a:=Ag) (n:=32) (by omega) (by omega),ip (a:=Ab) (n:=58) (by omega) (by omega),ip (a:=Af) (n:=58) (by omega) (by omega),ip (a:=Aa) (n:=32) (by omega) (by omega),
  ip (a:=A9) (n:=71) (by omega) (by omega),ip (a:=A4) (n:=77) (by omega) (by omega),ip (a:=A5) (n:=84) (by omega) (by omega)]
 rfl
def ed (l:List UInt8)(i:Nat):Int:=Cal.ahead (num ((l.drop 12).take 4))+Cal.cum (num ((l.drop 12).take 4)) i+(num ((l.drop 5).take 2)-1)
def bq (l:List UInt8):Int:=num ((l.drop 17).take 2)*3600+num ((l.drop 20).take 2)*60+num ((l.drop 23).take 2)
theorem co (l:List UInt8)(h:l.length<=4):0<=num l:=(eO l h).1
theorem Bm {l:List UInt8}{i:Nat}(hl:l.length=29)(h:ly l form.data.toList=true)(hi:i<12)(hm:Cal.nm Cal.months i=(l.drop 8).take 3)(hy:1970<=num ((l.drop 12).take 4))
 (hd:1<=num ((l.drop 5).take 2))(hd1:num ((l.drop 5).take 2)<=Cal.ml (num ((l.drop 12).take 4)) i)(hw:Cal.nm Cal.week (ed l i%7).toNat=l.take 3)
 (h1:num ((l.drop 17).take 2)<=23)(h2:num ((l.drop 20).take 2)<=59)(h3:num ((l.drop 23).take 2)<=59) :
 Cal.IsStamp (ed l i*86400+bq l) l:=by
 obtain⟨_,y1,_,hL⟩:=mw hl h;have a1:=co ((l.drop 17).take 2) (by simp;omega);have a2:=co ((l.drop 20).take 2) (by simp;omega);have a3:=co ((l.drop 23).take 2) (by simp;omega);have c0:0<=bq l/\bq l<86400:=by unfold bq;omega
 have e1:(ed l i*86400+bq l)/86400=ed l i:=by omega
 have e2:(ed l i*86400+bq l)%86400=bq l:=by omega
 refine⟨num ((l.drop 12).take 4),i,num ((l.drop 5).take 2)-1,?_,?_⟩
 ·rw[e1];exact⟨hy,hi,by omega,by omega,rfl⟩
 ·rw[e1,e2];unfold Cal.fmt
  rw[hw,hm,show num ((l.drop 5).take 2)-1+1=num ((l.drop 5).take 2) by omega,
   show bq l/3600=num ((l.drop 17).take 2) by unfold bq;omega,
   show bq l%3600/60=num ((l.drop 20).take 2) by unfold bq;omega,
   show bq l%60=num ((l.drop 23).take 2) by unfold bq;omega]
  exact hL
theorem xE {d y:Int}{m:Nat}{k:Int}(h:Cal.Sp d y m k)(hy:y<=9999):0<=d/\d<=2932896:=by
 have a:=h.year;have b:=Cal.ahead_mono h.y0;have c:=Cal.ahead_mono (show y+1<=10000 by omega);rw[Cal.ahead_1970] at b;rw[Cal.ahead_10000] at c;omega
theorem mT {α:Type}{l:List α}(h:l.length=3):∃ a b c,l=[a,b,c]:=by
 match l,h with
 | [a,b,c],_=>exact⟨a,b,c,rfl⟩
theorem fS {sec:Int}{l:List UInt8}(h:Cal.IsStamp sec l)(h0:0<=sec)(h1:sec<=253402300799) :
 l.length=29/\ly l form.data.toList=true/\∃ i,i<12/\Cal.nm Cal.months i=(l.drop 8).take 3/\1970<=num ((l.drop 12).take 4)/\1<=num ((l.drop 5).take 2) /\
  num ((l.drop 5).take 2)<=Cal.ml (num ((l.drop 12).take 4)) i/\Cal.nm Cal.week (ed l i%7).toNat=l.take 3/\num ((l.drop 17).take 2)<=23/\num ((l.drop 20).take 2)<=59/\num ((l.drop 23).take 2)<=59 /\
  sec=ed l i*86400+bq l:=by
 obtain⟨y,m,k,sp,rfl⟩:=h;have hy:=sp.range (by omega);have Ae:=sp.y0;have hm:=sp.m12;have Ab:=sp.k0;have Ac:=sp.k1;have Ad:=Cal.ml_bd y m;have A7:=sp.eq;obtain⟨w0,w1,w2,hw⟩:=mT (Cal.len_week ⟨(sec/86400%7).toNat,by omega⟩);obtain⟨m0,m1,m2,A3⟩:=mT (Cal.len_months ⟨m,hm⟩);simp only at hw A3;have t1:=lM (n:=k+1) (by omega) (by omega);have t2:=lM (n:=sec%86400/3600) (by omega) (by omega);have t3:=lM (n:=sec%86400%3600/60) (by omega) (by omega);have t4:=lM (n:=sec%86400%60) (by omega) (by omega);have t5:=xR (n:=y) (by omega) (by omega);have g:∀ n:Int,0<=n->n<10->jx ((Cal.dig n).toNat:Int) 48=true:=by intro n a b;have:=gu a b;simp[jx];omega
 have f1:=g ((k+1)/10) (by omega) (by omega);have f2:=g ((k+1)%10) (by omega) (by omega);have f3:=g (y/1000) (by omega) (by omega);have f4:=g (y/100%10) (by omega) (by omega);have f5:=g (y/10%10) (by omega) (by omega);have f6:=g (y%10) (by omega) (by omega);have f7:=g (sec%86400/3600/10) (by omega) (by omega);have f8:=g (sec%86400/3600%10) (by omega) (by omega);have f9:=g (sec%86400%3600/60/10) (by omega) (by omega);have A9:=g (sec%86400%3600/60%10) (by omega) (by omega);have A8:=g (sec%86400%60/10) (by omega) (by omega);have Aa:=g (sec%86400%60%10) (by omega) (by omega);obtain⟨L,hL⟩:∃ L,L=Cal.fmt (sec/86400) y m k (sec%86400):=⟨_,rfl⟩;have A0:=hL;unfold Cal.fmt at A0;rw[hw,A3] at A0;simp only[Cal.two,Cal.four,List.cons_append,List.nil_append] at A0 t1 t2 t3 t4 t5;rw[<- hL];have d5:(L.drop 5).take 2=Cal.two (k+1):=by rw[A0];rfl
 have A2:(L.drop 12).take 4=Cal.four y:=by rw[A0];rfl
 have A5:(L.drop 17).take 2=Cal.two (sec%86400/3600):=by rw[A0];rfl
 have A4:(L.drop 20).take 2=Cal.two (sec%86400%3600/60):=by rw[A0];rfl
 have A6:(L.drop 23).take 2=Cal.two (sec%86400%60):=by rw[A0];rfl
 have A1:ed L m=sec/86400:=by unfold ed;rw[A2,d5,Cal.four,Cal.two,t1,t5,A7];omega
 refine⟨by rw[A0];rfl,?_,m,hm,by rw[A0,A3];rfl,by rw[A2,Cal.four,t5];omega,by rw[d5,Cal.two,t1];omega,by rw[A2,d5,Cal.four,Cal.two,t5,t1];omega,?_,by rw[A5,Cal.two,t2];omega,by rw[A4,Cal.two,t3];omega,by rw[A6,Cal.two,t4];omega,?_⟩
 ·rw[A0];simp only[form,ly,Bool.and_eq_true];exact⟨rfl,rfl,rfl,rfl,rfl,f1,f2,rfl,rfl,rfl,rfl,rfl,f3,f4,f5,f6,rfl,f7,f8,rfl,f9,A9,rfl,A8,Aa,rfl,rfl,rfl,rfl,trivial⟩
 ·rw[A1,hw,A0];rfl
 ·rw[A1];unfold bq;rw[A5,A4,A6,Cal.two,Cal.two,Cal.two,t2,t3,t4];omega
theorem cS (s:ByteArray)(a b:Nat):(s.extract a b).data.toList=(s.data.toList.drop a).take (b-a):=Lib.extract_data s a b
theorem wy (s:ByteArray)(w:World) :
 Calls Tryz.prog 285 #[.string s] w λ e w'=>((∃ sec:Int,0<=sec/\sec<=253402300799/\Cal.IsStamp sec s.data.toList/\e=.returned (.tuple #[.int .i64 sec,.bool true])) \/
  ((∀ sec:Int,0<=sec->sec<=253402300799->¬ Cal.IsStamp sec s.data.toList)/\e=.returned (.tuple #[.int .i64 0,.bool false])))/\∃ q,w'=w.drewN q:=by
 have no:(∀ sec:Int,0<=sec->sec<=253402300799->¬ Cal.IsStamp sec s.data.toList) ->
  (Calls Tryz.prog 285 #[.string s] w λ e w'=>e=.returned (.tuple #[.int .i64 0,.bool false])/\∃ q,w'=w.drewN q) ->
  Calls Tryz.prog 285 #[.string s] w λ e w'=>((∃ sec:Int,0<=sec/\sec<=253402300799/\Cal.IsStamp sec s.data.toList/\e=.returned (.tuple #[.int .i64 sec,.bool true])) \/
  ((∀ sec:Int,0<=sec->sec<=253402300799->¬ Cal.IsStamp sec s.data.toList)/\e=.returned (.tuple #[.int .i64 0,.bool false])))/\∃ q,w'=w.drewN q :=
  λ hn hc=>hc.mono λ e w' ⟨he,hq⟩=>⟨Or.inr ⟨hn,he⟩,hq⟩
 have Aa:=Lib.size_eq s;by_cases hs:s.size=29
 rotate_left
 ·exact no (λ sec a b h=>hs (by rw[Aa];exact (fS h a b).1)) (sS s w hs)
 by_cases hf:oR s
 rotate_left
 ·exact no (λ sec a b h=>hf ((qE s hs).2 (fS h a b).2.1)) (s6 s w hs hf)
 have hl:s.data.toList.length=29:=by rw[<- Aa];exact hs
 have A8:=(qE s hs).1 hf;obtain⟨_,A7,Ac,_⟩:=mw hl A8;have x5:=cS s 5 7;have x8:=cS s 8 11;have A1:=cS s 12 16;have A6:=cS s 17 19;have A4:=cS s 20 22;have A5:=cS s 23 25;simp only[Nat.reduceSub] at x5 x8 A1 A6 A4 A5;by_cases hd:∃ i,i<12/\Cal.nm Cal.months i=(s.extract 8 11).data.toList/\1970<=num (s.extract 12 16).data.toList/\1<=num (s.extract 5 7).data.toList/\num (s.extract 5 7).data.toList<=Cal.ml (num (s.extract 12 16).data.toList) i
 rotate_left
 ·refine no (λ sec a b h=>hd ?_) (tN s w hs hf (by rw[A1];exact A7) hd);obtain⟨_,_,i,hi,hm,k1,k2,k3,_⟩:=fS h a b;exact⟨i,hi,by rw[x8];exact hm,by rw[A1];exact k1,by rw[x5];exact k2,by rw[x5,A1];exact k3⟩
 obtain⟨i,hi,hm,k1,k2,k3⟩:=hd;have A0:=λ w=>yS (s.extract 5 7) (s.extract 8 11) (s.extract 12 16) w i (by rw[bV s _ _ hs (by omega)];omega) (by rw[bV s _ _ hs (by omega)];omega) hi hm k1 (by rw[A1];exact A7) k2 k3;have hD:Cal.ahead (num (s.extract 12 16).data.toList)+Cal.cum (num (s.extract 12 16).data.toList) i+(num (s.extract 5 7).data.toList-1)=ed s.data.toList i:=by unfold ed;rw[A1,x5]
 rw[hD] at A0;rw[x8] at hm;rw[A1] at k1;rw[x5] at k2;rw[x5,A1] at k3;have sp:Cal.Sp (ed s.data.toList i) (num ((s.data.toList.drop 12).take 4)) i (num ((s.data.toList.drop 5).take 2)-1):=⟨k1,hi,by omega,by omega,rfl⟩;obtain⟨r0,r1⟩:=xE sp A7;have A3:∀ sec:Int,0<=sec->sec<=253402300799->Cal.IsStamp sec s.data.toList->Cal.nm Cal.week (ed s.data.toList i%7).toNat=s.data.toList.take 3/\num ((s.data.toList.drop 17).take 2)<=23/\num ((s.data.toList.drop 20).take 2)<=59/\num ((s.data.toList.drop 23).take 2)<=59:=by intro sec a b h;obtain⟨_,_,j,hj,Ab,_,_,_,hw,c1,c2,c3,_⟩:=fS h a b;(have e:i=j:=by have:=Cal.nm_months_inj ⟨i,hi⟩ ⟨j,hj⟩ (hm.trans Ab.symm);simpa using this);subst e;exact⟨hw,c1,c2,c3⟩
 have hv:Cal.nm Cal.week (ed s.data.toList i%7).toNat=(⟨(Cal.nm Cal.week (ed s.data.toList i%7).toNat).toArray⟩:ByteArray).data.toList:=by simp
 have xe:(s.extract 0 3).toList=s.data.toList.take 3:=by rw[Lib.extract_toList];rfl
 by_cases hw:Cal.nm Cal.week (ed s.data.toList i%7).toNat=s.data.toList.take 3
 rotate_left
 ·refine no (λ sec a b h=>hw (A3 sec a b h).1) (vx s w _ r0 (by omega) hs hf _ hv A0 ?_);rw[xe,Lib.toList_data,<- hv];exact beq_eq_false_iff_ne.2 (λ e=>hw e.symm)
 have A9:((s.extract 0 3).toList==(⟨(Cal.nm Cal.week (ed s.data.toList i%7).toNat).toArray⟩:ByteArray).toList)=true:=by rw[xe,Lib.toList_data,<- hv];exact beq_iff_eq.2 hw.symm
 by_cases hc:num (s.extract 17 19).data.toList<=23/\num (s.extract 20 22).data.toList<=59/\num (s.extract 23 25).data.toList<=59
 rotate_left
 ·refine no (λ sec a b h=>hc ?_) (pC s w _ r0 (by omega) hs hf _ hv A0 A9 (λ w=>xh _ _ _ w (by rw[bV s _ _ hs (by omega)];omega) (by rw[bV s _ _ hs (by omega)];omega) (by rw[bV s _ _ hs (by omega)];omega) hc));rw[A6,A4,A5];exact (A3 sec a b h).2
 have A2:=λ w=>wv (s.extract 17 19) (s.extract 20 22) (s.extract 23 25) w (by rw[bV s _ _ hs (by omega)];omega) (by rw[bV s _ _ hs (by omega)];omega) (by rw[bV s _ _ hs (by omega)];omega) hc.1 hc.2.1 hc.2.2;have hS:num (s.extract 17 19).data.toList*3600+num (s.extract 20 22).data.toList*60+num (s.extract 23 25).data.toList=bq s.data.toList:=by unfold bq;rw[A6,A4,A5]
 rw[hS] at A2;rw[A6,A4,A5] at hc;have a1:=co ((s.data.toList.drop 17).take 2) (by simp;omega);have a2:=co ((s.data.toList.drop 20).take 2) (by simp;omega);have a3:=co ((s.data.toList.drop 23).take 2) (by simp;omega);have cb:0<=bq s.data.toList/\bq s.data.toList<86400:=by unfold bq;omega
 refine (wL s w _ r0 (by omega) hs hf _ hv A0 A9 (bq s.data.toList) cb.1 (by omega) A2).mono λ e w' ⟨he,hq⟩=>⟨Or.inl ⟨_,?_,?_,Bm hl A8 hi hm k1 k2 k3 hw hc.1 hc.2.1 hc.2.2,he⟩,hq⟩
 ·omega
 ·omega
theorem sD (a b:List UInt8):(⟨a.toArray⟩:ByteArray)++⟨b.toArray⟩=⟨(a++b).toArray⟩:=by
 apply ByteArray.ext;simp[ByteArray.data_append]
theorem tS (n:Int)(D:List UInt8)(hL:D.length=1)(w:World)(hI:Calls Tryz.prog 17 #[.int .i64 n] w λ e w'=>e=.returned (.string ⟨D.toArray⟩)/\Below w.heap.size w w') :
 Calls Tryz.prog 50 #[.int .i64 n,.int .i64 2] w λ e w'=>e=.returned (.string ⟨(48::D).toArray⟩)/\Below w.heap.size w w':=by
 have HI:Hid _:=hI;clear hI;go_enter Tryz.func50,Tryz.ntmps50;go_wp2_with fail;refine Calls.mono HI.out ?_;rintro e w1 ⟨rfl,A0⟩;go_wp2_with fail;rw[show (max (1:Int) 0)=((1:Nat):Int) from rfl];refine (Tryz.strings_Repeat _ 1 _ (by omega) (by decide)).mono ?_;rintro e w2 ⟨rfl,A1⟩;rw[show Lib.repeatL (ByteArray.mk #[48]).data.toList 1=[48] from by decide];go_wp2;go_ret;refine⟨aM ?_,A0.trans (A1.mono (by have:=A0.size;omega))⟩;exact sD [48] D
theorem lr (n:Int)(wd:Nat)(D:List UInt8)(hL:D.length=wd)(hw:wd<=4)(w:World)(hI:Calls Tryz.prog 17 #[.int .i64 n] w λ e w'=>e=.returned (.string ⟨D.toArray⟩)/\Below w.heap.size w w') :
 Calls Tryz.prog 50 #[.int .i64 n,.int .i64 wd] w λ e w'=>e=.returned (.string ⟨D.toArray⟩)/\Below w.heap.size w w':=by
 have HI:Hid _:=hI;clear hI;go_enter Tryz.func50,Tryz.ntmps50;go_wp2_with fail;refine Calls.mono HI.out ?_;rintro e w1 ⟨rfl,A0⟩;go_wp2_with fail;rw[show (0:Int)=((0:Nat):Int) from rfl];refine (Tryz.strings_Repeat _ 0 _ (by omega) (by decide)).mono ?_;rintro e w2 ⟨rfl,A1⟩;rw[show Lib.repeatL (ByteArray.mk #[48]).data.toList 0=[] from by decide];go_wp2;go_ret;exact⟨aM (sD [] D),A0.trans (A1.mono (by have:=A0.size;omega))⟩
theorem BC : Tryz.prog.globalNamed "internal/strconv.uint64pow10" = some 0 := by kernel_rfl
structure Tab (w:World):Prop where
 tab : Lib.TabIs Tryz.prog w "internal/strconv.uint64pow10" .u64 Lib.pow10Tab
 lt:0<w.heap.size
theorem Tab.below {w w':World}(h:Tab w)(hb:Below w.heap.size w w'):Tab w' :=
 ⟨var?_below hb BC h.lt h.tab,by have:=hb.size;have:=h.lt;omega⟩
theorem mn (n:Int)(w:World)(h0:0<=n)(h:n<100) :
 Calls Tryz.prog 17 #[.int .i64 n] w λ e w'=>e=.returned (.string ⟨(Lib.decDigits n.toNat).toArray⟩)/\Below w.heap.size w w':=by
 have:=Tryz.strconv_Itoa_small n.toNat (by omega) w;rw[Int.toNat_of_nonneg h0] at this;refine this.mono ?_;rintro e w' ⟨rfl,rfl⟩;exact⟨rfl,Below.refl _ _⟩
theorem lW (n:Int)(w:World)(h0:0<=n)(h:n<100000)(hT:Tab w) :
 Calls Tryz.prog 17 #[.int .i64 n] w λ e w'=>e=.returned (.string ⟨(Lib.decDigits n.toNat).toArray⟩)/\Below w.heap.size w w':=by
 refine (Tryz.strconv_Itoa n (by omega) (by omega) w hT.tab).mono ?_;rintro e w' ⟨rfl,k,os,rfl⟩;refine⟨aM ?_,Lib.below_grow _ _ (Nat.le_refl _) _ _⟩;unfold Lib.itoa;rw[if_neg (by omega)]
theorem lR (n:Int)(w:World)(h0:0<=n)(h:n<100) :
 Calls Tryz.prog 50 #[.int .i64 n,.int .i64 2] w λ e w'=>e=.returned (.string ⟨(Cal.two n).toArray⟩)/\Below w.heap.size w w':=by
 have hI:=mn n w h0 h;by_cases hl:n<10
 ·rw[Lib.decDigits_one (by omega)] at hI;refine (tS n _ rfl w hI).mono ?_;rintro e w' ⟨rfl,hb⟩;refine⟨aM ?_,hb⟩;rw[Cal.two,Cal.dig,Cal.dig,show n/10=0 by omega,show n%10=n by omega];rfl
 ·rw[Lib.decDigits_two (by omega) (by omega)] at hI;refine (lr n 2 _ rfl (by omega) w hI).mono ?_;rintro e w' ⟨rfl,hb⟩;refine⟨aM ?_,hb⟩;rw[Cal.two,Cal.dig,Cal.dig,show (n/10).toNat=n.toNat/10 by omega,show (n%10).toNat=n.toNat%10 by omega]
theorem qd (n:Int)(h0:1000<=n)(h:n<10000):Lib.decDigits n.toNat=Cal.four n:=by
 rw[Lib.decDigits,dif_neg (by omega),Lib.decDigits,dif_neg (by omega),Lib.decDigits_two (by omega) (by omega),Cal.four,Cal.dig,Cal.dig,Cal.dig,Cal.dig,
  show (n/1000).toNat=n.toNat/10/10/10 by omega,show (n/100%10).toNat=n.toNat/10/10%10 by omega,show (n/10%10).toNat=n.toNat/10%10 by omega,show (n%10).toNat=n.toNat%10 by omega]
 rfl
theorem zW (n:Int)(w:World)(h0:1000<=n)(h:n<10000)(hT:Tab w) :
 Calls Tryz.prog 50 #[.int .i64 n,.int .i64 4] w λ e w'=>e=.returned (.string ⟨(Cal.four n).toArray⟩)/\Below w.heap.size w w':=by
 have hI:=lW n w (by omega) (by omega) hT;rw[qd n h0 h] at hI;exact lr n 4 _ rfl (by omega) w hI
theorem AV (m:Nat)(w:World)(h:m<12) :
 Calls Tryz.prog 49 #[.string kK,.int .i64 (m:Int)] w λ e w'=>e=.returned (.string ⟨(Cal.nm Cal.months m).toArray⟩)/\w'=w:=by
 have:=jo kK m w (by omega) (by have:kK.size=36:=rfl;omega) (by have:kK.size=36:=rfl;omega);rw[Int.toNat_natCast,fQ] at this;exact this
theorem BG (d:Int)(w:World) :
 Calls Tryz.prog 49 #[.string wks,.int .i64 (d%7)] w λ e w'=>e=.returned (.string ⟨(Cal.nm Cal.week (d%7).toNat).toArray⟩)/\w'=w:=lJ d w _ (by simp)
theorem vF (sec:Int)(w:World)(h0:0<=sec)(h1:sec<=253402300799)(hT:Tab w) :
 Calls Tryz.prog 18 #[.int .i64 sec] w λ e w'=>(∃ l,Cal.IsStamp sec l/\e=.returned (.string ⟨l.toArray⟩))/\Below w.heap.size w w':=by
 go_enter Tryz.func18,Tryz.ntmps18;go_wp2_with fail;refine (vu _ _ (by omega) (by omega)).mono ?_;rintro e w1 ⟨⟨y,m,k,sp,rfl⟩,rfl⟩;have hy:=sp.range (by omega);have Ad:=sp.y0;have hm:=sp.m12;have Aa:=sp.k0;have Ab:=sp.k1;have Ac:=Cal.ml_bd y m;obtain⟨c0,c1,c2,hw⟩:=mT (Cal.len_week ⟨(sec/86400%7).toNat,by omega⟩);obtain⟨m0,m1,m2,A1⟩:=mT (Cal.len_months ⟨m,hm⟩);simp only at hw A1;have HF:Hid (Cal.fmt (sec/86400) y m k (sec%86400)=[c0,c1,c2]++[44,32]++Cal.two (k+1)++[32]++[m0,m1,m2]++[32]++Cal.four y++[32]++Cal.two (sec%86400/3600)++[58]++Cal.two (sec%86400%3600/60)++[58]++Cal.two (sec%86400%60)++[32,71,77,84]):=by unfold Cal.fmt;rw[hw,A1];rfl
 have HW:Hid _:=hw;have HM:Hid _:=A1;clear hw A1;go_wp2_with fail;refine (BG _ _).mono ?_;rintro e w1 ⟨rfl,rfl⟩;rw[HW.out];go_wp2_with fail;refine (lR _ _ (by omega) (by omega)).mono ?_;rintro e w2 ⟨rfl,A0⟩;rw[Cal.two];go_wp2_with fail;refine (AV _ _ hm).mono ?_;rintro e w1 ⟨rfl,rfl⟩;rw[HM.out];go_wp2_with fail;refine (zW _ _ (by omega) (by omega) (hT.below A0)).mono ?_;rintro e w3 ⟨rfl,A8⟩;rw[Cal.four];have A4:=A0.trans (A8.mono A0.size);clear A0 A8;go_wp2_with fail;refine (lR _ _ (by omega) (by omega)).mono ?_;rintro e w4 ⟨rfl,A7⟩;rw[Cal.two];have A3:=A4.trans (A7.mono A4.size);clear A4 A7;go_wp2_with fail;refine (lR _ _ (by omega) (by omega)).mono ?_;rintro e w5 ⟨rfl,A6⟩;rw[Cal.two];have A2:=A3.trans (A6.mono A3.size);clear A3 A6;go_wp2_with fail;refine (lR _ _ (by omega) (by omega)).mono ?_;rintro e w6 ⟨rfl,A5⟩;rw[Cal.two];have A9:=A2.trans (A5.mono A2.size);clear A2 A5;go_wp2;go_ret;refine⟨⟨_,⟨y,m,k,sp,rfl⟩,aM ?_⟩,A9⟩;rw[HF.out,show sec%86400%3600=sec%3600 by omega,show sec%86400%60=sec%60 by omega];simp only[Cal.two,Cal.four,show sec%60%10=sec%10 by omega];apply ByteArray.ext;simp[ByteArray.data_append]
end Go.Proofs.YtmehkneofinmiaaGreatDoor

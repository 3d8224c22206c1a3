/-part 42-/
import Derived.Test.YtmehkneofinmiaaGreatDoorP41
set_option maxRecDepth 100000
set_option maxHeartbeats 8000000
namespace Go.Proofs.YtmehkneofinmiaaGreatDoor
open Go.RowKit
theorem AR {u:List UInt8}(h:u.length<2):rpF u=none:=by unfold rpF;rw[if_pos h]
theorem wU {u:List UInt8}(h:u.length<rpN u+6\/rpN u<14):rpF u=none:=by
 unfold rpF;by_cases c:u.length<2
 ·rw[if_pos c]
 ·rw[if_neg c,if_pos h]
theorem tH {u:List UInt8}(h:rpN u<14+rpL (rpP u)\/253402300799<(rpR (rpP u)).time):rpF u=none:=by
 unfold rpF;by_cases c1:u.length<2
 ·rw[if_pos c1]
 ·rw[if_neg c1];by_cases c2:u.length<rpN u+6\/rpN u<14
  ·rw[if_pos c2]
  ·rw[if_neg c2,if_pos h]
theorem Ak {u:List UInt8}{r:Rec}(h:rpF u=some r):r=rpR (rpP u):=by
 unfold rpF at h;split at h
 ·cases h
 ·split at h
  ·cases h
  ·split at h
   ·cases h
   ·split at h
    ·cases h
    ·cases h;rfl
theorem rX {u:List UInt8}(h:aA (rpR (rpP u)).key=false\/400<(rpR (rpP u)).body.length\/be (cB (rpP u)) 4≠(u.drop (2+rpN u)).take 4):rpF u=none:=by
 unfold rpF;by_cases c1:u.length<2
 ·rw[if_pos c1]
 ·rw[if_neg c1];by_cases c2:u.length<rpN u+6\/rpN u<14
  ·rw[if_pos c2]
  ·rw[if_neg c2];by_cases c3:rpN u<14+rpL (rpP u)\/253402300799<(rpR (rpP u)).time
   ·rw[if_pos c3]
   ·rw[if_neg c3,if_pos h]
theorem zY {u:List UInt8}(c1:¬ u.length<2)(c2:¬ (u.length<rpN u+6\/rpN u<14))(c3:¬ (rpN u<14+rpL (rpP u)\/253402300799<(rpR (rpP u)).time))(c4:¬ (aA (rpR (rpP u)).key=false\/400<(rpR (rpP u)).body.length\/be (cB (rpP u)) 4≠(u.drop (2+rpN u)).take 4)):rpF u=some (rpR (rpP u)):=by
 unfold rpF;rw[if_neg c1,if_neg c2,if_neg c3,if_neg c4]
theorem oA {s:ByteArray}{a n:Nat}{w:World}(h:a+n<=s.size)(hn:n<=6)(hs:s.size<=9223372036854775807){N:Nat}(hN:aI ((s.data.toList.drop a).take n)=N) :
 Calls Tryz.prog 101 #[.string s,.int .i64 a,.int .i64 n] w λ e w'=>e=.returned (.int .i64 (N:Nat))/\w'=w:=by
 refine (iU s a n w h (by omega) hs).mono ?_;rintro e w' ⟨⟨v,rfl,hv⟩,rfl⟩;rw[hN] at hv;refine⟨?_,rfl⟩;rcases hv with rfl|⟨_,hv⟩
 ·rfl
 ·have h1:=gy ((s.data.toList.drop a).take n);(have h2:((s.data.toList.drop a).take n).length<=6:=by rw[List.length_take];omega);have h3:256 ^ ((s.data.toList.drop a).take n).length<=256 ^ 6:=Nat.pow_le_pow_right (by omega) h2;rw[hN] at h1;omega
theorem ja (l:List UInt8)(n:Nat):aI (l.take n)<256 ^ n:=Nat.lt_of_lt_of_le (gy _) (Nat.pow_le_pow_right (by omega) (by rw[List.length_take];omega))
theorem vV (p t:Nat)(log:List UInt8)(a:Nat)(w:World)(POST:Ending->World->Prop)(hc0:w.cell? ⟨p,0,none⟩=some (.int .i64 (t:Nat)))(hfr:w.frozen? ⟨p,0,none⟩=false)(hp0:p<w.heap.size)(ht:t<=253402300799)(ha:a<=log.length)(ha2:a<=1000000000000000)(hlog:log.length<=9223372036854775807)
 (hno:(∀ r,rpF (log.drop a)=some r->r.time<t)->∀ w2,Below w.heap.size w w2->POST (.returned (.int .i64 0)) w2)
 (hyes:∀ r,rpF (log.drop a)=some r->t<=r.time->∀ w2,Below w.heap.size w w2->Calls Tryz.prog 104 #[.pointer (some ⟨p,0,none⟩),.int .i64 r.kind,.string ⟨r.key.toArray⟩,.int .i64 r.num,.string ⟨r.body.toArray⟩] (w2.setCell ⟨p,0,none⟩ (.int .i64 r.time)) λ e w' =>
   (e=.returned (.bool true)/\POST (.returned (.int .i64 ((rpN (log.drop a)+6:Nat):Int))) w')\/(e=.returned (.bool false)/\(∃ v,w'.cell? ⟨p,0,none⟩=some v)/\w'.frozen? ⟨p,0,none⟩=false/\POST (.returned (.int .i64 0)) (w'.setCell ⟨p,0,none⟩ (.int .i64 (t:Nat))))) :
 Calls Tryz.prog 53 #[.pointer (some ⟨p,0,none⟩),.string ⟨log.toArray⟩,.int .i64 a] w POST:=by
 have A2:Hid _:=hno;have A0:Hid _:=hyes;obtain⟨s,hS⟩:∃ S:ByteArray,S=⟨log.toArray⟩:=⟨_,rfl⟩;have hd:s.data.toList=log:=by rw[hS]
 have Ah:s.size=log.length:=by rw[hS];exact List.size_toArray
 obtain⟨u,hu⟩:∃ u,log.drop a=u:=⟨_,rfl⟩;have Bq:u.length+a=s.size:=by rw[<- hu,List.length_drop,Ah];omega
 have Ap:s.size<=9223372036854775807:=by omega
 rw[<- hS];rw[hu] at A2 A0;clear hno hyes hS ha hlog Ah;by_cases c1:u.length<2
 ·have HE:Hid _:=A2.out (λ r hr=>by rw[AR c1] at hr;cases hr) w (Below.refl _ _);clear hd hu A2 A0;go_enter Tryz.func53,Tryz.ntmps53;go_wp2;exact HE.out
 ·obtain⟨N,hN⟩:∃ N,rpN u=N:=⟨_,rfl⟩;(have Be:N<65536:=by rw[<- hN];exact ja u 2);have A6:Hid _:=oA (s:=s) (a:=a) (n:=2) (w:=w) (N:=N) (by omega) (by omega) Ap (by rw[hd,hu];exact hN);by_cases c2:u.length<N+6
  ·have HE:Hid _:=A2.out (λ r hr=>by rw[wU (Or.inl (by rw[hN];exact c2))] at hr;cases hr) w (Below.refl _ _);clear hd hu hN A2 A0;go_enter Tryz.func53,Tryz.ntmps53;go_wp2_with (go_at_call 101;refine Calls.mono A6.out ?_;rintro e w' ⟨rfl,rfl⟩);exact HE.out
  ·by_cases c3:N<14
   ·have HE:Hid _:=A2.out (λ r hr=>by rw[wU (Or.inr (by rw[hN];exact c3))] at hr;cases hr) w (Below.refl _ _);clear hd hu hN A2 A0;go_enter Tryz.func53,Tryz.ntmps53;go_wp2_with (go_at_call 101;refine Calls.mono A6.out ?_;rintro e w' ⟨rfl,rfl⟩);exact HE.out
   ·obtain⟨P,hP⟩:∃ P,s.extract (a+2) (a+2+N)=P:=⟨_,rfl⟩;obtain⟨q,hq⟩:∃ q,rpP u=q:=⟨_,rfl⟩;(have A3:P.data.toList=q:=by rw[<- hP,<- hq,Lib.extract_data];unfold rpP;rw[hN,hd,<- hu,List.drop_drop,show a+2+N-(a+2)=N by omega]);(have A7:q.length=N:=by rw[<- hq];unfold rpP;rw[hN,List.length_take,List.length_drop];omega);(have Bu:P.size=N:=by rw[Lib.size_eq,A3,A7]);obtain⟨L,hL⟩:∃ L,rpL q=L:=⟨_,rfl⟩;(have Bp:L<256:=by rw[<- hL];exact UInt8.toNat_lt _);(have e9:∀ w',(Instr.index 9 (.string P) (.int .i64 9)).run Tryz.prog w'=.ok (.int .u8 (L:Nat)) w':=λ w'=>by rw[run_index_string _ 9 P .i64 9 Tryz.underlying9,dif_pos ⟨by omega,by omega⟩];(have e2:P.data.toList[9]?=some (P.data[9]'(by show 9<P.size;omega)):=by rw[List.getElem?_eq_getElem (by rw[A3];omega),Array.getElem_toList]);rw[A3] at e2;(have e3:L=(P.data[9]'(by show 9<P.size;omega)).toNat:=by rw[<- hL];unfold rpL;rw[List.getD_eq_getElem?_getD,e2];rfl);rw[e3];rfl);obtain⟨kd,Af⟩:∃ k,(rpR q).kind=k:=⟨_,rfl⟩;(have E0:Hid (∀ w',(Instr.index 9 (.string P) (.int .i64 0)).run Tryz.prog w'=.ok (.int .u8 (kd:Nat)) w'):=λ w'=>by rw[run_index_string _ 9 P .i64 0 Tryz.underlying9,dif_pos ⟨by omega,by omega⟩];(have e2:P.data.toList[0]?=some (P.data[0]'(by show 0<P.size;omega)):=by rw[List.getElem?_eq_getElem (by rw[A3];omega),Array.getElem_toList]);rw[A3] at e2;(have e3:kd=(P.data[0]'(by show 0<P.size;omega)).toNat:=by rw[<- Af];show (q.getD 0 0).toNat=_;rw[List.getD_eq_getElem?_getD,e2];rfl);rw[e3];rfl);(have Bj:kd<256:=by rw[<- Af];exact UInt8.toNat_lt _);have B8:Hid _:=Af;clear Af;have Ar:Hid _:=iU P 1 8 w (by omega) (by omega) (by omega);go_enter Tryz.func53,Tryz.ntmps53;go_wp2_with (go_at_call_of 101 (Value.int IntKind.i64 2);refine Calls.mono A6.out ?_;rintro e w' ⟨rfl,rfl⟩);refine Calls.mono Ar.out ?_;rintro e w' ⟨⟨v,rfl,hv⟩,rfl⟩;rw[A3] at hv;obtain⟨T,hT⟩:∃ T,aI ((q.drop 1).take 8)=T:=⟨_,rfl⟩;rw[hT] at hv;have A5:(rpR q).time=T:=hT;have HV:Hid _:=hv;clear hv Ar;by_cases c4:N<14+L
    ·have HE:Hid _:=A2.out (λ r hr=>by rw[tH (Or.inl (by rw[hN,hq,hL];exact c4))] at hr;cases hr) w' (Below.refl _ _);(have Bm:(N:Int)<10+(L:Int)+4:=by omega);clear hd hu hN A2 A0 A6 hq A3 A7 hL hT A5 HV c1 c2 c3 c4;go_wp2;exact HE.out
    ·(have Bm:¬ (N:Int)<10+(L:Int)+4:=by omega);rcases HV.out.symm with ⟨hv,Bl⟩|hv
     ·have HE:Hid _:=A2.out (λ r hr=>by rw[tH (Or.inr (by rw[hq,A5];omega))] at hr;cases hr) w' (Below.refl _ _);clear hd hu hN A2 A0 A6 hq A3 A7 hL hT A5 HV c1 c2 c3 c4 Bl;subst hv;(have c5:(-1:Int)<(t:Int):=by omega);go_wp2;exact HE.out
     ·subst hv;by_cases c5:T<t
      ·have HE:Hid _:=A2.out (λ r hr=>by rw[Ak hr,hq,A5];exact c5) w' (Below.refl _ _);(have Bb:(T:Int)<(t:Int):=by omega);clear hd hu hN A2 A0 A6 hq A3 A7 hL hT A5 HV c1 c2 c3 c4 c5;go_wp2;exact HE.out
      ·(have Bb:¬ (T:Int)<(t:Int):=by omega);by_cases c6:253402300799<T
       ·have HE:Hid _:=A2.out (λ r hr=>by rw[tH (Or.inr (by rw[hq,A5];exact c6))] at hr;cases hr) w' (Below.refl _ _);(have Bh:(253402300799:Int)<(T:Int):=by omega);clear hd hu hN A2 A0 A6 hq A3 A7 hL hT A5 HV c1 c2 c3 c4 c5 c6;go_wp2;exact HE.out
       ·(have Bh:¬ (253402300799:Int)<(T:Int):=by omega);have Ah:s.size<=9223372036854775807:=Ap;obtain⟨K,hK⟩:∃ K,P.extract 10 (10+L)=K:=⟨_,rfl⟩;obtain⟨key,A4⟩:∃ k,(rpR q).key=k:=⟨_,rfl⟩;(have Ae:K=⟨key.toArray⟩:=by rw[<- hK,<- A4];apply ByteArray.ext;apply Array.toList_inj.1;rw[Lib.extract_data,A3];unfold rpR;rw[hL,show 10+L-10=L by omega]);(have B5:Hid (Calls Tryz.prog 102 #[.string ⟨key.toArray⟩] w' λ e w2=>e=.returned (.bool (aA key))/\w2=w'):=by have:=jp K w' (by rw[<- hK];rw[ByteArray.size_extract];omega);rw[Ae] at this;exact this);obtain⟨V,hV⟩:∃ V,aI ((q.drop (10+L)).take 4)=V:=⟨_,rfl⟩;(have Bn:V<4294967296:=by rw[<- hV];exact ja _ 4);(have Ao:Hid (Calls Tryz.prog 101 #[.string P,.int .i64 (10+(L:Int)),.int .i64 4] w' λ e w2=>e=.returned (.int .i64 (V:Nat))/\w2=w'):=by have:=oA (s:=P) (a:=10+L) (n:=4) (w:=w') (N:=V) (by omega) (by omega) (by omega) (by rw[A3];exact hV);rw[show ((10+L:Nat):Int)=10+(L:Int) by omega] at this;exact this);obtain⟨Bd,Aa⟩:∃ B,P.extract (14+L) N=B:=⟨_,rfl⟩;obtain⟨body,A1⟩:∃ b,(rpR q).body=b:=⟨_,rfl⟩;(have Ac:Bd=⟨body.toArray⟩:=by rw[<- Aa,<- A1];apply ByteArray.ext;apply Array.toList_inj.1;rw[Lib.extract_data,A3];unfold rpR;rw[hL];show ((q.drop (14+L)).take (N-(14+L)))=q.drop (14+L);rw[List.take_of_length_le (by rw[List.length_drop];omega)]);(have Ax:body.length=N-(14+L):=by rw[<- A1];unfold rpR;rw[hL];show (q.drop (14+L)).length=_;rw[List.length_drop];omega);have Aj:Hid _:=hV;have Al:Hid _:=A3;clear hV A6 HV;go_wp2_with fail;refine Calls.mono B5.out ?_;rintro e w2 ⟨rfl,rfl⟩;go_wp2_with fail;refine Calls.mono Ao.out ?_;rintro e w2 ⟨rfl,rfl⟩;clear B5 Ao;go_wp2_with fail;rw[Aa];(have Ay:Bd.size=body.length:=by rw[Ac,Lib.size_eq]);cases hko:aA key with
        | false =>have HE:Hid _:=A2.out (λ r hr=>by rw[rX (Or.inl (by rw[hq,A4];exact hko))] at hr;cases hr);clear hd hu hN A2 A0 hq A7 hL hT A5 c1 c2 c3 c4 c5 c6 hP hK Ae Aa Ac A4 A1 Aj Al;go_quiet (fail);go_wp2;exact HE.out _ ⟨rfl,rfl,rfl,Nat.le_refl _,λ _ _=>rfl⟩
        | true =>
          by_cases c7:400<body.length
          ·have HE:Hid _:=A2.out (λ r hr=>by rw[rX (Or.inr (Or.inl (by rw[hq,A1];exact c7)))] at hr;cases hr);have Bf:decide ((400:Int)<(Bd.size:Int))=true:=decide_eq_true (by omega);clear hd hu hN A2 A0 hq A7 hL hT A5 c1 c2 c3 c4 c5 c6 hP hK Ae Aa Ac A4 A1 Aj Al Ay Ax c7;go_quiet (fail);go_wp2;exact HE.out _ ⟨rfl,rfl,rfl,Nat.le_refl _,λ _ _=>rfl⟩
          ·have Bf:decide ((400:Int)<(Bd.size:Int))=false:=decide_eq_false (by omega);(have Bv:(a:Int)+2+(N:Int)+4<=(s.size:Int):=by omega);(have w1:IntKind.i64.wrap ((a:Int)+2)=(a:Int)+2:=by rw[IntKind.wrap_i64];omega);(have Bw:IntKind.i64.wrap ((a:Int)+2+(N:Int))=(a:Int)+2+(N:Int):=by rw[IntKind.wrap_i64];omega);(have w3:IntKind.i64.wrap ((a:Int)+2+(N:Int)+4)=(a:Int)+2+(N:Int)+4:=by rw[IntKind.wrap_i64];omega);obtain⟨C,hC⟩:∃ C,s.extract (a+2+N) (a+2+N+4)=C:=⟨_,rfl⟩;(have At:C.data.toList=(u.drop (2+N)).take 4:=by rw[<- hC,Lib.extract_data,hd,<- hu,List.drop_drop,show a+2+N+4-(a+2+N)=4 by omega,show a+2+N=a+(2+N) by omega]);obtain⟨D,hD⟩:∃ D:ByteArray,D=⟨(be (cB q) 4).toArray⟩:=⟨_,rfl⟩;have Ad:Hid (∀ (d:Nat) (os:Array Obj),_):=λ d os=>Calls.regrown_of (w:=w2) (jZ q (Sort.grow (redrawn w2 d) os) (by omega));(have B1:P=⟨q.toArray⟩:=by apply ByteArray.ext;apply Array.toList_inj.1;rw[Al.out]);rw[<- hD,<- B1] at Ad;(have Ab:∀ w',(Instr.slice 9 (.string s) (some (.int .i64 ((a:Int)+2+(N:Int)))) (some (.int .i64 ((a:Int)+2+(N:Int)+4))) none).run Tryz.prog w'=.ok (.string C) w':=λ w'=>by (have q1:((a:Int)+2+(N:Int)).toNat=a+2+N:=by omega);(have q2:((a:Int)+2+(N:Int)+4).toNat=a+2+N+4:=by omega);rw[run_slice_string_if w' 9 s .i64 .i64 _ _ Tryz.underlying9,if_pos ⟨by omega,by omega⟩,if_pos ⟨by omega,by omega⟩,q1,q2,hC]);have B7:Hid (¬ u.length<2):=c1;(have B9:Hid (¬ (u.length<rpN u+6\/rpN u<14)):=by show ¬ _;rw[hN];omega);(have B6:Hid (¬ (rpN u<14+rpL (rpP u)\/253402300799<(rpR (rpP u)).time)):=by show ¬ _;rw[hN,hq,hL,A5];omega);have Ba:Hid _:=c7;have Bk:Hid _:=Ac;have As:Hid _:=hD;have Aq:Hid _:=At;have Au:Hid _:=A1;have B0:Hid _:=A4;have Ai:Hid _:=hN;have A9:Hid _:=hq;have Bi:Hid _:=hL;have B3:Hid _:=A5;clear At;clear hd hu hq A7 hL hT A5 c1 c2 c3 c4 c5 c6 hP hK Ae Aa Ay Ax c7 B1 Ac hD A1 A4 hN;refine wp_region_quiet_below (by kernel_rfl) (by kernel_rfl) ?_;(repeat (first|go_big_quiet_step ((go_at_call 103;exact Ad.out _ _))|quiet_step ((go_at_call 103;exact Ad.out _ _))));refine wpQuiet_nil ?_;intro w3 B4;(have Ag:Below w2.heap.size w2 w3:=by obtain⟨⟨dq,Bg⟩,An⟩:=B4;rw[An];exact below_regrown w2 dq Bg);have Br:w3.cell? ⟨p,0,none⟩=some (.int .i64 (t:Nat)):=(Ag.cell (p:=⟨p,0,none⟩) hp0).trans hc0;(have Bt:w3.frozen? ⟨p,0,none⟩=false:=by have:=hfr;simp only[World.frozen?] at this ⊢;rw[Ag.block p hp0];exact this);have Az:Hid _:=Ag;clear B4 Ad Ag hc0 hfr;by_cases hDC:D=C
           ·have Aw:(rpR q).key=key:=B0.out;(have A8:be (cB (rpP u)) 4=(u.drop (2+rpN u)).take 4:=by rw[A9.out,Ai.out,<- Aq.out,<- hDC,As.out]);have Av:rpF u=some (rpR (rpP u)):=zY B7.out B9.out B6.out (by
             rw[A9.out,Aw,Au.out];rintro (h1|h1|h1)
             ·rw[hko] at h1;cases h1
             ·exact Ba.out h1
             ·rw[A9.out] at A8
              exact h1 A8)
            have B2:Hid _:=A0.out (rpR (rpP u)) Av (by rw[A9.out,B3.out];omega) w3 Az.out;rw[A9.out,B0.out,Au.out,B8.out,B3.out,show (rpR q).num=V by rw[<- Aj.out,<- Bi.out];rfl,Ai.out,<- Bk.out] at B2;have e0:=E0.out;(have Am:(!(D.toList==C.toList))=false:=by rw[hDC,beq_self_eq_true];rfl);clear Av A8 Aw E0 e9 Ab hDC;go_wp2_with fail
            ·exact absurd ‹(!(D.toList==C.toList))=true› (by rw[Am];decide)
            ·refine Calls.mono B2.out ?_;rintro e w4 (⟨rfl,hp⟩|⟨rfl,⟨v4,Bc⟩,Bo,hp⟩)
             ·have HP:Hid _:=hp;clear hp;go_wp2;have:=HP.out;rw[show ((N+6:Nat):Int)=2+(N:Int)+4 by omega] at this;exact this
             ·have HP:Hid _:=hp;have Bs:=World.block_lt_of_cell? _ _ Bc;clear hp;go_wp2;exact HP.out
           ·have HE:Hid _:=A2.out (λ r hr=>by
             rw[rX (Or.inr (Or.inr (by
              rw[A9.out,Ai.out,<- Aq.out];intro e;apply hDC;rw[As.out];apply ByteArray.ext;apply Array.toList_inj.1
              exact e)))] at hr
             cases hr) w3 Az.out
            (have Am:(!(D.toList==C.toList))=true:=by rw[Bool.not_eq_true',beq_eq_false_iff_ne];intro e;rw[ByteArray.toList_eq,ByteArray.toList_eq] at e;exact hDC (ByteArray.ext (Array.toList_inj.1 e)));clear A0 A2 e9 Ab E0 hDC;go_wp2
            ·exact HE.out
            ·exact absurd ‹(!(D.toList==C.toList))=false› (by rw[Am];decide)
def yG (w:World)(p t:Nat)(vs:Value)(o:Option Rst)(e:Ending)(w':World):Prop:=match o with
 | none=>e=.returned (.bool false)/\w'=w
 | some s=>e=.returned (.bool true)/\∃ vs',aC w' p t s.l s.J vs'/\(∀ g,vs'.ownBlock=some g->vs.ownBlock=some g\/w.heap.size<=g)/\Off (λ k=>k=p\/vs.ownBlock=some k) w w'
theorem pu (p t:Nat)(l:List Itm)(J:List UInt8)(vs:Value)(k:Nat)(key:List UInt8)(v:Nat)(body:List UInt8)(w:World)(h:aC w p t l J vs)(hl:l.length+1<1000000000000)(hJ:J.length<=900000000000000)(ht:t<4611686018427387904)(hn:aH key l<1000000000000)(hk:key.length<=1000)(hb:body.length<=1000)(hv:v<4611686018427387904)(hi:∀ it∈l,it.num<4611686018427387904/\it.key.length<=1000) :
 Calls Tryz.prog 104 #[.pointer (some ⟨p,0,none⟩),.int .i64 k,.string ⟨key.toArray⟩,.int .i64 v,.string ⟨body.toArray⟩] w (yG w p t vs (ey t ⟨l,J⟩ k key v body)):=by
 have A2:Hid _:=bl p t l J vs key w h;have A4:Hid _:=iz p t l J vs key w h;have A3:Hid _:=fG p t l J vs key w h;have A1:Hid _:=db p t l J vs key (v:Int) w h;have Ac:Hid _:=fC p t l J vs key false body w h hl hJ ht hn hk hb;have Ab:Hid _:=fC p t l J vs key true [] w h hl hJ ht hn hk (by simp);have Aa:Hid (∀ i it,l[i]?=some it->_):=λ i it hit=>jT p t l J vs i it w h hit hJ ht (hi it (List.mem_of_getElem? hit)).1 (hi it (List.mem_of_getElem? hit)).2;obtain⟨o,ho⟩:∃ o,ey t ⟨l,J⟩ k key v body=o:=⟨_,rfl⟩;have HO:Hid _:=ho;rw[ho];have A5:((⟨body.toArray⟩:ByteArray)=⟨#[]⟩) ↔ body=[]:=by
  constructor
  ·intro e;have e2:=congrArg (λ b:ByteArray=>b.data.toList) e;simpa using e2
  ·rintro rfl;rfl
 have A6:Hid (o=none->yG w p t vs o (.returned (.bool false)) w):=λ e=>by rw[e];exact⟨rfl,rfl⟩
 have Ai:=hn;obtain⟨L,hL⟩:∃ L,aH key l=L:=⟨_,rfl⟩;obtain⟨R,hR⟩:∃ R,g7 key l=R:=⟨_,rfl⟩;obtain⟨S,hS⟩:∃ S,bg key l=S:=⟨_,rfl⟩;obtain⟨F,hF⟩:∃ F,bH key (v:Int) l=F:=⟨_,rfl⟩;have Ad:Hid (∀ i,F=some i->∃ it,l[i]?=some it):=λ i e=>⟨_,List.getElem?_eq_getElem (dZ (hF.trans e))⟩
 have A0:Hid (o=(if k=1 then (if R=true/\v=L+1 then some ⟨l++[⟨key,L+1,t,false,body,false⟩],J++aF 1 t key (L+1) body⟩ else none)
  else if k=2 then (if (R=true/\v=L+1)/\S.isSome=true/\body=[] then some ⟨l++[⟨key,L+1,t,true,[],false⟩],J++aF 2 t key (L+1) []⟩ else none)
  else if k=3/\body=[] then (match F with
   | none=>none
   | some i=>match l[i]? with
     | none=>none
     | some it=>some ⟨l.set i ⟨it.key,it.num,it.time,it.mark,it.body,true⟩,J++aF 3 t it.key it.num []⟩)
  else none)):=by
  show _=_;rw[<- ho,<- hL,<- hR,<- hS,<- hF];rfl
 rw[hL] at A3 Ac Ab Ai;rw[hR] at A4;rw[hS] at A2;rw[hF] at A1;clear ho HO h hl hJ ht hn hk hb hi hL hR hS hF;by_cases k1:k=1
 ·subst k1;by_cases hy:R=true/\v=L+1
  ·obtain⟨rfl,rfl⟩:=hy;have HE:Hid _:=A0.out.trans ((if_pos rfl).trans (if_pos ⟨rfl,rfl⟩));clear A0 A5;go_enter Tryz.func104,Tryz.ntmps104;go_wp2_with (first
    | (go_at_call 110;refine Calls.mono A2.out ?_;rintro e w' ⟨rfl,rfl⟩)
    | (go_at_call 164;refine Calls.mono A4.out ?_;rintro e w' ⟨rfl,rfl⟩)
    | (go_at_call 113;refine Calls.mono A3.out ?_;rintro e w' ⟨rfl,rfl⟩)
    | (go_at_call 114;refine Calls.mono A1.out ?_;rintro e w' ⟨rfl,rfl⟩)
    | (go_at_call 165;refine Calls.mono Ac.out ?_;rintro e w' ⟨rfl,A9⟩))
   go_ret;rw[HE.out];exact⟨rfl,A9⟩
  ·have HE:Hid (o=none):=A0.out.trans ((if_pos rfl).trans (if_neg hy));have Ae:R=true->¬ (v:Int)=(L:Int)+1:=λ e e2=>hy ⟨e,by omega⟩;clear A0 A5 hy;cases R;all_goals
    go_enter Tryz.func104,Tryz.ntmps104;first
    | have Ak:=Ae rfl
    | skip
    clear Ae;go_wp2_with (first
     | (go_at_call 110;refine Calls.mono A2.out ?_;rintro e w' ⟨rfl,rfl⟩)
     | (go_at_call 164;refine Calls.mono A4.out ?_;rintro e w' ⟨rfl,rfl⟩)
     | (go_at_call 113;refine Calls.mono A3.out ?_;rintro e w' ⟨rfl,rfl⟩)
     | (go_at_call 114;refine Calls.mono A1.out ?_;rintro e w' ⟨rfl,rfl⟩))
    go_ret;exact A6.out HE.out
 ·by_cases k2:k=2
  ·subst k2;(have A8:(0<=dR S) ↔ S.isSome=true:=by cases S<;>simp[dR]);obtain⟨A,hA⟩:∃ A,dR S=A:=⟨_,rfl⟩;rw[hA] at A8 A2;by_cases hy:(R=true/\v=L+1)/\S.isSome=true/\body=[]
   ·have HE:Hid _:=A0.out.trans ((if_neg (by decide)).trans ((if_pos rfl).trans (if_pos hy)));obtain⟨⟨rfl,rfl⟩,h3,rfl⟩:=hy;have Al:=A8.2 h3;clear A0 A5 A8 h3 hA;go_enter Tryz.func104,Tryz.ntmps104;go_wp2_with (first
     | (go_at_call 110;refine Calls.mono A2.out ?_;rintro e w' ⟨rfl,rfl⟩)
     | (go_at_call 164;refine Calls.mono A4.out ?_;rintro e w' ⟨rfl,rfl⟩)
     | (go_at_call 113;refine Calls.mono A3.out ?_;rintro e w' ⟨rfl,rfl⟩)
     | (go_at_call 114;refine Calls.mono A1.out ?_;rintro e w' ⟨rfl,rfl⟩)
     | (go_at_call 165;refine Calls.mono Ab.out ?_;rintro e w' ⟨rfl,A9⟩))
    go_ret;rw[HE.out];exact⟨rfl,A9⟩
   ·have HE:Hid (o=none):=A0.out.trans ((if_neg (by decide)).trans ((if_pos rfl).trans (if_neg hy)));have A7:¬ (R=true/\(v:Int)=(L:Int)+1/\0<=A/\(⟨body.toArray⟩:ByteArray)=⟨#[]⟩):=λ hh=>hy ⟨⟨hh.1,by omega⟩,A8.1 hh.2.2.1,A5.1 hh.2.2.2⟩;clear A0 A5 hy A8 hA;by_cases r1:R=true
    ·by_cases r2:(v:Int)=(L:Int)+1
     ·(obtain rfl:v=L+1:=by omega);by_cases r3:0<=A
      ·have r4:¬ (⟨body.toArray⟩:ByteArray)=⟨#[]⟩:=λ e=>A7 ⟨r1,r2,r3,e⟩;have Aj:body.isEmpty=false:=by
        cases body with
        | nil=>exact absurd rfl r4
        | cons a b=>rfl
       clear A7 r2 r4;subst r1;go_enter Tryz.func104,Tryz.ntmps104;go_wp2_with (first
        | (go_at_call 110;refine Calls.mono A2.out ?_;rintro e w' ⟨rfl,rfl⟩)
        | (go_at_call 164;refine Calls.mono A4.out ?_;rintro e w' ⟨rfl,rfl⟩)
        | (go_at_call 113;refine Calls.mono A3.out ?_;rintro e w' ⟨rfl,rfl⟩)
        | (go_at_call 114;refine Calls.mono A1.out ?_;rintro e w' ⟨rfl,rfl⟩))
       go_ret;exact A6.out HE.out
      ·clear A7 r2;subst r1;go_enter Tryz.func104,Tryz.ntmps104;go_wp2_with (first
        | (go_at_call 110;refine Calls.mono A2.out ?_;rintro e w' ⟨rfl,rfl⟩)
        | (go_at_call 164;refine Calls.mono A4.out ?_;rintro e w' ⟨rfl,rfl⟩)
        | (go_at_call 113;refine Calls.mono A3.out ?_;rintro e w' ⟨rfl,rfl⟩)
        | (go_at_call 114;refine Calls.mono A1.out ?_;rintro e w' ⟨rfl,rfl⟩))
       go_ret;exact A6.out HE.out
     ·clear A7;subst r1;go_enter Tryz.func104,Tryz.ntmps104;go_wp2_with (first
       | (go_at_call 110;refine Calls.mono A2.out ?_;rintro e w' ⟨rfl,rfl⟩)
       | (go_at_call 164;refine Calls.mono A4.out ?_;rintro e w' ⟨rfl,rfl⟩)
       | (go_at_call 113;refine Calls.mono A3.out ?_;rintro e w' ⟨rfl,rfl⟩)
       | (go_at_call 114;refine Calls.mono A1.out ?_;rintro e w' ⟨rfl,rfl⟩))
      go_ret;exact A6.out HE.out
    ·(have Af:R=false:=by simpa using r1);clear A7 r1;subst Af;go_enter Tryz.func104,Tryz.ntmps104;go_wp2_with (first
      | (go_at_call 110;refine Calls.mono A2.out ?_;rintro e w' ⟨rfl,rfl⟩)
      | (go_at_call 164;refine Calls.mono A4.out ?_;rintro e w' ⟨rfl,rfl⟩)
      | (go_at_call 113;refine Calls.mono A3.out ?_;rintro e w' ⟨rfl,rfl⟩)
      | (go_at_call 114;refine Calls.mono A1.out ?_;rintro e w' ⟨rfl,rfl⟩))
     go_ret;exact A6.out HE.out
  ·by_cases k3:k=3
   ·subst k3;cases F with
    | none =>
      have HE:Hid (o=none):=A0.out.trans ((if_neg (by decide)).trans ((if_neg (by decide)).trans (by split<;>rfl)));clear A0 A5;simp only[dR] at A1;go_enter Tryz.func104,Tryz.ntmps104;go_wp2_with (first
       | (go_at_call 110;refine Calls.mono A2.out ?_;rintro e w' ⟨rfl,rfl⟩)
       | (go_at_call 164;refine Calls.mono A4.out ?_;rintro e w' ⟨rfl,rfl⟩)
       | (go_at_call 113;refine Calls.mono A3.out ?_;rintro e w' ⟨rfl,rfl⟩)
       | (go_at_call 114;refine Calls.mono A1.out ?_;rintro e w' ⟨rfl,rfl⟩))
      go_ret;exact A6.out HE.out
    | some i =>
      simp only[dR] at A1;by_cases hb0:body=[]
      ·subst hb0;obtain⟨it,hit⟩:=Ad.out i rfl;have Ag:Hid _:=Aa.out i it hit;have HE:Hid (o=some ⟨l.set i ⟨it.key,it.num,it.time,it.mark,it.body,true⟩,J++aF 3 t it.key it.num []⟩):=A0.out.trans ((if_neg (by decide)).trans ((if_neg (by decide)).trans ((if_pos ⟨rfl,rfl⟩).trans (by simp only[hit]))));clear A0 A5 hit Aa Ad;go_enter Tryz.func104,Tryz.ntmps104;go_wp2_with (first
        | (go_at_call 110;refine Calls.mono A2.out ?_;rintro e w' ⟨rfl,rfl⟩)
        | (go_at_call 164;refine Calls.mono A4.out ?_;rintro e w' ⟨rfl,rfl⟩)
        | (go_at_call 113;refine Calls.mono A3.out ?_;rintro e w' ⟨rfl,rfl⟩)
        | (go_at_call 114;refine Calls.mono A1.out ?_;rintro e w' ⟨rfl,rfl⟩)
        | (go_at_call 166;refine Calls.mono Ag.out ?_;rintro e w' ⟨⟨u,rfl⟩,hr,Ah⟩))
       go_ret;rw[HE.out];exact⟨rfl,vs,hr,λ g hg=>Or.inl hg,Ah⟩
      ·have HE:Hid (o=none):=A0.out.trans ((if_neg (by decide)).trans ((if_neg (by decide)).trans (if_neg (λ hh=>hb0 hh.2))));have r4:¬ (⟨body.toArray⟩:ByteArray)=⟨#[]⟩:=λ e=>hb0 (A5.1 e);have Aj:body.isEmpty=false:=by
        cases body with
        | nil=>exact absurd rfl r4
        | cons a b=>rfl
       clear A0 A5 hb0 r4;go_enter Tryz.func104,Tryz.ntmps104;go_wp2_with (first
        | (go_at_call 110;refine Calls.mono A2.out ?_;rintro e w' ⟨rfl,rfl⟩)
        | (go_at_call 164;refine Calls.mono A4.out ?_;rintro e w' ⟨rfl,rfl⟩)
        | (go_at_call 113;refine Calls.mono A3.out ?_;rintro e w' ⟨rfl,rfl⟩)
        | (go_at_call 114;refine Calls.mono A1.out ?_;rintro e w' ⟨rfl,rfl⟩))
       go_ret;exact A6.out HE.out
   ·have HE:Hid (o=none):=A0.out.trans ((if_neg k1).trans ((if_neg k2).trans (if_neg (λ hh=>k3 hh.1))));(have q1:¬ (k:Int)=1:=by omega);(have q2:¬ (k:Int)=2:=by omega);(have q3:¬ (k:Int)=3:=by omega);clear A0 A5 k1 k2 k3;go_enter Tryz.func104,Tryz.ntmps104;go_wp2_with (first
     | (go_at_call 110;refine Calls.mono A2.out ?_;rintro e w' ⟨rfl,rfl⟩)
     | (go_at_call 164;refine Calls.mono A4.out ?_;rintro e w' ⟨rfl,rfl⟩)
     | (go_at_call 113;refine Calls.mono A3.out ?_;rintro e w' ⟨rfl,rfl⟩)
     | (go_at_call 114;refine Calls.mono A1.out ?_;rintro e w' ⟨rfl,rfl⟩))
    go_ret;exact A6.out HE.out
end Go.Proofs.YtmehkneofinmiaaGreatDoor

/-part 18-/
import Derived.Test.YtmehkneofinmiabGreatDoorP17
import Derived.Deep.Slices
open Go.Proofs.Tryz
open Go.Value renaming string->ID,int->IF,pointer->J1,bool->Ln,slice->LL,tuple->Mu,agg->Nd
open Go.IntKind renaming i64->IH,wrap_i64->Mn,u8->NO
open Go.Obj renaming cells->IR
open Option renaming some->I3,none->J0
open Go.Proofs.Tryz renaming prog->Jx,underlying3->LS,ntmps102->MY
open Go.Calls renaming mono->Kf
open Go.Act renaming put->Ks
open Nat renaming lt_of_lt_of_le->Kx,le_refl->K1,le_of_lt->Lo,le_trans->L3,zero_le->MA,le_succ_of_le->M1
open Go.Ending renaming returned->K0
open Go renaming heap_alloc_new->K2,Calls->Lq,heap_alloc_old->LI,World->LR,Value->L1,bodyPost_ret->L4,undef->L5,wp_region_held_drew->MD,results_tmp2->Nm,wpAnyH_done->Nx
open Go.ByteArray renaming toList_eq->Lw
open Go.World renaming cell?->Ly,cell?_of_block->L2,frozen?->MT
open Or renaming inr->Lz,inl->LN
open Go.Lib renaming decDigits->LO
open Bool renaming true->Mb,false->Mz
open Array renaming toList_inj->Mp
set_option maxRecDepth 100000
set_option maxHeartbeats 8000000
namespace Go.Proofs.YtmehkneofinmiabGreatDoor
open Go.RowKit
variable {B:Nat->Prop}{d n s:Nat}{σ:St}{M:Mem}{vs:Nat->L1}
def oL:List UInt8:=[110,111,110,101]
def kX (E:IP)(C:Int):List UInt8 :=
 match E.IB[(pk C E.IB.length).toNat]? with
 | none=>oL
 | some v=>if v.mark then oL else dj 16 (JG v.body)
theorem sn (E:IP)(C:Int):dT (kX E C)=Mb/\(∀c∈kX E C,c≠13/\c≠10)/\(kX E C).length<=16:=by
 have hN:dT oL=Mb/\(∀c∈oL,c≠13/\c≠10)/\oL.length<=16:=by decide
 unfold kX;split
 ·exact hN
 ·split
  ·exact hN
  ·exact⟨(ny _).1,(ny _).2,Nat.le_of_eq (oJ _ _)⟩
noncomputable def jC (σ:St)(k a b c:Int):St :=
 if pk k 8<=2 then(bF σ (bp eB (47::IW (pk a 5).toNat) [] (dm b))).2
 else if pk k 8=3 then(bF σ (bp eB (47::IW (pk a 5).toNat) (rT++fS) (dm b))).2
 else if pk k 8=4 then(bF σ (bp eB (47::IW (pk a 5).toNat) (iH (kX (IE σ (pk a 5).toNat) c)++fS) (dm b))).2
 else if pk k 8=5 then(bF σ (bp eV (47::IW (pk a 5).toNat) [] [])).2
 else if pk k 8=6 then(bF σ (bp eV (47::(IW (pk a 5).toNat++[63]++([118,61]++LO (1+(pk b ((IE σ (pk a 5).toNat).last+2:Nat)).toNat)))) [] [])).2
 else⟨σ.time+(pk b 5000).toNat,σ.Iz,σ.log⟩
def Jl (x:Int):Prop := -9223372036854775808<=x/\x<=9223372036854775807
theorem fH (c:Int):(dm c).length<100:=by
 have p9:=bZ c 9 (by omega);have p4:=bZ c 4 (by omega);have:=ec (n:=(pk c 4).toNat) (k:=1) (by omega) (by omega);simp[dm];omega
def cC (B:Nat->Prop)(b s n c:Nat)(σ':St)(w:LR)(e:Ending)(w':LR):Prop:=e=K0 (Ln Mb)/\(∃M' vs' d',Bk B w' b s n σ' M' vs' d' (c+1))/\Off B w w'
theorem zv {b:Nat}{c:Nat}(i:Nat)(hi:i<5)(w:LR)(h:Bk B w b s n σ M vs d c)(hc:c<1000) :
 Lq Jx 43 #[J1 (I3 ⟨b,0,J0⟩),IF IH i] w (cC B b s n c (bF σ (bp eV (47::IW i) [] [])).2 w):=by
 have ha:=Bq (σ:=σ) (kR (db i)) (Lz h.many);by_cases Tn:(ax (ae σ.Iz (IW i))).isSome=Mz
 ·rw[if_pos Tn] at ha;refine(mi i hi w h hc _ ha (LN ⟨Tn,rfl⟩)).mono ?_;rintro e w' ⟨rfl,⟨M',hB⟩,hO⟩;refine⟨rfl,⟨M',vs,d,?_⟩,hO⟩;rw[ha];exact hB
 ·rw[if_neg Tn] at ha;have A0:(ax (IE σ i)).isSome=Mb:=by
   cases h1:(ax (IE σ i)).isSome with
   | true=>rfl
   | false=>exact absurd h1 Tn
  by_cases h20:20<=(ae σ.Iz (IW i)).IB.length
  ·rw[if_pos h20] at ha;refine(mi i hi w h hc _ ha (Lz ⟨A0,h20,rfl⟩)).mono ?_;rintro e w' ⟨rfl,⟨M',hB⟩,hO⟩;refine⟨rfl,⟨M',vs,d,?_⟩,hO⟩;rw[ha];exact hB
  ·rw[if_neg h20] at ha;refine(yE i hi w h hc (by show(ae σ.Iz (IW i)).IB.length<20;omega) A0 ha).mono ?_;rintro e w' ⟨rfl,⟨M',A1,hS,hb,hv⟩,hO⟩;refine⟨rfl,⟨M',A1,d+1,?_⟩,hO⟩;rw[ha];have A2:=(da (db i)).2.1;exact h.of hS i hi ⟨IW i,(IE σ i).last+1,(IE σ i).IB++[⟨(IE σ i).last+1,σ.time,Mb,[]⟩]⟩ rfl rfl rfl (by simp[eW];omega) (by have:=h.ls i;show(IE σ i).last+1<=_;omega) hb (by have:=h.dn;omega) hv
theorem AA {b:Nat}{c:Nat}(k a x y:Int)(hk:pk k 8<=2)(w:LR)(h:Bk B w b s n σ M vs d c)(hc:c<1000)(ik:Jl k)(ia:Jl a)(ix:Jl x)(iy:Jl y) :
 Lq Jx 24 #[J1 (I3 ⟨b,0,J0⟩),Nd #[IF IH k,IF IH a,IF IH x,IF IH y]] w (cC B b s n c ((bF σ (bp eB (47::IW (pk a 5).toNat) [] (dm x))).2) w):=by
 have p5:=bZ a 5 (by omega);have p8:=bZ k 8 (by omega);obtain⟨i,hi⟩:∃n:Nat,pk a 5=n:=⟨(pk a 5).toNat,by omega⟩;have A6:i<5:=by omega
 try rw[show(pk a 5).toNat=i by omega]
 have Am:=h.bk.lt;obtain⟨q0,q1,q2,q3,q4,hq⟩:=cX (ax (IE σ i));obtain⟨tB,Ak⟩:=IG ((ax (IE σ i)).isSome);have HQ:Hid (∀z,Below w.heap.size w z->Lq Jx 18 #[J1 (I3 ⟨b,1+i*3,J0⟩)] z λe w'=>e=K0 (Mu #[Nd #[IF IH q0,IF IH q1,Ln q2,ID q3,ID q4],Ln tB])/\Below z.heap.size z w'):=by intro z hz;have Ab:=h.below hz;have:=du b (1+i*3) (vs i) (IE σ i) z (Ab.bk.ck i A6).2.1 (Ab.bk.row i A6) (by have:=(h.facts i).1;omega);rw[hq,Ak] at this;exact this
 obtain⟨⟨Ar,Aq⟩,⟨Ap,An⟩,⟨Ai,Ah⟩,⟨As,Ao⟩⟩:Jl k/\Jl a/\Jl x/\Jl y:=⟨ik,ia,ix,iy⟩;have Ad:Hid (∀y,Below w.heap.size w y->Lq Jx 42 #[IF IH x] y λe w'=>e=K0 (ID ⟨(dm x).toArray⟩)/\Below y.heap.size y w') :=
  λy hy=>fA x y (h.Js.env.tb.below hy).b Ai Ah
 have HB:=IA h;obtain⟨kk,Af⟩:∃n:Nat,pk k 8=n:=⟨(pk k 8).toNat,by omega⟩;have A4:kk=0\/kk=1\/kk=2:=by omega
 have Ac:Hid (∀y,Below w.heap.size w y->Lq Jx 41 #[J1 (I3 ⟨b,0,J0⟩),IF IH i,ID ⟨#[]⟩,ID ⟨(dm x).toArray⟩,Ln Mb] y (cC B b s n c (bF σ (bp eB (47::IW i) [] (dm x))).2 y)) :=
  λy hy=>nJ i A6 [] (dm x) y (h.below hy) hc (by decide) (fH x) k0 (ju (db i) (fH x)) ⟨rfl,rfl⟩ Mb (by rw[gZ];rfl)
 clear h;go_enter func24,ntmps24;go_wp2_with (go_at_call 10;refine(bo _ _ _ (by omega) (by omega) (by omega) (by omega)).mono ?_;rintro e w' ⟨rfl,rfl⟩;try rw[hi]);have A8:Below w.heap.size w (w.alloc (IR #[IF IH k,IF IH a,IF IH x,IF IH y] 58)):=(Below.refl _ _).alloc (K1 _) _;have A9:=K2 w (IR #[IF IH k,IF IH a,IF IH x,IF IH y] 58);have A2:w.heap.size<(w.alloc (IR #[IF IH k,IF IH a,IF IH x,IF IH y] 58)).heap.size:=by simp
 refine Kf (HQ.out _ A8) ?_;rintro e w1 ⟨rfl,A3⟩;have A5:Below w.heap.size w w1:=A8.trans (A3.mono (Lo A2));have A7:=(A3.block _ A2).trans A9;have Aa:w.heap.size<w1.heap.size:=Kx A2 A3.size;clear A8 A3 A9 A2;have A1:Below w.heap.size w (w1.alloc (IR #[IF IH q0,IF IH q1,Ln q2,ID q3,ID q4] 42)):=A5.alloc (Lo Aa) _;have Ae:=(LI w1 (IR #[IF IH q0,IF IH q1,Ln q2,ID q3,ID q4] 42) Aa).trans A7;obtain⟨o0,o1,o2,o3⟩:=MM A7;clear Ae A7;obtain⟨X,hX⟩:=exj (w1.alloc (IR #[IF IH q0,IF IH q1,Ln q2,ID q3,ID q4] 42));rw[<-hX] at A1;rcases A4 with rfl|rfl|rfl;all_goals
  go_wp2_with (first
   | (go_at_call 10;refine(bo _ _ _ (by omega) (by omega) (by omega) (by omega)).mono ?_;rintro e w' ⟨rfl,rfl⟩;try rw[Af])
   | (go_at_call 42;rw[<-hX];refine Kf (Ad.out _ A1) ?_;rintro e w5 ⟨rfl,Aj⟩;have A0:Below w.heap.size w w5:=A1.trans (Aj.mono A1.size))
   | (go_at_call 41;refine Kf (Ac.out _ A0) ?_;rintro e w6 ⟨rfl,Al,Ag⟩))
  go_ret;exact⟨rfl,Al,(Off.of_below A0).trans Ag⟩
theorem yo {b:Nat}{c:Nat}(k a x y:Int)(hk:pk k 8=3)(w:LR)(h:Bk B w b s n σ M vs d c)(hc:c<1000)(ik:Jl k)(ia:Jl a)(ix:Jl x)(iy:Jl y) :
 Lq Jx 24 #[J1 (I3 ⟨b,0,J0⟩),Nd #[IF IH k,IF IH a,IF IH x,IF IH y]] w (cC B b s n c ((bF σ (bp eB (47::IW (pk a 5).toNat) (rT++fS) (dm x))).2) w):=by
 have p5:=bZ a 5 (by omega);have p8:=bZ k 8 (by omega);obtain⟨i,hi⟩:∃n:Nat,pk a 5=n:=⟨(pk a 5).toNat,by omega⟩;have A5:i<5:=by omega
 try rw[show(pk a 5).toNat=i by omega]
 have Al:=h.bk.lt;obtain⟨q0,q1,q2,q3,q4,hq⟩:=cX (ax (IE σ i));obtain⟨tB,Ab⟩:=IG ((ax (IE σ i)).isSome);have HQ:Hid (∀z,Below w.heap.size w z->Lq Jx 18 #[J1 (I3 ⟨b,1+i*3,J0⟩)] z λe w'=>e=K0 (Mu #[Nd #[IF IH q0,IF IH q1,Ln q2,ID q3,ID q4],Ln tB])/\Below z.heap.size z w'):=by intro z hz;have Ac:=h.below hz;have:=du b (1+i*3) (vs i) (IE σ i) z (Ac.bk.ck i A5).2.1 (Ac.bk.row i A5) (by have:=(h.facts i).1;omega);rw[hq,Ab] at this;exact this
 obtain⟨⟨Aq,Ap⟩,⟨Ao,Am⟩,⟨Ai,Ah⟩,⟨Ar,An⟩⟩:Jl k/\Jl a/\Jl x/\Jl y:=⟨ik,ia,ix,iy⟩;have Ad:Hid (∀y,Below w.heap.size w y->Lq Jx 42 #[IF IH x] y λe w'=>e=K0 (ID ⟨(dm x).toArray⟩)/\Below y.heap.size y w') :=
  λy hy=>fA x y (h.Js.env.tb.below hy).b Ai Ah
 have HB:=IA h;have Af:=hk;have A8:Hid (∀y,Below w.heap.size w y->Lq Jx 41 #[J1 (I3 ⟨b,0,J0⟩),IF IH i,ID ⟨#[73,102,45,78,111,110,101,45,77,97,116,99,104,58,32,42,13,10]⟩,ID ⟨(dm x).toArray⟩,Ln !tB] y (cC B b s n c (bF σ (bp eB (47::IW i) (rT++fS) (dm x))).2 y)) :=
  λy hy=>nJ i A5 (rT++fS) (dm x) y (h.below hy) hc (by decide) (fH x) _ (lq (db i) (fH x)) ⟨rfl,rfl⟩ (!tB) (by rw[lZ,Ab];cases tB<;>rfl)
 clear h;go_enter func24,ntmps24;go_wp2_with (go_at_call 10;refine(bo _ _ _ (by omega) (by omega) (by omega) (by omega)).mono ?_;rintro e w' ⟨rfl,rfl⟩;try rw[hi]);have A7:Below w.heap.size w (w.alloc (IR #[IF IH k,IF IH a,IF IH x,IF IH y] 58)):=(Below.refl _ _).alloc (K1 _) _;have A9:=K2 w (IR #[IF IH k,IF IH a,IF IH x,IF IH y] 58);have A2:w.heap.size<(w.alloc (IR #[IF IH k,IF IH a,IF IH x,IF IH y] 58)).heap.size:=by simp
 refine Kf (HQ.out _ A7) ?_;rintro e w1 ⟨rfl,A3⟩;have A4:Below w.heap.size w w1:=A7.trans (A3.mono (Lo A2));have A6:=(A3.block _ A2).trans A9;have Aa:w.heap.size<w1.heap.size:=Kx A2 A3.size;clear A7 A3 A9 A2;have A1:Below w.heap.size w (w1.alloc (IR #[IF IH q0,IF IH q1,Ln q2,ID q3,ID q4] 42)):=A4.alloc (Lo Aa) _;have Ae:=(LI w1 (IR #[IF IH q0,IF IH q1,Ln q2,ID q3,ID q4] 42) Aa).trans A6;obtain⟨o0,o1,o2,o3⟩:=MM A6;clear Ae A6;obtain⟨X,hX⟩:=exj (w1.alloc (IR #[IF IH q0,IF IH q1,Ln q2,ID q3,ID q4] 42));rw[<-hX] at A1;cases tB;all_goals
  simp only[Bool.not_true,Bool.not_false] at A8;go_wp2_with (first
   | (go_at_call 10;refine(bo _ _ _ (by omega) (by omega) (by omega) (by omega)).mono ?_;rintro e w' ⟨rfl,rfl⟩;try rw[Af])
   | (go_at_call 42;rw[<-hX];refine Kf (Ad.out _ A1) ?_;rintro e w5 ⟨rfl,Aj⟩;have A0:Below w.heap.size w w5:=A1.trans (Aj.mono A1.size))
   | (go_at_call 41;refine Kf (A8.out _ A0) ?_;rintro e w6 ⟨rfl,Ak,Ag⟩))
  go_ret;exact⟨rfl,Ak,(Off.of_below A0).trans Ag⟩
theorem yN {b:Nat}{c:Nat}(k a x y:Int)(hk:pk k 8=5)(w:LR)(h:Bk B w b s n σ M vs d c)(hc:c<1000)(ik:Jl k)(ia:Jl a)(ix:Jl x)(iy:Jl y) :
 Lq Jx 24 #[J1 (I3 ⟨b,0,J0⟩),Nd #[IF IH k,IF IH a,IF IH x,IF IH y]] w (cC B b s n c ((bF σ (bp eV (47::IW (pk a 5).toNat) [] [])).2) w):=by
 have p5:=bZ a 5 (by omega);have p8:=bZ k 8 (by omega);obtain⟨i,hi⟩:∃n:Nat,pk a 5=n:=⟨(pk a 5).toNat,by omega⟩;have A4:i<5:=by omega
 try rw[show(pk a 5).toNat=i by omega]
 have Ai:=h.bk.lt;obtain⟨q0,q1,q2,q3,q4,hq⟩:=cX (ax (IE σ i));obtain⟨tB,Ag⟩:=IG ((ax (IE σ i)).isSome);have HQ:Hid (∀z,Below w.heap.size w z->Lq Jx 18 #[J1 (I3 ⟨b,1+i*3,J0⟩)] z λe w'=>e=K0 (Mu #[Nd #[IF IH q0,IF IH q1,Ln q2,ID q3,ID q4],Ln tB])/\Below z.heap.size z w'):=by intro z hz;have A9:=h.below hz;have:=du b (1+i*3) (vs i) (IE σ i) z (A9.bk.ck i A4).2.1 (A9.bk.row i A4) (by have:=(h.facts i).1;omega);rw[hq,Ag] at this;exact this
 obtain⟨⟨Ao,An⟩,⟨Am,Aj⟩,⟨Af,Ae⟩,⟨Ap,Al⟩⟩:Jl k/\Jl a/\Jl x/\Jl y:=⟨ik,ia,ix,iy⟩;have Ak:Hid (∀y,Below w.heap.size w y->Lq Jx 42 #[IF IH x] y λe w'=>e=K0 (ID ⟨(dm x).toArray⟩)/\Below y.heap.size y w') :=
  λy hy=>fA x y (h.Js.env.tb.below hy).b Af Ae
 have HB:=IA h;have Ac:=hk;have Aa:Hid (∀y,Below w.heap.size w y->Lq Jx 43 #[J1 (I3 ⟨b,0,J0⟩),IF IH i] y (cC B b s n c (bF σ (bp eV (47::IW i) [] [])).2 y)) :=
  λy hy=>zv i A4 y (h.below hy) hc
 clear h;go_enter func24,ntmps24;go_wp2_with (go_at_call 10;refine(bo _ _ _ (by omega) (by omega) (by omega) (by omega)).mono ?_;rintro e w' ⟨rfl,rfl⟩;try rw[hi]);have A6:Below w.heap.size w (w.alloc (IR #[IF IH k,IF IH a,IF IH x,IF IH y] 58)):=(Below.refl _ _).alloc (K1 _) _;have A7:=K2 w (IR #[IF IH k,IF IH a,IF IH x,IF IH y] 58);have A0:w.heap.size<(w.alloc (IR #[IF IH k,IF IH a,IF IH x,IF IH y] 58)).heap.size:=by simp
 refine Kf (HQ.out _ A6) ?_;rintro e w1 ⟨rfl,A1⟩;have A3:Below w.heap.size w w1:=A6.trans (A1.mono (Lo A0));have A5:=(A1.block _ A0).trans A7;have A8:w.heap.size<w1.heap.size:=Kx A0 A1.size;clear A6 A1 A7 A0;have A2:Below w.heap.size w (w1.alloc (IR #[IF IH q0,IF IH q1,Ln q2,ID q3,ID q4] 42)):=A3.alloc (Lo A8) _;have Ab:=(LI w1 (IR #[IF IH q0,IF IH q1,Ln q2,ID q3,ID q4] 42) A8).trans A5;obtain⟨o0,o1,o2,o3⟩:=MM A5;clear Ab A5;obtain⟨X,hX⟩:=exj (w1.alloc (IR #[IF IH q0,IF IH q1,Ln q2,ID q3,ID q4] 42));rw[<-hX] at A2;go_wp2_with (first
  | (go_at_call 10;refine(bo _ _ _ (by omega) (by omega) (by omega) (by omega)).mono ?_;rintro e w' ⟨rfl,rfl⟩;try rw[Ac])
  | (go_at_call 43;rw[<-hX];refine Kf (Aa.out _ A2) ?_;rintro e w6 ⟨rfl,Ah,Ad⟩))
 go_ret;exact⟨rfl,Ah,(Off.of_below A2).trans Ad⟩
theorem step_drop {b:Nat}{c:Nat}(k a x y:Int)(hk:pk k 8=6)(w:LR)(h:Bk B w b s n σ M vs d c)(hc:c<1000)(ik:Jl k)(ia:Jl a)(ix:Jl x)(iy:Jl y) :
 Lq Jx 24 #[J1 (I3 ⟨b,0,J0⟩),Nd #[IF IH k,IF IH a,IF IH x,IF IH y]] w (cC B b s n c ((bF σ (bp eV (47::(IW (pk a 5).toNat++[63]++([118,61]++LO (1+(pk x ((IE σ (pk a 5).toNat).last+2:Nat)).toNat)))) [] [])).2) w):=by
 have p5:=bZ a 5 (by omega);have p8:=bZ k 8 (by omega);obtain⟨i,hi⟩:∃n:Nat,pk a 5=n:=⟨(pk a 5).toNat,by omega⟩;have A2:i<5:=by omega
 try rw[show(pk a 5).toNat=i by omega]
 have Ap:=h.bk.lt;obtain⟨q0,q1,q2,q3,q4,hq⟩:=cX (ax (IE σ i));obtain⟨tB,Am⟩:=IG ((ax (IE σ i)).isSome);have HQ:Hid (∀z,Below w.heap.size w z->Lq Jx 18 #[J1 (I3 ⟨b,1+i*3,J0⟩)] z λe w'=>e=K0 (Mu #[Nd #[IF IH q0,IF IH q1,Ln q2,ID q3,ID q4],Ln tB])/\Below z.heap.size z w'):=by intro z hz;have Af:=h.below hz;have:=du b (1+i*3) (vs i) (IE σ i) z (Af.bk.ck i A2).2.1 (Af.bk.row i A2) (by have:=(h.facts i).1;omega);rw[hq,Am] at this;exact this
 obtain⟨⟨Aw,Au⟩,⟨At,Aq⟩,⟨Ak,Aj⟩,⟨Av,As⟩⟩:Jl k/\Jl a/\Jl x/\Jl y:=⟨ik,ia,ix,iy⟩;have Ar:Hid (∀y,Below w.heap.size w y->Lq Jx 42 #[IF IH x] y λe w'=>e=K0 (ID ⟨(dm x).toArray⟩)/\Below y.heap.size y w') :=
  λy hy=>fA x y (h.Js.env.tb.below hy).b Ak Aj
 have HB:=IA h;have Ai:=hk;have hL:=h.ls i;obtain⟨L,A5⟩:=IG ((IE σ i).last);have hp:=bZ x ((L+2:Nat):Int) (by omega);rw[A5] at hL ⊢;obtain⟨mm,Ag⟩:∃n:Nat,pk x ((L+2:Nat):Int)=n:=⟨(pk x ((L+2:Nat):Int)).toNat,by omega⟩;rw[show(pk x ((L+2:Nat):Int)).toNat=mm by omega];have Al:pk x ((L:Int)+2)=(mm:Int):=Ag;have Ac:Hid (∀y,Below w.heap.size w y->Lq Jx 44 #[J1 (I3 ⟨b,0,J0⟩),IF IH i,IF IH (1+(mm:Int))] y (cC B b s n c (bF σ (bp eV (47::(IW i++[63]++([118,61]++LO (1+mm)))) [] [])).2 y)):=by intro y hy;have:=yU i A2 (1+mm) (by omega) (by omega) y (h.below hy) hc;rw[show((1+mm:Nat):Int)=1+(mm:Int) by omega] at this;exact this
 clear h;go_enter func24,ntmps24;go_wp2_with (go_at_call 10;refine(bo _ _ _ (by omega) (by omega) (by omega) (by omega)).mono ?_;rintro e w' ⟨rfl,rfl⟩;try rw[hi]);have A9:Below w.heap.size w (w.alloc (IR #[IF IH k,IF IH a,IF IH x,IF IH y] 58)):=(Below.refl _ _).alloc (K1 _) _;have Ae:=K2 w (IR #[IF IH k,IF IH a,IF IH x,IF IH y] 58);have A3:w.heap.size<(w.alloc (IR #[IF IH k,IF IH a,IF IH x,IF IH y] 58)).heap.size:=by simp
 refine Kf (HQ.out _ A9) ?_;rintro e w1 ⟨rfl,A4⟩;have A1:Below w.heap.size w w1:=A9.trans (A4.mono (Lo A3));have A8:=(A4.block _ A3).trans Ae;have Aa:w.heap.size<w1.heap.size:=Kx A3 A4.size;clear A9 A4 Ae A3;have A6:Below w.heap.size w (w1.alloc (IR #[IF IH q0,IF IH q1,Ln q2,ID q3,ID q4] 42)):=A1.alloc (Lo Aa) _;have Ah:=(LI w1 (IR #[IF IH q0,IF IH q1,Ln q2,ID q3,ID q4] 42) Aa).trans A8;obtain⟨o0,o1,o2,o3⟩:=MM A8;clear Ah A8;obtain⟨X,hX⟩:=exj (w1.alloc (IR #[IF IH q0,IF IH q1,Ln q2,ID q3,ID q4] 42));rw[<-hX] at A6;have z3:w1.cell? ⟨b,1+i*3+2,J0⟩=I3 (IF IH L):=by rw[((HB.out.below A1).bk.ck i A2).2.2,A5]
 have An:b<w1.heap.size:=(HB.out.below A1).bk.lt;go_wp2_with (go_at_call 10;refine(bo _ _ _ (by omega) (by omega) (by omega) (by omega)).mono ?_;rintro e w' ⟨rfl,rfl⟩;try rw[Ai]);rw[<-hX];have x3:X.cell? ⟨b,1+i*3+2,J0⟩=I3 (IF IH L):=by rw[((HB.out.below A6).bk.ck i A2).2.2,A5]
 have ox:X.cell? ⟨w.heap.size,2,J0⟩=I3 (IF IH x):=((by rw[hX];exact(Below.refl _ _).alloc (K1 _) _:Below w1.heap.size w1 X).cell (p:=⟨w.heap.size,2,J0⟩) Aa).trans o2;have A0:Below w.heap.size w X.drew:=A6.trans ((Below.refl _ _).drew);have Ad:Hid (∀y,Lq Jx 10 #[IF IH x,IF IH ((L:Int)+2)] y λe w'=>e=K0 (IF IH mm)/\w'=y):=by intro y;have:=bo x ((L:Int)+2) y (by omega) (by omega) (by omega) (by omega);rw[Al] at this;exact this
 have Ax:IntKind.i64.wrap ((L:Int)+2)=(L:Int)+2:=by rw[Mn];omega
 have Ao:IntKind.i64.wrap (1+(mm:Int))=1+(mm:Int):=by rw[Mn];omega
 clear hX;refine MD (S:=(λ_=>True)) (by kernel_rfl) trivial (λhHeld=>?_);refine IJ 0 hHeld ?_;try simp only[Ks]
 refine IJ 1 hHeld ?_;try simp only[Ks]
 refine IJ 2 hHeld ?_;try simp only[Ks]
 refine IJ 4 hHeld ?_;try simp only[Ks]
 refine IJ 5 hHeld ?_;try simp only[Ks]
 refine IJ 6 hHeld ?_;try simp only[Ks]
 refine wpAnyH_ready (rs:=[3,7]) (by kernel_rfl) (by simp) ?_;refine AllReadyH.cons rfl (λK hK=>?_) (AllReadyH.cons rfl (λK hK=>?_) AllReadyH.nil)
 ·go_simp;refine hK.out _ _ trivial (λ_=>?_);clear hK K;(try simp only[Ks]);refine I6 7 (λK hK=>?_);go_simp;refine hK.out _ _ trivial (λ_=>?_);clear hK K;(try simp only[Ks]);refine IJ 8 hHeld ?_;(try simp only[Ks]);refine I6 9 (λK hK=>?_);go_simp;refine Kf (Ad.out _) ?_;rintro e w7 ⟨rfl,rfl⟩;(try go_wp2_with fail);refine hK.out _ _ trivial (λ_=>?_);clear hK K;(try simp only[Ks]);refine IJ 10 hHeld ?_;(try simp only[Ks]);refine I6 11 (λK hK=>?_);go_simp;refine Kf (Ac.out _ A0) ?_;rintro e w6 ⟨rfl,Ab,A7⟩;(try go_wp2_with fail);refine hK.out _ _ trivial (λ_=>?_);clear hK K;(try simp only[Ks]);refine I6 12 (λK hK=>?_);go_simp;refine hK.out _ _ trivial (λ_=>?_);clear hK K;(try simp only[Ks]);refine Nx (by kernel_rfl) ?_ _;go_wp2;go_ret;exact⟨rfl,Ab,(Off.of_below A0).trans A7⟩
 ·go_simp;refine hK.out _ _ trivial (λ_=>?_);clear hK K;(try simp only[Ks]);refine IJ 8 hHeld ?_;(try simp only[Ks]);refine I6 3 (λK hK=>?_);go_simp;refine hK.out _ _ trivial (λ_=>?_);clear hK K;(try simp only[Ks]);refine I6 9 (λK hK=>?_);go_simp;refine Kf (Ad.out _) ?_;rintro e w7 ⟨rfl,rfl⟩;(try go_wp2_with fail);refine hK.out _ _ trivial (λ_=>?_);clear hK K;(try simp only[Ks]);refine IJ 10 hHeld ?_;(try simp only[Ks]);refine I6 11 (λK hK=>?_);go_simp;refine Kf (Ac.out _ A0) ?_;rintro e w6 ⟨rfl,Ab,A7⟩;(try go_wp2_with fail);refine hK.out _ _ trivial (λ_=>?_);clear hK K;(try simp only[Ks]);refine I6 12 (λK hK=>?_);go_simp;refine hK.out _ _ trivial (λ_=>?_);clear hK K;(try simp only[Ks]);refine Nx (by kernel_rfl) ?_ _;go_wp2;go_ret;exact⟨rfl,Ab,(Off.of_below A0).trans A7⟩
theorem zN {b:Nat}{c:Nat}(k a x y:Int)(hk:pk k 8=7)(w:LR)(h:Bk B w b s n σ M vs d c)(hc:c<1000)(ik:Jl k)(ia:Jl a)(ix:Jl x)(iy:Jl y) :
 Lq Jx 24 #[J1 (I3 ⟨b,0,J0⟩),Nd #[IF IH k,IF IH a,IF IH x,IF IH y]] w (cC B b s n c (⟨σ.time+(pk x 5000).toNat,σ.Iz,σ.log⟩) w):=by
 have p5:=bZ a 5 (by omega);have p8:=bZ k 8 (by omega);obtain⟨i,hi⟩:∃n:Nat,pk a 5=n:=⟨(pk a 5).toNat,by omega⟩;have Ac:i<5:=by omega
 try rw[show(pk a 5).toNat=i by omega]
 have Av:=h.bk.lt;obtain⟨q0,q1,q2,q3,q4,hq⟩:=cX (ax (IE σ i));obtain⟨tB,At⟩:=IG ((ax (IE σ i)).isSome);have HQ:Hid (∀z,Below w.heap.size w z->Lq Jx 18 #[J1 (I3 ⟨b,1+i*3,J0⟩)] z λe w'=>e=K0 (Mu #[Nd #[IF IH q0,IF IH q1,Ln q2,ID q3,ID q4],Ln tB])/\Below z.heap.size z w'):=by intro z hz;have Ai:=h.below hz;have:=du b (1+i*3) (vs i) (IE σ i) z (Ai.bk.ck i Ac).2.1 (Ai.bk.row i Ac) (by have:=(h.facts i).1;omega);rw[hq,At] at this;exact this
 obtain⟨⟨B2,B1⟩,⟨Az,Aw⟩,⟨Ao,Am⟩,⟨B4,Ay⟩⟩:Jl k/\Jl a/\Jl x/\Jl y:=⟨ik,ia,ix,iy⟩;have Ax:Hid (∀y,Below w.heap.size w y->Lq Jx 42 #[IF IH x] y λe w'=>e=K0 (ID ⟨(dm x).toArray⟩)/\Below y.heap.size y w') :=
  λy hy=>fA x y (h.Js.env.tb.below hy).b Ao Am
 have HB:=IA h;have Al:=hk;have hp:=bZ x 5000 (by omega);obtain⟨mm,Aj⟩:∃n:Nat,pk x 5000=n:=⟨(pk x 5000).toNat,by omega⟩;rw[show(pk x 5000).toNat=mm by omega];have B3:=h.tm;clear h;go_enter func24,ntmps24;go_wp2_with (go_at_call 10;refine(bo _ _ _ (by omega) (by omega) (by omega) (by omega)).mono ?_;rintro e w' ⟨rfl,rfl⟩;try rw[hi]);have A8:Below w.heap.size w (w.alloc (IR #[IF IH k,IF IH a,IF IH x,IF IH y] 58)):=(Below.refl _ _).alloc (K1 _) _;have Ad:=K2 w (IR #[IF IH k,IF IH a,IF IH x,IF IH y] 58);have A3:w.heap.size<(w.alloc (IR #[IF IH k,IF IH a,IF IH x,IF IH y] 58)).heap.size:=by simp
 refine Kf (HQ.out _ A8) ?_;rintro e w1 ⟨rfl,A4⟩;have A6:Below w.heap.size w w1:=A8.trans (A4.mono (Lo A3));have A7:=(A4.block _ A3).trans Ad;have Ae:w.heap.size<w1.heap.size:=Kx A3 A4.size;clear A8 A4 Ad A3;have A5:Below w.heap.size w (w1.alloc (IR #[IF IH q0,IF IH q1,Ln q2,ID q3,ID q4] 42)):=A6.alloc (Lo Ae) _;have Ak:=(LI w1 (IR #[IF IH q0,IF IH q1,Ln q2,ID q3,ID q4] 42) Ae).trans A7;obtain⟨o0,o1,o2,o3⟩:=MM A7;clear Ak A7;obtain⟨X,hX⟩:=exj (w1.alloc (IR #[IF IH q0,IF IH q1,Ln q2,ID q3,ID q4] 42));rw[<-hX] at A5;have A0:=HB.out.below A5;have z0:=A0.bk.c0.1;have Ar:=A0.bk.c0.2.1;have zf:=A0.bk.fz;have A9:=A0.bk.lt;rw[hX] at z0 Ar zf A9;have A2:=A0.bk.set 16 (IF IH ((σ.time:Int)+(mm:Int))) (nt _ _ _ _ _ (σ.time+mm) _ (by omega)) (λ_ _=>rfl);have Aa:Off (λk=>k=b\/∃i,i<5/\(vs i).ownBlock=I3 k) X (X.setCell ⟨b,16,J0⟩ (IF IH ((σ.time:Int)+(mm:Int)))):=(Off.refl _ _).set b _ _ (LN (LN rfl));have A1:=A0.Js.book A0.bk A0.bB A0.vB Aa;have Ab:Off B X (X.setCell ⟨b,16,J0⟩ (IF IH ((σ.time:Int)+(mm:Int)))):=(Off.refl _ _).set b _ _ (LN A0.bB);have Ah:Hid (Lq Jx 26 #[J1 (I3 ⟨s,0,J0⟩),IF IH mm] (X.setCell ⟨b,16,J0⟩ (IF IH ((σ.time:Int)+(mm:Int)))) (λe w'=>e=K0 (IF IH 0)/\(∃M' vs' d',Bk B w' b s n ⟨σ.time+mm,σ.Iz,σ.log⟩ M' vs' d' (c+1))/\Off B w w')):=by
  refine(Ct mm _ A1.st (by omega)).mono ?_;rintro e w' ⟨rfl,Aq,Ag⟩;have Ap:B s:=A0.Js.own s (LN rfl);have Af:Off B _ w':=Ag.mono (λk hk=>by rw[hk];exact Ap);have As:=A2.off Ag (λe=>(eT A1.st (LN e)).1 A2.blk) (λi hi g hg e=>by
   obtain⟨B0,hc⟩:=dN (A2.row i hi) hg
   exact(eT A1.st (LN e)).2 hc)
  exact⟨rfl,⟨M,vs,d,⟨⟨A1.env.off Af,Aq,A1.own⟩,As,A0.bB,A0.vB,A0.ks,by show σ.time+mm<=_;omega,L3 A0.lg (Nat.mul_le_mul_right _ (Nat.le_succ _)),λi=>M1 (A0.ls i),M1 A0.dn⟩⟩,((Off.of_below A5).trans Ab).trans Af⟩
 clear A0 A2 Aa A1 Ab;rw[hX] at Ah;go_wp2_with (first
  | (go_at_call 10;refine(bo _ _ _ (by omega) (by omega) (by omega) (by omega)).mono ?_;rintro e w' ⟨rfl,rfl⟩;first|rw[Al]|rw[Aj])
  | (go_at_call 26;refine Kf Ah.out ?_;rintro e w6 ⟨rfl,Au,An⟩))
 go_ret;exact⟨rfl,Au,An⟩
def TJ:ByteArray:=⟨#[34,110,111,110,101,34]⟩
theorem A4:(⟨#[34,110,111,110,101,34]⟩:ByteArray)=TJ:=rfl
theorem wO {b:Nat}{c:Nat}(k a x y:Int)(hk:pk k 8=4)(w:LR)(h:Bk B w b s n σ M vs d c)(hc:c<1000)(ik:Jl k)(ia:Jl a)(ix:Jl x)(iy:Jl y) :
 Lq Jx 24 #[J1 (I3 ⟨b,0,J0⟩),Nd #[IF IH k,IF IH a,IF IH x,IF IH y]] w (cC B b s n c ((bF σ (bp eB (47::IW (pk a 5).toNat) (iH (kX (IE σ (pk a 5).toNat) y)++fS) (dm x))).2) w):=by
 have p5:=bZ a 5 (by omega);have p8:=bZ k 8 (by omega);obtain⟨i,hi⟩:∃n:Nat,pk a 5=n:=⟨(pk a 5).toNat,by omega⟩;have Al:i<5:=by omega
 try rw[show(pk a 5).toNat=i by omega]
 have C0:=h.bk.lt;obtain⟨q0,q1,q2,q3,q4,hq⟩:=cX (ax (IE σ i));obtain⟨tB,Ai⟩:=IG ((ax (IE σ i)).isSome);have HQ:Hid (∀z,Below w.heap.size w z->Lq Jx 18 #[J1 (I3 ⟨b,1+i*3,J0⟩)] z λe w'=>e=K0 (Mu #[Nd #[IF IH q0,IF IH q1,Ln q2,ID q3,ID q4],Ln tB])/\Below z.heap.size z w'):=by intro z hz;have Bo:=h.below hz;have:=du b (1+i*3) (vs i) (IE σ i) z (Bo.bk.ck i Al).2.1 (Bo.bk.row i Al) (by have:=(h.facts i).1;omega);rw[hq,Ai] at this;exact this
 obtain⟨⟨C9,C8⟩,⟨C7,C1⟩,⟨Bx,Bv⟩,⟨Bz,C2⟩⟩:Jl k/\Jl a/\Jl x/\Jl y:=⟨ik,ia,ix,iy⟩;have B6:Hid (∀y,Below w.heap.size w y->Lq Jx 42 #[IF IH x] y λe w'=>e=K0 (ID ⟨(dm x).toArray⟩)/\Below y.heap.size y w') :=
  λy hy=>fA x y (h.Js.env.tb.below hy).b Bx Bv
 have HB:=IA h;have Bq:=hk;have Bf:=(h.facts i).1;obtain⟨tg,Aj⟩:=IG (kX (IE σ i) y);have Ae:=sn (IE σ i) y;rw[Aj] at Ae ⊢;obtain⟨A8,A0⟩:∃x:Bool,x=(tB&&decide (kZ (ax (IE σ i))=tg)):=⟨_,rfl⟩;have B5:Hid (∀z,Below w.heap.size w z->Lq Jx 41 #[J1 (I3 ⟨b,0,J0⟩),IF IH i,ID ⟨(iH tg++fS).toArray⟩,ID ⟨(dm x).toArray⟩,Ln A8] z (cC B b s n c (bF σ (bp eB (47::IW i) (iH tg++fS) (dm x))).2 z)) :=
  λz hz=>nJ i Al (iH tg++fS) (dm x) z (h.below hz) hc (by simp[iH,fS];omega) (fH x) _ (jM (db i) (fH x) Ae.1 Ae.2.1 (by omega)) ⟨rfl,rfl⟩ A8 (by rw[jR,Ai,A0];cases tB<;>simp)
 have C5:=IA A0;obtain⟨vl,Av⟩:=IG ((IE σ i).IB);rw[Av] at Bf;obtain⟨xa,cp,hx⟩:∃xa cp,vs i=LL xa vl.length cp:=by
  have Au:=h.bk.row i Al;rw[Av] at Au;rcases Au.2 with⟨e,h0⟩|⟨g,Bw,By,e,_⟩
  ·exact⟨_,_,by rw[e,h0]⟩
  ·exact⟨_,_,e⟩
 have Bc:Hid (∀tv:ByteArray,tv=⟨(34::tg++[34]).toArray⟩->(tB=Mz/\A8=Mz)\/(tB=Mb/\q4=tv/\A8=Mb)\/(tB=Mb/\¬ q4=tv/\A8=Mz)):=by
  rintro tv rfl;cases hcv:ax (IE σ i) with
  | none =>left;rw[hcv] at Ai;rw[A0,<-Ai];exact⟨rfl,rfl⟩
  | some v =>
    right;rw[hcv] at Ai hq A0;have Bu:v.mark=Mz:=by
     cases hg:(IE σ i).IB.getLast? with
     | none=>simp[ax,hg] at hcv
     | some u =>
       cases hm:u.mark with
       | true=>simp[ax,hg,hm] at hcv
       | false =>simp[ax,hg,hm] at hcv;rw[<-hcv];exact hm
    (have Bh:q4=⟨(34::dj 16 (JG v.body)++[34]).toArray⟩:=by have:sG (I3 v)=nV v:=rfl;rw[this] at hq;unfold nV nZ at hq;rw[Bu] at hq;simp only[Value.agg.injEq,Array.mk.injEq,List.cons.injEq,Value.string.injEq] at hq;exact hq.2.2.2.2.1.symm);have ht:tB=Mb:=Ai.symm;rw[ht] at A0;by_cases e:dj 16 (JG v.body)=tg
    ·left;exact⟨ht,by rw[Bh,e],by rw[A0];simp[kZ,e]⟩
    ·right;refine⟨ht,λh1=>e ?_,by rw[A0];simp[kZ,e]⟩;rw[Bh] at h1;have h2:=congrArg (λz:ByteArray=>z.data.toList) h1;simp only[List.cons_append,List.cons.injEq,true_and] at h2;exact List.append_cancel_right h2
 have B1:Hid (∀tv:ByteArray,tv=⟨(34::tg++[34]).toArray⟩->(tv.size<=100/\((⟨#[73,102,45,77,97,116,99,104,58,32]⟩:ByteArray)++tv)++⟨#[13,10]⟩=⟨(iH tg++fS).toArray⟩)):=by rintro tv rfl;refine⟨by rw[Lib.size_eq];simp;omega,?_⟩;exact(congrArg (·++(⟨#[13,10]⟩:ByteArray)) (cZ [73,102,45,77,97,116,99,104,58,32] (34::tg++[34]))).trans (cZ ([73,102,45,77,97,116,99,104,58,32]++(34::tg++[34])) [13,10])
 clear A0;clear h;go_enter func24,ntmps24;go_wp2_with (go_at_call 10;refine(bo _ _ _ (by omega) (by omega) (by omega) (by omega)).mono ?_;rintro e w' ⟨rfl,rfl⟩;try rw[hi]);have B9:Below w.heap.size w (w.alloc (IR #[IF IH k,IF IH a,IF IH x,IF IH y] 58)):=(Below.refl _ _).alloc (K1 _) _;have Bl:=K2 w (IR #[IF IH k,IF IH a,IF IH x,IF IH y] 58);have Ay:w.heap.size<(w.alloc (IR #[IF IH k,IF IH a,IF IH x,IF IH y] 58)).heap.size:=by simp
 refine Kf (HQ.out _ B9) ?_;rintro e w1 ⟨rfl,B0⟩;have Aw:Below w.heap.size w w1:=B9.trans (B0.mono (Lo Ay));have B2:=(B0.block _ Ay).trans Bl;have Ak:w.heap.size<w1.heap.size:=Kx Ay B0.size;clear B9 B0 Bl Ay;have Bb:Below w.heap.size w (w1.alloc (IR #[IF IH q0,IF IH q1,Ln q2,ID q3,ID q4] 42)):=Aw.alloc (Lo Ak) _;have Bt:=(LI w1 (IR #[IF IH q0,IF IH q1,Ln q2,ID q3,ID q4] 42) Ak).trans B2;obtain⟨o0,o1,o2,o3⟩:=MM B2;clear Bt B2;obtain⟨X,hX⟩:=exj (w1.alloc (IR #[IF IH q0,IF IH q1,Ln q2,ID q3,ID q4] 42));rw[<-hX] at Bb;go_wp2_with (go_at_call 10;refine(bo _ _ _ (by omega) (by omega) (by omega) (by omega)).mono ?_;rintro e w' ⟨rfl,rfl⟩;try rw[Bq]);rw[<-hX];have Aq:=HB.out.below Bb;have x2:X.cell? ⟨b,1+i*3+1,J0⟩=I3 (LL xa vl.length cp):=by rw[(Aq.bk.ck i Al).2.1,hx]
 have A7:=Aq.bk.row i Al;rw[Av] at A7;have Ba:=Aq.bk.lt;have Af:Below w1.heap.size w1 X:=by rw[hX];exact(Below.refl _ _).alloc (K1 _) _
 have ox:X.cell? ⟨w.heap.size,2,J0⟩=I3 (IF IH x):=(Af.cell (p:=⟨w.heap.size,2,J0⟩) Ak).trans o2;have oy:X.cell? ⟨w.heap.size,3,J0⟩=I3 (IF IH y):=(Af.cell (p:=⟨w.heap.size,3,J0⟩) Ak).trans o3;have oq:X.cell? ⟨w1.heap.size,4,J0⟩=I3 (ID q4):=by have:=K2 w1 (IR #[IF IH q0,IF IH q1,Ln q2,ID q3,ID q4] 42);rw[hX];simp only[Ly,this];rfl
 have Aa:w1.heap.size<X.heap.size:=by rw[hX];simp
 have Ah:w.heap.size<X.heap.size:=Nat.lt_trans Ak Aa;have C4:=IA Aq;have A2:Below w.heap.size w X.drew:=Bb.trans ((Below.refl _ _).drew);clear hX Aq o0 o1 o2 o3 Af Ak Aw;by_cases h0:vl=[]
 ·(have Ab:tg=oL:=by rw[<-Aj,kX,Av,h0];rfl);(have Br:X.cell? ⟨b,1+i*3+1,J0⟩=I3 (LL xa 0 cp):=by rw[x2,h0];rfl);clear x2;have x2:=Br;refine MD (S:=(λy=>y.cell? ⟨b,1+i*3+1,J0⟩=I3 (LL xa 0 cp))) (by kernel_rfl) x2 (λhHeld=>?_);refine IJ 0 hHeld ?_;(try simp only[Ks]);refine IJ 1 hHeld ?_;(try simp only[Ks]);refine IJ 2 hHeld ?_;(try simp only[Ks]);refine IJ 3 hHeld ?_;(try simp only[Ks]);refine IJ 4 hHeld ?_;(try simp only[Ks]);refine IJ 5 hHeld ?_;(try simp only[Ks]);refine IJ 6 hHeld ?_;(try simp only[Ks]);refine Ky (v:=L5) 7 rfl (by kernel_rfl) (λ_ _ _ h=>h) (Lz ⟨by kernel_rfl,rfl⟩) hHeld ?_;(try simp only[Ks]);refine Ky (v:=L5) 8 rfl (by kernel_rfl) (λ_ _ _ h=>h) (Lz ⟨by kernel_rfl,rfl⟩) hHeld ?_;(try simp only[Ks]);refine Ky (v:=L5) 9 rfl (by kernel_rfl) (λ_ _ _ h=>h) (Lz ⟨by kernel_rfl,rfl⟩) hHeld ?_;(try simp only[Ks]);refine Ky (v:=L5) 10 rfl (by kernel_rfl) (λ_ _ _ h=>h) (Lz ⟨by kernel_rfl,rfl⟩) hHeld ?_;(try simp only[Ks]);refine Ky (v:=L5) 11 rfl (by kernel_rfl) (λ_ _ _ h=>h) (Lz ⟨by kernel_rfl,rfl⟩) hHeld ?_;(try simp only[Ks]);refine Ky (v:=L5) 12 rfl (by kernel_rfl) (λ_ _ _ h=>h) (Lz ⟨by kernel_rfl,rfl⟩) hHeld ?_;(try simp only[Ks]);refine Ky (v:=L5) 13 rfl (by kernel_rfl) (λ_ _ _ h=>h) (Lz ⟨by kernel_rfl,rfl⟩) hHeld ?_;(try simp only[Ks]);refine Ky (v:=L5) 14 rfl (by kernel_rfl) (λ_ _ _ h=>h) (Lz ⟨by kernel_rfl,rfl⟩) hHeld ?_;(try simp only[Ks]);refine Ky (v:=L5) 15 rfl (by kernel_rfl) (λ_ _ _ h=>h) (Lz ⟨by kernel_rfl,rfl⟩) hHeld ?_;(try simp only[Ks]);refine Ky (v:=L5) 16 rfl (by kernel_rfl) (λ_ _ _ h=>h) (Lz ⟨by kernel_rfl,rfl⟩) hHeld ?_;(try simp only[Ks]);refine Ky (v:=L5) 17 rfl (by kernel_rfl) (λ_ _ _ h=>h) (Lz ⟨by kernel_rfl,rfl⟩) hHeld ?_;(try simp only[Ks]);refine Ky (v:=L5) 18 rfl (by kernel_rfl) (λ_ _ _ h=>h) (Lz ⟨by kernel_rfl,rfl⟩) hHeld ?_;(try simp only[Ks]);refine Ky (v:=L5) 19 rfl (by kernel_rfl) (λ_ _ _ h=>h) (Lz ⟨by kernel_rfl,rfl⟩) hHeld ?_;(try simp only[Ks]);refine Ky (v:=L5) 20 rfl (by kernel_rfl) (λ_ _ _ h=>h) (Lz ⟨by kernel_rfl,rfl⟩) hHeld ?_;(try simp only[Ks]);refine Ky (v:=L5) 21 rfl (by kernel_rfl) (λ_ _ _ h=>h) (Lz ⟨by kernel_rfl,rfl⟩) hHeld ?_;(try simp only[Ks]);refine Ky (v:=L5) 22 rfl (by kernel_rfl) (λ_ _ _ h=>h) (Lz ⟨by kernel_rfl,rfl⟩) hHeld ?_;(try simp only[Ks]);refine IJ 23 hHeld ?_;(try simp only[Ks]);refine Nx (by kernel_rfl) ?_ _;simp only[A4];go_simp;obtain⟨tv,A5⟩:∃t:ByteArray,t=TJ:=⟨_,rfl⟩;rw[<-A5]
  replace A5:tv=⟨(34::tg++[34]).toArray⟩:=by rw[A5,Ab];rfl
  have Ac:=IA A5;clear Ab Aj h0 A5;obtain⟨Z,hZ⟩:=exj (X.drew);rw[<-hZ] at A2 ⊢;(have A6:Below X.heap.size X Z:=by rw[hZ];exact(Below.refl _ _).drew);have Bd:Z.cell? ⟨w.heap.size,2,J0⟩=I3 (IF IH x):=(A6.cell (p:=⟨w.heap.size,2,J0⟩) Ah).trans ox;have Am:Z.cell? ⟨w1.heap.size,4,J0⟩=I3 (ID q4):=(A6.cell (p:=⟨w1.heap.size,4,J0⟩) Aa).trans oq;have Ao:w1.heap.size<Z.heap.size:=Kx Aa A6.size;clear hZ A6 ox oy oq Aa x2;obtain⟨An,As⟩:=B1.out tv Ac.out;have Ap:=Bc.out tv Ac.out;rcases Ap with⟨rfl,rfl⟩|⟨rfl,At,rfl⟩|⟨rfl,A9,rfl⟩
  rotate_right
  (have At:(q4.toList==tv.toList)=Mz:=by rw[beq_eq_false_iff_ne,Lw,Lw];exact λe=>A9 (ByteArray.ext (Mp.1 e)));all_goals
   go_wp2_with (first
    | (go_at_call 42;refine Kf (B6.out _ A2) ?_;rintro e w5 ⟨rfl,Ad⟩;have A3:Below w.heap.size w w5:=A2.trans (Ad.mono A2.size);have Bp:w5.cell? ⟨w1.heap.size,4,J0⟩=I3 (ID q4):=(Ad.cell (p:=⟨w1.heap.size,4,J0⟩) Ao).trans Am)
    | (go_at_call 41;refine Kf (B5.out _ A3) ?_;rintro e w6 ⟨rfl,Ar,Ax⟩))
   go_ret;exact⟨rfl,Ar,(Off.of_below A3).trans Ax⟩
 ·have hp:=bZ y (vl.length:Int) (by have:=List.length_pos_iff.2 h0;omega);obtain⟨j,hj⟩:∃j:Nat,pk y (vl.length:Int)=j:=⟨(pk y (vl.length:Int)).toNat,by omega⟩;(have Be:j<vl.length:=by omega);obtain⟨v,hv⟩:∃v,vl[j]?=I3 v:=⟨_,List.getElem?_eq_getElem Be⟩;obtain⟨g,Bw,An,hn,C3,hg,hf,d0,d1,d2,d3,d4⟩:=iA A7 j v hv;have Bn:=hx.symm.trans An;simp only[Value.slice.injEq] at Bn;obtain⟨rfl,-,rfl⟩:=Bn;(have B8:(0:Int)<(vl.length:Int):=by omega);(have Az:Hid (∀z,Lq Jx 10 #[IF IH y,IF IH (vl.length:Int)] z λe w'=>e=K0 (IF IH j)/\w'=z):=by intro z;have:=bo y (vl.length:Int) z (by omega) (by omega) (by omega) (by omega);rw[hj] at this;exact this);(have Ab:tg=if v.mark then oL else dj 16 (JG v.body):=by rw[<-Aj,kX,Av,show(pk y (vl.length:Int)).toNat=j by omega,hv]);clear hx An A7 hv hj hp h0 d0 d1 d3;obtain⟨N,hN⟩:=IG (vl.length);rw[hN] at x2 Be B8 Az hn Bf;(have Bj:0<N:=by omega);(have Bg:¬ N=0:=by omega);clear hN;cases hm:v.mark with
  | true =>
    rw[hm] at Ab d2;clear d4;go_region_held3 (λz=>z.cell? ⟨b,1+i*3+1,J0⟩=I3 (LL (I3 ⟨g,0,J0⟩) N cp)/\z.cell? ⟨w.heap.size,3,J0⟩=I3 (IF IH y)/\z.cell? ⟨g,j*5+2,J0⟩=I3 (Ln Mb)) (first|assumption|go_keep) (first
     | (go_at_call 10;refine Kf (Az.out _) ?_;rintro e w' ⟨rfl,rfl⟩))
    simp only[A4];go_simp;obtain⟨tv,A5⟩:∃t:ByteArray,t=TJ:=⟨_,rfl⟩;rw[<-A5]
    replace A5:tv=⟨(34::tg++[34]).toArray⟩:=by rw[A5,Ab];rfl
    have Ac:=IA A5;clear Ab Aj A5;obtain⟨Z,hZ⟩:=exj (X.drew);rw[<-hZ] at A2 ⊢;(have A6:Below X.heap.size X Z:=by rw[hZ];exact(Below.refl _ _).drew);have Bd:Z.cell? ⟨w.heap.size,2,J0⟩=I3 (IF IH x):=(A6.cell (p:=⟨w.heap.size,2,J0⟩) Ah).trans ox;have Am:Z.cell? ⟨w1.heap.size,4,J0⟩=I3 (ID q4):=(A6.cell (p:=⟨w1.heap.size,4,J0⟩) Aa).trans oq;have Ao:w1.heap.size<Z.heap.size:=Kx Aa A6.size;clear hZ A6 ox oy oq Aa x2 d2;obtain⟨An,As⟩:=B1.out tv Ac.out;have Ap:=Bc.out tv Ac.out;rcases Ap with⟨rfl,rfl⟩|⟨rfl,At,rfl⟩|⟨rfl,A9,rfl⟩
    rotate_right
    (have At:(q4.toList==tv.toList)=Mz:=by rw[beq_eq_false_iff_ne,Lw,Lw];exact λe=>A9 (ByteArray.ext (Mp.1 e)));all_goals
     go_wp2_with (first
      | (go_at_call 42;refine Kf (B6.out _ A2) ?_;rintro e w5 ⟨rfl,Ad⟩;have A3:Below w.heap.size w w5:=A2.trans (Ad.mono A2.size);have Bp:w5.cell? ⟨w1.heap.size,4,J0⟩=I3 (ID q4):=(Ad.cell (p:=⟨w1.heap.size,4,J0⟩) Ao).trans Am)
      | (go_at_call 41;refine Kf (B5.out _ A3) ?_;rintro e w6 ⟨rfl,Ar,Ax⟩))
     go_ret;exact⟨rfl,Ar,(Off.of_below A3).trans Ax⟩
  | false =>
    rw[hm] at Ab d2;obtain⟨tv,A5⟩:∃t:ByteArray,t=⟨(nZ v).toArray⟩:=⟨_,rfl⟩;rw[<-A5] at d4
    replace A5:tv=⟨(34::tg++[34]).toArray⟩:=by rw[A5,nZ,hm,Ab];rfl
    have Ac:=IA A5;clear Ab Aj A5;go_region_held3 (λz=>z.cell? ⟨b,1+i*3+1,J0⟩=I3 (LL (I3 ⟨g,0,J0⟩) N cp)/\z.cell? ⟨w.heap.size,3,J0⟩=I3 (IF IH y)/\z.cell? ⟨g,j*5+2,J0⟩=I3 (Ln Mz)) (first|assumption|go_keep) (first
     | (go_at_call 10;refine Kf (Az.out _) ?_;rintro e w' ⟨rfl,rfl⟩))
    go_wp2_with fail;obtain⟨X2,B7⟩:=exj (X.drew);rw[<-B7] at A2 ⊢;(have A1:Below X.heap.size X X2:=by rw[B7];exact(Below.refl _ _).drew);have p2:=(A1.cell (p:=⟨b,1+i*3+1,J0⟩) Ba).trans x2;have py:=(A1.cell (p:=⟨w.heap.size,3,J0⟩) Ah).trans oy;have p4:=(A1.cell (p:=⟨g,j*5+4,J0⟩) hg).trans d4;have Bi:=(A1.cell (p:=⟨w.heap.size,2,J0⟩) Ah).trans ox;have Bm:=(A1.cell (p:=⟨w1.heap.size,4,J0⟩) Aa).trans oq;have Ag:w1.heap.size<X2.heap.size:=Kx Aa A1.size;have B4:w.heap.size<X2.heap.size:=Kx Ah A1.size;have Bs:b<X2.heap.size:=Kx Ba A1.size;have C6:g<X2.heap.size:=Kx hg A1.size;clear B7 A1 x2 oy d4 ox oq Aa Ah Ba hg d2 hf;go_region_held3 (λz=>z.cell? ⟨b,1+i*3+1,J0⟩=I3 (LL (I3 ⟨g,0,J0⟩) N cp)/\z.cell? ⟨w.heap.size,3,J0⟩=I3 (IF IH y)/\z.cell? ⟨g,j*5+4,J0⟩=I3 (ID tv)) (first|assumption|go_keep) (first
     | (go_at_call 10;refine Kf (Az.out _) ?_;rintro e w' ⟨rfl,rfl⟩))
    go_simp;obtain⟨Z,hZ⟩:=exj (X2.drew);(have B3:Below w.heap.size w Z:=by rw[hZ];exact A2.trans (Below.refl _ _).drew);rw[<-hZ];(have A6:Below X2.heap.size X2 Z:=by rw[hZ];exact(Below.refl _ _).drew);have Bd:Z.cell? ⟨w.heap.size,2,J0⟩=I3 (IF IH x):=(A6.cell (p:=⟨w.heap.size,2,J0⟩) B4).trans Bi;have Am:Z.cell? ⟨w1.heap.size,4,J0⟩=I3 (ID q4):=(A6.cell (p:=⟨w1.heap.size,4,J0⟩) Ag).trans Bm;have Ao:w1.heap.size<Z.heap.size:=Kx Ag A6.size;clear hZ A6 Bi py Bm Ag p2 p4;obtain⟨An,As⟩:=B1.out tv Ac.out;have Ap:=Bc.out tv Ac.out;rcases Ap with⟨rfl,rfl⟩|⟨rfl,At,rfl⟩|⟨rfl,A9,rfl⟩
    rotate_right
    (have At:(q4.toList==tv.toList)=Mz:=by rw[beq_eq_false_iff_ne,Lw,Lw];exact λe=>A9 (ByteArray.ext (Mp.1 e)));all_goals
     go_wp2_with (first
      | (go_at_call 42;refine Kf (B6.out _ B3) ?_;rintro e w5 ⟨rfl,Ad⟩;have A3:Below w.heap.size w w5:=B3.trans (Ad.mono B3.size);have Bp:w5.cell? ⟨w1.heap.size,4,J0⟩=I3 (ID q4):=(Ad.cell (p:=⟨w1.heap.size,4,J0⟩) Ao).trans Am)
      | (go_at_call 41;refine Kf (B5.out _ A3) ?_;rintro e w6 ⟨rfl,Ar,Ax⟩))
     go_ret;exact⟨rfl,Ar,(Off.of_below A3).trans Ax⟩
theorem AD {b:Nat}{c:Nat}(k a x y:Int)(w:LR)(h:Bk B w b s n σ M vs d c)(hc:c<1000)(ik:Jl k)(ia:Jl a)(ix:Jl x)(iy:Jl y) :
 Lq Jx 24 #[J1 (I3 ⟨b,0,J0⟩),Nd #[IF IH k,IF IH a,IF IH x,IF IH y]] w (cC B b s n c (jC σ k a x y) w):=by
 have p8:=bZ k 8 (by omega);unfold jC;by_cases h2:pk k 8<=2
 ·rw[if_pos h2];exact AA k a x y h2 w h hc ik ia ix iy
 rw[if_neg h2];by_cases h3:pk k 8=3
 ·rw[if_pos h3];exact yo k a x y h3 w h hc ik ia ix iy
 rw[if_neg h3];by_cases h4:pk k 8=4
 ·rw[if_pos h4];exact wO k a x y h4 w h hc ik ia ix iy
 rw[if_neg h4];by_cases h5:pk k 8=5
 ·rw[if_pos h5];exact yN k a x y h5 w h hc ik ia ix iy
 rw[if_neg h5];by_cases h6:pk k 8=6
 ·rw[if_pos h6];exact step_drop k a x y h6 w h hc ik ia ix iy
 rw[if_neg h6];exact zN k a x y (by omega) w h hc ik ia ix iy
def CC:List UInt8:=[80,85,84,32,47,107,13,10,13,10,97]
def Ik:List UInt8:=[50,48,49,13,10,69,84,97,103,58,32,34,97,102,54,51,100,99,52,99,56,54,48,49,101,99,56,99,34,13,10,86,101,114,115,105,111,110,58,32,49,13,10,13,10]
theorem Gz:(bF st0 CC).1=⟨201,[⟨mP,bX [97]⟩,⟨eF,LO 1⟩],[]⟩:=by
 have hr:aZ CC=.ok (2,⟨1,[107],0⟩,k0,[97]):=ju (key:=[107]) (what:=[97]) (by decide) (by decide);rw[tV hr (by rw[gZ]) (by decide) (Lz (by decide))];rfl
theorem Gg:aL 201 [⟨mP,bX [97]⟩,⟨eF,LO 1⟩] []=Ik:=by kernel_rfl
theorem ak.JB {kc B:Nat}{w:LR}{rd:Int}{lk:Nat->Int}(h:ak w s n rd lk σ M kc B){k:Nat}(hk:M.own s n k):k<w.heap.size:=by
 have lt:∀{k:Nat} {o:Obj},w.heap[k]?=I3 o->k<w.heap.size:=λh=>(gL h);rcases hk with rfl|rfl|⟨i,hi,hb⟩|⟨i,hi,hb⟩|⟨i,p,hi,hp,hb⟩|hb
 ·exact lt h.blk
 ·obtain⟨cs,hc,_⟩:=h.row;exact lt hc
 ·obtain⟨c,hc⟩:=dN (h.kt i hi).k.row hb;exact lt hc
 ·exact lt (h.Jc i hi k hb).blk
 ·obtain⟨c,hc⟩:=dN (h.Jc i hi p hp).row hb;exact lt hc
 ·obtain⟨c,hc⟩:=dN h.Jn hb;exact lt hc
theorem oU (s:Nat)(en:Nat->IP)(vs:Nat->L1)(t d:Nat)(K:List UInt8):∀i,i<5->(aC s en vs t d).setIfInBounds (1+i*3) (ID ⟨K.toArray⟩)=aC s (λj=>if j=i then⟨K,(en j).last,(en j).IB⟩ else en j) vs t d:=by
 refine tY ?_ ?_ ?_ ?_ ?_<;>simp[aC]
def MH (k:Nat)(j:Nat):IP:=⟨if j<k then IW j else[],0,[]⟩
theorem Ew (j:Nat)(hj:j<5):MH 5 j=IE st0 j:=by
 simp[MH,IE,st0,ae,hj]
theorem uX (x:Int)(w:LR)(hM:bu w)(hT:Jm w)(QI : -9223372036854775808<=x)(QH:x<=9223372036854775807) :
 Lq Jx 9 #[IF IH x] w λe w'=>∃b s n M vs,e=K0 (J1 (I3 ⟨b,0,J0⟩))/\n=1+(pk x 8).toNat/\Bk (λk=>w.heap.size<=k) w' b s n st0 M vs 0 0/\Below w.heap.size w w':=by
 have p8:=bZ x 8 (by omega);obtain⟨m,hm⟩:∃n:Nat,pk x 8=n:=⟨(pk x 8).toNat,by omega⟩;have Aw:m<8:=by omega
 have Av:(1:Int)+(m:Int)=((1+m:Nat):Int):=by omega
 have HE:=IA (Env.made hM hT);have HY:=IA Gz;have As:=IA Gg;go_enter func9,ntmps9;have Ar:IntKind.i64.wrap (1+(m:Int))=((1+m:Nat):Int):=by rw[Mn];omega
 obtain⟨N,hN⟩:=IG (1+m);rw[hN] at Ar;have HN:Hid (Lq Jx 27 #[IF IH N] w λe w'=>∃s M,e=K0 (Mu #[J1 (I3 ⟨s,0,J0⟩),IF IH 0])/\aN w' s N 0 (λ_=>0) st0 M/\Below w.heap.size w w'/\∀k,M.own s N k->w.heap.size<=k):=xU N w (by omega) (by omega);go_wp2_with (first
  | (go_at_call 10;refine(bo _ _ _ (by omega) (by omega) (by omega) (by omega)).mono ?_;rintro e w' ⟨rfl,rfl⟩;rw[hm]))
 refine Kf HN.out ?_;rintro e w1 ⟨s,M,rfl,Ab,A6,Af⟩;go_wp2_with fail;refine Kf (xU 1 w1 (by omega) (by omega)) ?_;rintro e w2 ⟨y,My,rfl,Aj,Ad,Ac⟩;have A2:Below w'.heap.size w' w2:=A6.trans (Ad.mono A6.size);have Al:J4 (λk=>w'.heap.size<=k) w2 y 1 st0 My:=⟨HE.out.below A2,Aj,λk hk=>L3 A6.size (Ac k hk)⟩;have Ak:Hid (Lq Jx 11 #[J1 (I3 ⟨y,0,J0⟩),ID ⟨#[80,85,84,32,47,107,13,10,13,10,97]⟩] w2 λe w3=>e=K0 (ID ⟨#[50,48,49,13,10,69,84,97,103,58,32,34,97,102,54,51,100,99,52,99,56,54,48,49,101,99,56,99,34,13,10,86,101,114,115,105,111,110,58,32,49,13,10,13,10]⟩)/\J4 (λk=>w'.heap.size<=k) w3 s N st0 M/\Off (λk=>w'.heap.size<=k) w' w3):=by
  have hd:=jU CC Al (by decide) (by decide) (a:=(bF st0 CC).1) (σ':=(bF st0 CC).2) rfl ⟨_,_,_,_,ju (key:=[107]) (what:=[97]) (by decide) (by decide),(by decide:1≠0),(by decide:1≠3),rfl,rfl⟩;rw[HY.out] at hd;refine hd.mono ?_;rintro e w3 ⟨rfl,_,M',Aa,A7,Ao⟩;refine⟨?_,⟨Aa.env,(Ab.below Ad).off A7 (λk hk hk2=>?_),Af⟩,(Off.of_below A2).trans Ao⟩
  ·show K0 (ID ⟨(aL 201 [⟨mP,bX [97]⟩,⟨eF,LO 1⟩] []).toArray⟩)=_;rw[As.out];rfl
  ·have h1:=Ab.JB hk;have h2:=Ac k hk2;omega
 have Au:Hid (w'.heap.size<=w1.heap.size):=A6.size;clear Ab Aj A6 Ad Af Ac A2 Al HN;go_wp2_with fail;refine Kf Ak.out ?_;rintro e w3 ⟨rfl,Aa,A7⟩;have A5:=IA Aa;have Ap:=IA A7;clear Aa A7 Ak;go_wp2_with fail;have hh:=K2 w3 (IR (aC s (MH 0) (λ_=>LL J0 0 0) 0 0) 31);have A1:aY (w3.alloc (IR (aC s (MH 0) (λ_=>LL J0 0 0) 0 0) 31)) w3.heap.size s (MH 0) (λ_=>LL J0 0 0) 0 0 :=
  ⟨hh,λi hi=>⟨rfl,LN ⟨rfl,rfl⟩⟩,λi j _ _ _ g hg=>by cases hg⟩
 have Ah:Below w3.heap.size w3 (w3.alloc (IR (aC s (MH 0) (λ_=>LL J0 0 0) 0 0) 31)):=(Below.refl _ _).alloc (K1 _) _;obtain⟨X,hX⟩:=exj (w3.alloc (IR (aC s (MH 0) (λ_=>LL J0 0 0) 0 0) 31));rw[<-hX] at A1 Ah;change Code.wp _ _ _ _ (w3.alloc (IR (aC s (MH 0) (λ_=>LL J0 0 0) 0 0) 31));rw[<-hX];clear hX hh;have Ae:=IA Ah;have Ay:w'.heap.size<=w3.heap.size:=A5.out.env.sz _ (K1 _);obtain⟨b,A8⟩:=IG (w3.heap.size);rw[A8] at A1 ⊢;go_loopw [8] (λiv wr=>∃k:Nat,k<=5/\iv=IF IH k/\aY wr b s (MH k) (λ_=>LL J0 0 0) 0 0/\Off (λq=>q=b) X wr)
  (λiv _=>5-(intOf iv).toNat)
 case atStart=>exact⟨0,by omega,rfl,A1,Off.refl _ _⟩
 case round =>
  obtain⟨k,hk,rfl,A4,A3⟩:=hrel;have At:=A4.lt;have Ax:=A4.fz;by_cases hk5:k<5
  ·have A9:=IA A4;have Am:=IA A3;clear A4 A3 A1;go_wp2_with fail;go_region_held3 (λ_=>True) (first|trivial|go_keep) (first
    | (go_at_call 28
       refine(zd k _ hk5).mono ?_;rintro e w5 ⟨rfl,A0⟩;have f5:=(A9.out.below (show Below wr.heap.size wr w5 from⟨A0.os,A0.tape,A0.output,A0.size,A0.block⟩)).fz;have l5:=(A9.out.below (show Below wr.heap.size wr w5 from⟨A0.os,A0.tape,A0.output,A0.size,A0.block⟩)).lt
       have c5:=((A9.out.below (show Below wr.heap.size wr w5 from⟨A0.os,A0.tape,A0.output,A0.size,A0.block⟩)).ck k hk5).1))
   go_wp2;have Ai:Below wr.heap.size wr w5:=⟨A0.os,A0.tape,A0.output,A0.size,A0.block⟩;refine⟨⟨k+1,by omega,by go_num,?_,(Am.out.trans (Off.of_below Ai)).set b _ _ (LN rfl)⟩,by simp[intOf];omega⟩;refine((A9.out.below Ai).set _ _ (oU _ _ _ _ _ (IW k) k hk5) (λj _=>by split<;>rfl)).ext (λj hj=>⟨?_,rfl⟩);by_cases e:j=k
   ·subst e;simp[MH]
   ·simp only[if_neg e,MH];have An:(j<k)=(j<k+1):=propext (by omega);simp only[An]
  ·(obtain rfl:k=5:=by omega);(have Ag:J4 (λk=>w'.heap.size<=k) wr s N st0 M:=by refine⟨(A5.out.env.below (A8 ▸ Ae.out)).off (A3.mono (λq hq=>by omega)),((A5.out.st.below (A8 ▸ Ae.out)).off A3 (λq hq hq2=>?_)),A5.out.own⟩;have:=A5.out.st.JB hq;omega);(have HF:Hid (Bk (λk=>w'.heap.size<=k) wr b s N st0 M (λ_=>LL J0 0 0) 0 0):=by refine⟨Ag,A4.ext (λj hj=>⟨Ew j hj,rfl⟩),by omega,λi _ g hg=>(by cases hg),λE hE=>(by cases hE),MA _,MA _,λi=>K1 _,K1 _⟩);(have Aq:Hid (Below w'.heap.size w' wr):=by have h1:=(Ap.out.trans (Off.of_below (S:=λk=>w'.heap.size<=k) (A8 ▸ Ae.out))).trans (A3.mono (λq hq=>by omega));exact⟨h1.os,h1.tape,h1.output,h1.size,λq hq=>h1.block q hq (by omega)⟩);clear A4 A3 A1 Ag;go_wp2;go_ret;exact⟨b,s,N,M,_,rfl,by omega,HF.out,Aq.out⟩
structure Stp where
 k:Int
 a:Int
 b:Int
 c:Int
def Stp.ok (o:Stp):Prop:=Jl o.k/\Jl o.a/\Jl o.b/\Jl o.c
noncomputable def fM (σ:St):List Stp->St
 | []=>σ
 | o::l=>fM (jC σ o.k o.a o.b o.c) l
theorem wA (σ:St)(l:List Stp)(o:Stp):fM σ (l++[o])=jC (fM σ l) o.k o.a o.b o.c:=by
 induction l generalizing σ with
 | nil=>rfl
 | cons a l ih=>exact ih _
structure uO (w:LR)(v:L1)(l:List Stp):Prop where
 lie:∃o cap,v=LL o l.length cap/\(0<l.length->∃g off,o=I3 ⟨g,off,J0⟩/\g<w.heap.size/\∀j x,l[j]?=I3 x->w.cell? ⟨g,off+j*4,J0⟩=I3 (IF IH x.k)/\w.cell? ⟨g,off+j*4+1,J0⟩=I3 (IF IH x.a)/\w.cell? ⟨g,off+j*4+2,J0⟩=I3 (IF IH x.b)/\w.cell? ⟨g,off+j*4+3,J0⟩=I3 (IF IH x.c))
 num:∀x∈l,x.ok
 len:l.length<=9223372036854775807
theorem wj (x:Int)(v:L1)(l:List Stp)(w:LR)(hM:bu w)(hT:Jm w)(QI : -9223372036854775808<=x)(QH:x<=9223372036854775807)(hv:uO w v l) :
 Lq Jx 17 #[IF IH x,v] w λe w'=>∃b s n M vs d c,e=K0 (J1 (I3 ⟨b,0,J0⟩))/\n=1+(pk x 8).toNat/\c<=400/\Bk (λk=>w.heap.size<=k) w' b s n (fM st0 (l.take 400)) M vs d c/\Off (λk=>w.heap.size<=k) w w':=by
 obtain⟨o,Al,rfl,A0⟩:=hv.lie;have HV:=IA hv;have A7:=hv.len;clear hv;go_enter func17,ntmps17;go_wp2_with fail;refine Kf (uX x w hM hT QI QH) ?_;rintro e w1 ⟨b,s,n,M,vs,rfl,hn,Aa,Ac⟩;have Ai:=IA Aa;have Aj:=IA Ac;clear Aa Ac;go_wp2_with fail;obtain⟨ln,Ag⟩:=IG (l.length);rw[Ag] at A7 A0 ⊢;go_loopw [6,7] (λiv _ wr=>∃k:Nat,k<=ln/\k<=400/\iv=IF IH k/\(∃M vs d,Bk (λk=>w.heap.size<=k) wr b s n (fM st0 (l.take k)) M vs d k)/\Off (λq=>w.heap.size<=q) w wr)
  (λiv _ _=>400-(intOf iv).toNat)
 case atStart=>exact⟨0,MA _,MA _,rfl,⟨M,vs,0,Ai.out⟩,Off.of_below Aj.out⟩
 case round =>
  obtain⟨k,hk,Am,rfl,⟨Mk,vk,dk,A3⟩,A2⟩:=hrel;by_cases hkl:k<ln
  ·by_cases Vt:k<400
   ·obtain⟨y,hy⟩:∃y,l[k]?=I3 y:=⟨_,List.getElem?_eq_getElem (by omega)⟩;obtain⟨g,A6,rfl,hg,Ab⟩:=A0 (by omega);have A5:=HV.out.num y (List.mem_of_getElem? hy);have hc:=Ab k y hy;have A1:=A2.block g hg (by omega);(have s0:wr.cell? ⟨g,A6+k*4,J0⟩=I3 (IF IH y.k):=by rw[<-hc.1];simp only[Ly];rw[A1]);(have s1:wr.cell? ⟨g,A6+k*4+1,J0⟩=I3 (IF IH y.a):=by rw[<-hc.2.1];simp only[Ly];rw[A1]);(have s2:wr.cell? ⟨g,A6+k*4+2,J0⟩=I3 (IF IH y.b):=by rw[<-hc.2.2.1];simp only[Ly];rw[A1]);(have s3:wr.cell? ⟨g,A6+k*4+3,J0⟩=I3 (IF IH y.c):=by rw[<-hc.2.2.2];simp only[Ly];rw[A1]);have Ak:Hid (Lq Jx 24 #[J1 (I3 ⟨b,0,J0⟩),Nd #[IF IH y.k,IF IH y.a,IF IH y.b,IF IH y.c]] wr (cC (λk=>w.heap.size<=k) b s n k (jC (fM st0 (l.take k)) y.k y.a y.b y.c) wr)) :=
     AD y.k y.a y.b y.c wr A3 (by omega) A5.1 A5.2.1 A5.2.2.1 A5.2.2.2
    (have Ae:Hid (fM st0 (l.take (k+1))=jC (fM st0 (l.take k)) y.k y.a y.b y.c):=by show _=_;rw[List.take_add_one,hy,Option.toList_some,wA]);have A4:=IA A2;(have Ah:(k:Int)<(ln:Int):=by omega);(have An:(k:Int)<400:=by omega);clear hc Ab hy A1 A3 A2 A0 A5;go_wp2_with (go_at_call 24;refine Kf Ak.out ?_;rintro e w5 ⟨rfl,Af,Ad⟩);exact⟨⟨k+1,by omega,by omega,by go_num,by rw[Ae.out];exact Af,A4.out.trans Ad⟩,by simp[intOf];omega⟩
   ·(obtain rfl:k=400:=by omega);have HF:Hid (∃M vs d,Bk (λk=>w.heap.size<=k) wr b s n (fM st0 (l.take 400)) M vs d 400):=⟨Mk,vk,dk,A3⟩;have A4:=IA A2;(have Ah:((400:Nat):Int)<(ln:Int):=by omega);clear A3 A2 A0;go_wp2;go_ret;obtain⟨M',A9,d',A8⟩:=HF.out;exact⟨b,s,n,M',A9,d',400,rfl,hn,by omega,A8,A4.out⟩
  ·(obtain rfl:k=ln:=by omega);(have HF:Hid (∃M vs d,Bk (λk=>w.heap.size<=k) wr b s n (fM st0 (l.take 400)) M vs d k):=by refine⟨Mk,vk,dk,?_⟩;rw[List.take_of_length_le (by omega)] at A3;rw[List.take_of_length_le (by omega)];exact A3);have A4:=IA A2;clear A3 A2 A0;go_wp2;go_ret;obtain⟨M',A9,d',A8⟩:=HF.out;exact⟨b,s,n,M',A9,d',k,rfl,hn,by omega,A8,A4.out⟩
open Go.ChangeShapes Go.WideShapes Go.ChangeAt Go.RowKit
theorem EM:prog.cellsOf 58=4:=by kernel_rfl
theorem FH:prog.cellsOf 3=1:=by kernel_rfl
theorem wy {H:Type}{enc:TypeId×L1->H}{W:LR}{r:Reach}{b0:Nat}{v:L1}{d:DataW H}{p:List MemPlace}(hv:Value.okWide Jx W r b0 38 v)(h:DataW.Trod enc Jx W 0 (λ_=>Mb) Mb 38 v d p):∃l,uO W v l:=by
 obtain⟨o,N,cap,rfl⟩:∃o N cap,v=LL o N cap:=okWide_slice underlying38 hv;obtain⟨Aa,hf⟩:=h;rcases Deep.open_slice underlying38 hf with⟨e,hx⟩|⟨a,Ad,cp,m,n,D,Pl,e,_,hl,A9,hm,hx,hc⟩
 ·simp[Value.cells] at e;obtain⟨rfl,rfl,rfl⟩:=e;exact⟨[],⟨J0,0,rfl,λh=>absurd h (by simp)⟩,by simp,by simp⟩
 ·simp[Value.cells] at e hm;obtain⟨rfl,rfl,rfl⟩:=e;subst hm;have A4:∀i,i<m->∃q:Int×Int×Int×Int,(W.cell? (a.add (i*4))=I3 (IF IH q.1)/\W.cell? (a.add (i*4+1))=I3 (IF IH q.2.1)/\W.cell? (a.add (i*4+2))=I3 (IF IH q.2.2.1)/\W.cell? (a.add (i*4+3))=I3 (IF IH q.2.2.2))/\Jl q.1/\Jl q.2.1/\Jl q.2.2.1/\Jl q.2.2.2:=by
   intro i hi;obtain⟨A8,h1,h2⟩:=hc i hi;rw[EM] at h1;obtain⟨_,A3,A0⟩:=World.cells?_some h1;obtain⟨xs,k,hk,Ac,_,A5,hf⟩:=DataW.trod_struct underlying58 h2;have e0:=A0 0 (by omega);have e1:=A0 1 (by omega);have e2:=A0 2 (by omega);have e3:=A0 3 (by omega);rw[Deep.add_add] at e0 e1 e2 e3
   match xs,A5,A8,A3 with
   | [y0,y1,y2,y3],_,[v0,v1,v2,v3],_ =>have g0:=hf 0 _ rfl;have g1:=hf 1 _ rfl;have g2:=hf 2 _ rfl;have g3:=hf 3 _ rfl;simp[FH] at g0 g1 g2 g3;obtain⟨n0,q0,_,w0⟩:=DataW.trod_int LS g0;obtain⟨n1,q1,_,w1⟩:=DataW.trod_int LS g1;obtain⟨n2,q2,_,w2⟩:=DataW.trod_int LS g2;obtain⟨n3,q3,_,w3⟩:=DataW.trod_int LS g3;simp only[List.cons.injEq,and_true] at q0 q1 q2 q3;subst q0 q1 q2 q3;exact⟨(n0,n1,n2,n3),⟨by simpa using e0,by simpa using e1,by simpa using e2,by simpa using e3⟩,bounds_i64 w0,bounds_i64 w1,bounds_i64 w2,bounds_i64 w3⟩
  obtain⟨q,hq⟩:=Deep.choose_lt A4;refine⟨(List.range N).map λi=>⟨(q i).1,(q i).2.1,(q i).2.2.1,(q i).2.2.2⟩,⟨I3 a,m,by simp,λh0=>?_⟩,λx hx=>?_,?_⟩
  ·(have Ae:0<N:=by simpa using h0);obtain⟨b,A7,A2⟩:=a;(have A1:A2=J0:=by simpa [Addr.add] using World.cell?_spot (hq 0 (by omega)).1.1);subst A1;(have A6:b<W.heap.size:=by have:=(hq 0 (by omega)).1.1;rw[add_plain] at this;exact bj this);refine⟨b,A7,rfl,A6,λj x hx=>?_⟩;(have Ab:j<N:=by have:=(List.getElem?_eq_some_iff.1 hx).1;simpa using this);rw[List.getElem?_map,List.getElem?_range Ab] at hx;cases hx;have:=(hq j (by omega)).1;simp only[add_plain] at this;exact this
  ·obtain⟨i,hi,rfl⟩:=List.mem_map.1 hx;exact(hq i (by have:=List.mem_range.1 hi;omega)).2
  ·simp;unfold maxLen at A9;omega
open Go.RowKit
abbrev Cw (s T o:Nat):L1:=Nd #[J1 (I3 ⟨s,7,J0⟩),J1 (I3 ⟨T,o,J0⟩)]
abbrev mn (s T o:Nat):L1:=.iface 257 (Cw s T o)
theorem FV (s T o:Nat)(b:Bool)(w:LR)(h:w.cell? ⟨T,o+20,J0⟩=I3 (Ln b)) :
 Lq Jx 306 #[Cw s T o] w λe w'=>e=K0 (Ln b)/\Below w.heap.size w w':=by
 have A1:T<w.heap.size:=bj h;have A0:Below w.heap.size w (w.alloc (IR #[J1 (I3 ⟨s,7,J0⟩),J1 (I3 ⟨T,o,J0⟩)] 257)):=(Below.refl _ _).alloc (K1 _) _;have h':(w.alloc (IR #[J1 (I3 ⟨s,7,J0⟩),J1 (I3 ⟨T,o,J0⟩)] 257)).cell? ⟨T,o+20,J0⟩=I3 (Ln b):=(A0.cell (p:=⟨T,o+20,J0⟩) A1).trans h;have HA:=IA A0;clear A0 h;go_enter func306,ntmps306;go_wp2;exact L4 (results_tmp rfl _ _ _) rfl ⟨rfl,HA.out⟩
def dW (cs:Array L1)(o k t:Nat)(key:List UInt8)(n:Nat)(body:List UInt8):Array L1 :=
 (((((cs.setIfInBounds (o+22) (IF NO k)).setIfInBounds (o+23) (IF IH t)).setIfInBounds (o+24) (ID ⟨key.toArray⟩)).setIfInBounds (o+25) (IF IH n)).setIfInBounds (o+26) (ID ⟨body.toArray⟩)).setIfInBounds (o+21) (Ln Mb)
theorem B1 (s T o:Nat)(cs:Array L1)(tm kc:Int)(k t n:Nat)(key body:List UInt8)(w:LR)(hC:MO w s 7 tm kc)(hT:w.heap[T]?=I3 (IR cs 110 (0,0)))(hsz:o+28<=cs.size)(hst:s≠T) :
 Lq Jx 307 #[Cw s T o,ev k t key n body] w λe w'=>e=K0 (IF IH tm)/\w'.heap[T]?=I3 (IR (dW cs o k t key n body) 110 (0,0))/\Off (λk=>k=T) w w':=by
 have A3:T<w.heap.size:=(gL hT);obtain⟨X,hX⟩:=exj ((w.alloc (IR #[J1 (I3 ⟨s,7,J0⟩),J1 (I3 ⟨T,o,J0⟩)] 257)).alloc (IR #[IF NO k,IF IH t,ID ⟨key.toArray⟩,IF IH n,ID ⟨body.toArray⟩] 108));have A0:Below w.heap.size w X:=by rw[hX];exact((Below.refl _ _).alloc (K1 _) _).alloc (by simp) _
 have hP:X.heap[w.heap.size]?=I3 (IR #[J1 (I3 ⟨s,7,J0⟩),J1 (I3 ⟨T,o,J0⟩)] 257 (0,0)):=by rw[hX];exact(LI _ _ (by simp)).trans (K2 _ _)
 have hR:X.heap[w.heap.size+1]?=I3 (IR #[IF NO k,IF IH t,ID ⟨key.toArray⟩,IF IH n,ID ⟨body.toArray⟩] 108 (0,0)):=by rw[hX];have:=K2 (w.alloc (IR #[J1 (I3 ⟨s,7,J0⟩),J1 (I3 ⟨T,o,J0⟩)] 257)) (IR #[IF NO k,IF IH t,ID ⟨key.toArray⟩,IF IH n,ID ⟨body.toArray⟩] 108);simpa using this
 have A1:X.heap[T]?=I3 (IR cs 110 (0,0)):=(A0.block T A3).trans hT;go_enter func307,ntmps307;go_wp2_with fail;rw[<-hX];obtain⟨p0,p1⟩:=U8 hP;obtain⟨r0,r1,r2,r3,r4⟩:=Ku hR;have tc:∀j,j<28->∃v,X.cell? ⟨T,o+j,J0⟩=I3 v:=λj hj=>⟨cs[o+j],by simp[Ly,A1,show o+j<cs.size by omega]⟩;have tf:∀j,X.frozen? ⟨T,j,J0⟩=Mz:=λj=>by simp[MT,A1]
 obtain⟨v1,t1⟩:=tc 21 (by omega);obtain⟨v2,t2⟩:=tc 22 (by omega);obtain⟨v3,t3⟩:=tc 23 (by omega);obtain⟨v4,t4⟩:=tc 24 (by omega);obtain⟨v5,t5⟩:=tc 25 (by omega);obtain⟨v6,t6⟩:=tc 26 (by omega);have f1:=tf (o+21);have f2:=tf (o+22);have f3:=tf (o+23);have f4:=tf (o+24);have f5:=tf (o+25);have f6:=tf (o+26);have HX:=IA hX;have A8:=IA A0;have HP:=IA hP;have HR:=IA hR;have HT:=IA A1;have HC:Hid (MO X s 7 tm kc):=⟨(A0.cell (p:=⟨s,7,J0⟩) (bj hC.l)).trans hC.l,(A0.cell (p:=⟨s,9,J0⟩) (bj hC.l)).trans hC.t,(A0.cell (p:=⟨s,10,J0⟩) (bj hC.l)).trans hC.k,λj=>by
  have:=hC.f j;simp only[MT] at this ⊢;rw[A0.block s (bj hC.l)]
  exact this⟩
 have A2:T≠w.heap.size:=by omega
 have A6:T≠w.heap.size+1:=by omega
 clear hX A0 hP hR A1 tc tf hC hT;go_region;obtain⟨Z,hZ⟩:=exj ((((((X.setCell ⟨T,o+22,J0⟩ (IF NO k)).setCell ⟨T,o+22+1,J0⟩ (IF IH t)).setCell ⟨T,o+22+2,J0⟩ (ID ⟨key.toArray⟩)).setCell ⟨T,o+22+3,J0⟩ (IF IH n)).setCell ⟨T,o+22+4,J0⟩ (ID ⟨body.toArray⟩)).setCell ⟨T,o+21,J0⟩ (Ln Mb));rw[<-hZ];have zT:Z.heap[T]?=I3 (IR (dW cs o k t key n body) 110 (0,0)):=by rw[hZ,heap_set (heap_set (heap_set (heap_set (heap_set (heap_set HT.out)))))];rfl
 have zO:Off (λk=>k=T) X Z:=by rw[hZ];exact((((((Off.refl (λk=>k=T) X).set T _ _ (LN rfl)).set T _ _ (LN rfl)).set T _ _ (LN rfl)).set T _ _ (LN rfl)).set T _ _ (LN rfl)).set T _ _ (LN rfl)
 have zP:Z.heap[w.heap.size]?=_:=(zO.block _ (gL HP.out) (λe=>A2 e.symm)).trans HP.out;have z0:Z.drew.cell? ⟨w.heap.size,0,J0⟩=I3 (J1 (I3 ⟨s,7,J0⟩)):=by show Z.cell? _=_;simp[Ly,zP]
 have zs:=zO.block s (bj HC.out.l) hst;have ZC:MO Z.drew s 7 tm kc:=by
  refine⟨?_,?_,?_,λj=>?_⟩
  ·show Z.cell? _=_;exact(L2 (w:=X) zs).trans HC.out.l
  ·show Z.cell? _=_;exact(L2 (w:=X) zs).trans HC.out.t
  ·show Z.cell? _=_;exact(L2 (w:=X) zs).trans HC.out.k
  ·have:=HC.out.f j;show Z.frozen? _=_;simp only[MT] at this ⊢;rw[zs];exact this
 have A5:=IA ZC;have A4:=IA zO;have A7:=IA zT;clear hZ zT zO zP zs ZC;generalize hY:Z.drew=Y at *
 have HY:=IA hY;clear hY;go_wp2_with fail;refine(Ed s 7 tm kc Y A5.out).mono ?_;rintro e w' ⟨rfl,e2⟩;go_wp2;refine L4 (results_tmp rfl _ _ _) rfl ⟨rfl,?_,?_⟩
 ·rw[<-HY.out];exact A7.out
 ·rw[<-HY.out];exact((Off.of_below A8.out).trans A4.out).drew
theorem um (g o p:Nat)(bk:L1)(E:IP)(vs:L1)(k t n:Nat)(key body:List UInt8)(w:LR)(h:ay w p E vs)(hl:E.IB.length<1000)(ho:aX E k n≠0) :
 Lq Jx 102 #[J1 (I3 ⟨g,o,J0⟩),J1 (I3 ⟨p,0,J0⟩),ev k t key n body,bk] w λe w'=>e=K0 (Mu #[IF IH (aX E k n:Nat),Ln Mz])/\Below w.heap.size w w':=by
 have A0:Below w.heap.size w (w.alloc (IR #[IF NO k,IF IH t,ID ⟨key.toArray⟩,IF IH n,ID ⟨body.toArray⟩] 108)):=(Below.refl _ _).alloc (K1 _) _;have HE:=IA (h.below A0);have HA:=IA A0;clear h A0;obtain⟨o',A2⟩:=IG (aX E k n);go_enter func102,MY;go_wp2_with fail;refine(cE p E vs k t n key body _ HE.out hl).mono ?_;rintro e w1 ⟨rfl,A1⟩;rw[A2] at ho ⊢;have HB:Hid (Below w.heap.size w w1):=HA.out.trans (A1.mono (by simp));have A3:((o':Int)==0)=Mz:=beq_eq_false_iff_ne.2 (by omega);clear A1;go_wp2;refine L4 (Nm rfl _ _ _) rfl ?_;exact⟨by rw[A2];rfl,HB.out⟩
theorem pn (g o p s T u:Nat)(cs tc:Array L1)(tm:Nat)(kc:Int)(E:IP)(vs:L1)(k t n:Nat)(key body:List UInt8)(w:LR)(h:ay w p E vs)(hl:E.IB.length<1000)(ho:aX E k n=0)(hk:k≠3)(_:k<256)(hla:0<E.last)
 (hb:w.heap[s]?=I3 (IR cs 99 (0,0)))(h0:cs[7]?=I3 (IF .i32 0))(h2:cs[9]?=I3 (IF IH tm))(h3:cs[10]?=I3 (IF IH kc))(hT:w.heap[T]?=I3 (IR tc 110 (0,0)))(hsz:u+28<=tc.size)
 (_:tm<9223372036854775807)(_:n<9223372036854775807)(hbl:body.length<100000) :
 Lq Jx 102 #[J1 (I3 ⟨g,o,J0⟩),J1 (I3 ⟨p,0,J0⟩),ev k t key n body,mn s T u] w λe w'=>e=K0 (Mu #[IF IH (bN E k:Nat),Ln Mb]) /\
  ∃g2 cap2,w'.heap[T]?=I3 (IR (dW tc u k t key n body) 110 (0,0))/\ay w' p ⟨E.key,n,E.IB++[⟨n,tm,k==2,body⟩]⟩ (LL (I3 ⟨g2,0,J0⟩) (E.IB.length+1) cap2)/\(vs.ownBlock=I3 g2\/w.heap.size<=g2)/\Off (λk=>k=T\/k=p\/vs.ownBlock=I3 k) w w':=by
 have A4:Below w.heap.size w (w.alloc (IR #[IF NO k,IF IH t,ID ⟨key.toArray⟩,IF IH n,ID ⟨body.toArray⟩] 108)):=(Below.refl _ _).alloc (K1 _) _;have HE:=IA (h.below A4);have HA:=IA A4;have Aw:s<w.heap.size:=(gL hb);have HS:=IA ((A4.block s Aw).trans hb);have B0:T<w.heap.size:=(gL hT);have HT:=IA ((A4.block T B0).trans hT);have Az:T<(w.alloc (IR #[IF NO k,IF IH t,ID ⟨key.toArray⟩,IF IH n,ID ⟨body.toArray⟩] 108)).heap.size:=by simp;omega
 have B2:s<(w.alloc (IR #[IF NO k,IF IH t,ID ⟨key.toArray⟩,IF IH n,ID ⟨body.toArray⟩] 108)).heap.size:=by simp;omega
 clear h A4 hb hT;go_enter func102,MY;go_wp2_with fail;refine(cE p E vs k t n key body _ HE.out hl).mono ?_;rintro e w1 ⟨rfl,A1⟩;rw[ho];have Aj:w1.heap[w.heap.size]?=I3 (IR #[IF NO k,IF IH t,ID ⟨key.toArray⟩,IF IH n,ID ⟨body.toArray⟩] 108 (0,0)):=(A1.block _ (by simp)).trans (K2 _ _);have HB:Hid (Below w.heap.size w w1):=HA.out.trans (A1.mono (by simp));have Ab:=IA (HE.out.below A1);have Ae:Hid (w1.heap[s]?=I3 (IR cs 99 (0,0))):=(A1.block s B2).trans HS.out;have Ai:Hid (w1.heap[T]?=I3 (IR tc 110 (0,0))):=(A1.block T Az).trans HT.out;have Av:decide (0<E.last)=Mb:=by simpa using hla
 have r0:w1.cell? ⟨w.heap.size,0,J0⟩=I3 (IF NO k):=by simp[Ly,Aj]
 have Ag:=IA Aj;clear A1 Aj HT HS HE HA;go_wp2_with fail;refine(cz p E vs _ Ab.out).mono ?_;rintro e w2 ⟨rfl,rfl⟩;rw[Av];go_wp2_with fail;refine(eU p E vs k _ Ab.out hl).mono ?_;rintro e w2 ⟨rfl,A0⟩;obtain⟨sc,Ak⟩:=IG (bN E k);rw[Ak];have B3:=IA Ak;clear Ak;have Ad:w2.heap[w.heap.size]?=I3 (IR #[IF NO k,IF IH t,ID ⟨key.toArray⟩,IF IH n,ID ⟨body.toArray⟩] 108 (0,0)):=(A0.block _ (gL Ag.out)).trans Ag.out;have Ar:w2.heap[s]?=I3 (IR cs 99 (0,0)):=(A0.block s (gL Ae.out)).trans Ae.out;have Am:w2.heap[T]?=I3 (IR tc 110 (0,0)):=(A0.block T (gL Ai.out)).trans Ai.out;have Ah:=IA (Ab.out.below A0);have B4:Hid (Below w.heap.size w w2):=HB.out.trans (A0.mono HB.out.size);obtain⟨q0,q1,q2,q3,q4⟩:=Ku Ad;have Af:=IA Ad;have An:=IA Ar;have A5:=IA Am;clear Ad Ar Am A0 Ag Ae Ai Ab r0;go_wp2_with fail;refine(B1 s T u tc tm kc k t n key body _ (nO An.out h0 h2 h3) A5.out hsz (aa An.out A5.out (by decide))).mono ?_;rintro e w3 ⟨rfl,As,A8⟩;have Ax:w.heap.size<w2.heap.size:=(gL Af.out);have A3:w3.heap[w.heap.size]?=I3 (IR #[IF NO k,IF IH t,ID ⟨key.toArray⟩,IF IH n,ID ⟨body.toArray⟩] 108 (0,0)):=(A8.block _ Ax (λh=>aa Af.out A5.out (by decide) h)).trans Af.out;have Aa:Hid (ay w3 p E vs):=Ah.out.off A8 (λh=>aa Ah.out.blk A5.out (by decide) h) (λg hg h=>ai Ah.out.row A5.out (by decide) (h ▸ hg));have s1:w3.cell? ⟨w.heap.size,1,J0⟩=I3 (IF IH t):=by simp[Ly,A3]
 have sf:=Je A3 1;have A9:=IA A3;have Ac:=IA As;have Ap:=IA A8;obtain⟨s0,-,s2,s3,s4⟩:=Ku A3;clear A3 As A8;go_wp2_with fail;obtain⟨x3,A6⟩:=exj (w3.setCell ⟨w.heap.size,1,J0⟩ (IF IH tm));rw[<-A6];have hx:Off (λk=>k=w.heap.size) w3 x3:=by rw[A6];exact(Off.refl _ _).set _ 1 _ (LN rfl)
 have Ao:x3.heap[T]?=_:=(hx.block T (gL Ac.out) (aa Ac.out A9.out (by decide))).trans Ac.out;have At:ay x3 p E vs:=Aa.out.off hx (λh=>aa Aa.out.blk A9.out (by decide) h) (λg hg h=>ai Aa.out.row A9.out (by decide) (h ▸ hg));have Al:Hid (Off (λk=>k=T\/k=p\/vs.ownBlock=I3 k) w x3):=by rw[A6];exact((Off.of_below B4.out).trans' Ap.out (λk _ h=>LN h)).set _ 1 _ (Lz (K1 _))
 have A7:=IA Ao;have A2:=IA At;clear A6 hx Ao At s0 s1 s2 s3 s4 sf A9 Ac Aa Ap;refine(mh g o p E vs k tm n key body _ A2.out (ai A2.out.row A2.out.blk (by decide)) (by omega) (by omega) hk hla).mono ?_;rintro e w4 ⟨⟨v,rfl⟩,g2,cap2,Au,Ay,Aq⟩;have H1:=IA Au;have H2:=IA Aq;clear Au Aq;go_wp2;refine L4 (Nm rfl _ _ _) rfl ⟨by rw[B3.out];rfl,g2,cap2,?_,H1.out,Ay.imp_right (λh=>L3 Al.out.size h),?_⟩
 ·exact(H2.out.block T (gL A7.out) (by rintro(h|h);exact aa A7.out A2.out.blk (by decide) h;exact ai A2.out.row A7.out (by decide) h)).trans A7.out
 ·exact Al.out.trans' H2.out (λk _ h=>Lz h)
theorem sB (g o p s T u:Nat)(gs cs tc:Array L1)(es:L1)(ps:List Nat)(K:List (List UInt8))(i tm:Nat)(kc:Int)(E:IP)(vs:L1)(k t n:Nat)(key body:List UInt8)(w:LR)(h:ay w p E vs)(hl:E.IB.length<1000)(ho:aX E k n=0)(hk:k≠3)(_:k<256)(hla:E.last=0)
 (hg:w.heap[g]?=I3 (IR gs 137 (0,0)))(hge:gs[o+2]?=I3 es)(Oh:Kt w es ps K)(Qo:er K)(hpl:ps.length<1000000)(Qq:E.key.length<1000000)(hi:cR K E.key i)(MS:∀g,vs.ownBlock=I3 g->es.ownBlock≠I3 g)
 (hb:w.heap[s]?=I3 (IR cs 99 (0,0)))(h0:cs[7]?=I3 (IF .i32 0))(h2:cs[9]?=I3 (IF IH tm))(h3:cs[10]?=I3 (IF IH kc))(hT:w.heap[T]?=I3 (IR tc 110 (0,0)))(hsz:u+28<=tc.size)(hroom:tc[u+20]?=I3 (Ln Mb))
 (_:tm<9223372036854775807)(_:n<9223372036854775807)(hbl:body.length<100000) :
 Lq Jx 102 #[J1 (I3 ⟨g,o,J0⟩),J1 (I3 ⟨p,0,J0⟩),ev k t key n body,mn s T u] w λe w'=>e=K0 (Mu #[IF IH (bN E k:Nat),Ln Mb]) /\
  ∃g1 J7 g2 cap2,w'.heap[T]?=I3 (IR (dW tc u k t key n body) 110 (0,0)) /\
  w'.heap[g]?=I3 (IR (gs.setIfInBounds (o+2) (LL (I3 ⟨g1,0,J0⟩) (ps.length+1) J7)) 137 (0,0)) /\
  w'.ownsRow 0 143 1 (LL (I3 ⟨g1,0,J0⟩) (ps.length+1) J7) (ps.length+1) (gE (ps.take i++p::ps.drop i))/\(es.ownBlock=I3 g1\/w.heap.size<=g1) /\
  ay w' p ⟨E.key,n,E.IB++[⟨n,tm,k==2,body⟩]⟩ (LL (I3 ⟨g2,0,J0⟩) (E.IB.length+1) cap2)/\(vs.ownBlock=I3 g2\/w.heap.size<=g2) /\
  Off (λk=>k=T\/k=g\/k=p\/es.ownBlock=I3 k\/vs.ownBlock=I3 k) w w':=by
 have A6:Below w.heap.size w (w.alloc (IR #[IF NO k,IF IH t,ID ⟨key.toArray⟩,IF IH n,ID ⟨body.toArray⟩] 108)):=(Below.refl _ _).alloc (K1 _) _;have HE:=IA (h.below A6);have HA:=IA A6;have Bq:s<w.heap.size:=(gL hb);have Bv:g<w.heap.size:=(gL hg);have HS:=IA ((A6.block s Bq).trans hb);have HG:=IA ((A6.block g Bv).trans hg);have HK:=IA (Oh.below A6);have Bm:T<w.heap.size:=(gL hT);have HT:=IA ((A6.block T Bm).trans hT);have By:T<(w.alloc (IR #[IF NO k,IF IH t,ID ⟨key.toArray⟩,IF IH n,ID ⟨body.toArray⟩] 108)).heap.size:=by simp;omega
 have Bs:s<(w.alloc (IR #[IF NO k,IF IH t,ID ⟨key.toArray⟩,IF IH n,ID ⟨body.toArray⟩] 108)).heap.size:=by simp;omega
 have Bp:g<(w.alloc (IR #[IF NO k,IF IH t,ID ⟨key.toArray⟩,IF IH n,ID ⟨body.toArray⟩] 108)).heap.size:=by simp;omega
 have Bn:=IA MS;have Bw:=IA Qo;have HI:=IA hi;clear h A6 hb hT hg Oh MS Qo hi;go_enter func102,MY;go_wp2_with fail;refine(cE p E vs k t n key body _ HE.out hl).mono ?_;rintro e w1 ⟨rfl,A5⟩;rw[ho];have B7:w1.heap[w.heap.size]?=I3 (IR #[IF NO k,IF IH t,ID ⟨key.toArray⟩,IF IH n,ID ⟨body.toArray⟩] 108 (0,0)):=(A5.block _ (by simp)).trans (K2 _ _);have HB:Hid (Below w.heap.size w w1):=HA.out.trans (A5.mono (by simp));have Aw:=IA (HE.out.below A5);have B2:=IA (HK.out.below A5);have Al:Hid (w1.heap[s]?=I3 (IR cs 99 (0,0))):=(A5.block s Bs).trans HS.out;have Az:Hid (w1.heap[g]?=I3 (IR gs 137 (0,0))):=(A5.block g Bp).trans HG.out;have Af:Hid (w1.heap[T]?=I3 (IR tc 110 (0,0))):=(A5.block T By).trans HT.out;have Bl:decide (0<E.last)=Mz:=by simp[hla]
 have Ar:=IA B7;have B9:w1.cell? ⟨T,u+20,J0⟩=I3 (Ln Mb):=by have:=Af.out;simp only[Ly,this];simp[hroom]
 clear A5 B7 HT HS HE HA HK HG;go_wp2_with fail;refine(cz p E vs _ Aw.out).mono ?_;rintro e Bo ⟨rfl,B5⟩;rw[B5,Bl];clear B5 Bo;go_wp2_with fail;refine(FV s T u Mb _ B9).mono ?_;rintro e wa ⟨rfl,A4⟩;have Ak:wa.heap[w.heap.size]?=I3 (IR #[IF NO k,IF IH t,ID ⟨key.toArray⟩,IF IH n,ID ⟨body.toArray⟩] 108 (0,0)):=(A4.block _ (gL Ar.out)).trans Ar.out;have r0:wa.cell? ⟨w.heap.size,0,J0⟩=I3 (IF NO k):=by simp[Ly,Ak]
 have Ay:=IA Ak;have As:Hid (wa.heap[s]?=I3 (IR cs 99 (0,0))):=(A4.block _ (gL Al.out)).trans Al.out;have Ap:Hid (wa.heap[g]?=I3 (IR gs 137 (0,0))):=(A4.block _ (gL Az.out)).trans Az.out;have Am:Hid (wa.heap[T]?=I3 (IR tc 110 (0,0))):=(A4.block _ (gL Af.out)).trans Af.out;have An:=IA (Aw.out.below A4);have B3:=IA (B2.out.below A4);have Bk:Hid (Off (λk=>k=T\/k=g\/k=p\/es.ownBlock=I3 k\/vs.ownBlock=I3 k) w wa):=Off.of_below (HB.out.trans (A4.mono HB.out.size));clear Ak A4 B9 Ar Al Az Aw Af B2 HB;go_wp2_with fail;refine(eU p E vs k _ An.out hl).mono ?_;rintro e w2 ⟨rfl,A2⟩;obtain⟨sc,Ao⟩:=IG (bN E k);rw[Ao];have Bz:=IA Ao;have Aj:w2.heap[w.heap.size]?=I3 (IR #[IF NO k,IF IH t,ID ⟨key.toArray⟩,IF IH n,ID ⟨body.toArray⟩] 108 (0,0)):=(A2.block _ (gL Ay.out)).trans Ay.out;have B4:w2.heap[s]?=I3 (IR cs 99 (0,0)):=(A2.block s (gL As.out)).trans As.out;have Bj:w2.heap[g]?=I3 (IR gs 137 (0,0)):=(A2.block g (gL Ap.out)).trans Ap.out;have B0:w2.heap[T]?=I3 (IR tc 110 (0,0)):=(A2.block T (gL Am.out)).trans Am.out;have Ax:=IA (An.out.below A2);have Av:=IA (B3.out.below A2);have Bt:Hid (Off (λk=>k=T\/k=g\/k=p\/es.ownBlock=I3 k\/vs.ownBlock=I3 k) w w2):=Bk.out.trans (Off.of_below A2);obtain⟨q0,q1,q2,q3,q4⟩:=Ku Aj;have Aq:=IA Aj;have Bc:=IA B4;have Au:=IA Bj;have A0:=IA B0;clear Aj B4 Bj B0 A2 Ay As Ap Am An B3 Bk r0 Ao;go_wp2_with fail;refine(B1 s T u tc tm kc k t n key body _ (nO Bc.out h0 h2 h3) A0.out hsz (aa Bc.out A0.out (by decide))).mono ?_;rintro e w3 ⟨rfl,B6,A9⟩;have Bx:w.heap.size<w2.heap.size:=(gL Aq.out);have Aa:w3.heap[w.heap.size]?=I3 (IR #[IF NO k,IF IH t,ID ⟨key.toArray⟩,IF IH n,ID ⟨body.toArray⟩] 108 (0,0)):=(A9.block _ Bx (λh=>aa Aq.out A0.out (by decide) h)).trans Aq.out;have Bb:w3.heap[g]?=I3 (IR gs 137 (0,0)):=(A9.block _ (gL Au.out) (λh=>aa Au.out A0.out (by decide) h)).trans Au.out;have Ae:Hid (ay w3 p E vs):=Ax.out.off A9 (λh=>aa Ax.out.blk A0.out (by decide) h) (λg hg h=>ai Ax.out.row A0.out (by decide) (h ▸ hg));have Ag:Hid (Kt w3 es ps K):=Av.out.off A9 (λg hg h=>ai Av.out.k.row A0.out (by decide) (h ▸ hg)) (λq hq h=>by obtain⟨cq,hc⟩:=Av.out.t q hq;exact aa hc A0.out (by decide) h);obtain⟨s0,s1,-,-,-⟩:=Ku Aa;have sf:=Je Aa 1;obtain⟨-,-,s2,s3,s4⟩:=Ku Aa;have A7:=IA Aa;have Ai:=IA B6;have Ah:=IA Bb;have Bi:=IA A9;clear Aa B6 Bb A9;go_wp2_with fail;obtain⟨x3,Ac⟩:=exj (w3.setCell ⟨w.heap.size,1,J0⟩ (IF IH tm));rw[<-Ac];have hx:Off (λk=>k=w.heap.size) w3 x3:=by rw[Ac];exact(Off.refl _ _).set _ 1 _ (LN rfl)
 have Bd:x3.heap[T]?=_:=(hx.block T (gL Ai.out) (aa Ai.out A7.out (by decide))).trans Ai.out;have B8:x3.heap[g]?=_:=(hx.block g (gL Ah.out) (aa Ah.out A7.out (by decide))).trans Ah.out;have Be:ay x3 p E vs:=Ae.out.off hx (λh=>aa Ae.out.blk A7.out (by decide) h) (λg hg h=>ai Ae.out.row A7.out (by decide) (h ▸ hg));have Ba:Kt x3 es ps K:=Ag.out.off hx (λg hg h=>ai Ag.out.k.row A7.out (by decide) (h ▸ hg)) (λq hq h=>by obtain⟨cq,hc⟩:=Ag.out.t q hq;exact aa hc A7.out (by decide) h);have At:Hid (Off (λk=>k=T\/k=g\/k=p\/es.ownBlock=I3 k\/vs.ownBlock=I3 k) w x3):=by rw[Ac];exact(Bt.out.trans' Bi.out (λk _ h=>LN h)).set _ 1 _ (Lz (K1 _))
 have A8:=IA Bd;have Ab:=IA B8;have A3:=IA Be;have Ad:=IA Ba;clear Ac hx Bd B8 Be Ba s0 s1 s2 s3 s4 sf A7 Ai Ah Ae Ag Bi;refine(qe g o p gs 137 es ps K E vs i k tm n key body _ Ab.out hge A3.out Ad.out.k Bw.out hpl Qq HI.out (aa Ab.out A3.out.blk (by decide)) (ai Ad.out.k.row Ab.out (by decide)) (ai Ad.out.k.row A3.out.blk (by decide)) (ai A3.out.row Ab.out (by decide)) Bn.out (ai A3.out.row A3.out.blk (by decide)) (by omega) (by omega) hk hla).mono ?_;rintro e w4 ⟨⟨v,rfl⟩,g1,J7,g2,cap2,Bg,A1,Bu,Bf,Br,Bh⟩;have H1:=IA Bf;have H2:=IA Bh;have H3:=IA Bg;have H4:=IA A1;clear Bf Bh Bg A1;go_wp2;refine L4 (Nm rfl _ _ _) rfl ⟨by rw[Bz.out];rfl,g1,J7,g2,cap2,?_,H3.out,H4.out,Bu.imp_right (λh=>L3 At.out.size h),H1.out,Br.imp_right (λh=>L3 At.out.size h),?_⟩
 ·refine(H2.out.block T (gL A8.out) ?_).trans A8.out;rintro(h|h|h|h)
  ·exact aa A8.out Ab.out (by decide) h
  ·exact aa A8.out A3.out.blk (by decide) h
  ·exact ai Ad.out.k.row A8.out (by decide) h
  ·exact ai A3.out.row A8.out (by decide) h
 ·exact At.out.trans' H2.out (λk _ h=>Lz h)
end Go.Proofs.YtmehkneofinmiabGreatDoor

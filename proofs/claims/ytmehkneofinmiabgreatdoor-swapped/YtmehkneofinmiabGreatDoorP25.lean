/-part 25-/
import Derived.Test.YtmehkneofinmiabGreatDoorP24
open Option renaming some->ID,none->Kf
open Go.Value renaming string->IF,bool->Jx,int->Kx,pointer->K1,slice->Lq
open Go.Proofs.Tryz renaming prog->IH
open Go renaming wpAny_take->IR,undef->I3,World->K2,Value->LL,Calls->LN,Frame->LO,execOp->LR
open Go.Act renaming put->J0
open Bool renaming true->J1,false->Lo
open Go.Calls renaming mono->Ks
open Go.IntKind renaming i64->K0
open Go.Ending renaming returned->Ln
open Go.Op renaming stringOp->Lw
open Go.World renaming cell?->Ly
open Go.Lib renaming decDigits->Lz
open Go.Obj renaming cells->LI
set_option maxRecDepth 100000
set_option maxHeartbeats 16000000
namespace Go.Proofs.YtmehkneofinmiabGreatDoor
open Go.RowKit Go.MuLone Go.Conc Go.Proofs.Rn
variable {p0 UD Qg Qf Qd Qc Qb Qa P9 P8 P7 PZ PY PX PW PV PU PT PR PQ PO PN PM PL PK PI PH PG PE PD Py Px UC Pw Pv Ps Pq Pp Po Pn Pk Pj Ph Pg Pf Pe Pd Pb O9 O7 O5 O4 O3 O1 Vk Vj p2 UB UA Uz p25 p26 p27 p28 p29 p3 p30 p31 p32 p33 p34 p35 p36 p37 p38 p39 p40 p41 p42 p43 p44 p45 p46 p47 p48 p49 p5 p50 p51 p52 p53 p54 p55 p56 p57 p58 p59 p6 p60 p61 p62 p63 p64 p65 p66 p67 p68 p69 p7 p70 p71 p72 p73 p74 p75 Uy Ux Uw Uv p8 Uu Ut Us Ur Uq Uo Un Um Ul Uk p9 Uj Ui Uh Ug Uf Ue Ud Uc Ub Ua:LL}{d:Nat}{w:K2}
attribute [local go_sem ↓] eP
attribute [local go_sem] ff
noncomputable def C9:Code:=match Tryz.f4.body with|some (.seq _ (.seq _ (.seq _ (.seq _ (.seq _ (.seq _ (.seq _ c)))))))=>c|_=>.skip
structure VL (w:K2)(K F:List UInt8)(j:Nat)(rv:LL)(y:K2):Prop where
 row:pv y 9 w.heap.size (λ_=>True) rv j (λi=>IF ⟨(jY K F i).toArray⟩)
 below:Below w.heap.size w y
section
variable {T:LO->List LO->K2->Prop}
theorem rS (z mz:Int)(w:K2)(q mq:Nat)(Tm:pk mz 30=mq)(Qm : -9223372036854775808<=mz)(Ql:mz<=9223372036854775807)
 (B b s:Nat)(K:List UInt8)(hK:K.length<=40)(vl:Nat)(hvl:vl<1000)(th:Bool)(cur:LL)(F:List UInt8)(hF:F.length<=1000)(I:K2->Prop)(hS:QK B b s q K vl I cur th)(hI:I w){p16 p19 KS Vi:LL}
 (hnext:∀w' R cap v18 v46 v47 v48 v49 v50 v51 v52 v53 v54 v55 v56 v57 v58 v59 v60 v61 v62 v63 v64 v65 v66 v67 v68 v69 v70 v71 v72,I w'->Below w.heap.size w w'->(∀j,j<2+mq->w'.cell? ⟨R,j,Kf⟩=ID (IF ⟨(jY K F j).toArray⟩))->w.heap.size<=R->Rn.Reach IH T ((base 4).at ⟨#[p0,Kx K0 z,p2,p3,Kx K0 mz,p5,p6,p7,p8,p9,UD,pt b,K1 (ID ⟨b,1+q*3,Kf⟩),UC,Jx th,IF ⟨F.toArray⟩,Kx K0 (2+mq:Nat),Lq (ID ⟨R,0,Kf⟩) (2+mq) cap,v18,Jx (decide (vl<20)),KS,Vi,UB,UA,Uz,p25,p26,p27,p28,p29,p30,p31,p32,p33,p34,p35,p36,p37,p38,p39,p40,p41,p42,p43,p44,p45,v46,v47,v48,v49,v50,v51,v52,v53,v54,v55,v56,v57,v58,v59,v60,v61,v62,v63,v64,v65,v66,v67,v68,v69,v70,v71,v72,p73,p74,p75,Uy,Ux,Uw,Uv,Uu,Ut,Us,Ur,Uq,Uo,Un,Um,Ul,Uk,Uj,Ui,Uh,Ug,Uf,Ue,Ud,Uc,Ub,Ua,Qg,Qf,Qd,Qc,Qb,Qa,P9,P8,P7,PZ,PY,PX,PW,PV,PU,PT,PR,PQ,PO,PN,PM,PL,PK,PI,PH,PG,PE,PD,Py,Px,Pw,Pv,Ps,Pq,Pp,Po,Pn,Pk,Pj,Ph,Pg,Pf,Pe,Pd,Pb,O9,O7,O5,O4,O3,O1],[]⟩ [.code OM]) [] w') :
 Rn.Reach IH T ((base 4).at ⟨#[p0,Kx K0 z,p2,p3,Kx K0 mz,p5,p6,p7,p8,p9,UD,pt b,K1 (ID ⟨b,1+q*3,Kf⟩),UC,Jx th,IF ⟨F.toArray⟩,p16,Vk,Vj,p19,KS,Vi,UB,UA,Uz,p25,p26,p27,p28,p29,p30,p31,p32,p33,p34,p35,p36,p37,p38,p39,p40,p41,p42,p43,p44,p45,p46,p47,p48,p49,p50,p51,p52,p53,p54,p55,p56,p57,p58,p59,p60,p61,p62,p63,p64,p65,p66,p67,p68,p69,p70,p71,p72,p73,p74,p75,Uy,Ux,Uw,Uv,Uu,Ut,Us,Ur,Uq,Uo,Un,Um,Ul,Uk,Uj,Ui,Uh,Ug,Uf,Ue,Ud,Uc,Ub,Ua,Qg,Qf,Qd,Qc,Qb,Qa,P9,P8,P7,PZ,PY,PX,PW,PV,PU,PT,PR,PQ,PO,PN,PM,PL,PK,PI,PH,PG,PE,PD,Py,Px,Pw,Pv,Ps,Pq,Pp,Po,Pn,Pk,Pj,Ph,Pg,Pf,Pe,Pd,Pb,O9,O7,O5,O4,O3,O1],[]⟩ [.code C9]) [] w:=by
 have Ap:=bZ mz 30 (by omega);have Ay:(mq:Int)<30:=by omega
 simp only[OM,Tryz.f4] at hnext;have HN:=IA hnext;have HS:=IA hS;have HI:=IA hI;have B4:=hS.sz _ hI;obtain⟨i1,Ai,As,Ak,Am⟩:=info_parts rK;clear hnext hS hI;simp only[C9,Tryz.f4];refine Rn.Reach.seq λK' hK'=>?_;go_wp2_with (go_at_call 10;refine(bo _ _ _ (by omega) (by omega) (by omega) (by omega)).mono ?_;rintro e w' ⟨rfl,Aj⟩;rw[Tm,Aj]);refine Rn.Reach.seq λK' hK'=>?_;go_wp2_with fail;refine Rn.Reach.ctl (λcs=>stepG_seq) ?_;refine Rn.Reach.seq λK' hK'=>?_;go_wp2_with fail;refine Rn.Reach.code ?_;go_wp2_with fail;go_loopw [17,18] (λrv iv y=>∃j:Nat,j<=2+mq/\iv=Kx K0 j/\Hid (VL w K F j rv y))
  (λ_ iv _=>2+mq-(intOf iv).toNat)
 case atStart=>exact⟨0,Nat.zero_le _,rfl,Or.inl ⟨rfl,rfl⟩,Below.refl _ _⟩
 case round =>
  obtain⟨j,hj,rfl,hJ⟩:=hrel;by_cases hlt:j<2+mq
  ·(have Ar:(j:Int)<2+(mq:Int):=by omega);have hA:∀w:K2,(Lw .add ⟨#[47]⟩ ⟨K.toArray⟩).run IH w=.ok (IF ⟨(47::K).toArray⟩) w:=BI [47] K (by simp;omega);have B0:=ec (n:=j) (k:=2) (by omega) (by omega);have An:∀w:K2,(Lw .add ⟨#[119,114,105,116,101,114,32]⟩ ⟨(Lz j).toArray⟩).run IH w=.ok (IF ⟨(JC j).toArray⟩) w:=BI [119,114,105,116,101,114,32] (Lz j) (by simp;omega);have HQ:Hid (∀y,LN IH 12 #[IF ⟨#[80,85,84]⟩,IF ⟨(47::K).toArray⟩,IF ⟨F.toArray⟩,IF ⟨(JC j).toArray⟩] y λe w'=>e=Ln (IF ⟨(jY K F j).toArray⟩)/\w'=y) :=
    λy=>dw [80,85,84] (47::K) F (JC j) y (by decide) (by simp;omega) (by omega) (by simp[JC];omega)
   have HT:Hid (∀w2,Below wr.drew.heap.size wr.drew w2->∃g cap w5,tN IH 45 45 (w2.alloc (LI #[IF ⟨(jY K F j).toArray⟩] 9)) u17 (Lq (ID ⟨w2.heap.size,0,Kf⟩) 1 1) /\
    (lG IH 45 45 (w2.alloc (LI #[IF ⟨(jY K F j).toArray⟩] 9)) u17 (Lq (ID ⟨w2.heap.size,0,Kf⟩) 1 1)).1=Lq (ID ⟨g,0,Kf⟩) (j+1) cap/\(lG IH 45 45 (w2.alloc (LI #[IF ⟨(jY K F j).toArray⟩] 9)) u17 (Lq (ID ⟨w2.heap.size,0,Kf⟩) 1 1)).2=w5 /\
    w2.cell? ⟨b,1+q*3,Kf⟩=ID (IF ⟨K.toArray⟩)/\(w2.alloc (LI #[IF ⟨(jY K F j).toArray⟩] 9)).cell? ⟨b,1+q*3,Kf⟩=ID (IF ⟨K.toArray⟩)/\w5.cell? ⟨b,1+q*3,Kf⟩=ID (IF ⟨K.toArray⟩)/\Hid (VL w K F (j+1) (Lq (ID ⟨g,0,Kf⟩) (j+1) cap) w5)):=by
    intro w2 A0;have A0:Below wr.heap.size wr w2:=⟨A0.os,A0.tape,A0.output,A0.size,A0.block⟩;have A1:=hJ.out;have A3:Below w.heap.size w w2:=A1.below.trans (A0.mono A1.below.size);have Aa:=A1.row.keep (x:=w2) λg hg=>A0.block g (A1.row.own hg).2;obtain⟨g,cap,w5,A6,A4,A2,_,_⟩:=uy (P:=IH) w2 45 9 i1 _ Tryz.underlying45 Ai As rfl Ak (by rw[Am];omega) Aa A3.size (by omega) trivial trivial rfl;obtain⟨Ah,Ag,Ab⟩:=nI A6;have Ad:Below w.heap.size w w5:=A3.trans (A2.mono (Nat.le_refl _));have Al:Below w.heap.size w (w2.alloc (LI #[IF ⟨(jY K F j).toArray⟩] 9)):=A3.alloc A3.size _;exact⟨g,cap,w5,Ah,Ag,Ab,HS.out.ck _ (HS.out.MU _ _ HI.out A3),HS.out.ck _ (HS.out.MU _ _ HI.out Al),HS.out.ck _ (HS.out.MU _ _ HI.out Ad),A4,Ad⟩
   have Aw:wr.cell? ⟨b,1+q*3,Kf⟩=ID (IF ⟨K.toArray⟩):=HS.out.ck _ (HS.out.MU _ _ HI.out hJ.out.below);obtain⟨RQ,A9⟩:=IG (jY K F j);obtain⟨BW,Af⟩:=IG (JC j);rw[A9] at HT HQ;rw[Af] at An HQ;have B2:=IA A9;clear A9 Af;go_wp2_with fail;go_region_held3 (λy=>y.cell? ⟨b,1+q*3,Kf⟩=ID (IF ⟨K.toArray⟩)) (first|assumption|go_keep) (first
    | (go_at_call 13
       refine(jO _ _ (by omega) (by omega)).mono ?_;rintro e w2 ⟨rfl,A0⟩;simp only[Int.toNat_natCast];obtain⟨g,cap,w5,Ah,Ag,Ab,Az,At,Au,A7⟩:=HT.out w2 A0
       clear A0)
    | (go_at_call 12
       refine Ks (HQ.out _) ?_
       rintro e w3 ⟨rfl,rfl⟩))
   go_wp2_with fail;exact⟨⟨j+1,by omega,by go_num,A7⟩,by simp[intOf];omega⟩
  ·(obtain rfl:j=2+mq:=by omega);go_wp2_with fail;have A1:=hJ.out;rcases A1.row with⟨h0,_⟩|⟨g,cap,cur,hv,Aq,Ac,Ax,Av,B3,Ae,_⟩
   ·omega
   subst hv;have A5:=HS.out.MU _ _ HI.out A1.below;obtain⟨va,vc,A8⟩:=HS.out.cl _ A5;have B1:wr.cell? ⟨b,1+q*3+1,Kf⟩=ID (Lq va vl vc):=A8;have HX:Hid (I wr/\Below w.heap.size w wr/\(∀j,j<2+mq->wr.cell? ⟨g,j,Kf⟩=ID (IF ⟨(jY K F j).toArray⟩))):=⟨A5,A1.below,λj hj=>by simp only[Ly,Ac];simpa using Ae j hj⟩;clear A1 hJ Ac Ae A5;refine Rn.Reach.seq λK' hK'=>?_;go_wp2_with fail;have Ao:decide ((vl:Int)<20)=decide (vl<20):=decide_eq_decide.2 (by omega);rw[Ao];exact HN.out wr g cap _ _ _ _ _ _ _ _ _ _ _ _ _ _ _ _ _ _ _ _ _ _ _ _ _ _ _ _ HX.out.1 HX.out.2.1 HX.out.2.2 Aq
end
open Go.RowKit Go.MuLone Go.Conc Go.Proofs.Rn
section
variable {T:LO->List LO->K2->Prop}
theorem Bc (x z qz mz:Int)(a0:Option Addr)(n0 m0:Nat)(w:K2)(q mq:Nat)(hq:pk qz 5=q)(Tm:pk mz 30=mq)(Tj : -9223372036854775808<=qz)(Ti:qz<=9223372036854775807)(Qm : -9223372036854775808<=mz)(Ql:mz<=9223372036854775807)
 (K:List UInt8)(hK:K.length<=40)(vl:Nat)(hvl:vl<1000)(nu t:Int)(mk th:Bool)(bd tg:List UInt8)(htg:tg.length<=100)(Z:Nat->Nat->(K2->Prop)->Prop)
 (hP:LN IH 17 #[Kx K0 x,Lq a0 n0 m0] w λe w'=>∃(b s:Nat) (I:K2->Prop),e=Ln (K1 (ID ⟨b,0,Kf⟩))/\QK w.heap.size b s q K vl I (.agg #[Kx K0 nu,Kx K0 t,Jx mk,IF ⟨bd.toArray⟩,IF ⟨tg.toArray⟩]) th/\Z b s I/\I w'/\Off (λk=>w.heap.size<=k) w w')
 (hnext:∀b s I w' R cap y0 y2 y3 y4 y5 y6 y7 y8 y9 SQ y13 SN Lx y20 y21 y22 y23 y24 y25 SI y27 y28 y29 SG y31 y32 SF y34 SE SC SA y38 y39 Sy Sv Su Sr Sq Sn Sl Sk Sj Si Sg Sd OW Sc Sb OV Sa OU OT R9 R5 R4 R3 RZ RY RX RU RS RP RO RN RL RJ RI RH RG RF RD RB RA Rz Ry Rx Rw Rv Ru OQ OP OO Rt y90 y91 Rs y93 Rp y95 y96 Ro y98 y99 NQ y101 y102 NP y104 NN NM NL NK NI NH NG wD vK y114 y115 NF ND NC NB NA Nz Ny Nw Nv Nu Nt Ns Nr Nq Np Nn Nl wI u7 Nk Nj Ni Nh Ng Nf Nc Nb Na M9 M8 M7 M5 M4 MZ y150,QK w.heap.size b s q K vl I (.agg #[Kx K0 nu,Kx K0 t,Jx mk,IF ⟨bd.toArray⟩,IF ⟨tg.toArray⟩]) th->Z b s I->I w'->Off (λk=>w.heap.size<=k) w w'->(∀j,j<2+mq->w'.cell? ⟨R,j,Kf⟩=ID (IF ⟨(jY K (wP th tg) j).toArray⟩))->Rn.Reach IH T ((base 4).at ⟨#[y0,Kx K0 z,y2,y3,y4,y5,y6,y7,y8,y9,SQ,pt b,K1 (ID ⟨b,1+q*3,Kf⟩),y13,Jx th,SN,Kx K0 (2+mq:Nat),Lq (ID ⟨R,0,Kf⟩) (2+mq) cap,Lx,Jx (decide (vl<20)),y20,y21,y22,y23,y24,y25,SI,y27,y28,y29,SG,y31,y32,SF,y34,SE,SC,SA,y38,y39,Sy,Sv,Su,Sr,Sq,Sn,Sl,Sk,Sj,Si,Sg,Sd,OW,Sc,Sb,OV,Sa,OU,OT,R9,R5,R4,R3,RZ,RY,RX,RU,RS,RP,RO,RN,RL,RJ,RI,RH,RG,RF,RD,RB,RA,Rz,Ry,Rx,Rw,Rv,Ru,OQ,OP,OO,Rt,y90,y91,Rs,y93,Rp,y95,y96,Ro,y98,y99,NQ,y101,y102,NP,y104,NN,NM,NL,NK,NI,NH,NG,wD,vK,y114,y115,NF,ND,NC,NB,NA,Nz,Ny,Nw,Nv,Nu,Nt,Ns,Nr,Nq,Np,Nn,Nl,wI,u7,Nk,Nj,Ni,Nh,Ng,Nf,Nc,Nb,Na,M9,M8,M7,M5,M4,MZ,y150],[]⟩ [.code OM]) [] w') :
 Rn.Reach IH T (Frame.enter IH 4 #[Kx K0 x,Kx K0 z,Lq a0 n0 m0,Kx K0 qz,Kx K0 mz] .normal) [] w:=by
 have Aj:=bZ qz 5 (by omega);have Ah:(q:Int)<5:=by omega
 have A8:=IA hP;have HN:=IA hnext;have Ae:∀w:K2,(Lw .add ⟨#[73,102,45,77,97,116,99,104,58,32]⟩ ⟨tg.toArray⟩).run IH w=.ok (IF ⟨([73,102,45,77,97,116,99,104,58,32]++tg).toArray⟩) w:=BI [73,102,45,77,97,116,99,104,58,32] tg (by simp;omega);have A6:∀w:K2,(Lw .add ⟨([73,102,45,77,97,116,99,104,58,32]++tg).toArray⟩ ⟨#[13,10]⟩).run IH w=.ok (IF ⟨([73,102,45,77,97,116,99,104,58,32]++tg++[13,10]).toArray⟩) w:=BI ([73,102,45,77,97,116,99,104,58,32]++tg) [13,10] (by simp;omega);obtain⟨F1,A3⟩:=IG ([73,102,45,77,97,116,99,104,58,32]++tg);obtain⟨F2,A4⟩:=IG (F1++[13,10]);rw[A3] at Ae A6;rw[A4] at A6;have HF:Hid ((th=J1->F2=wP th tg)/\F2.length<=1000):=⟨λh=>by rw[<-A4,<-A3,h];rfl,by rw[<-A4,<-A3];simp;omega⟩;clear hP hnext A3 A4;rw[enter_at (P:=IH) _ Tryz.func4 rfl];simp only[Tryz.f4,List.size_toArray,List.length_cons,List.length_nil,Nat.reduceAdd,Nat.reduceSub,Array.replicate_succ,Array.replicate_zero,List.push_toArray,List.append_toArray,List.nil_append,List.cons_append];refine Rn.Reach.seq λK' hK'=>?_;go_wp2_with fail;refine Rn.Reach.seq λK' hK'=>?_;go_wp2_with fail;refine Ks A8.out ?_;rintro e w1 ⟨b,s,I,rfl,hs,hz,i1,o1⟩;have HS:=IA hs;have HZ:=IA hz;have A7:=IA i1;have Ab:=IA o1;have Ag:=hs.sz _ i1;clear hs hz i1 o1 A8;go_wp2_with fail;refine Rn.Reach.seq λK' hK'=>?_;go_wp2_with fail;refine Rn.Reach.seq λK' hK'=>?_;have s0:True:=trivial;go_region_held3 (λ_=>True) (first|trivial|assumption) (first
  | (go_at_call 10
     refine(bo _ _ _ (by omega) (by omega) (by omega) (by omega)).mono ?_;rintro e w2 ⟨rfl,rfl⟩
     rw[hq]))
 refine hK' _ _ ?_;clear hK' K';refine Rn.Reach.seq λK' hK'=>?_;go_wp2_with fail;refine Ks (HS.out.curr _ (HS.out.Vy A7.out)) ?_;rintro e w2 ⟨rfl,b2⟩;have Ad:=IA (HS.out.MU _ _ (HS.out.Vy A7.out) b2);have Ac:Hid (Off (λk=>w.heap.size<=k) w w2):=Ab.out.drew.trans (Off.of_below b2);clear b2;go_wp2_with fail;obtain⟨w3,h3⟩:=exj (w2.alloc (LI #[Kx K0 nu,Kx K0 t,Jx mk,IF ⟨bd.toArray⟩,IF ⟨tg.toArray⟩] 42));rw[<-h3];have A5:Below w2.heap.size w2 w3:=by rw[h3];exact(Below.refl _ _).alloc (Nat.le_refl _) _
 have Ai:w3.cell? ⟨w2.heap.size,4,Kf⟩=ID (IF ⟨tg.toArray⟩):=by have:=heap_alloc_new w2 (LI #[Kx K0 nu,Kx K0 t,Jx mk,IF ⟨bd.toArray⟩,IF ⟨tg.toArray⟩] 42);rw[<-h3] at this;simp[Ly,this]
 have A9:=IA (HS.out.MU _ _ Ad.out A5);have Af:Hid (Off (λk=>w.heap.size<=k) w w3):=Ac.out.trans (Off.of_below A5);clear h3 A5;refine Rn.Reach.seq λK' hK'=>?_;go_wp2_with fail;refine Rn.Reach.seq λK' hK'=>?_;have hd:∀F,F=wP th tg->F.length<=1000->∀w' R cap y0 y2 y3 y4 y5 y6 y7 y8 y9 SQ y13 SN Lx y20 y21 y22 y23 y24 y25 SI y27 y28 y29 SG y31 y32 SF y34 SE SC SA y38 y39 Sy Sv Su Sr Sq Sn Sl Sk Sj Si Sg Sd OW Sc Sb OV Sa OU OT R9 R5 R4 R3 RZ RY RX RU RS RP RO RN RL RJ RI RH RG RF RD RB RA Rz Ry Rx Rw Rv Ru OQ OP OO Rt y90 y91 Rs y93 Rp y95 y96 Ro y98 y99 NQ y101 y102 NP y104 NN NM NL NK NI NH NG wD vK y114 y115 NF ND NC NB NA Nz Ny Nw Nv Nu Nt Ns Nr Nq Np Nn Nl wI u7 Nk Nj Ni Nh Ng Nf Nc Nb Na M9 M8 M7 M5 M4 MZ y150,I w'->Below w3.heap.size w3 w'->(∀j,j<2+mq->w'.cell? ⟨R,j,Kf⟩=ID (IF ⟨(jY K F j).toArray⟩))->w3.heap.size<=R->Rn.Reach IH T ((base 4).at ⟨#[y0,Kx K0 z,y2,y3,y4,y5,y6,y7,y8,y9,SQ,pt b,K1 (ID ⟨b,1+q*3,Kf⟩),y13,Jx th,SN,Kx K0 (2+mq:Nat),Lq (ID ⟨R,0,Kf⟩) (2+mq) cap,Lx,Jx (decide (vl<20)),y20,y21,y22,y23,y24,y25,SI,y27,y28,y29,SG,y31,y32,SF,y34,SE,SC,SA,y38,y39,Sy,Sv,Su,Sr,Sq,Sn,Sl,Sk,Sj,Si,Sg,Sd,OW,Sc,Sb,OV,Sa,OU,OT,R9,R5,R4,R3,RZ,RY,RX,RU,RS,RP,RO,RN,RL,RJ,RI,RH,RG,RF,RD,RB,RA,Rz,Ry,Rx,Rw,Rv,Ru,OQ,OP,OO,Rt,y90,y91,Rs,y93,Rp,y95,y96,Ro,y98,y99,NQ,y101,y102,NP,y104,NN,NM,NL,NK,NI,NH,NG,wD,vK,y114,y115,NF,ND,NC,NB,NA,Nz,Ny,Nw,Nv,Nu,Nt,Ns,Nr,Nq,Np,Nn,Nl,wI,u7,Nk,Nj,Ni,Nh,Ng,Nf,Nc,Nb,Na,M9,M8,M7,M5,M4,MZ,y150],[]⟩ [.code OM]) [] w':=by rintro F rfl _ w' R cap y0 y2 y3 y4 y5 y6 y7 y8 y9 SQ y13 SN Lx y20 y21 y22 y23 y24 y25 SI y27 y28 y29 SG y31 y32 SF y34 SE SC SA y38 y39 Sy Sv Su Sr Sq Sn Sl Sk Sj Si Sg Sd OW Sc Sb OV Sa OU OT R9 R5 R4 R3 RZ RY RX RU RS RP RO RN RL RJ RI RH RG RF RD RB RA Rz Ry Rx Rw Rv Ru OQ OP OO Rt y90 y91 Rs y93 Rp y95 y96 Ro y98 y99 NQ y101 y102 NP y104 NN NM NL NK NI NH NG wD vK y114 y115 NF ND NC NB NA Nz Ny Nw Nv Nu Nt Ns Nr Nq Np Nn Nl wI u7 Nk Nj Ni Nh Ng Nf Nc Nb Na M9 M8 M7 M5 M4 MZ y150 A2 A1 A0 _;exact HN.out b s I w' R cap _ _ _ _ _ _ _ _ _ _ _ _ _ _ _ _ _ _ _ _ _ _ _ _ _ _ _ _ _ _ _ _ _ _ _ _ _ _ _ _ _ _ _ _ _ _ _ _ _ _ _ _ _ _ _ _ _ _ _ _ _ _ _ _ _ _ _ _ _ _ _ _ _ _ _ _ _ _ _ _ _ _ _ _ _ _ _ _ _ _ _ _ _ _ _ _ _ _ _ _ _ _ _ _ _ _ _ _ _ _ _ _ _ _ _ _ _ _ _ _ _ _ _ _ _ _ _ _ _ _ _ _ _ _ _ _ _ _ _ _ _ _ _ _ HS.out HZ.out A2 (Af.out.trans (Off.of_below A1)) A0
 have Aa:=IA hd;clear hd;cases th with
 | false =>go_wp2_with fail;exact rS (T:=T) z mz w3 q mq Tm Qm Ql w.heap.size b s K hK vl hvl Lo _ [73,102,45,78,111,110,101,45,77,97,116,99,104,58,32,42,13,10] (by decide) I HS.out A9.out λw' R cap _ _ _ _ _ _ _ _ _ _ _ _ _ _ _ _ _ _ _ _ _ _ _ _ _ _ _ _ A2 A1 A0 hR=>Aa.out [73,102,45,78,111,110,101,45,77,97,116,99,104,58,32,42,13,10] rfl (by decide) w' R cap _ _ _ _ _ _ _ _ _ _ _ _ _ _ _ _ _ _ _ _ _ _ _ _ _ _ _ _ _ _ _ _ _ _ _ _ _ _ _ _ _ _ _ _ _ _ _ _ _ _ _ _ _ _ _ _ _ _ _ _ _ _ _ _ _ _ _ _ _ _ _ _ _ _ _ _ _ _ _ _ _ _ _ _ _ _ _ _ _ _ _ _ _ _ _ _ _ _ _ _ _ _ _ _ _ _ _ _ _ _ _ _ _ _ _ _ _ _ _ _ _ _ _ _ _ _ _ _ _ _ _ _ _ _ _ _ _ _ _ _ _ _ _ _ A2 A1 A0 hR
 | true =>go_wp2_with fail;exact rS (T:=T) z mz w3 q mq Tm Qm Ql w.heap.size b s K hK vl hvl J1 _ F2 HF.out.2 I HS.out A9.out λw' R cap _ _ _ _ _ _ _ _ _ _ _ _ _ _ _ _ _ _ _ _ _ _ _ _ _ _ _ _ A2 A1 A0 hR=>Aa.out F2 (HF.out.1 trivial) HF.out.2 w' R cap _ _ _ _ _ _ _ _ _ _ _ _ _ _ _ _ _ _ _ _ _ _ _ _ _ _ _ _ _ _ _ _ _ _ _ _ _ _ _ _ _ _ _ _ _ _ _ _ _ _ _ _ _ _ _ _ _ _ _ _ _ _ _ _ _ _ _ _ _ _ _ _ _ _ _ _ _ _ _ _ _ _ _ _ _ _ _ _ _ _ _ _ _ _ _ _ _ _ _ _ _ _ _ _ _ _ _ _ _ _ _ _ _ _ _ _ _ _ _ _ _ _ _ _ _ _ _ _ _ _ _ _ _ _ _ _ _ _ _ _ _ _ _ _ A2 A1 A0 hR
end
open Go.RowKit Go.MuLone Go.Conc Go.Proofs.Rn
noncomputable def TI:Code:=match OM with|.seq _ c=>c|_=>.skip
noncomputable def JS:Array Oper:=match TI with|.seq _ (.seq _ (.seq _ (.seq (.region _ o _) _)))=>o|_=>#[]
theorem KF {P:Program}{ops:Array Oper}{o:Oper}{a:Act}{g:Nat}{want:Bool}{v:LL}(hg:o.guard=ID (g,want))(hd:(ops[g]?).bind (·.dst)=ID d)(ht:a.tmps[d]?=ID v)(hv:v≠Jx want):Yields P ops o I3 a:=by
 refine Or.inr ⟨?_,rfl⟩;unfold Region.wanted yielded;simp only[hg,hd];cases v<;>simp_all
theorem Fx {T:LO->List LO->K2->Prop}{fr:LO}{k:List Item}{IC:List LO}{a0:Act}(hs0:a0.tmps.size=151)(h19:a0.tmps[19]?=ID (Jx Lo))(h:∀a,a.tmps[10]?=ID (Jx J1)->a.defers=a0.defers->Rn.Reach IH T (fr.at a k) IC w.drew) :
 Rn.Reach IH T (fr.at a0 (.code (.region 32 JS J1)::k)) IC w:=by
 refine Rn.Reach.code (wp_region_any (by kernel_rfl) ?_);have A2:Region.noSelect JS=J1:=by kernel_rfl
 have hu:(I3:LL)≠Jx J1:=by intro h;cases h
 have e0:JS.size=24:=by kernel_rfl
 rw[e0];have Dm:=h19;obtain⟨o0,Dn,ho,De,hg⟩:∃o,JS[0]?=ID o/\o.op=.move (.tmp 19)/\o.dst=ID 128/\o.guard=Kf:=⟨_,rfl,rfl,rfl,rfl⟩;refine IR (i:=0) (v:=Jx Lo) Dn A2 (by kernel_rfl) (by kernel_rfl) (λ_ _ _ h=>nomatch h.1) (MP hg λw=>by unfold LR;simp only[ho,bR Dm];simp[go_sem]) ?_;rw[De];obtain⟨a1,e1⟩:=IG (a0.put (ID 128) (Jx Lo));have Co:a1.tmps.size=151:=by rw[<-e1];simpa [J0] using hs0
 have Dg:a1.defers=a0.defers:=by rw[<-e1];exact rfl
 have Bv:a1.tmps[128]?=ID (Jx Lo):=by rw[<-e1];exact put_eq _ (by rw[hs0];decide) _
 rw[e1];obtain⟨o1,Cp,ho,Db,hg⟩:∃o,JS[1]?=ID o/\o.op=.unOp .not 4 (.tmp 128)/\o.dst=ID 129/\o.guard=Kf:=⟨_,rfl,rfl,rfl,rfl⟩;refine IR (i:=1) (v:=Jx J1) Cp A2 (by kernel_rfl) (by kernel_rfl) (λ_ _ _ h=>nomatch h.1) (MP hg λw=>by unfold LR;simp only[ho,bR Bv];simp[go_sem]) ?_;rw[Db];obtain⟨a2,e2⟩:=IG (a1.put (ID 129) (Jx J1));have Cn:a2.tmps.size=151:=by rw[<-e2];simpa [J0] using Co
 have D0:a2.defers=a0.defers:=by rw[<-e2];exact Dg
 have Bo:a2.tmps[129]?=ID (Jx J1):=by rw[<-e2];exact put_eq _ (by rw[Co];decide) _
 rw[e2];obtain⟨o2,Do,ho,D7,hg⟩:∃o,JS[2]?=ID o/\o.op=.move (.tmp 129)/\o.dst=ID 130/\o.guard=Kf:=⟨_,rfl,rfl,rfl,rfl⟩;refine IR (i:=2) (v:=Jx J1) Do A2 (by kernel_rfl) (by kernel_rfl) (λ_ _ _ h=>nomatch h.1) (MP hg λw=>by unfold LR;simp only[ho,bR Bo];simp[go_sem]) ?_;rw[D7];obtain⟨a3,e3⟩:=IG (a2.put (ID 130) (Jx J1));have Cq:a3.tmps.size=151:=by rw[<-e3];simpa [J0] using Cn
 have Dl:a3.defers=a0.defers:=by rw[<-e3];exact D0
 have A0:a3.tmps[130]?=ID (Jx J1):=by rw[<-e3];exact put_eq _ (by rw[Cn];decide) _
 rw[e3];obtain⟨o3,Cy,Cr,hg⟩:∃o,JS[3]?=ID o/\o.dst=ID 131/\o.guard=ID (2,Lo):=⟨_,rfl,rfl,rfl⟩;refine IR (i:=3) (v:=I3) Cy A2 (by kernel_rfl) (by kernel_rfl) (λ_ _ _ h=>nomatch h.1) (KF hg (d:=130) rfl A0 (by intro h;cases h)) ?_;rw[Cr];obtain⟨a4,e4⟩:=IG (a3.put (ID 131) (I3));have D9:a4.tmps.size=151:=by rw[<-e4];simpa [J0] using Cq
 have Dc:a4.defers=a0.defers:=by rw[<-e4];exact Dl
 have A0:a4.tmps[130]?=ID (Jx J1):=by rw[<-e4,aj _ (by decide)];exact A0
 rw[e4];obtain⟨o4,Cs,Dd,hg⟩:∃o,JS[4]?=ID o/\o.dst=ID 132/\o.guard=ID (2,Lo):=⟨_,rfl,rfl,rfl⟩;refine IR (i:=4) (v:=I3) Cs A2 (by kernel_rfl) (by kernel_rfl) (λ_ _ _ h=>nomatch h.1) (KF hg (d:=130) rfl A0 (by intro h;cases h)) ?_;rw[Dd];obtain⟨a5,e5⟩:=IG (a4.put (ID 132) (I3));have Cz:a5.tmps.size=151:=by rw[<-e5];simpa [J0] using D9
 have Cw:a5.defers=a0.defers:=by rw[<-e5];exact Dc
 have A0:a5.tmps[130]?=ID (Jx J1):=by rw[<-e5,aj _ (by decide)];exact A0
 rw[e5];obtain⟨o5,Ct,Cv,hg⟩:∃o,JS[5]?=ID o/\o.dst=ID 133/\o.guard=ID (2,Lo):=⟨_,rfl,rfl,rfl⟩;refine IR (i:=5) (v:=I3) Ct A2 (by kernel_rfl) (by kernel_rfl) (λ_ _ _ h=>nomatch h.1) (KF hg (d:=130) rfl A0 (by intro h;cases h)) ?_;rw[Cv];obtain⟨a6,e6⟩:=IG (a5.put (ID 133) (I3));have Cm:a6.tmps.size=151:=by rw[<-e6];simpa [J0] using Cz
 have Dj:a6.defers=a0.defers:=by rw[<-e6];exact Cw
 have A0:a6.tmps[130]?=ID (Jx J1):=by rw[<-e6,aj _ (by decide)];exact A0
 rw[e6];obtain⟨o6,Dh,Cu,hg⟩:∃o,JS[6]?=ID o/\o.dst=ID 134/\o.guard=ID (2,Lo):=⟨_,rfl,rfl,rfl⟩;refine IR (i:=6) (v:=I3) Dh A2 (by kernel_rfl) (by kernel_rfl) (λ_ _ _ h=>nomatch h.1) (KF hg (d:=130) rfl A0 (by intro h;cases h)) ?_;rw[Cu];obtain⟨a7,e7⟩:=IG (a6.put (ID 134) (I3));have Df:a7.tmps.size=151:=by rw[<-e7];simpa [J0] using Cm
 have Dp:a7.defers=a0.defers:=by rw[<-e7];exact Dj
 have A0:a7.tmps[130]?=ID (Jx J1):=by rw[<-e7,aj _ (by decide)];exact A0
 have A3:a7.tmps[134]?=ID (I3):=by rw[<-e7];exact put_eq _ (by rw[Cm];decide) _
 rw[e7];obtain⟨o7,D1,Dk,hg⟩:∃o,JS[7]?=ID o/\o.dst=ID 135/\o.guard=ID (6,J1):=⟨_,rfl,rfl,rfl⟩;refine IR (i:=7) (v:=I3) D1 A2 (by kernel_rfl) (by kernel_rfl) (λ_ _ _ h=>nomatch h.1) (KF hg (d:=134) rfl A3 hu) ?_;rw[Dk];obtain⟨a8,e8⟩:=IG (a7.put (ID 135) (I3));have D2:a8.tmps.size=151:=by rw[<-e8];simpa [J0] using Df
 have Da:a8.defers=a0.defers:=by rw[<-e8];exact Dp
 have A0:a8.tmps[130]?=ID (Jx J1):=by rw[<-e8,aj _ (by decide)];exact A0
 have A3:a8.tmps[134]?=ID (I3):=by rw[<-e8,aj _ (by decide)];exact A3
 rw[e8];obtain⟨o8,D3,D5,hg⟩:∃o,JS[8]?=ID o/\o.dst=ID 136/\o.guard=ID (6,J1):=⟨_,rfl,rfl,rfl⟩;refine IR (i:=8) (v:=I3) D3 A2 (by kernel_rfl) (by kernel_rfl) (λ_ _ _ h=>nomatch h.1) (KF hg (d:=134) rfl A3 hu) ?_;rw[D5];obtain⟨a9,e9⟩:=IG (a8.put (ID 136) (I3));have Di:a9.tmps.size=151:=by rw[<-e9];simpa [J0] using D2
 have D4:a9.defers=a0.defers:=by rw[<-e9];exact Da
 have A0:a9.tmps[130]?=ID (Jx J1):=by rw[<-e9,aj _ (by decide)];exact A0
 have A3:a9.tmps[134]?=ID (I3):=by rw[<-e9,aj _ (by decide)];exact A3
 rw[e9];obtain⟨o9,D6,Dq,hg⟩:∃o,JS[9]?=ID o/\o.dst=ID 137/\o.guard=ID (6,J1):=⟨_,rfl,rfl,rfl⟩;refine IR (i:=9) (v:=I3) D6 A2 (by kernel_rfl) (by kernel_rfl) (λ_ _ _ h=>nomatch h.1) (KF hg (d:=134) rfl A3 hu) ?_;rw[Dq];obtain⟨Aa,Am⟩:=IG (a9.put (ID 137) (I3));have B4:Aa.tmps.size=151:=by rw[<-Am];simpa [J0] using Di
 have Ci:Aa.defers=a0.defers:=by rw[<-Am];exact D4
 have A0:Aa.tmps[130]?=ID (Jx J1):=by rw[<-Am,aj _ (by decide)];exact A0
 have A3:Aa.tmps[134]?=ID (I3):=by rw[<-Am,aj _ (by decide)];exact A3
 rw[Am];obtain⟨Dv,C7,B5,hg⟩:∃o,JS[10]?=ID o/\o.dst=ID 138/\o.guard=ID (2,Lo):=⟨_,rfl,rfl,rfl⟩;refine IR (i:=10) (v:=I3) C7 A2 (by kernel_rfl) (by kernel_rfl) (λ_ _ _ h=>nomatch h.1) (KF hg (d:=130) rfl A0 (by intro h;cases h)) ?_;rw[B5];obtain⟨Ag,At⟩:=IG (Aa.put (ID 138) (I3));have An:Ag.tmps.size=151:=by rw[<-At];simpa [J0] using B4
 have Cb:Ag.defers=a0.defers:=by rw[<-At];exact Ci
 have A0:Ag.tmps[130]?=ID (Jx J1):=by rw[<-At,aj _ (by decide)];exact A0
 have A3:Ag.tmps[134]?=ID (I3):=by rw[<-At,aj _ (by decide)];exact A3
 rw[At];obtain⟨Dw,Ch,Bs,hg⟩:∃o,JS[11]?=ID o/\o.dst=ID 139/\o.guard=ID (2,Lo):=⟨_,rfl,rfl,rfl⟩;refine IR (i:=11) (v:=I3) Ch A2 (by kernel_rfl) (by kernel_rfl) (λ_ _ _ h=>nomatch h.1) (KF hg (d:=130) rfl A0 (by intro h;cases h)) ?_;rw[Bs];obtain⟨Ac,Ar⟩:=IG (Ag.put (ID 139) (I3));have Ca:Ac.tmps.size=151:=by rw[<-Ar];simpa [J0] using An
 have Bm:Ac.defers=a0.defers:=by rw[<-Ar];exact Cb
 have A0:Ac.tmps[130]?=ID (Jx J1):=by rw[<-Ar,aj _ (by decide)];exact A0
 have A1:Ac.tmps[139]?=ID (I3):=by rw[<-Ar];exact put_eq _ (by rw[An];decide) _
 rw[Ar];obtain⟨E2,Ck,C1,hg⟩:∃o,JS[12]?=ID o/\o.dst=ID 140/\o.guard=ID (11,J1):=⟨_,rfl,rfl,rfl⟩;refine IR (i:=12) (v:=I3) Ck A2 (by kernel_rfl) (by kernel_rfl) (λ_ _ _ h=>nomatch h.1) (KF hg (d:=139) rfl A1 hu) ?_;rw[C1];obtain⟨Aw,A9⟩:=IG (Ac.put (ID 140) (I3));have Bf:Aw.tmps.size=151:=by rw[<-A9];simpa [J0] using Ca
 have C9:Aw.defers=a0.defers:=by rw[<-A9];exact Bm
 have A0:Aw.tmps[130]?=ID (Jx J1):=by rw[<-A9,aj _ (by decide)];exact A0
 have A1:Aw.tmps[139]?=ID (I3):=by rw[<-A9,aj _ (by decide)];exact A1
 rw[A9];obtain⟨Dr,By,Bi,hg⟩:∃o,JS[13]?=ID o/\o.dst=ID 141/\o.guard=ID (11,J1):=⟨_,rfl,rfl,rfl⟩;refine IR (i:=13) (v:=I3) By A2 (by kernel_rfl) (by kernel_rfl) (λ_ _ _ h=>nomatch h.1) (KF hg (d:=139) rfl A1 hu) ?_;rw[Bi];obtain⟨A6,Al⟩:=IG (Aw.put (ID 141) (I3));have Bd:A6.tmps.size=151:=by rw[<-Al];simpa [J0] using Bf
 have B6:A6.defers=a0.defers:=by rw[<-Al];exact C9
 have A0:A6.tmps[130]?=ID (Jx J1):=by rw[<-Al,aj _ (by decide)];exact A0
 have A1:A6.tmps[139]?=ID (I3):=by rw[<-Al,aj _ (by decide)];exact A1
 rw[Al];obtain⟨E3,B1,C0,hg⟩:∃o,JS[14]?=ID o/\o.dst=ID 142/\o.guard=ID (11,J1):=⟨_,rfl,rfl,rfl⟩;refine IR (i:=14) (v:=I3) B1 A2 (by kernel_rfl) (by kernel_rfl) (λ_ _ _ h=>nomatch h.1) (KF hg (d:=139) rfl A1 hu) ?_;rw[C0];obtain⟨Au,A7⟩:=IG (A6.put (ID 142) (I3));have Bg:Au.tmps.size=151:=by rw[<-A7];simpa [J0] using Bd
 have C4:Au.defers=a0.defers:=by rw[<-A7];exact B6
 have A0:Au.tmps[130]?=ID (Jx J1):=by rw[<-A7,aj _ (by decide)];exact A0
 have A1:Au.tmps[139]?=ID (I3):=by rw[<-A7,aj _ (by decide)];exact A1
 rw[A7];obtain⟨Dx,C6,Bk,hg⟩:∃o,JS[15]?=ID o/\o.dst=ID 143/\o.guard=ID (11,J1):=⟨_,rfl,rfl,rfl⟩;refine IR (i:=15) (v:=I3) C6 A2 (by kernel_rfl) (by kernel_rfl) (λ_ _ _ h=>nomatch h.1) (KF hg (d:=139) rfl A1 hu) ?_;rw[Bk];obtain⟨A8,Ae⟩:=IG (Au.put (ID 143) (I3));have Bb:A8.tmps.size=151:=by rw[<-Ae];simpa [J0] using Bg
 have B8:A8.defers=a0.defers:=by rw[<-Ae];exact C4
 have A0:A8.tmps[130]?=ID (Jx J1):=by rw[<-Ae,aj _ (by decide)];exact A0
 have A1:A8.tmps[139]?=ID (I3):=by rw[<-Ae,aj _ (by decide)];exact A1
 rw[Ae];obtain⟨Du,Cg,Cd,hg⟩:∃o,JS[16]?=ID o/\o.dst=ID 144/\o.guard=ID (11,J1):=⟨_,rfl,rfl,rfl⟩;refine IR (i:=16) (v:=I3) Cg A2 (by kernel_rfl) (by kernel_rfl) (λ_ _ _ h=>nomatch h.1) (KF hg (d:=139) rfl A1 hu) ?_;rw[Cd];obtain⟨Ao,Av⟩:=IG (A8.put (ID 144) (I3));have Bl:Ao.tmps.size=151:=by rw[<-Av];simpa [J0] using Bb
 have Bh:Ao.defers=a0.defers:=by rw[<-Av];exact B8
 have A0:Ao.tmps[130]?=ID (Jx J1):=by rw[<-Av,aj _ (by decide)];exact A0
 have A1:Ao.tmps[139]?=ID (I3):=by rw[<-Av,aj _ (by decide)];exact A1
 rw[Av];obtain⟨E0,Bp,B3,hg⟩:∃o,JS[17]?=ID o/\o.dst=ID 145/\o.guard=ID (11,J1):=⟨_,rfl,rfl,rfl⟩;refine IR (i:=17) (v:=I3) Bp A2 (by kernel_rfl) (by kernel_rfl) (λ_ _ _ h=>nomatch h.1) (KF hg (d:=139) rfl A1 hu) ?_;rw[B3];obtain⟨A4,A5⟩:=IG (Ao.put (ID 145) (I3));have Bz:A4.tmps.size=151:=by rw[<-A5];simpa [J0] using Bl
 have Bx:A4.defers=a0.defers:=by rw[<-A5];exact Bh
 have A0:A4.tmps[130]?=ID (Jx J1):=by rw[<-A5,aj _ (by decide)];exact A0
 have A1:A4.tmps[139]?=ID (I3):=by rw[<-A5,aj _ (by decide)];exact A1
 rw[A5];obtain⟨Dz,Cc,B2,hg⟩:∃o,JS[18]?=ID o/\o.dst=ID 146/\o.guard=ID (11,J1):=⟨_,rfl,rfl,rfl⟩;refine IR (i:=18) (v:=I3) Cc A2 (by kernel_rfl) (by kernel_rfl) (λ_ _ _ h=>nomatch h.1) (KF hg (d:=139) rfl A1 hu) ?_;rw[B2];obtain⟨Ai,Ap⟩:=IG (A4.put (ID 146) (I3));have Br:Ai.tmps.size=151:=by rw[<-Ap];simpa [J0] using Bz
 have Bt:Ai.defers=a0.defers:=by rw[<-Ap];exact Bx
 have A0:Ai.tmps[130]?=ID (Jx J1):=by rw[<-Ap,aj _ (by decide)];exact A0
 have A1:Ai.tmps[139]?=ID (I3):=by rw[<-Ap,aj _ (by decide)];exact A1
 rw[Ap];obtain⟨Dt,C2,C8,hg⟩:∃o,JS[19]?=ID o/\o.dst=ID 147/\o.guard=ID (11,J1):=⟨_,rfl,rfl,rfl⟩;refine IR (i:=19) (v:=I3) C2 A2 (by kernel_rfl) (by kernel_rfl) (λ_ _ _ h=>nomatch h.1) (KF hg (d:=139) rfl A1 hu) ?_;rw[C8];obtain⟨Ak,Ab⟩:=IG (Ai.put (ID 147) (I3));have B9:Ak.tmps.size=151:=by rw[<-Ab];simpa [J0] using Br
 have B7:Ak.defers=a0.defers:=by rw[<-Ab];exact Bt
 have A0:Ak.tmps[130]?=ID (Jx J1):=by rw[<-Ab,aj _ (by decide)];exact A0
 have A1:Ak.tmps[139]?=ID (I3):=by rw[<-Ab,aj _ (by decide)];exact A1
 rw[Ab];obtain⟨Ds,Bc,Bq,hg⟩:∃o,JS[20]?=ID o/\o.dst=ID 148/\o.guard=ID (11,J1):=⟨_,rfl,rfl,rfl⟩;refine IR (i:=20) (v:=I3) Bc A2 (by kernel_rfl) (by kernel_rfl) (λ_ _ _ h=>nomatch h.1) (KF hg (d:=139) rfl A1 hu) ?_;rw[Bq];obtain⟨Ah,Aj⟩:=IG (Ak.put (ID 148) (I3));have Be:Ah.tmps.size=151:=by rw[<-Aj];simpa [J0] using B9
 have B0:Ah.defers=a0.defers:=by rw[<-Aj];exact B7
 have A0:Ah.tmps[130]?=ID (Jx J1):=by rw[<-Aj,aj _ (by decide)];exact A0
 have A1:Ah.tmps[139]?=ID (I3):=by rw[<-Aj,aj _ (by decide)];exact A1
 rw[Aj];obtain⟨E4,Cl,Cj,hg⟩:∃o,JS[21]?=ID o/\o.dst=ID 149/\o.guard=ID (2,Lo):=⟨_,rfl,rfl,rfl⟩;refine IR (i:=21) (v:=I3) Cl A2 (by kernel_rfl) (by kernel_rfl) (λ_ _ _ h=>nomatch h.1) (KF hg (d:=130) rfl A0 (by intro h;cases h)) ?_;rw[Cj];obtain⟨Aq,Af⟩:=IG (Ah.put (ID 149) (I3));have Ad:Aq.tmps.size=151:=by rw[<-Af];simpa [J0] using Be
 have Ba:Aq.defers=a0.defers:=by rw[<-Af];exact B0
 have A0:Aq.tmps[130]?=ID (Jx J1):=by rw[<-Af,aj _ (by decide)];exact A0
 have A1:Aq.tmps[139]?=ID (I3):=by rw[<-Af,aj _ (by decide)];exact A1
 rw[Af];obtain⟨E1,C5,ho,Ce,hg⟩:∃o,JS[22]?=ID o/\o.op=.pick (.tmp 130) (.const (Jx J1)) (.tmp 149)/\o.dst=ID 150/\o.guard=Kf:=⟨_,rfl,rfl,rfl,rfl⟩;refine IR (i:=22) (v:=Jx J1) C5 A2 (by kernel_rfl) (by kernel_rfl) (λ_ _ _ h=>nomatch h.1) (MP hg λw=>by unfold LR;simp only[ho,bR A0];simp[go_sem,Act.eval]) ?_;rw[Ce];obtain⟨Ax,Ay⟩:=IG (Aq.put (ID 150) (Jx J1));have As:Ax.tmps.size=151:=by rw[<-Ay];simpa [J0] using Ad
 have Bj:Ax.defers=a0.defers:=by rw[<-Ay];exact Ba
 have Bn:Ax.tmps[150]?=ID (Jx J1):=by rw[<-Ay];exact put_eq _ (by rw[Ad];decide) _
 rw[Ay];obtain⟨Dy,Bu,ho,Cf,hg⟩:∃o,JS[23]?=ID o/\o.op=.assign (.tmp 150)/\o.dst=ID 10/\o.guard=Kf:=⟨_,rfl,rfl,rfl,rfl⟩;refine IR (i:=23) (v:=Jx J1) Bu A2 (by kernel_rfl) (by kernel_rfl) (λ_ _ _ h=>nomatch h.1) (MP hg λw=>by unfold LR;simp only[ho,bR Bn];simp[go_sem]) ?_;rw[Cf];obtain⟨C3,Az⟩:=IG (Ax.put (ID 10) (Jx J1));have Cx:C3.tmps.size=151:=by rw[<-Az];simpa [J0] using As
 have Bw:C3.defers=a0.defers:=by rw[<-Az];exact Bj
 have D8:C3.tmps[10]?=ID (Jx J1):=by rw[<-Az];exact put_eq _ (by rw[As];decide) _
 rw[Az];exact wpAny_done (by kernel_rfl) ⟨rfl,h _ D8 Bw⟩ _
open Go.RowKit Go.MuLone Go.Conc Go.Proofs.Rn
structure VI (W0:K2)(b s q N O last:Nat)(K G:List UInt8)(A:Nat->List UInt8)(cd:Nat->Nat)(th room:Bool)(I I2:K2->Prop):Prop where
 cdv:∀j,j<N->cd j=if room then(if j=0 then(if th then 200 else 201) else 412) else 507
 code:∀j,j<N->∀y,LN IH 14 #[IF ⟨(A j).toArray⟩] y λe w'=>e=Ln (Kx K0 (cd j:Nat))/\w'=y
 MU:∀y z,I y->Below y.heap.size y z->I z
 c0:∀y,I y->y.cell? ⟨b,0,Kf⟩=ID (K1 (ID ⟨s,0,Kf⟩))
 ck:∀y,I y->y.cell? ⟨b,1+q*3,Kf⟩=ID (IF ⟨K.toArray⟩)
 ans:∀y,I y->∀j,j<N->y.cell? ⟨O,j,Kf⟩=ID (IF ⟨(A j).toArray⟩)
 do':∀y,I y->LN IH 11 #[K1 (ID ⟨s,0,Kf⟩),IF ⟨(bp [71,69,84] (47::K) [] []).toArray⟩] y λe w'=>e=Ln (IF ⟨G.toArray⟩)/\I2 w'
 Q9:∀y z,I2 y->Below y.heap.size y z->I2 z
 s2:∀y,I2 y->y.cell? ⟨b,0,Kf⟩=ID (K1 (ID ⟨s,0,Kf⟩))/\y.cell? ⟨b,1+q*3,Kf⟩=ID (IF ⟨K.toArray⟩)
 VC:∀y,I2 y->y.cell? ⟨b,1+q*3+2,Kf⟩=ID (Kx K0 (last:Nat))
 TK:∀y,I2 y->J8 y
 QP:∀y,I2 y->y.os=W0.os/\∀k,k<W0.heap.size->y.heap[k]?=W0.heap[k]?
 gc:room=J1->∀y,LN IH 14 #[IF ⟨G.toArray⟩] y λe w'=>e=Ln (Kx K0 200)/\w'=y
 gb:room=J1->∀y,LN IH 15 #[IF ⟨G.toArray⟩] y λe w'=>e=Ln (IF ⟨#[119,114,105,116,101,114,32,48]⟩)/\w'=y
 gf:room=J1->∀y,LN IH 16 #[IF ⟨G.toArray⟩,IF ⟨#[86,101,114,115,105,111,110]⟩] y λe w'=>e=Ln (IF ⟨(Lz (last+1)).toArray⟩)/\w'=y
section
variable {W0:K2} {b s q N O last:Nat} {K G:List UInt8} {A:Nat->List UInt8} {cd:Nat->Nat} {th room:Bool} {I I2:K2->Prop}
theorem yr (h:VI W0 b s q N O last K G A cd th room I I2)(w:K2)(hI:I w)(hN:N<1000)(hK:K.length<=40)(hlast:last<10000){p1 p4 Lj:LL} :
 Rn.Reach IH (AtRet (Qe 4 10 W0)) ((base 4).at ⟨#[p0,p1,p2,p3,p4,p5,p6,p7,p8,p9,UD,pt b,K1 (ID ⟨b,1+q*3,Kf⟩),UC,Jx th,Lj,Kx K0 N,Vk,Vj,Jx room,Lq (ID ⟨O,0,Kf⟩) N N,Kx K0 0,UB,UA,Uz,p25,p26,p27,p28,p29,p30,p31,p32,p33,p34,p35,p36,p37,p38,p39,p40,p41,p42,p43,p44,p45,p46,p47,p48,p49,p50,p51,p52,p53,p54,p55,p56,p57,p58,p59,p60,p61,p62,p63,p64,p65,p66,p67,p68,p69,p70,p71,p72,p73,p74,p75,Uy,Ux,Uw,Uv,Uu,Ut,Us,Ur,Uq,Uo,Un,Um,Ul,Uk,Uj,Ui,Uh,Ug,Uf,Ue,Ud,Uc,Ub,Ua,Qg,Qf,Qd,Qc,Qb,Qa,P9,P8,P7,PZ,PY,PX,PW,PV,PU,PT,PR,PQ,PO,PN,PM,PL,PK,PI,PH,PG,PE,PD,Py,Px,Pw,Pv,Ps,Pq,Pp,Po,Pn,Pk,Pj,Ph,Pg,Pf,Pe,Pd,Pb,O9,O7,O5,O4,O3,O1],[]⟩ [.code TI]) [] w:=by
 have HH:=IA h;have HI:=IA hI;clear h hI;simp only[TI,OM,Tryz.f4];refine Rn.Reach.seq λK' hK'=>?_;go_wp2_with fail;refine Rn.Reach.ctl (λcs=>stepG_seq) ?_;refine Rn.Reach.seq λK' hK'=>?_;go_wp2_with fail;refine Rn.Reach.code ?_;go_wp2_with fail;go_loopw [22,23] (λiv _ y=>∃j:Nat,j<=N/\iv=Kx K0 j/\Hid (I y))
  (λiv _ _=>N-(intOf iv).toNat)
 case atStart=>exact⟨0,Nat.zero_le _,rfl,HI.out⟩
 case round =>
  obtain⟨j,hj,rfl,hJ⟩:=hrel;by_cases hlt:j<N
  ·(have Ag:(j:Int)<(N:Int):=by omega);have A2:=HH.out.cdv j hlt;have Ac:=HH.out.ans _ hJ.out j hlt;obtain⟨Aj,A8⟩:=IG (A j);have HC:=IA (HH.out.code j hlt);rw[A8] at Ac HC;clear A8;have A1:∀c:Nat,cd j=c->Hid (∀y,LN IH 14 #[IF ⟨Aj.toArray⟩] y λe w'=>e=Ln (Kx K0 (c:Nat))/\w'=y):=λc hc=>hc ▸ HC;cases room with
   | false =>have A3:=A1 507 (by rw[A2];rfl);clear A1 A2 HC;go_wp2_with fail;refine Ks (A3.out _) ?_;rintro e w' ⟨rfl,A0⟩;rw[A0];clear A0;go_wp2_with fail;exact⟨⟨j+1,by omega,by go_num,hJ.out⟩,by simp[intOf];omega⟩
   | true =>
     by_cases hj0:j=0
     ·subst hj0;cases th with
      | false =>have A3:=A1 201 (by rw[A2];rfl);clear A1 A2 HC;go_wp2_with fail;refine Ks (A3.out _) ?_;rintro e w' ⟨rfl,A0⟩;rw[A0];clear A0;go_wp2_with fail;exact⟨⟨1,by omega,by rfl,hJ.out⟩,by simp[intOf];omega⟩
      | true =>have A3:=A1 200 (by rw[A2];rfl);clear A1 A2 HC;go_wp2_with fail;refine Ks (A3.out _) ?_;rintro e w' ⟨rfl,A0⟩;rw[A0];clear A0;go_wp2_with fail;exact⟨⟨1,by omega,by rfl,hJ.out⟩,by simp[intOf];omega⟩
     ·have Ai:((j:Int)==0)=Lo:=beq_eq_false_iff_ne.2 (by omega);(have Ak:¬ ((j:Int)=0):=by omega);have A3:=A1 412 (by rw[A2];simp[hj0]);clear A1 A2 HC;go_wp2_with fail;refine Ks (A3.out _) ?_;rintro e w' ⟨rfl,A0⟩;rw[A0];clear A0;go_wp2_with fail;exact⟨⟨j+1,by omega,by go_num,hJ.out⟩,by simp[intOf];omega⟩
  ·(obtain rfl:j=N:=by omega);go_wp2_with fail;have hA:∀w:K2,(Lw .add ⟨#[47]⟩ ⟨K.toArray⟩).run IH w=.ok (IF ⟨(47::K).toArray⟩) w:=BI [47] K (by simp;omega);have HQ:Hid (∀y,LN IH 12 #[IF ⟨#[71,69,84]⟩,IF ⟨(47::K).toArray⟩,IF ⟨#[]⟩,IF ⟨#[]⟩] y λe w'=>e=Ln (IF ⟨(bp [71,69,84] (47::K) [] []).toArray⟩)/\w'=y) :=
    λy=>dw [71,69,84] (47::K) [] [] y (by decide) (by simp;omega) (by decide) (by decide)
   have HD:=IA HH.out.do';obtain⟨RQ,Aa⟩:=IG (bp [71,69,84] (47::K) [] []);rw[Aa] at HQ HD;clear Aa;have A9:Hid (I wr.drew):=HH.out.MU _ _ hJ.out (Below.refl _ _).drew;have s1:wr.cell? ⟨b,0,Kf⟩=ID (K1 (ID ⟨s,0,Kf⟩))/\wr.cell? ⟨b,1+q*3,Kf⟩=ID (IF ⟨K.toArray⟩):=⟨HH.out.c0 _ hJ.out,HH.out.ck _ hJ.out⟩;refine Rn.Reach.seq λK' hK'=>?_;go_region_held3 (λy=>y.cell? ⟨b,0,Kf⟩=ID (K1 (ID ⟨s,0,Kf⟩))/\y.cell? ⟨b,1+q*3,Kf⟩=ID (IF ⟨K.toArray⟩)) (first|assumption|go_keep) (first
    | (go_at_call 12
       refine Ks (HQ.out _) ?_
       rintro e w2 ⟨rfl,rfl⟩)
    | (go_at_call 11
       refine Ks (HD.out _ A9.out) ?_;rintro e w2 ⟨rfl,A4⟩;have s2:=HH.out.s2 _ A4;have A6:=IA A4
       clear A4))
   refine hK' _ _ ?_;clear hK' K' s2 s1 HQ HD A9 hJ;have A5:Hid (I2 w2.drew):=HH.out.Q9 _ _ A6.out (Below.refl _ _).drew;have n2:w2.cell? ⟨b,1+q*3+2,Kf⟩=ID (Kx K0 (last:Nat)):=HH.out.VC _ A6.out;cases room with
   | false =>refine Rn.Reach.ctl (λcs=>stepG_seq) ?_;refine Fx rfl rfl λa ha hd=>?_;refine Rn.Reach.ctl (λcs=>stepG_ret') ?_;have ho:=HH.out.QP _ A5.out;exact Rn.Reach.here ⟨rfl,rfl,hd,rfl,rfl,bR ha,ho.1,ho.2⟩
   | true =>
     refine Rn.Reach.seq λK' hK'=>?_;have Ah:=IA (HH.out.gc rfl);have Ae:=IA (HH.out.gb rfl);have Af:=IA (HH.out.gf rfl);have Al:IntKind.i64.wrap ((last:Int)+1)=(last:Int)+1:=IntWalk.i64_in _ (by omega);(have Ad:((last:Int)+1).toNat=last+1:=by omega);go_region_held3 (λy=>y.cell? ⟨b,1+q*3+2,Kf⟩=ID (Kx K0 (last:Nat))) (first|assumption|go_keep) (first
      | (go_at_call 14
         refine Ks (Ah.out _) ?_
         rintro e w3 ⟨rfl,rfl⟩)
      | (go_at_call 15
         refine Ks (Ae.out _) ?_
         rintro e w3 ⟨rfl,rfl⟩)
      | (go_at_call 16
         refine Ks (Af.out _) ?_
         rintro e w3 ⟨rfl,rfl⟩)
      | (go_at_call 13
         refine(fI _ _ (by omega) (by omega) (HH.out.TK _ A5.out)).mono ?_;rintro e w3 ⟨rfl,Ab⟩;rw[Ad];have A7:=IA (HH.out.Q9 _ _ A5.out Ab);have n3:=HH.out.VC _ A7.out
         clear Ab))
     refine hK' _ _ ?_;refine Rn.Reach.ctl (λcs=>stepG_ret') ?_;have ho:=HH.out.QP _ A7.out;exact Rn.Reach.here ⟨rfl,rfl,rfl,rfl,rfl,rfl,ho.1,ho.2⟩
end
open Go.RowKit Go.MuLone Go.Conc Go.Proofs.Rn
theorem Gh:OM=.seq (.region 16 Jt J1) TI:=rfl
theorem Gy (E:IP):∃(nu t:Int) (mk:Bool) (bd:List UInt8),sG (ax E)=.agg #[Kx K0 nu,Kx K0 t,Jx mk,IF ⟨bd.toArray⟩,IF ⟨(NR (ax E)).toArray⟩]:=by
 cases hc:ax E with
 | none=>exact⟨0,0,Lo,[],rfl⟩
 | some u =>refine⟨u.num,u.time,u.mark,u.body,?_⟩;show nV u=_;unfold nV nZ;rw[(xE hc).2];rfl
theorem Fi {B b s n q c:Nat}{σ:St}{vs:Nat->LL}{M0:Mem}(_:c<=400)(hq:q<5)(hB:Bk (λk=>B<=k) w b s n σ M0 vs d c){cur:LL}(Qr:sG (ax (IE σ q))=cur) :
 QK B b s q (IW q) (IE σ q).IB.length (λy=>∃M,Bk (λk=>B<=k) y b s n σ M vs d c) cur (ax (IE σ q)).isSome:=by
 refine⟨λy ⟨M,h⟩=>h.bk.lt,hB.bB,λy ⟨M,h⟩=>h.bk.c0.1,λy ⟨M,h⟩=>?_,λy ⟨M,h⟩=>?_,λy z ⟨M,h⟩ hb=>⟨M,h.below hb⟩,λy ⟨M,h⟩=>h.Js.env.tb.b,λy ⟨M,h⟩=>?_⟩
 ·have:=(h.bk.ck q hq).1;rw[(h.facts q).2.2.2] at this;exact this
 ·have h1:=(h.bk.ck q hq).2.1;rcases(h.bk.row q hq).2 with⟨h2,h3⟩|⟨g,A0,cur,h2,_⟩
  ·exact⟨Kf,0,by rw[h1,h2,h3]⟩
  ·exact⟨_,A0,by rw[h1,h2]⟩
 ·have hl:=(h.facts q).1;have:=du b (1+q*3) (vs q) (IE σ q) y (h.bk.ck q hq).2.1 (h.bk.row q hq) (by omega);rw[Qr] at this;exact this
theorem vH (x z qz mz:Int)(v:LL)(l:List Stp)(w0:K2)(hM:bu w0)(hT:Jm w0)(QI : -9223372036854775808<=x)(QH:x<=9223372036854775807)(Qk : -9223372036854775808<=z)(Qj:z<=9223372036854775807)(Tj : -9223372036854775808<=qz)(Ti:qz<=9223372036854775807)(Qm : -9223372036854775808<=mz)(Ql:mz<=9223372036854775807)(hv:uO w0 v l) :
 Rn.Reach IH (Bg IH (Dd (AtRet (Qe 4 10 w0)))) (Frame.enter IH 4 #[Kx K0 x,Kx K0 z,v,Kx K0 qz,Kx K0 mz] .normal) [] w0:=by
 have HP:=wj x v l w0 hM hT QI QH hv;obtain⟨o,A8,rfl,_⟩:=hv.lie;have hg:=uD l;have Ae:=wF l;obtain⟨σ,hσ⟩:=IG (fM st0 (l.take 400));rw[hσ] at HP hg Ae;have p5:=bZ qz 5 (by omega);have D0:=bZ mz 30 (by omega);have p8:=bZ z 8 (by omega);obtain⟨q,hq⟩:∃n:Nat,pk qz 5=n:=⟨(pk qz 5).toNat,by omega⟩;obtain⟨mq,B7⟩:∃n:Nat,pk mz 30=n:=⟨(pk mz 30).toNat,by omega⟩;obtain⟨zq,Cw⟩:∃n:Nat,pk z 8=n:=⟨(pk z 8).toNat,by omega⟩;have Ai:q<5:=by omega
 have A1:=db q;have Ag:=(da A1).2.1;obtain⟨nu,t,mk,bd,Ad⟩:=Gy (IE σ q);have Bu:(IE σ q).IB.length<1000:=by obtain⟨e,w',fr,⟨b,s,n,M,vs,d,c,_,_,_,hB,_⟩,_⟩:=HP [];have:=(hB.facts q).1;omega
 refine Bc x z qz mz o l.length A8 w0 q mq hq B7 Tj Ti Qm Ql (IW q) Ag (IE σ q).IB.length Bu nu t mk (ax (IE σ q)).isSome bd (NR (ax (IE σ q))) (C2 _) (λb s I=>∃n vs d c,c<=400/\∀y,I y->∃M,Bk (λk=>w0.heap.size<=k) y b s n σ M vs d c) (HP.mono ?_) ?_
 ·rintro e w' ⟨b,s,n,M,vs,d,c,rfl,hn,Aa,hB,hO⟩;exact⟨b,s,_,rfl,Fi Aa Ai hB Ad,⟨n,vs,d,c,Aa,λy h=>h⟩,⟨M,hB⟩,hO⟩
 ·intro b s I w1 R E7 y0 y2 y3 y4 y5 y6 y7 y8 y9 Cc E1 Do D1 Ea E3 D9 E8 Cy Dj Ch Co Ej Df D7 Cs Cv Du Dh Cq E5 Eg D3 Ck D6 Cn Cg Dr Cz Dy Dn D5 Dx Dw Ds Dt OW E4 Eh OV Dc OU OT Ce De Cm E2 Dk Ca D4 Ei Ee Ct Dg Ec Cj Dq Cx Cb Cf Da Cl E6 Ed Ef Ci E0 D8 Cu Dz OQ OP OO Dv Db Eb Cr Dl Cd Cp Dm E9 C9 Di Aq Bx Bs B5 Bh Bm C5 C3 Bq Ap Bv Bi wD vK Bo C7 Ar Bw Bt B3 Ay B9 By C8 Bj At Ao C0 Bb Al Bz Br As wI u7 Aw Am B1 B6 Bd Az Aj Ak B8 C1 Ba Bn Be B0 B4 Ax hS ⟨n,vs,d,c,Aa,An⟩ hI hO hc;obtain⟨M,hB⟩:=An w1 hI;have A0:Bk (λk=>w0.heap.size<=k) w1.drew b s n σ M vs d c:=hB.below (Below.refl _ _).drew;rw[Gh];refine Rn.Reach.ctl (λcs=>stepG_seq) ?_;refine GM (b:=b) (s:=s) (z:=z) (by simp[base]) rfl rfl rfl rfl Qk Qj hB.bk.c0.1 λt1=>?_;(have ez:(1:Int)+pk z 8=((1+zq:Nat):Int):=by omega);rw[ez];have Ac:∀u,ax (ae σ.Iz (IW q))=ID u->dj 16 (JG u.body)≠dj 16 (JG (JC 0)):=λu hu=>by
   obtain⟨hm,hk⟩:=xE hu;rcases nC σ.Iz (IW q) with h|h
   ·obtain⟨c,hc⟩:=Ae _ h u hm hk;rw[hc];exact DI c
   ·rw[h] at hm;cases hm
  have h0:aJ J1 (wR (ax (ae σ.Iz (IW q)))) (ax (ae σ.Iz (IW q)))=0:=Dp _;have h1:aJ J1 (wR (ax (ae σ.Iz (IW q)))) (ID ⟨(ae σ.Iz (IW q)).last+1,σ.time,Lo,JC 0⟩)=412:=DF _ _ _ Ac;have D2:=A0.lg;refine sP (l:=jY (IW q) (wP (ax (ae σ.Iz (IW q))).isSome (NR (ax (ae σ.Iz (IW q)))))) (bd:=JC) A0.Js.st A0.Js.env.mx A0.Js.env.tb (λk hk=>A0.Js.env.high (A0.Js.own k hk)) (by omega) A0.many A1 (by omega) (λj hj=>by have:=nd j (by omega);omega) h0 h1 (by omega) (by omega) hc (λj hj=>?_) (λj hj=>Ft A1 _ j (by omega)) (Bp _) (by omega) (by omega) (λf hf=>?_) λt' w2 O hOut=>?_
  ·have h3:=Et (ax (ae σ.Iz (IW q)));have h4:=nd j (by omega);unfold jY;rw[cQ];simp;omega
  ·simp only[List.mem_singleton] at hf;subst hf;exact⟨by simp[Frame.at,base],rfl⟩
  ·rw[Frame.finish_at];have e8:(Jt[8]?).bind (·.dst)=ID 82:=rfl;rw[e8];refine Fz (x:=Lq (ID ⟨O,0,Kf⟩) (2+mq) (2+mq)) (y:=Kx K0 0) t1 (by simp[aF,J0]) (by simp[aF,J0]) ?_;simp only[aG,aF,J0,List.setIfInBounds_toArray,List.set_cons_succ,List.set_cons_zero];(have hN:2+mq≠0:=by omega);have C6:Off (λk=>w0.heap.size<=k) (az w0 t') w2:=(Off.LB t' hO.drew).trans (hOut.off.mono A0.Js.own);have C4:w2.heap[b]?=ID (LI (aC s (IE σ) vs σ.time d) 31 (0,0)):=(hOut.off.block b A0.bk.lt (λhk=>(eT A0.Js.st hk).1 A0.bk.blk)).trans A0.bk.blk;obtain⟨M2,Ab⟩:=vh t' A0.Js hN hOut;obtain⟨τ,hτ⟩:=IG (Mc σ (IW q) (JC 0) (2+mq));(have A7:τ.log.length<140000000000000:=by have h5:=Fu (σ:=σ) (K:=IW q) (b0:=JC 0) hN;have h6:=nd 0 (by omega);rw[hτ] at h5;omega);rw[hτ] at Ab;have A6:(bF τ (bp [71,69,84] (47::IW q) [] [])).2=τ:=by
    cases hcv:ax (ae τ.Iz (IW q)) with
    | none=>exact congrArg Prod.snd (DW A1 hcv)
    | some u=>exact congrArg Prod.snd (A9 A1 hcv)
   obtain⟨a,ha⟩:∃a,bF τ (bp [71,69,84] (47::IW q) [] [])=(a,τ):=⟨_,Prod.ext rfl A6⟩;(have A2:(aL a.told a.IQ a.body).length<=1000000000:=by have:=ot (uW Ab.st A7 (bp [71,69,84] (47::IW q) [] []));rw[ha] at this;exact this);have Ah:=A0.ls q;have A4:=jG s (IE σ) vs σ.time d q Ai;have A5:∀y:K2,y.heap[b]?=ID (LI (aC s (IE σ) vs σ.time d) 31 (0,0))->y.cell? ⟨b,0,Kf⟩=ID (K1 (ID ⟨s,0,Kf⟩))/\y.cell? ⟨b,1+q*3,Kf⟩=ID (IF ⟨(IW q).toArray⟩)/\y.cell? ⟨b,1+q*3+2,Kf⟩=ID (Kx K0 (IE σ q).last):=λy hy=>by
    refine⟨by simp[Ly,hy,aC],?_,?_⟩
    ·have h7:=A4.1;rw[(A0.facts q).2.2.2] at h7;simp only[Ly,hy];simpa using h7
    ·have h7:=A4.2.2;simp only[Ly,hy];simpa using h7
   (have A3:decide ((IE σ q).IB.length<20)=J1->a=⟨200,cj ⟨(IE σ q).last+1,σ.time,Lo,JC 0⟩ (cw σ.time),JC 0⟩:=λhr=>by(have hf:¬ 20<=(ae σ.Iz (IW q)).IB.length:=by have:=of_decide_eq_true hr;show ¬ 20<=(IE σ q).IB.length;omega);have hc:=Fj (b0:=JC 0) A0.Js.st.rise hf hN;rw[hτ] at hc;have h8:=A9 (σ:=τ) A1 hc;have h9:bF τ (bp [71,69,84] (47::IW q) [] [])=_:=h8;rw[ha] at h9;exact congrArg Prod.fst h9);(have Af:σ.time<2678400:=by have:=hg.t;omega);have Av:=λj=>DT (bd:=JC) A0.Js.st.rise h0 h1 (by show(IE σ q).last<_;omega) j;have B2:VI w0 b s q (2+mq) O (IE σ q).last (IW q) (aL a.told a.IQ a.body) (λj=>aL (dG σ (IW q) (JC 0) j).told (dG σ (IW q) (JC 0) j).IQ (dG σ (IW q) (JC 0) j).body) (λj=>(dG σ (IW q) (JC 0) j).told) (ax (IE σ q)).isSome (decide ((IE σ q).IB.length<20))
    (λy=>(∃M',J4 (λk=>w0.heap.size<=k) y s n τ M')/\y.heap[b]?=ID (LI (aC s (IE σ) vs σ.time d) 31 (0,0))/\(∀j,j<2+mq->y.cell? ⟨O,j,Kf⟩=ID (IF ⟨(aL (dG σ (IW q) (JC 0) j).told (dG σ (IW q) (JC 0) j).IQ (dG σ (IW q) (JC 0) j).body).toArray⟩))/\Off (λk=>w0.heap.size<=k) (az w0 t') y)
    (λy=>(∃M',J4 (λk=>w0.heap.size<=k) y s n τ M')/\y.heap[b]?=ID (LI (aC s (IE σ) vs σ.time d) 31 (0,0))/\Off (λk=>w0.heap.size<=k) (az w0 t') y):=by
    refine⟨λj hj=>uz σ (IW q) (JC 0) j,λj hj y=>dJ _ _ _ y (xo _ _ _ _).1 (xo _ _ _ _).2 (ot (Av j)),?_,λy h=>(A5 y h.2.1).1,λy h=>(A5 y h.2.1).2.1,λy h=>h.2.2.1,?_,?_,λy h=>⟨(A5 y h.2.1).1,(A5 y h.2.1).2.1⟩,λy h=>(A5 y h.2.1).2.2,λy ⟨⟨M',h⟩,_⟩=>h.env.tb.b,λy h=>⟨h.2.2.os,λk hk=>h.2.2.block k hk (by omega)⟩,λhr y=>?_,λhr y=>?_,λhr y=>?_⟩
    ·rintro y z ⟨⟨M',h1⟩,h2,h3,h4⟩ hb;exact⟨⟨M',h1.below hb⟩,(hb.block b (gL h2)).trans h2,λj hj=>(hb.cell (p:=⟨O,j,Kf⟩) (bj (h3 j hj))).trans (h3 j hj),h4.trans (Off.of_below hb)⟩
    ·rintro y ⟨⟨M',h1⟩,h2,h3,h4⟩;refine(jU _ h1 A7 ?_ ha ⟨_,_,_,_,lK BC (by decide) rfl A1,(by decide:1≠0),(by decide:1≠3),rfl,rfl⟩).mono ?_
     ·rw[cQ];simp;omega
     ·rintro e w' ⟨rfl,_,M3,Au,Bl,Bf⟩;exact⟨rfl,⟨M3,Au⟩,(Bl.block b (gL h2) (λho=>(eT h1.st ho).1 h2)).trans h2,h4.trans Bf⟩
    ·rintro y z ⟨⟨M',h1⟩,h2,h4⟩ hb;exact⟨⟨M',h1.below hb⟩,(hb.block b (gL h2)).trans h2,h4.trans (Off.of_below hb)⟩
    ·have e:=A3 hr;rw[e] at A2 ⊢;exact dJ 200 _ _ y (by omega) (by omega) A2
    ·have e:=A3 hr;rw[e] at A2 ⊢;(have e9:(⟨#[119,114,105,116,101,114,32,48]⟩:ByteArray)=⟨(JC 0).toArray⟩:=by kernel_rfl);rw[e9];exact F0 200 _ _ y (tQ ⟨(IE σ q).last+1,σ.time,Lo,JC 0⟩ Af) A2
    ·have e:=A3 hr;rw[e] at A2 ⊢;exact kJ 200 [⟨[69,84,97,103],bX (JC 0)⟩,⟨[76,97,115,116,45,77,111,100,105,102,105,101,100],cw σ.time⟩] [] [86,101,114,115,105,111,110] (Lz ((IE σ q).last+1)) (JC 0) y (tQ ⟨(IE σ q).last+1,σ.time,Lo,JC 0⟩ Af) (by simp) (by decide) A2
   exact yr B2 w2 ⟨⟨M2,Ab⟩,C4,hOut.ans,C6⟩ (by omega) Ag (by omega)
end Go.Proofs.YtmehkneofinmiabGreatDoor

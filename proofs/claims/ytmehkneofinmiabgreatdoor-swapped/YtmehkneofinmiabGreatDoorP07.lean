/-part 7-/
import Derived.Test.YtmehkneofinmiabGreatDoorP06
open Go.Proofs.Tryz
open Go.Value renaming string->ID,slice->Jx,int->Ks,pointer->LS,bool->Mp,tuple->Nd,agg->NX
open Option renaming some->IF,none->IR,map_some->Lo,map_eq_some_iff->MD
open Or renaming inr->IH,inl->J0
open Go.Obj renaming cells->I3
open Go.Act renaming put->J1
open Go.World renaming frozen?->Kf,cell?->K0
open List renaming getElem?_map->Kx,getElem?_eq_getElem->Ly,mem_iff_getElem->Lz,mem_of_getElem?->LI,mem_filter->LO,getElem?_eq_some_iff->Mu,mem_of_mem_take->MY,mem_of_mem_drop->M1,length_append->Nm
open Go.IntKind renaming i64->K1,i32->N0
open Go renaming heap_alloc_new->K2,heap_alloc_old->LL,Value->L2,wpAnyH_done->L4,World->L5,wpAnyH_ready->Mb,undef->Nx,Calls->N1
open Go.AllReadyH renaming cons->Ln,nil->L1
open Array renaming getElem?_setIfInBounds_ne->Lq,getElem?_eq_some_iff->Mn
open Go.Ending renaming returned->Lw
open Bool renaming false->LN,true->N2
open Go.NoPanic renaming normal->LR
open Nat renaming le_succ->L3,lt_succ_self->Mz,mod_lt->MA,le_refl->MT,le_trans->NO
set_option maxRecDepth 100000
set_option maxHeartbeats 8000000
namespace Go.Proofs.YtmehkneofinmiabGreatDoor
open Go.RowKit
variable {w w' x:L5}{B B' b i j kc n p q s:Nat}{cp cs:Array L2}{rd:Int}{lk:Nat->Int}{σ:St}{l:List IP}{A E E':IP}{α:Type}{f:Nat->IP}{es' Jk vs':L2}{key Ju:List UInt8}
noncomputable def cw (n:Nat):List UInt8:=(Classical.epsilon (IK.Jh (n:Int))).take 40
theorem av {c:Nat}{v:L2}(h:c≠b):(w.setCell ⟨b,i,IR⟩ v).heap[c]?=w.heap[c]?:=by
 simp[World.setCell,Array.getElem?_modify,Ne.symm h]
theorem kH {gs:Nat}{l:List J9}(h:w.heap[gs]?=IF (I3 cs 124 (0,0)))(hc:cs.toList=cN l)(hl:cs.size=l.length*2)(hm:l.length<=maxLen):w.ownsRow 0 124 2 (Jx (IF ⟨gs,0,IR⟩) l.length l.length) l.length (cN l):=by
 refine⟨by rw[<-hc];simpa using hl,IH ⟨gs,l.length,cs,rfl,by omega,h,MT _,hm,hl,?_⟩⟩;rw[<-hl,List.take_of_length_le (by simp)];exact hc
def cj (v:IZ)(st:List UInt8):List J9:=[⟨[69,84,97,103],bX v.body⟩,⟨[76,97,115,116,45,77,111,100,105,102,105,101,100],st⟩,⟨[86,101,114,115,105,111,110],Lib.decDigits v.num⟩]
theorem mG (v:IZ)(m:Nat)(st:List UInt8)(w:L5)(hb:v.body.length<1000000)(hn:v.num<1000000000000000)(hT:Tz w)(Vu:J8 w)
 (hst:∀y,J8 y->N1 prog 107 #[Ks K1 v.time] y λe w'=>e=Lw (ID ⟨st.toArray⟩)/\Below y.heap.size y w') :
 N1 prog 71 #[bq v,Ks K1 m] w λe w'=>∃gs,e=Lw (NX #[Ks K1 200,Jx (IF ⟨gs,0,IR⟩) 3 3,ID ⟨(if m=0 then v.body else[]).toArray⟩]) /\
  w'.ownsRow 0 124 2 (Jx (IF ⟨gs,0,IR⟩) 3 3) 3 (cN (cj v st))/\Below w.heap.size w w':=by
 obtain⟨tg,Bv⟩:=IG (bX v.body);obtain⟨nn,C1⟩:=IG (Lib.decDigits v.num);have C8:Hid (∀y,Tz y->N1 prog 104 #[ID ⟨v.body.toArray⟩] y λe w'=>e=Lw (NX #[ID ⟨#[69,84,97,103]⟩,ID ⟨tg.toArray⟩])/\Below y.heap.size y w'):=by rw[<-Bv];exact λy hy=>kD v.body y hb hy
 have Br:=IA hst;have B6:Hid (∀y,J8 y->N1 prog 105 #[Ks K1 v.num] y λe w'=>e=Lw (NX #[ID ⟨#[86,101,114,115,105,111,110]⟩,ID ⟨nn.toArray⟩])/\Below y.heap.size y w'):=by rw[<-C1];exact λy hy=>eX v.num y hn hy
 have HR:Hid (cN (cj v st)=[ID ⟨#[69,84,97,103]⟩,ID ⟨tg.toArray⟩,ID ⟨#[76,97,115,116,45,77,111,100,105,102,105,101,100]⟩,ID ⟨st.toArray⟩,ID ⟨#[86,101,114,115,105,111,110]⟩,ID ⟨nn.toArray⟩]):=by show _=_;rw[<-Bv,<-C1];rfl
 clear Bv C1 hst;unfold bq;go_enter func71,ntmps71;go_wp2_with fail;obtain⟨X,hX⟩:=exj (((w.alloc (I3 #[Ks K1 v.num,Ks K1 v.time,Mp v.mark,ID ⟨v.body.toArray⟩] 147)).alloc (I3 #[Ks K1 0,Jx IR 0 0,ID ⟨#[]⟩] 80)));rw[<-hX];have B1:Below w.heap.size w X:=by rw[hX];exact((Below.refl _ _).alloc (MT _) _).alloc (by simp) _
 have hV:X.heap[w.heap.size]?=IF (I3 #[Ks K1 v.num,Ks K1 v.time,Mp v.mark,ID ⟨v.body.toArray⟩] 147 (0,0)):=by rw[hX];exact(LL _ _ (by simp)).trans (K2 _ _)
 have hZ:X.heap[w.heap.size+1]?=IF (I3 #[Ks K1 0,Jx IR 0 0,ID ⟨#[]⟩] 80 (0,0)):=by rw[hX];have:=K2 (w.alloc (I3 #[Ks K1 v.num,Ks K1 v.time,Mp v.mark,ID ⟨v.body.toArray⟩] 147)) (I3 #[Ks K1 0,Jx IR 0 0,ID ⟨#[]⟩] 80);simpa using this
 have B3:w.heap.size+1<X.heap.size:=(gL hZ);clear hX;obtain⟨x0,x1,-,x3⟩:=MM hV;have HS:Hid (∀y,Below X.heap.size X y->(y.cell? ⟨w.heap.size,0,IR⟩=IF (Ks K1 v.num)/\y.cell? ⟨w.heap.size,1,IR⟩=IF (Ks K1 v.time)/\y.cell? ⟨w.heap.size,3,IR⟩=IF (ID ⟨v.body.toArray⟩))/\Tz y/\J8 y):=by intro y hy;exact⟨⟨(hy.cell (p:=⟨w.heap.size,0,IR⟩) (Nat.lt_trans (Mz _) B3)).trans x0,(hy.cell (p:=⟨w.heap.size,1,IR⟩) (Nat.lt_trans (Mz _) B3)).trans x1,(hy.cell (p:=⟨w.heap.size,3,IR⟩) (Nat.lt_trans (Mz _) B3)).trans x3⟩,(hT.below B1).below hy,(Vu.below B1).below hy⟩
 have gX:Below X.heap.size X X.drew:=(Below.refl _ _).drew;have HZ:=IA hZ;have HL:=IA B1;have Af:=IA B3;clear hV B1 hT Vu hZ;generalize hQQ:Exit.then _ _=QQ;have A1:Hid (∀(ga gs:Nat) (y:L5),Below X.heap.size X y->y.heap[ga]?=IF (I3 #[Ks K1 0,Jx IR 0 0,ID ⟨#[]⟩] 80 (0,0))->y.heap[gs]?=IF (I3 #[ID ⟨#[69,84,97,103]⟩,ID ⟨tg.toArray⟩,ID ⟨#[76,97,115,116,45,77,111,100,105,102,105,101,100]⟩,ID ⟨st.toArray⟩,ID ⟨#[86,101,114,115,105,111,110]⟩,ID ⟨nn.toArray⟩] 124 (0,0))->X.heap.size<=ga->QQ .normal ⟨#[NX #[Ks K1 v.num,Ks K1 v.time,Mp v.mark,ID ⟨v.body.toArray⟩],Ks K1 m,LS (IF ⟨w.heap.size,0,IR⟩),Nx,LS (IF ⟨w.heap.size+1,0,IR⟩),LS (IF ⟨ga,0,IR⟩),LS (IF ⟨w.heap.size,3,IR⟩),ID ⟨v.body.toArray⟩,NX #[ID ⟨#[69,84,97,103]⟩,ID ⟨tg.toArray⟩],LS (IF ⟨w.heap.size,1,IR⟩),Ks K1 v.time,ID ⟨st.toArray⟩,NX #[ID ⟨#[76,97,115,116,45,77,111,100,105,102,105,101,100]⟩,ID ⟨st.toArray⟩],LS (IF ⟨w.heap.size,0,IR⟩),Ks K1 v.num,NX #[ID ⟨#[86,101,114,115,105,111,110]⟩,ID ⟨nn.toArray⟩],Jx (IF ⟨gs,0,IR⟩) 3 3,NX #[Ks K1 200,Jx (IF ⟨gs,0,IR⟩) 3 3,ID ⟨#[]⟩],Nx,Nx,Nx,Nx,Nx,Nx],[]⟩ (((y.setCell ⟨ga,0,IR⟩ (Ks K1 200)).setCell ⟨ga,1,IR⟩ (Jx (IF ⟨gs,0,IR⟩) 3 3)).setCell ⟨ga,2,IR⟩ (ID ⟨#[]⟩))):=by
  intro ga gs y hy Bq At D3;(have Bn:w.heap.size≠ga:=by have:=Af.out;omega);(have Ct:w.heap.size+1≠ga:=by have:=Af.out;omega);(have Cx:w.heap.size<=ga:=by have:=Af.out;omega);have Ca:gs≠ga:=aa At Bq (by decide);have A2:gs≠w.heap.size+1:=aa At ((hy.block _ Af.out).trans HZ.out) (by decide);obtain⟨Y,hY⟩:=exj ((((y.setCell ⟨ga,0,IR⟩ (Ks K1 200)).setCell ⟨ga,1,IR⟩ (Jx (IF ⟨gs,0,IR⟩) 3 3)).setCell ⟨ga,2,IR⟩ (ID ⟨#[]⟩)));rw[<-hY];(have By:Y.heap[ga]?=IF (I3 #[Ks K1 200,Jx (IF ⟨gs,0,IR⟩) 3 3,ID ⟨#[]⟩] 80 (0,0)):=by rw[hY,heap_set (heap_set (heap_set Bq))];rfl);(have Ag:Off (λk=>k=ga) y Y:=by rw[hY];exact(((Off.refl (λk=>k=ga) _).set ga 0 _ (J0 rfl)).set ga 1 _ (J0 rfl)).set ga 2 _ (J0 rfl));have Ap:Y.heap[w.heap.size+1]?=IF (I3 #[Ks K1 0,Jx IR 0 0,ID ⟨#[]⟩] 80 (0,0)):=(Ag.block _ (Nat.lt_of_lt_of_le Af.out hy.size) Ct).trans ((hy.block _ Af.out).trans HZ.out);have C6:Y.heap[gs]?=IF (I3 #[ID ⟨#[69,84,97,103]⟩,ID ⟨tg.toArray⟩,ID ⟨#[76,97,115,116,45,77,111,100,105,102,105,101,100]⟩,ID ⟨st.toArray⟩,ID ⟨#[86,101,114,115,105,111,110]⟩,ID ⟨nn.toArray⟩] 124 (0,0)):=(Ag.block _ (gL At) Ca).trans At;(have Cn:Below w.heap.size w Y:=by refine(HL.out.trans (hy.mono HL.out.size)).trans ?_;exact⟨Ag.os,Ag.tape,Ag.output,Ag.size,λk hk=>Ag.block k (by have:=hy.size;have:=Af.out;omega) (by have:=Af.out;omega)⟩);(have y3:Y.cell? ⟨w.heap.size,3,IR⟩=IF (ID ⟨v.body.toArray⟩):=by rw[hY,ah Bn,ah Bn,ah Bn];exact(HS.out y hy).1.2.2);obtain⟨a0,a1,a2⟩:=LP By;have af:=Je By 2;obtain⟨z0,z1,z2⟩:=LP Ap;have D5:=Je Ap 0;have D2:=Je Ap 1;have D1:=Je Ap 2;have Cq:=IA Ap;have Cv:=IA C6;have Cd:=IA Cn;clear hY By Ag Ap C6 Cn hy Bq At;rw[<-hQQ];by_cases hm:m=0
  ·subst hm;go_wp2;have h0:(Y.setCell ⟨ga,2,IR⟩ (ID ⟨v.body.toArray⟩)).heap[w.heap.size+1]?=IF (I3 #[Ks K1 0,Jx IR 0 0,ID ⟨#[]⟩] 80 (0,0)):=(av Ct).trans Cq.out;have hs:=heap_set (i:=2) (v:=ID ⟨v.body.toArray⟩) (heap_set (i:=1) (v:=Jx (IF ⟨gs,0,IR⟩) 3 3) (heap_set (i:=0) (v:=Ks K1 200) h0));refine bodyPost_ret (v:=NX #[Ks K1 200,Jx (IF ⟨gs,0,IR⟩) 3 3,ID ⟨v.body.toArray⟩]) (aK results71 _ _ (w.heap.size+1) 80 _ (0,0) _ rfl hs underlying80 rfl fb) rfl ⟨gs,rfl,?_,?_⟩
   ·refine kH (l:=cj v st) (cs:=#[ID ⟨#[69,84,97,103]⟩,ID ⟨tg.toArray⟩,ID ⟨#[76,97,115,116,45,77,111,100,105,102,105,101,100]⟩,ID ⟨st.toArray⟩,ID ⟨#[86,101,114,115,105,111,110]⟩,ID ⟨nn.toArray⟩]) ?_ (by rw[HR.out]) rfl (by simp[cj,maxLen]);exact(av A2).trans ((av A2).trans ((av A2).trans ((av Ca).trans Cv.out)))
   ·exact(((Cd.out.setCell (p:=⟨ga,2,IR⟩) Cx _).setCell (p:=⟨w.heap.size+1,0,IR⟩) (L3 _) _).setCell (p:=⟨w.heap.size+1,1,IR⟩) (L3 _) _).setCell (p:=⟨w.heap.size+1,2,IR⟩) (L3 _) _
  ·have D4:((m:Int)==0)=LN:=beq_eq_false_iff_ne.2 (by omega);go_wp2;have h0:(Y).heap[w.heap.size+1]?=IF (I3 #[Ks K1 0,Jx IR 0 0,ID ⟨#[]⟩] 80 (0,0)):=Cq.out;have hs:=heap_set (i:=2) (v:=ID ⟨#[]⟩) (heap_set (i:=1) (v:=Jx (IF ⟨gs,0,IR⟩) 3 3) (heap_set (i:=0) (v:=Ks K1 200) h0));refine bodyPost_ret (v:=NX #[Ks K1 200,Jx (IF ⟨gs,0,IR⟩) 3 3,ID ⟨#[]⟩]) (aK results71 _ _ (w.heap.size+1) 80 _ (0,0) _ rfl hs underlying80 rfl fb) rfl ⟨gs,rfl,?_,?_⟩
   ·refine kH (l:=cj v st) (cs:=#[ID ⟨#[69,84,97,103]⟩,ID ⟨tg.toArray⟩,ID ⟨#[76,97,115,116,45,77,111,100,105,102,105,101,100]⟩,ID ⟨st.toArray⟩,ID ⟨#[86,101,114,115,105,111,110]⟩,ID ⟨nn.toArray⟩]) ?_ (by rw[HR.out]) rfl (by simp[cj,maxLen]);exact(av A2).trans ((av A2).trans ((av A2).trans Cv.out))
   ·exact((Cd.out.setCell (p:=⟨w.heap.size+1,0,IR⟩) (L3 _) _).setCell (p:=⟨w.heap.size+1,1,IR⟩) (L3 _) _).setCell (p:=⟨w.heap.size+1,2,IR⟩) (L3 _) _
 refine wp_region_noPanic ?_;refine wp_region_held_drew (S:=(λy=>y.cell? ⟨w.heap.size,0,IR⟩=IF (Ks K1 v.num)/\y.cell? ⟨w.heap.size,1,IR⟩=IF (Ks K1 v.time)/\y.cell? ⟨w.heap.size,3,IR⟩=IF (ID ⟨v.body.toArray⟩))) (by kernel_rfl) ⟨x0,x1,x3⟩ (λhHeld=>?_);refine IJ 0 hHeld ?_;try simp only[J1]
 refine IJ 1 hHeld ?_;try simp only[J1]
 refine IJ 3 hHeld ?_;try simp only[J1]
 refine IJ 4 hHeld ?_;try simp only[J1]
 refine IJ 7 hHeld ?_;try simp only[J1]
 refine IJ 8 hHeld ?_;try simp only[J1]
 refine Mb (rs:=[2,12]) (by kernel_rfl) (by simp) ?_;refine Ln rfl (λK hK=>?_) (Ln rfl (λK hK=>?_) L1)
 ·go_simp;refine(C8.out X.drew (HS.out _ gX).2.1).mono ?_;rintro e y1 ⟨rfl,h1⟩;have g1:Below X.heap.size X y1:=gX.trans (h1.mono gX.size);clear h1;(try go_wp2_with fail);refine hK.out _ _ (HS.out _ g1).1 (λhHeld=>?_);clear hK K;(try simp only[J1]);refine Mb (rs:=[5,12]) (by kernel_rfl) (by simp) ?_;refine Ln rfl (λK hK=>?_) (Ln rfl (λK hK=>?_) L1)
  ·go_simp;refine(Br.out y1 (HS.out _ g1).2.2).mono ?_;rintro e y2 ⟨rfl,h2⟩;have g2:Below X.heap.size X y2:=g1.trans (h2.mono g1.size);clear h2;(try go_wp2_with fail);refine hK.out _ _ (HS.out _ g2).1 (λhHeld=>?_);clear hK K;(try simp only[J1]);refine IJ 6 hHeld ?_;(try simp only[J1]);refine Mb (rs:=[9,12]) (by kernel_rfl) (by simp) ?_;refine Ln rfl (λK hK=>?_) (Ln rfl (λK hK=>?_) L1)
   ·go_simp;refine(B6.out y2 (HS.out _ g2).2.2).mono ?_;rintro e y3 ⟨rfl,h3⟩;have g3:Below X.heap.size X y3:=g2.trans (h3.mono g2.size);clear h3;(try go_wp2_with fail);refine hK.out _ _ (HS.out _ g3).1 (λhHeld=>?_);clear hK K;(try simp only[J1]);refine Mb (rs:=[10,12]) (by kernel_rfl) (by simp) ?_;refine Ln rfl (λK hK=>?_) (Ln rfl (λK hK=>?_) L1)
    ·go_simp;obtain⟨s4,Ba⟩:=exj ((y3).alloc (I3 #[ID ⟨#[69,84,97,103]⟩,ID ⟨tg.toArray⟩,ID ⟨#[76,97,115,116,45,77,111,100,105,102,105,101,100]⟩,ID ⟨st.toArray⟩,ID ⟨#[86,101,114,115,105,111,110]⟩,ID ⟨nn.toArray⟩] 124));rw[<-Ba];obtain⟨q4,Bm⟩:=exj ((y3).heap.size);rw[<-Bm];(have g4:Below X.heap.size X s4:=by rw[Ba];exact g3.alloc g3.size _);(have k4:s4.heap[q4]?=IF (I3 #[ID ⟨#[69,84,97,103]⟩,ID ⟨tg.toArray⟩,ID ⟨#[76,97,115,116,45,77,111,100,105,102,105,101,100]⟩,ID ⟨st.toArray⟩,ID ⟨#[86,101,114,115,105,111,110]⟩,ID ⟨nn.toArray⟩] 124 (0,0)):=by rw[Ba,Bm];exact K2 _ _);clear Ba Bm;refine hK.out _ _ (HS.out _ g4).1 (λhHeld=>?_);clear hK K;(try simp only[J1]);refine Mb (rs:=[11,12]) (by kernel_rfl) (by simp) ?_;refine Ln rfl (λK hK=>?_) (Ln rfl (λK hK=>?_) L1)
     ·go_simp;refine(dx 200 (IF ⟨q4,0,IR⟩) 3 3 s4).mono ?_;rintro e y5 ⟨rfl,h5⟩;have g5:Below X.heap.size X y5:=g4.trans (h5.mono g4.size);have k5:y5.heap[q4]?=IF (I3 #[ID ⟨#[69,84,97,103]⟩,ID ⟨tg.toArray⟩,ID ⟨#[76,97,115,116,45,77,111,100,105,102,105,101,100]⟩,ID ⟨st.toArray⟩,ID ⟨#[86,101,114,115,105,111,110]⟩,ID ⟨nn.toArray⟩] 124 (0,0)):=(h5.block _ (gL k4)).trans k4;clear h5;(try go_wp2_with fail);refine hK.out _ _ (HS.out _ g5).1 (λhHeld=>?_);clear hK K;(try simp only[J1]);refine I6 12 (λK hK=>?_);go_simp;obtain⟨a6,Au⟩:=exj ((y5).alloc (I3 #[Ks K1 0,Jx IR 0 0,ID ⟨#[]⟩] 80));rw[<-Au];obtain⟨p6,B9⟩:=exj ((y5).heap.size);rw[<-B9];(have g6:Below X.heap.size X a6:=by rw[Au];exact g5.alloc g5.size _);(have b6:a6.heap[p6]?=IF (I3 #[Ks K1 0,Jx IR 0 0,ID ⟨#[]⟩] 80 (0,0)):=by rw[Au,B9];exact K2 _ _);(have l6:X.heap.size<=p6:=by rw[B9];exact g5.size);(have k6:a6.heap[q4]?=IF (I3 #[ID ⟨#[69,84,97,103]⟩,ID ⟨tg.toArray⟩,ID ⟨#[76,97,115,116,45,77,111,100,105,102,105,101,100]⟩,ID ⟨st.toArray⟩,ID ⟨#[86,101,114,115,105,111,110]⟩,ID ⟨nn.toArray⟩] 124 (0,0)):=by rw[Au];exact(LL _ _ (gL k5)).trans k5);clear Au B9;refine hK.out _ _ (HS.out _ g6).1 (λhHeld=>?_);clear hK K;(try simp only[J1]);refine I6 13 (λK hK=>?_);(have c0:(a6).cell? ⟨p6,0,IR⟩=IF (Ks K1 0):=by simp[K0,b6]);(have c1:(a6).cell? ⟨p6,1,IR⟩=IF (Jx IR 0 0):=by simp[K0,b6]);(have c2:(a6).cell? ⟨p6,2,IR⟩=IF (ID ⟨#[]⟩):=by simp[K0,b6]);(have f0:(a6).frozen? ⟨p6,0,IR⟩=LN:=by simp[Kf,b6]);(have f1:(a6).frozen? ⟨p6,1,IR⟩=LN:=by simp[Kf,b6]);(have f2:(a6).frozen? ⟨p6,2,IR⟩=LN:=by simp[Kf,b6]);(have A0:w.heap.size≠p6:=by have:=l6;omega);go_simp;refine hK.out _ _ ⟨?_,?_,?_⟩ (λhHeld=>?_)
      ·rw[ah A0,ah A0,ah A0];exact(HS.out _ g6).1.1
      ·rw[ah A0,ah A0,ah A0];exact(HS.out _ g6).1.2.1
      ·rw[ah A0,ah A0,ah A0];exact(HS.out _ g6).1.2.2
      clear hK K;(try simp only[J1]);refine L4 (by kernel_rfl) ?_ _;refine LR ?_;exact A1.out p6 q4 _ (g6) (b6) (k6) (l6)
     ·go_simp;obtain⟨a8,Ar⟩:=exj ((s4).alloc (I3 #[Ks K1 0,Jx IR 0 0,ID ⟨#[]⟩] 80));rw[<-Ar];obtain⟨p8,Be⟩:=exj ((s4).heap.size);rw[<-Be];(have g8:Below X.heap.size X a8:=by rw[Ar];exact g4.alloc g4.size _);(have b8:a8.heap[p8]?=IF (I3 #[Ks K1 0,Jx IR 0 0,ID ⟨#[]⟩] 80 (0,0)):=by rw[Ar,Be];exact K2 _ _);(have l8:X.heap.size<=p8:=by rw[Be];exact g4.size);(have k8:a8.heap[q4]?=IF (I3 #[ID ⟨#[69,84,97,103]⟩,ID ⟨tg.toArray⟩,ID ⟨#[76,97,115,116,45,77,111,100,105,102,105,101,100]⟩,ID ⟨st.toArray⟩,ID ⟨#[86,101,114,115,105,111,110]⟩,ID ⟨nn.toArray⟩] 124 (0,0)):=by rw[Ar];exact(LL _ _ (gL k4)).trans k4);clear Ar Be;refine hK.out _ _ (HS.out _ g8).1 (λhHeld=>?_);clear hK K;(try simp only[J1]);refine I6 11 (λK hK=>?_);go_simp;refine(dx 200 (IF ⟨q4,0,IR⟩) 3 3 a8).mono ?_;rintro e y9 ⟨rfl,h9⟩;have g9:Below X.heap.size X y9:=g8.trans (h9.mono g8.size);have b9:y9.heap[p8]?=IF (I3 #[Ks K1 0,Jx IR 0 0,ID ⟨#[]⟩] 80 (0,0)):=(h9.block _ (gL b8)).trans b8;have k9:y9.heap[q4]?=IF (I3 #[ID ⟨#[69,84,97,103]⟩,ID ⟨tg.toArray⟩,ID ⟨#[76,97,115,116,45,77,111,100,105,102,105,101,100]⟩,ID ⟨st.toArray⟩,ID ⟨#[86,101,114,115,105,111,110]⟩,ID ⟨nn.toArray⟩] 124 (0,0)):=(h9.block _ (gL k8)).trans k8;clear h9;(try go_wp2_with fail);refine hK.out _ _ (HS.out _ g9).1 (λhHeld=>?_);clear hK K;(try simp only[J1]);refine I6 13 (λK hK=>?_);(have c0:(y9).cell? ⟨p8,0,IR⟩=IF (Ks K1 0):=by simp[K0,b9]);(have c1:(y9).cell? ⟨p8,1,IR⟩=IF (Jx IR 0 0):=by simp[K0,b9]);(have c2:(y9).cell? ⟨p8,2,IR⟩=IF (ID ⟨#[]⟩):=by simp[K0,b9]);(have f0:(y9).frozen? ⟨p8,0,IR⟩=LN:=by simp[Kf,b9]);(have f1:(y9).frozen? ⟨p8,1,IR⟩=LN:=by simp[Kf,b9]);(have f2:(y9).frozen? ⟨p8,2,IR⟩=LN:=by simp[Kf,b9]);(have A0:w.heap.size≠p8:=by have:=l8;omega);go_simp;refine hK.out _ _ ⟨?_,?_,?_⟩ (λhHeld=>?_)
      ·rw[ah A0,ah A0,ah A0];exact(HS.out _ g9).1.1
      ·rw[ah A0,ah A0,ah A0];exact(HS.out _ g9).1.2.1
      ·rw[ah A0,ah A0,ah A0];exact(HS.out _ g9).1.2.2
      clear hK K;(try simp only[J1]);refine L4 (by kernel_rfl) ?_ _;refine LR ?_;exact A1.out p8 q4 _ (g9) (b9) (k9) (l8)
    ·go_simp;obtain⟨QJ,Ad⟩:=exj ((y3).alloc (I3 #[Ks K1 0,Jx IR 0 0,ID ⟨#[]⟩] 80));rw[<-Ad];obtain⟨Md,Aa⟩:=exj ((y3).heap.size);rw[<-Aa];(have Bh:Below X.heap.size X QJ:=by rw[Ad];exact g3.alloc g3.size _);(have C7:QJ.heap[Md]?=IF (I3 #[Ks K1 0,Jx IR 0 0,ID ⟨#[]⟩] 80 (0,0)):=by rw[Ad,Aa];exact K2 _ _);(have Cm:X.heap.size<=Md:=by rw[Aa];exact g3.size);clear Ad Aa;refine hK.out _ _ (HS.out _ Bh).1 (λhHeld=>?_);clear hK K;(try simp only[J1]);refine I6 10 (λK hK=>?_);go_simp;obtain⟨s12,A5⟩:=exj ((QJ).alloc (I3 #[ID ⟨#[69,84,97,103]⟩,ID ⟨tg.toArray⟩,ID ⟨#[76,97,115,116,45,77,111,100,105,102,105,101,100]⟩,ID ⟨st.toArray⟩,ID ⟨#[86,101,114,115,105,111,110]⟩,ID ⟨nn.toArray⟩] 124));rw[<-A5];obtain⟨Az,Al⟩:=exj ((QJ).heap.size);rw[<-Al];(have Bz:Below X.heap.size X s12:=by rw[A5];exact Bh.alloc Bh.size _);(have Cs:s12.heap[Az]?=IF (I3 #[ID ⟨#[69,84,97,103]⟩,ID ⟨tg.toArray⟩,ID ⟨#[76,97,115,116,45,77,111,100,105,102,105,101,100]⟩,ID ⟨st.toArray⟩,ID ⟨#[86,101,114,115,105,111,110]⟩,ID ⟨nn.toArray⟩] 124 (0,0)):=by rw[A5,Al];exact K2 _ _);(have Cu:s12.heap[Md]?=IF (I3 #[Ks K1 0,Jx IR 0 0,ID ⟨#[]⟩] 80 (0,0)):=by rw[A5];exact(LL _ _ (gL C7)).trans C7);clear A5 Al;refine hK.out _ _ (HS.out _ Bz).1 (λhHeld=>?_);clear hK K;(try simp only[J1]);refine I6 11 (λK hK=>?_);go_simp;refine(dx 200 (IF ⟨Az,0,IR⟩) 3 3 s12).mono ?_;rintro e y13 ⟨rfl,Ax⟩;have Av:Below X.heap.size X y13:=Bz.trans (Ax.mono Bz.size);have An:y13.heap[Md]?=IF (I3 #[Ks K1 0,Jx IR 0 0,ID ⟨#[]⟩] 80 (0,0)):=(Ax.block _ (gL Cu)).trans Cu;have Cz:y13.heap[Az]?=IF (I3 #[ID ⟨#[69,84,97,103]⟩,ID ⟨tg.toArray⟩,ID ⟨#[76,97,115,116,45,77,111,100,105,102,105,101,100]⟩,ID ⟨st.toArray⟩,ID ⟨#[86,101,114,115,105,111,110]⟩,ID ⟨nn.toArray⟩] 124 (0,0)):=(Ax.block _ (gL Cs)).trans Cs;clear Ax;(try go_wp2_with fail);refine hK.out _ _ (HS.out _ Av).1 (λhHeld=>?_);clear hK K;(try simp only[J1]);refine I6 13 (λK hK=>?_);(have c0:(y13).cell? ⟨Md,0,IR⟩=IF (Ks K1 0):=by simp[K0,An]);(have c1:(y13).cell? ⟨Md,1,IR⟩=IF (Jx IR 0 0):=by simp[K0,An]);(have c2:(y13).cell? ⟨Md,2,IR⟩=IF (ID ⟨#[]⟩):=by simp[K0,An]);(have f0:(y13).frozen? ⟨Md,0,IR⟩=LN:=by simp[Kf,An]);(have f1:(y13).frozen? ⟨Md,1,IR⟩=LN:=by simp[Kf,An]);(have f2:(y13).frozen? ⟨Md,2,IR⟩=LN:=by simp[Kf,An]);(have A0:w.heap.size≠Md:=by have:=Cm;omega);go_simp;refine hK.out _ _ ⟨?_,?_,?_⟩ (λhHeld=>?_)
     ·rw[ah A0,ah A0,ah A0];exact(HS.out _ Av).1.1
     ·rw[ah A0,ah A0,ah A0];exact(HS.out _ Av).1.2.1
     ·rw[ah A0,ah A0,ah A0];exact(HS.out _ Av).1.2.2
     clear hK K;(try simp only[J1]);refine L4 (by kernel_rfl) ?_ _;refine LR ?_;exact A1.out Md Az _ (Av) (An) (Cz) (Cm)
   ·go_simp;obtain⟨Ri,Ab⟩:=exj ((y2).alloc (I3 #[Ks K1 0,Jx IR 0 0,ID ⟨#[]⟩] 80));rw[<-Ab];obtain⟨Lj,A7⟩:=exj ((y2).heap.size);rw[<-A7];(have Ay:Below X.heap.size X Ri:=by rw[Ab];exact g2.alloc g2.size _);(have Cf:Ri.heap[Lj]?=IF (I3 #[Ks K1 0,Jx IR 0 0,ID ⟨#[]⟩] 80 (0,0)):=by rw[Ab,A7];exact K2 _ _);(have Cg:X.heap.size<=Lj:=by rw[A7];exact g2.size);clear Ab A7;refine hK.out _ _ (HS.out _ Ay).1 (λhHeld=>?_);clear hK K;(try simp only[J1]);refine I6 9 (λK hK=>?_);go_simp;refine(B6.out Ri (HS.out _ Ay).2.2).mono ?_;rintro e SK ⟨rfl,Bj⟩;have Bs:Below X.heap.size X SK:=Ay.trans (Bj.mono Ay.size);have Ch:SK.heap[Lj]?=IF (I3 #[Ks K1 0,Jx IR 0 0,ID ⟨#[]⟩] 80 (0,0)):=(Bj.block _ (gL Cf)).trans Cf;clear Bj;(try go_wp2_with fail);refine hK.out _ _ (HS.out _ Bs).1 (λhHeld=>?_);clear hK K;(try simp only[J1]);refine I6 10 (λK hK=>?_);go_simp;obtain⟨Ta,A3⟩:=exj ((SK).alloc (I3 #[ID ⟨#[69,84,97,103]⟩,ID ⟨tg.toArray⟩,ID ⟨#[76,97,115,116,45,77,111,100,105,102,105,101,100]⟩,ID ⟨st.toArray⟩,ID ⟨#[86,101,114,115,105,111,110]⟩,ID ⟨nn.toArray⟩] 124));rw[<-A3];obtain⟨B7,Ao⟩:=exj ((SK).heap.size);rw[<-Ao];(have Bl:Below X.heap.size X Ta:=by rw[A3];exact Bs.alloc Bs.size _);(have Cr:Ta.heap[B7]?=IF (I3 #[ID ⟨#[69,84,97,103]⟩,ID ⟨tg.toArray⟩,ID ⟨#[76,97,115,116,45,77,111,100,105,102,105,101,100]⟩,ID ⟨st.toArray⟩,ID ⟨#[86,101,114,115,105,111,110]⟩,ID ⟨nn.toArray⟩] 124 (0,0)):=by rw[A3,Ao];exact K2 _ _);(have Ce:Ta.heap[Lj]?=IF (I3 #[Ks K1 0,Jx IR 0 0,ID ⟨#[]⟩] 80 (0,0)):=by rw[A3];exact(LL _ _ (gL Ch)).trans Ch);clear A3 Ao;refine hK.out _ _ (HS.out _ Bl).1 (λhHeld=>?_);clear hK K;(try simp only[J1]);refine I6 11 (λK hK=>?_);go_simp;refine(dx 200 (IF ⟨B7,0,IR⟩) 3 3 Ta).mono ?_;rintro e Lx ⟨rfl,Bd⟩;have Aq:Below X.heap.size X Lx:=Bl.trans (Bd.mono Bl.size);have Am:Lx.heap[Lj]?=IF (I3 #[Ks K1 0,Jx IR 0 0,ID ⟨#[]⟩] 80 (0,0)):=(Bd.block _ (gL Ce)).trans Ce;have D0:Lx.heap[B7]?=IF (I3 #[ID ⟨#[69,84,97,103]⟩,ID ⟨tg.toArray⟩,ID ⟨#[76,97,115,116,45,77,111,100,105,102,105,101,100]⟩,ID ⟨st.toArray⟩,ID ⟨#[86,101,114,115,105,111,110]⟩,ID ⟨nn.toArray⟩] 124 (0,0)):=(Bd.block _ (gL Cr)).trans Cr;clear Bd;(try go_wp2_with fail);refine hK.out _ _ (HS.out _ Aq).1 (λhHeld=>?_);clear hK K;(try simp only[J1]);refine I6 13 (λK hK=>?_);(have c0:(Lx).cell? ⟨Lj,0,IR⟩=IF (Ks K1 0):=by simp[K0,Am]);(have c1:(Lx).cell? ⟨Lj,1,IR⟩=IF (Jx IR 0 0):=by simp[K0,Am]);(have c2:(Lx).cell? ⟨Lj,2,IR⟩=IF (ID ⟨#[]⟩):=by simp[K0,Am]);(have f0:(Lx).frozen? ⟨Lj,0,IR⟩=LN:=by simp[Kf,Am]);(have f1:(Lx).frozen? ⟨Lj,1,IR⟩=LN:=by simp[Kf,Am]);(have f2:(Lx).frozen? ⟨Lj,2,IR⟩=LN:=by simp[Kf,Am]);(have A0:w.heap.size≠Lj:=by have:=Cg;omega);go_simp;refine hK.out _ _ ⟨?_,?_,?_⟩ (λhHeld=>?_)
    ·rw[ah A0,ah A0,ah A0];exact(HS.out _ Aq).1.1
    ·rw[ah A0,ah A0,ah A0];exact(HS.out _ Aq).1.2.1
    ·rw[ah A0,ah A0,ah A0];exact(HS.out _ Aq).1.2.2
    clear hK K;(try simp only[J1]);refine L4 (by kernel_rfl) ?_ _;refine LR ?_;exact A1.out Lj B7 _ (Aq) (Am) (D0) (Cg)
  ·go_simp;obtain⟨a20,A8⟩:=exj ((y1).alloc (I3 #[Ks K1 0,Jx IR 0 0,ID ⟨#[]⟩] 80));rw[<-A8];obtain⟨KS,Ac⟩:=exj ((y1).heap.size);rw[<-Ac];(have B5:Below X.heap.size X a20:=by rw[A8];exact g1.alloc g1.size _);(have Ci:a20.heap[KS]?=IF (I3 #[Ks K1 0,Jx IR 0 0,ID ⟨#[]⟩] 80 (0,0)):=by rw[A8,Ac];exact K2 _ _);(have C4:X.heap.size<=KS:=by rw[Ac];exact g1.size);clear A8 Ac;refine hK.out _ _ (HS.out _ B5).1 (λhHeld=>?_);clear hK K;(try simp only[J1]);refine I6 5 (λK hK=>?_);go_simp;refine(Br.out a20 (HS.out _ B5).2.2).mono ?_;rintro e y21 ⟨rfl,Bw⟩;have B0:Below X.heap.size X y21:=B5.trans (Bw.mono B5.size);have C9:y21.heap[KS]?=IF (I3 #[Ks K1 0,Jx IR 0 0,ID ⟨#[]⟩] 80 (0,0)):=(Bw.block _ (gL Ci)).trans Ci;clear Bw;(try go_wp2_with fail);refine hK.out _ _ (HS.out _ B0).1 (λhHeld=>?_);clear hK K;(try simp only[J1]);refine IJ 6 hHeld ?_;(try simp only[J1]);refine I6 9 (λK hK=>?_);go_simp;refine(B6.out y21 (HS.out _ B0).2.2).mono ?_;rintro e y22 ⟨rfl,Bx⟩;have C0:Below X.heap.size X y22:=B0.trans (Bx.mono B0.size);have C2:y22.heap[KS]?=IF (I3 #[Ks K1 0,Jx IR 0 0,ID ⟨#[]⟩] 80 (0,0)):=(Bx.block _ (gL C9)).trans C9;clear Bx;(try go_wp2_with fail);refine hK.out _ _ (HS.out _ C0).1 (λhHeld=>?_);clear hK K;(try simp only[J1]);refine I6 10 (λK hK=>?_);go_simp;obtain⟨S9,A6⟩:=exj ((y22).alloc (I3 #[ID ⟨#[69,84,97,103]⟩,ID ⟨tg.toArray⟩,ID ⟨#[76,97,115,116,45,77,111,100,105,102,105,101,100]⟩,ID ⟨st.toArray⟩,ID ⟨#[86,101,114,115,105,111,110]⟩,ID ⟨nn.toArray⟩] 124));rw[<-A6];obtain⟨Bc,Ak⟩:=exj ((y22).heap.size);rw[<-Ak];(have Bk:Below X.heap.size X S9:=by rw[A6];exact C0.alloc C0.size _);(have Ck:S9.heap[Bc]?=IF (I3 #[ID ⟨#[69,84,97,103]⟩,ID ⟨tg.toArray⟩,ID ⟨#[76,97,115,116,45,77,111,100,105,102,105,101,100]⟩,ID ⟨st.toArray⟩,ID ⟨#[86,101,114,115,105,111,110]⟩,ID ⟨nn.toArray⟩] 124 (0,0)):=by rw[A6,Ak];exact K2 _ _);(have Cp:S9.heap[KS]?=IF (I3 #[Ks K1 0,Jx IR 0 0,ID ⟨#[]⟩] 80 (0,0)):=by rw[A6];exact(LL _ _ (gL C2)).trans C2);clear A6 Ak;refine hK.out _ _ (HS.out _ Bk).1 (λhHeld=>?_);clear hK K;(try simp only[J1]);refine I6 11 (λK hK=>?_);go_simp;refine(dx 200 (IF ⟨Bc,0,IR⟩) 3 3 S9).mono ?_;rintro e y24 ⟨rfl,B8⟩;have As:Below X.heap.size X y24:=Bk.trans (B8.mono Bk.size);have Ah:y24.heap[KS]?=IF (I3 #[Ks K1 0,Jx IR 0 0,ID ⟨#[]⟩] 80 (0,0)):=(B8.block _ (gL Cp)).trans Cp;have Cw:y24.heap[Bc]?=IF (I3 #[ID ⟨#[69,84,97,103]⟩,ID ⟨tg.toArray⟩,ID ⟨#[76,97,115,116,45,77,111,100,105,102,105,101,100]⟩,ID ⟨st.toArray⟩,ID ⟨#[86,101,114,115,105,111,110]⟩,ID ⟨nn.toArray⟩] 124 (0,0)):=(B8.block _ (gL Ck)).trans Ck;clear B8;(try go_wp2_with fail);refine hK.out _ _ (HS.out _ As).1 (λhHeld=>?_);clear hK K;(try simp only[J1]);refine I6 13 (λK hK=>?_);(have c0:(y24).cell? ⟨KS,0,IR⟩=IF (Ks K1 0):=by simp[K0,Ah]);(have c1:(y24).cell? ⟨KS,1,IR⟩=IF (Jx IR 0 0):=by simp[K0,Ah]);(have c2:(y24).cell? ⟨KS,2,IR⟩=IF (ID ⟨#[]⟩):=by simp[K0,Ah]);(have f0:(y24).frozen? ⟨KS,0,IR⟩=LN:=by simp[Kf,Ah]);(have f1:(y24).frozen? ⟨KS,1,IR⟩=LN:=by simp[Kf,Ah]);(have f2:(y24).frozen? ⟨KS,2,IR⟩=LN:=by simp[Kf,Ah]);(have A0:w.heap.size≠KS:=by have:=C4;omega);go_simp;refine hK.out _ _ ⟨?_,?_,?_⟩ (λhHeld=>?_)
   ·rw[ah A0,ah A0,ah A0];exact(HS.out _ As).1.1
   ·rw[ah A0,ah A0,ah A0];exact(HS.out _ As).1.2.1
   ·rw[ah A0,ah A0,ah A0];exact(HS.out _ As).1.2.2
   clear hK K;(try simp only[J1]);refine L4 (by kernel_rfl) ?_ _;refine LR ?_;exact A1.out KS Bc _ (As) (Ah) (Cw) (C4)
 ·go_simp;obtain⟨a26,Ae⟩:=exj ((X.alloc (I3 #[Ks K1 0,Jx IR 0 0,ID ⟨#[]⟩] 80)).drew);rw[<-Ae];obtain⟨p26,A9⟩:=exj (X.heap.size);rw[<-A9];(have Bg:Below X.heap.size X a26:=by rw[Ae];exact((Below.refl _ _).alloc (MT _) _).drew);(have C3:a26.heap[p26]?=IF (I3 #[Ks K1 0,Jx IR 0 0,ID ⟨#[]⟩] 80 (0,0)):=by rw[Ae,A9];exact K2 _ _);(have C5:X.heap.size<=p26:=by rw[A9];exact MT _);clear Ae A9;refine hK.out _ _ (HS.out _ Bg).1 (λhHeld=>?_);clear hK K;(try simp only[J1]);refine I6 2 (λK hK=>?_);go_simp;refine(C8.out a26 (HS.out _ Bg).2.1).mono ?_;rintro e y27 ⟨rfl,Bi⟩;have B4:Below X.heap.size X y27:=Bg.trans (Bi.mono Bg.size);have Cb:y27.heap[p26]?=IF (I3 #[Ks K1 0,Jx IR 0 0,ID ⟨#[]⟩] 80 (0,0)):=(Bi.block _ (gL C3)).trans C3;clear Bi;(try go_wp2_with fail);refine hK.out _ _ (HS.out _ B4).1 (λhHeld=>?_);clear hK K;(try simp only[J1]);refine I6 5 (λK hK=>?_);go_simp;refine(Br.out y27 (HS.out _ B4).2.2).mono ?_;rintro e y28 ⟨rfl,Bu⟩;have B2:Below X.heap.size X y28:=B4.trans (Bu.mono B4.size);have Cl:y28.heap[p26]?=IF (I3 #[Ks K1 0,Jx IR 0 0,ID ⟨#[]⟩] 80 (0,0)):=(Bu.block _ (gL Cb)).trans Cb;clear Bu;(try go_wp2_with fail);refine hK.out _ _ (HS.out _ B2).1 (λhHeld=>?_);clear hK K;(try simp only[J1]);refine IJ 6 hHeld ?_;(try simp only[J1]);refine I6 9 (λK hK=>?_);go_simp;refine(B6.out y28 (HS.out _ B2).2.2).mono ?_;rintro e y29 ⟨rfl,Bp⟩;have Bt:Below X.heap.size X y29:=B2.trans (Bp.mono B2.size);have Cj:y29.heap[p26]?=IF (I3 #[Ks K1 0,Jx IR 0 0,ID ⟨#[]⟩] 80 (0,0)):=(Bp.block _ (gL Cl)).trans Cl;clear Bp;(try go_wp2_with fail);refine hK.out _ _ (HS.out _ Bt).1 (λhHeld=>?_);clear hK K;(try simp only[J1]);refine I6 10 (λK hK=>?_);go_simp;obtain⟨SX,A4⟩:=exj ((y29).alloc (I3 #[ID ⟨#[69,84,97,103]⟩,ID ⟨tg.toArray⟩,ID ⟨#[76,97,115,116,45,77,111,100,105,102,105,101,100]⟩,ID ⟨st.toArray⟩,ID ⟨#[86,101,114,115,105,111,110]⟩,ID ⟨nn.toArray⟩] 124));rw[<-A4];obtain⟨Bb,Aj⟩:=exj ((y29).heap.size);rw[<-Aj];(have Bo:Below X.heap.size X SX:=by rw[A4];exact Bt.alloc Bt.size _);(have Co:SX.heap[Bb]?=IF (I3 #[ID ⟨#[69,84,97,103]⟩,ID ⟨tg.toArray⟩,ID ⟨#[76,97,115,116,45,77,111,100,105,102,105,101,100]⟩,ID ⟨st.toArray⟩,ID ⟨#[86,101,114,115,105,111,110]⟩,ID ⟨nn.toArray⟩] 124 (0,0)):=by rw[A4,Aj];exact K2 _ _);(have Cc:SX.heap[p26]?=IF (I3 #[Ks K1 0,Jx IR 0 0,ID ⟨#[]⟩] 80 (0,0)):=by rw[A4];exact(LL _ _ (gL Cj)).trans Cj);clear A4 Aj;refine hK.out _ _ (HS.out _ Bo).1 (λhHeld=>?_);clear hK K;(try simp only[J1]);refine I6 11 (λK hK=>?_);go_simp;refine(dx 200 (IF ⟨Bb,0,IR⟩) 3 3 SX).mono ?_;rintro e y31 ⟨rfl,Bf⟩;have Aw:Below X.heap.size X y31:=Bo.trans (Bf.mono Bo.size);have Ai:y31.heap[p26]?=IF (I3 #[Ks K1 0,Jx IR 0 0,ID ⟨#[]⟩] 80 (0,0)):=(Bf.block _ (gL Cc)).trans Cc;have Cy:y31.heap[Bb]?=IF (I3 #[ID ⟨#[69,84,97,103]⟩,ID ⟨tg.toArray⟩,ID ⟨#[76,97,115,116,45,77,111,100,105,102,105,101,100]⟩,ID ⟨st.toArray⟩,ID ⟨#[86,101,114,115,105,111,110]⟩,ID ⟨nn.toArray⟩] 124 (0,0)):=(Bf.block _ (gL Co)).trans Co;clear Bf;(try go_wp2_with fail);refine hK.out _ _ (HS.out _ Aw).1 (λhHeld=>?_);clear hK K;(try simp only[J1]);refine I6 13 (λK hK=>?_);(have c0:(y31).cell? ⟨p26,0,IR⟩=IF (Ks K1 0):=by simp[K0,Ai]);(have c1:(y31).cell? ⟨p26,1,IR⟩=IF (Jx IR 0 0):=by simp[K0,Ai]);(have c2:(y31).cell? ⟨p26,2,IR⟩=IF (ID ⟨#[]⟩):=by simp[K0,Ai]);(have f0:(y31).frozen? ⟨p26,0,IR⟩=LN:=by simp[Kf,Ai]);(have f1:(y31).frozen? ⟨p26,1,IR⟩=LN:=by simp[Kf,Ai]);(have f2:(y31).frozen? ⟨p26,2,IR⟩=LN:=by simp[Kf,Ai]);(have A0:w.heap.size≠p26:=by have:=C5;omega);go_simp;refine hK.out _ _ ⟨?_,?_,?_⟩ (λhHeld=>?_)
  ·rw[ah A0,ah A0,ah A0];exact(HS.out _ Aw).1.1
  ·rw[ah A0,ah A0,ah A0];exact(HS.out _ Aw).1.2.1
  ·rw[ah A0,ah A0,ah A0];exact(HS.out _ Aw).1.2.2
  clear hK K;(try simp only[J1]);refine L4 (by kernel_rfl) ?_ _;refine LR ?_;exact A1.out p26 Bb _ (Aw) (Ai) (Cy) (C5)
structure Mem where
 g:Nat
 cap:Nat
 es:Nat->L2
 ps:Nat->List Nat
 en:Nat->IP
 vs:Nat->L2
 jr:L2
def storeCells (rd:Int)(g n cap t k:Nat)(jr:L2):Array L2 :=
 #[Ks N0 (if rd<0 then 1 else 0),Ks .u32 0,Ks .u32 0,Ks .u32 0,Ks N0 rd,Ks N0 0,Jx (IF ⟨g,0,IR⟩) n cap,Ks N0 0,Ks .u32 0,Ks K1 t,Ks K1 k,jr]
def Mem.keys (M:Mem)(i:Nat):List (List UInt8):=(M.ps i).map λp=>(M.en p).key
structure ak (w:L5)(s n:Nat)(rd:Int)(lk:Nat->Int)(σ:St)(M:Mem)(kc B:Nat):Prop where
 n1:1<=n
 n8:n<=8
 blk:w.heap[s]?=IF (I3 (storeCells rd M.g n M.cap σ.time kc M.jr) 99 (0,0))
 row:∃cs,w.heap[M.g]?=IF (I3 cs 137 (0,0))/\∀i,i<n->cs[i*3]?=IF (Ks N0 (lk i))/\cs[i*3+2]?=IF (M.es i)
 kt:∀i,i<n->Kt w (M.es i) (M.ps i) (M.keys i)
 Jc:∀i,i<n->∀p∈M.ps i,ay w p (M.en p) (M.vs p)
 JQ:∀i,i<n->(M.ps i).map M.en=σ.Iz.filter λE=>ao E.key%n==i
 Jn:I4 w 0 M.jr σ.log
 Le:∀i j,i<n->j<n->i≠j->∀b,(M.es i).ownBlock=IF b->(M.es j).ownBlock≠IF b
 Ka:∀i j p q,i<n->j<n->p∈M.ps i->q∈M.ps j->p≠q->∀b,(M.vs p).ownBlock=IF b->(M.vs q).ownBlock≠IF b
 rise:cG σ.Iz
 ok:∀E∈σ.Iz,mr E
 many:σ.Iz.length<=60
 time:σ.time<=253402300799
 lastB:∀E∈σ.Iz,E.last<=B
abbrev aN (w:L5) (s n:Nat) (rd:Int) (lk:Nat->Int) (σ:St) (M:Mem):Prop:=ak w s n rd lk σ M σ.Iz.length σ.log.length
def Mem.own (M:Mem)(s n k:Nat):Prop :=
 k=s\/k=M.g\/(∃i,i<n/\(M.es i).ownBlock=IF k)\/(∃i,i<n/\k∈M.ps i)\/(∃i p,i<n/\p∈M.ps i/\(M.vs p).ownBlock=IF k)\/M.jr.ownBlock=IF k
theorem ak.off {M:Mem}{S:Nat->Prop}(h:ak w s n rd lk σ M kc B)(ho:Off S w x)(hS:∀k,M.own s n k->¬ S k):ak x s n rd lk σ M kc B:=by
 obtain⟨cs,hc,hr⟩:=h.row
 refine⟨h.n1,h.n8,(ho.block s (gL h.blk) (hS s (J0 rfl))).trans h.blk,
  ⟨cs,(ho.block _ (gL hc) (hS _ (IH (J0 rfl)))).trans hc,hr⟩,
  λi hi=>(h.kt i hi).off ho (λb hb=>hS b (IH (IH (J0 ⟨i,hi,hb⟩)))) (λq hq=>hS q (IH (IH (IH (J0 ⟨i,hi,hq⟩))))),
  λi hi p hp=>(h.Jc i hi p hp).off ho (hS p (IH (IH (IH (J0 ⟨i,hi,hp⟩))))) (λb hb=>hS b (IH (IH (IH (IH (J0 ⟨i,p,hi,hp,hb⟩)))))),
  h.JQ,I4.off (base:=0) h.Jn ho (λb hb=>hS b (IH (IH (IH (IH (IH hb)))))),h.Le,h.Ka,h.rise,h.ok,h.many,h.time,h.lastB⟩
theorem ak.below {M:Mem}(h:ak w s n rd lk σ M kc B)(hb:Below w.heap.size w x):ak x s n rd lk σ M kc B :=
 h.off (Off.of_below (S:=λ_=>False) hb) (λ_ _ h=>h)
theorem ak.lock {M:Mem}(h:ak w s n rd lk σ M kc B)(i:Nat)(hi:i<n)(v:Int) :
 ak (w.setCell ⟨M.g,i*3,IR⟩ (Ks N0 v)) s n rd (λj=>if j=i then v else lk j) σ M kc B:=by
 obtain⟨cs,hc,hr⟩:=h.row;have ho:Off (λk=>k=M.g) w (w.setCell ⟨M.g,i*3,IR⟩ (Ks N0 v)):=(Off.refl (λk=>k=M.g) w).set M.g (i*3) _ (J0 rfl)
 refine⟨h.n1,h.n8,(ho.block s (gL h.blk) (aa h.blk hc (by decide))).trans h.blk,⟨cs.setIfInBounds (i*3) (Ks N0 v),heap_set hc,λj hj=>?_⟩,
  λj hj=>(h.kt j hj).off ho (λb hb e=>ai (h.kt j hj).k.row hc (by decide) (e ▸ hb)) (λq hq e=>by obtain⟨cq,A1⟩:=(h.kt j hj).t q hq;exact aa A1 hc (by decide) e),
  λj hj p hp=>(h.Jc j hj p hp).off ho (λe=>aa (h.Jc j hj p hp).blk hc (by decide) e) (λb hb e=>ai (h.Jc j hj p hp).row hc (by decide) (e ▸ hb)),
  h.JQ,I4.off (base:=0) h.Jn ho (λb hb e=>ai h.Jn hc (by decide) (e ▸ hb)),h.Le,h.Ka,h.rise,h.ok,h.many,h.time,h.lastB⟩
 have h1:=hr j hj;have A0:i*3<cs.size:=(Mn.1 (hr i hi).1).1;refine⟨?_,?_⟩
 ·by_cases e:j=i
  ·subst e;simp[A0]
  ·rw[if_neg e,Lq (by omega)];exact h1.1
 ·rw[Lq (by omega)];exact h1.2
theorem Ca (hr:cG l)(h:l[j]?=IF A):cR (l.map IP.key) A.key j:=by
 have A0:=(Mu.1 h).1;have hR:=hr.rising;have hj:(l.map IP.key)[j]?=IF A.key:=by rw[Kx,h];rfl
 refine⟨by simp;omega,λi a hi ha=>hR i j a A.key hi ha hj,λi a hi ha=>?_⟩;by_cases e:i=j
 ·subst e;rw[hj] at ha;cases ha;rw[fy];omega
 ·have:=hR j i A.key a (by omega) hj ha;rw[fC,this];decide
theorem ak.keys_eq {M:Mem}(h:ak w s n rd lk σ M kc B)(hi:i<n):M.keys i=(σ.Iz.filter λE=>ao E.key%n==i).map IP.key:=by
 rw[<-h.JQ i hi,List.map_map];rfl
theorem ak.Mv {M:Mem}(h:ak w s n rd lk σ M kc B)(key:List UInt8)(hf:(ae σ.Iz key).last≠0) :
 ∃j p,cR (M.keys (ao key%n)) key j/\(M.keys (ao key%n))[j]?=IF key/\(M.ps (ao key%n))[j]?=IF p/\M.en p=ae σ.Iz key:=by
 have hi:ao key%n<n:=MA _ h.n1;have hm:=ee hf;have hk:=cx σ.Iz key;have A1:ae σ.Iz key∈σ.Iz.filter λE=>ao E.key%n==ao key%n:=LO.2 ⟨hm,by rw[hk];simp⟩;rw[<-h.JQ _ hi] at A1;obtain⟨j,A2,hj⟩:=Lz.1 A1;have A0:((M.ps (ao key%n)).map M.en)[j]?=IF (ae σ.Iz key):=by rw[Ly A2,hj]
 rw[Kx] at A0;obtain⟨p,hp,he⟩:=MD.1 A0;have A3:(σ.Iz.filter λE=>ao E.key%n==ao key%n)[j]?=IF (ae σ.Iz key):=by rw[<-h.JQ _ hi,Kx,hp,Lo,he]
 refine⟨j,p,?_,?_,hp,he⟩
 ·have:=Ca (h.rise.filter _) A3;rw[hk] at this;rw[h.keys_eq hi];exact this
 ·rw[Mem.keys,Kx,hp,Lo,he,hk]
theorem ak.KI {M:Mem}(h:ak w s n rd lk σ M kc B)(key:List UInt8)(hf:(ae σ.Iz key).last=0) :
 ∃j,cR (M.keys (ao key%n)) key j/\(M.keys (ao key%n))[j]?≠IF key:=by
 have hi:ao key%n<n:=MA _ h.n1;obtain⟨j,hj⟩:=oG (h.rise.filter λE=>ao E.key%n==ao key%n) key;rw[h.keys_eq hi];refine⟨j,hj,λe=>?_⟩;rw[Kx] at e;obtain⟨A,hA,he⟩:=MD.1 e;have:=(LO.1 (LI hA)).1;exact(bV (λE hE=>(h.ok E hE).last) hf).1 A this he
theorem oM (hr:cG l)(h:l[i]?=IF A)(hk:A.key=E.key):(bT l E).length=l.length:=by
 rw[xp hr h hk,List.length_set]
def upd {α:Type}(f:Nat->α)(p:Nat)(x:α):Nat->α:=λq=>if q=p then x else f q
theorem upd_same (f:Nat->α)(p:Nat)(x:α):upd f p x p=x:=by simp[upd]
theorem aI {f:Nat->α}{x:α}(h:q≠p):upd f p x q=f q:=by simp[upd,h]
theorem ak.hash {M:Mem}(h:ak w s n rd lk σ M kc B)(hi:i<n)(hp:p∈M.ps i):ao (M.en p).key%n=i:=by
 have:M.en p∈(M.ps i).map M.en:=List.mem_map_of_mem hp;rw[h.JQ i hi] at this;simpa using(LO.1 this).2
theorem ak.once {M:Mem}(h:ak w s n rd lk σ M kc B){a:Nat}(hi:i<n)(ha:(M.ps i)[a]?=IF p)(hb:(M.ps i)[b]?=IF p):a=b:=by
 have hr:=h.rise.filter λE=>ao E.key%n==i;rw[<-h.JQ i hi] at hr;have A1:=hr.rising;have ea:(((M.ps i).map M.en).map IP.key)[a]?=IF (M.en p).key:=by simp[ha]
 have eb:(((M.ps i).map M.en).map IP.key)[b]?=IF (M.en p).key:=by simp[hb]
 rcases Nat.lt_trichotomy a b with A0|rfl|A0
 ·exact absurd (A1 a b _ _ A0 ea eb) (by rw[fy];decide)
 ·rfl
 ·exact absurd (A1 b a _ _ A0 eb ea) (by rw[fy];decide)
theorem Ep {l:List Nat}(hj:l[j]?=IF p)(h1:∀a,l[a]?=IF p->a=j):l.map (upd f p E)=(l.map f).set j E:=by
 apply List.ext_getElem?;intro a;rw[Kx];by_cases e:a=j
 ·subst e;rw[hj,Lo,upd_same,List.getElem?_set_self (by simpa using(Mu.1 hj).1)]
 ·rw[List.getElem?_set_ne (λh=>e h.symm),Kx];cases h:l[a]? with
  | none=>rfl
  | some q=>rw[Lo,Lo,aI (λhq:q=p=>e (h1 a (by rw[h,hq])))]
theorem iu {l:List Nat}(h:p ∉ l):l.map (upd f p E)=l.map f:=by
 apply List.map_congr_left;intro q hq;exact aI (λe=>h (e ▸ hq))
theorem ak.Oo {M:Mem}(h:ak w s n rd lk σ M kc B)(hi:i<n)(hp:p∈M.ps i)(hk:E'.key=(M.en p).key)(hok:mr E')(hl1:E'.last<=B')(hl2:B<=B')
 (hE:ay w' p E' vs')(hvs:∀b,vs'.ownBlock=IF b->(M.vs p).ownBlock=IF b\/w.heap.size<=b)
 (UU:w'.heap[s]?=IF (I3 (storeCells rd M.g n M.cap σ.time kc Jk) 99 (0,0)))(hJ:I4 w' 0 Jk Ju)
 (ho:Off (λk=>k=s\/M.jr.ownBlock=IF k\/k=p\/(M.vs p).ownBlock=IF k) w w') :
 ak w' s n rd lk ⟨σ.time,bT σ.Iz E',Ju⟩ { M with en:=upd M.en p E',vs:=upd M.vs p vs',jr:=Jk } kc B':=by
 obtain⟨cs,hc,hr⟩:=h.row;have A6:=h.Jc i hi p hp;obtain⟨j0,Ac,Af⟩:=Lz.1 hp;have A9:(M.ps i)[j0]?=IF p:=by rw[Ly Ac,Af]
 have Aa:(σ.Iz.filter λE=>ao E.key%n==i)[j0]?=IF (M.en p):=by rw[<-h.JQ i hi,Kx,A9,Lo]
 obtain⟨a,ha,Ae⟩:=Lz.1 (LO.1 (LI Aa)).1;have Ag:σ.Iz[a]?=IF (M.en p):=by rw[Ly ha,Ae]
 have A8:(bT σ.Iz E').length=σ.Iz.length:=oM h.rise Ag hk.symm;have A2:ao E'.key%n=i:=by rw[hk];exact h.hash hi hp
 have Ab:∀j,j<n->∀q∈M.ps j,q≠p->¬ (q=s\/M.jr.ownBlock=IF q\/q=p\/(M.vs p).ownBlock=IF q):=by
  intro j hj q hq A0;have hb:=(h.Jc j hj q hq).blk;rintro(e|e|e|e)
  ·exact aa hb h.blk (by decide) e
  ·exact ai h.Jn hb (by decide) e
  ·exact A0 e
  ·exact ai A6.row hb (by decide) e
 have A5:∀j,j<n->∀q∈M.ps j,q≠p->ay w' q (M.en q) (M.vs q):=by
  intro j hj q hq A0;refine(h.Jc j hj q hq).off ho (Ab j hj q hq A0) (λb hb=>?_);rintro(e|e|e|e)
  ·exact ai (h.Jc j hj q hq).row h.blk (by decide) (e ▸ hb)
  ·exact bH (h.Jc j hj q hq).row h.Jn (by decide) b hb e
  ·exact ai (h.Jc j hj q hq).row A6.blk (by decide) (e ▸ hb)
  ·exact h.Ka i j p q hi hj hp hq (Ne.symm A0) b e hb
 have A7:∀j,j<n->w'.ownsRow 0 143 1 (M.es j) (M.ps j).length (gE (M.ps j)):=by
  intro j hj;have h0:=(h.kt j hj).k.row;refine⟨h0.1,?_⟩;rcases h0.2 with e|⟨g,cap,Ad,hv,h1,hg,h2⟩
  ·exact J0 e
  ·refine IH ⟨g,cap,Ad,hv,h1,(ho.block g (gL hg) ?_).trans hg,h2⟩;rintro(e|e|e|e)
   ·exact aa hg h.blk (by decide) e
   ·exact ai h.Jn hg (by decide) e
   ·exact aa hg A6.blk (by decide) e
   ·exact ai A6.row hg (by decide) e
 have A1:∀j,j<n->∀q∈M.ps j,ay w' q (upd M.en p E' q) (upd M.vs p vs' q):=by
  intro j hj q hq;by_cases e:q=p
  ·subst e;rw[upd_same,upd_same];exact hE
  ·rw[aI e,aI e];exact A5 j hj q hq e
 refine⟨h.n1,h.n8,?_,⟨cs,(ho.block _ (gL hc) ?_).trans hc,hr⟩,λj hj=>⟨⟨A7 j hj,by simp[Mem.keys],λa q k ha hk=>?_,λq hq=>(A1 j hj q hq).lt⟩,λq hq=>⟨_,(A1 j hj q hq).blk⟩⟩,A1,λj hj=>?_,hJ,h.Le,?_,pV h.rise E',?_,by rw[A8];exact h.many,h.time,?_⟩
 ·exact UU
 ·rintro(e|e|e|e)
  ·exact aa hc h.blk (by decide) e
  ·exact ai h.Jn hc (by decide) e
  ·exact aa hc A6.blk (by decide) e
  ·exact ai A6.row hc (by decide) e
 ·have hm:=LI ha;have:=(A1 j hj q hm).c0;simp only[Mem.keys,Kx,ha,Lo,Option.some.injEq] at hk;rw[<-hk];exact this
 ·by_cases e:j=i
  ·subst e;show(M.ps j).map (upd M.en p E')=_;rw[Ep A9 (λa ha=>h.once hj ha A9),h.JQ j hj];rw[iK h.rise E' (λk=>ao k%n==j) (by simp[A2])];rw[xp (h.rise.filter _) Aa hk.symm]
  ·show(M.ps j).map (upd M.en p E')=_;have Ah:p ∉ M.ps j:=λhm=>e ((h.hash hj hm).symm.trans (h.hash hi hp));rw[iu Ah,h.JQ j hj,iQ E' (λk=>ao k%n==j) (by simp[A2];exact λh=>e h.symm)]
 ·intro a b q r ha hb hq hr A0 c A4 A3;change (upd M.vs p vs' q).ownBlock=IF c at A4;change (upd M.vs p vs' r).ownBlock=IF c at A3;by_cases e1:q=p
  ·subst e1;rw[upd_same] at A4;rw[aI (Ne.symm A0)] at A3;rcases hvs c A4 with h1|h1
   ·exact h.Ka a b q r ha hb hq hr A0 c h1 A3
   ·have:=((h.Jc b hb r hr).row.lt c A3).2;omega
  ·by_cases e2:r=p
   ·subst e2;rw[upd_same] at A3;rw[aI e1] at A4;rcases hvs c A3 with h1|h1
    ·exact h.Ka a b q r ha hb hq hr A0 c A4 h1
    ·have:=((h.Jc a ha q hq).row.lt c A4).2;omega
   ·rw[aI e1] at A4;rw[aI e2] at A3;exact h.Ka a b q r ha hb hq hr A0 c A4 A3
 ·intro A hA;rcases el hA with e|hA
  ·rw[e];exact hok
  ·exact h.ok A hA
 ·intro A hA;rcases el hA with e|hA
  ·rw[e];exact hl1
  ·exact NO (h.lastB A hA) hl2
theorem aN.Oo {M:Mem}(h:aN w s n rd lk σ M)(hi:i<n)(hp:p∈M.ps i)(hk:E'.key=(M.en p).key)(hok:mr E')(hl1:E'.last<=Ju.length)(hl2:σ.log.length<=Ju.length)
 (hE:ay w' p E' vs')(hvs:∀b,vs'.ownBlock=IF b->(M.vs p).ownBlock=IF b\/w.heap.size<=b)
 (hJ:OI w' s ((storeCells rd M.g n M.cap σ.time σ.Iz.length M.jr).setIfInBounds 11 Jk) M.jr Jk Ju w.heap.size)
 (ho:Off (λk=>k=s\/M.jr.ownBlock=IF k\/k=p\/(M.vs p).ownBlock=IF k) w w') :
 aN w' s n rd lk ⟨σ.time,bT σ.Iz E',Ju⟩ { M with en:=upd M.en p E',vs:=upd M.vs p vs',jr:=Jk }:=by
 have A0:(bT σ.Iz E').length=σ.Iz.length:=by obtain⟨j0,A3,A5⟩:=Lz.1 hp;(have A2:(M.ps i)[j0]?=IF p:=by rw[Ly A3,A5]);(have A4:(σ.Iz.filter λE=>ao E.key%n==i)[j0]?=IF (M.en p):=by rw[<-h.JQ i hi,Kx,A2,Lo]);obtain⟨a,ha,A1⟩:=Lz.1 (LO.1 (LI A4)).1;exact oM h.rise (by rw[Ly ha,A1]) hk.symm
 have:=ak.Oo (B':=Ju.length) h hi hp hk hok hl1 hl2 hE hvs hJ.blk hJ.VF ho;show ak _ _ _ _ _ _ _ (bT σ.Iz E').length _;rw[A0];exact this
theorem kE (hr:cG l)(hp:cR (l.map IP.key) E.key i)(hn:∀A∈l,A.key≠E.key):(bT l E).length=l.length+1:=by
 have A0:=hp.le;rw[tj hr hp hn,Nm,List.length_cons,List.length_take,List.length_drop];simp at A0;omega
theorem kz {l:List Nat}(h:q∈l.take i++p::l.drop i):q=p\/q∈l:=by
 rcases List.mem_append.1 h with h|h
 ·exact IH (MY h)
 ·rcases List.mem_cons.1 h with h|h
  ·exact J0 h
  ·exact IH (M1 h)
theorem ak.add {LH:Nat}{M:Mem}(h:ak w s n rd lk σ M kc B)(hi:i=ao E'.key%n)(hpn:∀j,j<n->p ∉ M.ps j)(hpb:w.heap[p]?=IF (I3 cp 183 (0,0)))
 (hkn:∀A∈σ.Iz,A.key≠E'.key)(hpos:cR (M.keys i) E'.key j)(hok:mr E')(hl1:E'.last<=B')(hl2:B<=B')(J3:σ.Iz.length<60)
 (hc:w.heap[M.g]?=IF (I3 cs 137 (0,0)))(hr:∀i,i<n->cs[i*3]?=IF (Ks N0 (lk i))/\cs[i*3+2]?=IF (M.es i))
 (hE:ay w' p E' vs')(hvs:∀b,vs'.ownBlock=IF b->w.heap.size<=b)
 (UU:w'.heap[s]?=IF (I3 (storeCells rd M.g n M.cap σ.time LH Jk) 99 (0,0)))(hJ:I4 w' 0 Jk Ju)
 (hg:w'.heap[M.g]?=IF (I3 (cs.setIfInBounds (i*3+2) es') 137 (0,0)))
 (hrow:w'.ownsRow 0 143 1 es' ((M.ps i).length+1) (gE ((M.ps i).take j++p::(M.ps i).drop j)))(hes:∀b,es'.ownBlock=IF b->(M.es i).ownBlock=IF b\/w.heap.size<=b)
 (ho:Off (λk=>k=s\/M.jr.ownBlock=IF k\/k=M.g\/k=p\/(M.es i).ownBlock=IF k) w w') :
 ak w' s n rd lk ⟨σ.time,bT σ.Iz E',Ju⟩ { M with es:=upd M.es i es',ps:=upd M.ps i ((M.ps i).take j++p::(M.ps i).drop j),en:=upd M.en p E',vs:=upd M.vs p vs',jr:=Jk } LH B':=by
 have Aa:i<n:=by rw[hi];exact MA _ h.n1
 obtain⟨j0,Ah⟩:=oG h.rise E'.key;have Ab:(bT σ.Iz E').length=σ.Iz.length+1:=kE h.rise Ah hkn;have A3:∀a,a<n->∀q∈M.ps a,ay w' q (M.en q) (M.vs q):=by
  intro a ha q hq;have hb:=h.Jc a ha q hq;refine hb.off ho ?_ (λb QV=>?_)
  ·rintro(e|e|e|e|e)
   ·exact aa hb.blk h.blk (by decide) e
   ·exact ai h.Jn hb.blk (by decide) e
   ·exact aa hb.blk hc (by decide) e
   ·exact hpn a ha (e ▸ hq)
   ·exact ai (h.kt i Aa).k.row hb.blk (by decide) e
  ·rintro(e|e|e|e|e)
   ·exact ai hb.row h.blk (by decide) (e ▸ QV)
   ·exact bH hb.row h.Jn (by decide) b QV e
   ·exact ai hb.row hc (by decide) (e ▸ QV)
   ·exact ai hb.row hpb (by decide) (e ▸ QV)
   ·exact bH hb.row (h.kt i Aa).k.row (by decide) b QV e
 have A0:∀a,a<n->∀q∈upd M.ps i ((M.ps i).take j++p::(M.ps i).drop j) a,q=p\/q∈M.ps a:=by
  intro a ha q hq;by_cases e:a=i
  ·subst e;rw[upd_same] at hq;exact kz hq
  ·rw[aI e] at hq;exact IH hq
 have A1:∀a,a<n->∀q∈upd M.ps i ((M.ps i).take j++p::(M.ps i).drop j) a,ay w' q (upd M.en p E' q) (upd M.vs p vs' q):=by
  intro a ha q hq;by_cases e:q=p
  ·subst e;rw[upd_same,upd_same];exact hE
  ·rw[aI e,aI e];exact A3 a ha q ((A0 a ha q hq).resolve_left e)
 have A7:∀a,a<n->w'.ownsRow 0 143 1 (upd M.es i es' a) (upd M.ps i ((M.ps i).take j++p::(M.ps i).drop j) a).length (gE (upd M.ps i ((M.ps i).take j++p::(M.ps i).drop j) a)):=by
  intro a ha;by_cases e:a=i
  ·subst e;rw[upd_same,upd_same];(have hl:((M.ps a).take j++p::(M.ps a).drop j).length=(M.ps a).length+1:=by have:=hpos.le;simp[Mem.keys] at this;simp;omega);rw[hl];exact hrow
  ·rw[aI e,aI e];have h0:=(h.kt a ha).k.row;refine⟨h0.1,?_⟩;rcases h0.2 with e0|⟨g,cap,Af,hv,h1,A6,h2⟩
   ·exact J0 e0
   ·refine IH ⟨g,cap,Af,hv,h1,(ho.block g (gL A6) ?_).trans A6,h2⟩;rintro(e'|e'|e'|e'|e')
    ·exact aa A6 h.blk (by decide) e'
    ·exact ai h.Jn A6 (by decide) e'
    ·exact aa A6 hc (by decide) e'
    ·exact aa A6 hpb (by decide) e'
    ·exact h.Le a i ha Aa e g (by rw[hv];rfl) e'
 refine⟨h.n1,h.n8,?_,⟨cs.setIfInBounds (i*3+2) es',hg,λa ha=>?_⟩,λa ha=>⟨⟨A7 a ha,by simp[Mem.keys],λb q k hb hk=>?_,λq hq=>(A1 a ha q hq).lt⟩,λq hq=>⟨_,(A1 a ha q hq).blk⟩⟩,A1,λa ha=>?_,hJ,?_,?_,pV h.rise E',?_,by rw[Ab];omega,h.time,?_⟩
 ·exact UU
 ·have h1:=hr a ha;have Ad:i*3+2<cs.size:=(Mn.1 (hr i Aa).2).1;refine⟨?_,?_⟩
  ·rw[Lq (by omega)];exact h1.1
  ·show _=IF (upd M.es i es' a);by_cases e:a=i
   ·subst e;rw[upd_same];simp[Ad]
   ·rw[aI e,Lq (by omega)];exact h1.2
 ·have hm:=LI hb;have:=(A1 a ha q hm).c0;have A9:((upd M.ps i ((M.ps i).take j++p::(M.ps i).drop j) a).map λp_1=>(upd M.en p E' p_1).key)[b]?=IF k:=hk;have Ai:(upd M.ps i ((M.ps i).take j++p::(M.ps i).drop j) a)[b]?=IF q:=hb;rw[Kx,Ai,Lo] at A9;injection A9 with A9;rw[<-A9];exact this
 ·show(upd M.ps i ((M.ps i).take j++p::(M.ps i).drop j) a).map (upd M.en p E')=_;by_cases e:a=i
  ·subst e;rw[upd_same,iK h.rise E' (λk=>ao k%n==a) (by simp[hi])];(have A8:cR ((σ.Iz.filter λE=>ao E.key%n==a).map IP.key) E'.key j:=by rw[<-h.keys_eq ha];exact hpos);rw[tj (h.rise.filter _) A8 (λA hA=>hkn A (LO.1 hA).1),<-h.JQ a ha,List.map_append,List.map_cons,upd_same,<-List.map_take,<-List.map_drop];rw[iu (λhm=>hpn a ha (MY hm)),iu (λhm=>hpn a ha (M1 hm))]
  ·rw[aI e,iu (hpn a ha),h.JQ a ha,iQ E' (λk=>ao k%n==a) (by rw[<-hi];simpa using λh=>e h.symm)]
 ·intro a b ha hb A2 c h1 h2;change (upd M.es i es' a).ownBlock=IF c at h1;change (upd M.es i es' b).ownBlock=IF c at h2;by_cases e1:a=i
  ·subst e1;rw[upd_same] at h1;rw[aI (Ne.symm A2)] at h2;rcases hes c h1 with h3|h3
   ·exact h.Le a b ha hb A2 c h3 h2
   ·have:=((h.kt b hb).k.row.lt c h2).2;omega
  ·by_cases e2:b=i
   ·subst e2;rw[upd_same] at h2;rw[aI e1] at h1;rcases hes c h2 with h3|h3
    ·exact h.Le a b ha hb A2 c h1 h3
    ·have:=((h.kt a ha).k.row.lt c h1).2;omega
   ·rw[aI e1] at h1;rw[aI e2] at h2;exact h.Le a b ha hb A2 c h1 h2
 ·intro a b q r ha hb hq Ac A2 c A5 A4;change (upd M.vs p vs' q).ownBlock=IF c at A5;change (upd M.vs p vs' r).ownBlock=IF c at A4;by_cases e1:q=p
  ·subst e1;rw[upd_same] at A5;rw[aI (Ne.symm A2)] at A4;have Ae:=(A0 b hb r Ac).resolve_left (Ne.symm A2);have h1:=hvs c A5;have h2:=((h.Jc b hb r Ae).row.lt c A4).2;omega
  ·by_cases e2:r=p
   ·subst e2;rw[upd_same] at A4;rw[aI e1] at A5;have Ag:=(A0 a ha q hq).resolve_left e1;have h1:=hvs c A4;have h2:=((h.Jc a ha q Ag).row.lt c A5).2;omega
   ·rw[aI e1] at A5;rw[aI e2] at A4;exact h.Ka a b q r ha hb ((A0 a ha q hq).resolve_left e1) ((A0 b hb r Ac).resolve_left e2) A2 c A5 A4
 ·intro A hA;rcases el hA with e|hA
  ·rw[e];exact hok
  ·exact h.ok A hA
 ·intro A hA;rcases el hA with e|hA
  ·rw[e];exact hl1
  ·exact NO (h.lastB A hA) hl2
theorem aN.add {M:Mem}(h:aN w s n rd lk σ M)(hi:i=ao E'.key%n)(hpn:∀j,j<n->p ∉ M.ps j)(hpb:w.heap[p]?=IF (I3 cp 183 (0,0)))
 (hkn:∀A∈σ.Iz,A.key≠E'.key)(hpos:cR (M.keys i) E'.key j)(hok:mr E')(hl1:E'.last<=Ju.length)(hl2:σ.log.length<=Ju.length)(J3:σ.Iz.length<60)
 (hc:w.heap[M.g]?=IF (I3 cs 137 (0,0)))(hr:∀i,i<n->cs[i*3]?=IF (Ks N0 (lk i))/\cs[i*3+2]?=IF (M.es i))
 (hE:ay w' p E' vs')(hvs:∀b,vs'.ownBlock=IF b->w.heap.size<=b)
 (hJ:OI w' s (((storeCells rd M.g n M.cap σ.time σ.Iz.length M.jr).setIfInBounds 10 (Ks K1 ((σ.Iz.length:Int)+1))).setIfInBounds 11 Jk) M.jr Jk Ju w.heap.size)
 (hg:w'.heap[M.g]?=IF (I3 (cs.setIfInBounds (i*3+2) es') 137 (0,0)))
 (hrow:w'.ownsRow 0 143 1 es' ((M.ps i).length+1) (gE ((M.ps i).take j++p::(M.ps i).drop j)))(hes:∀b,es'.ownBlock=IF b->(M.es i).ownBlock=IF b\/w.heap.size<=b)
 (ho:Off (λk=>k=s\/M.jr.ownBlock=IF k\/k=M.g\/k=p\/(M.es i).ownBlock=IF k) w w') :
 aN w' s n rd lk ⟨σ.time,bT σ.Iz E',Ju⟩ { M with es:=upd M.es i es',ps:=upd M.ps i ((M.ps i).take j++p::(M.ps i).drop j),en:=upd M.en p E',vs:=upd M.vs p vs',jr:=Jk }:=by
 have A0:(bT σ.Iz E').length=σ.Iz.length+1:=by obtain⟨j0,A1⟩:=oG h.rise E'.key;exact kE h.rise A1 hkn
 have:=ak.add (LH:=σ.Iz.length+1) (B':=Ju.length) h hi hpn hpb hkn hpos hok hl1 hl2 J3 hc hr hE hvs (by rw[hJ.blk];rfl) hJ.VF hg hrow hes ho;show ak _ _ _ _ _ _ _ (bT σ.Iz E').length _;rw[A0];exact this
open Go.RowKit
structure Found (w:L5)(M:Mem)(n:Nat)(σ:St)(key:List UInt8)(p:Nat)(vs:L2):Prop where
 Jc:ay w p (ae σ.Iz key) vs
 at':(p∈M.ps (ao key%n)/\M.en p=ae σ.Iz key/\M.vs p=vs/\(ae σ.Iz key).last≠0)\/((∀j,j<n->p ∉ M.ps j)/\vs=Jx IR 0 0/\(ae σ.Iz key).last=0)
theorem Found.below {M:Mem}{vs:L2}(h:Found w M n σ key p vs)(hb:Below w.heap.size w x):Found x M n σ key p vs:=⟨h.Jc.below hb,h.at'⟩
theorem ak.found {M:Mem}{vs:L2}(h:ak w s n rd lk σ M kc B)(hf:Found w M n σ key p vs) :
 (∀v∈(ae σ.Iz key).IB,v.num<=(ae σ.Iz key).last)/\((ae σ.Iz key).IB.Pairwise λa b=>a.num<b.num)/\(∀v∈(ae σ.Iz key).IB,v.time<=253402300799)/\(∀v∈(ae σ.Iz key).IB,v.body.length<=400)/\(ae σ.Iz key).IB.length<=20/\(ae σ.Iz key).last<=B:=by
 rcases hf.at' with⟨_,_,_,hl⟩|⟨_,_,hl⟩
 ·have ho:=h.ok _ (ee hl);exact⟨ho.num,ho.rise,ho.time,ho.body,ho.len,h.lastB _ (ee hl)⟩
 ·have:=(bV (λE hE=>(h.ok E hE).last) hl).2;rw[this];simp
structure Vb (w w':L5)(s n:Nat)(rd:Int)(lk:Nat->Int)(σ':St)(M M':Mem)(p:Nat):Prop where
 st:aN w' s n rd lk σ' M'
 off:Off (λk=>M.own s n k\/k=p) w w'
 own:∀k,M'.own s n k->M.own s n k\/w.heap.size<=k\/k=p
 g:M'.g=M.g
def CRm (w w':L5)(s n:Nat)(rd:Int)(σ:St)(M:Mem)(key:List UInt8)(p:Nat)(vs:L2)(num i:Nat)(body:List UInt8):Prop :=
 ∃Jk vs',OI w' s ((storeCells rd M.g n M.cap σ.time σ.Iz.length M.jr).setIfInBounds 11 Jk) M.jr Jk (σ.log++bG 3 σ.time key num body) w.heap.size/\ay w' p ⟨(ae σ.Iz key).key,(ae σ.Iz key).last,(ae σ.Iz key).IB.eraseIdx i⟩ vs'/\vs'.ownBlock=vs.ownBlock/\Off (λk=>k=s\/M.jr.ownBlock=IF k\/k=p\/vs.ownBlock=IF k) w w'
def CKn (w w':L5)(s n:Nat)(rd:Int)(σ:St)(M:Mem)(key:List UInt8)(p:Nat)(vs:L2)(k num:Nat)(body:List UInt8):Prop :=
 ∃Jk g2 cap2,OI w' s ((storeCells rd M.g n M.cap σ.time σ.Iz.length M.jr).setIfInBounds 11 Jk) M.jr Jk (σ.log++bG k σ.time key num body) w.heap.size/\ay w' p ⟨(ae σ.Iz key).key,num,(ae σ.Iz key).IB++[⟨num,σ.time,k==2,body⟩]⟩ (Jx (IF ⟨g2,0,IR⟩) ((ae σ.Iz key).IB.length+1) cap2)/\(vs.ownBlock=IF g2\/w.heap.size<=g2)/\Off (λk=>k=s\/M.jr.ownBlock=IF k\/k=p\/vs.ownBlock=IF k) w w'
def CNw (w w':L5)(s n:Nat)(rd:Int)(σ:St)(M:Mem)(key:List UInt8)(p:Nat)(vs:L2)(gs:Array L2)(i k num:Nat)(body:List UInt8):Prop :=
 ∃Jk g1 J7 g2 cap2,OI w' s (((storeCells rd M.g n M.cap σ.time σ.Iz.length M.jr).setIfInBounds 10 (Ks K1 ((σ.Iz.length:Int)+1))).setIfInBounds 11 Jk) M.jr Jk (σ.log++bG k σ.time key num body) w.heap.size /\
  w'.heap[M.g]?=IF (I3 (gs.setIfInBounds (ao key%n*3+2) (Jx (IF ⟨g1,0,IR⟩) ((M.ps (ao key%n)).length+1) J7)) 137 (0,0)) /\
  w'.ownsRow 0 143 1 (Jx (IF ⟨g1,0,IR⟩) ((M.ps (ao key%n)).length+1) J7) ((M.ps (ao key%n)).length+1) (gE ((M.ps (ao key%n)).take i++p::(M.ps (ao key%n)).drop i))/\((M.es (ao key%n)).ownBlock=IF g1\/w.heap.size<=g1) /\
  ay w' p ⟨(ae σ.Iz key).key,num,(ae σ.Iz key).IB++[⟨num,σ.time,k==2,body⟩]⟩ (Jx (IF ⟨g2,0,IR⟩) ((ae σ.Iz key).IB.length+1) cap2)/\(vs.ownBlock=IF g2\/w.heap.size<=g2) /\
  Off (λk=>k=s\/M.jr.ownBlock=IF k\/k=M.g\/k=p\/(M.es (ao key%n)).ownBlock=IF k\/vs.ownBlock=IF k) w w'
theorem BE {M:Mem}(C:(Ending->L5->Prop)->Prop)(hC:∀P Q:Ending->L5->Prop,C P->(∀e w',P e w'->Q e w')->C Q)(N:L5->Prop)(key:List UInt8)(p:Nat)(vs:L2)(k num:Nat)(body:List UInt8)(w:L5)(h:aN w s n rd lk σ M)(hf:Found w M n σ key p vs)
 (hk:k=1\/k=2\/k=3)(hn:k≠3->num=(ae σ.Iz key).last+1)(hkey:aW key=N2)(hb:body.length<=400)
 (H1:(ae σ.Iz key).IB.length<=20->aX (ae σ.Iz key) k num≠0->C λe w'=>e=Lw (Nd #[Ks K1 (aX (ae σ.Iz key) k num:Nat),Mp LN])/\N w')
 (H2:(ae σ.Iz key).IB.length<=20->aX (ae σ.Iz key) k num=0->(ae σ.Iz key).last=0->σ.Iz.length=60->C λe w'=>e=Lw (Nd #[Ks K1 507,Mp LN])/\N w')
 (H3:(ae σ.Iz key).IB.length<=20->∀i,k=3->eu (ae σ.Iz key).IB num=IF i->0<(ae σ.Iz key).last->C λe w'=>e=Lw (Nd #[Ks K1 204,Mp N2])/\CRm w w' s n rd σ M key p vs num i body)
 (H4:(ae σ.Iz key).IB.length<=20->aX (ae σ.Iz key) k num=0->k≠3->0<(ae σ.Iz key).last->C λe w'=>e=Lw (Nd #[Ks K1 (bN (ae σ.Iz key) k:Nat),Mp N2])/\CKn w w' s n rd σ M key p vs k num body)
 (H5:(ae σ.Iz key).IB.length<=20->aX (ae σ.Iz key) k num=0->k≠3->(ae σ.Iz key).last=0->σ.Iz.length<60->vs.ownBlock=IR->∀cs j,w.heap[M.g]?=IF (I3 cs 137 (0,0))->cs[ao key%n*3+2]?=IF (M.es (ao key%n))->er (M.keys (ao key%n))->(M.ps (ao key%n)).length<1000000->cR (M.keys (ao key%n)) (ae σ.Iz key).key j ->
   C λe w'=>e=Lw (Nd #[Ks K1 (bN (ae σ.Iz key) k:Nat),Mp N2])/\CNw w w' s n rd σ M key p vs cs j k num body) :
 C λe w' =>
  match (dS σ key k num body).2 with
  | none=>e=Lw (Nd #[Ks K1 ((dS σ key k num body).1:Nat),Mp LN])/\N w'
  | some σ'=>e=Lw (Nd #[Ks K1 ((dS σ key k num body).1:Nat),Mp N2])/\∃M',Vb w w' s n rd lk σ' M M' p:=by
 have hi:ao key%n<n:=MA _ h.n1;obtain⟨f1,f2,f3,f4,f5,f6⟩:=h.found hf;have Az:key.length<=40:=by unfold aW at hkey;simp at hkey;exact hkey.2.1
 have A2:=cx σ.Iz key;obtain⟨cs,hc,hr⟩:=h.row;by_cases ho:aX (ae σ.Iz key) k num=0
 ·by_cases hfull:(ae σ.Iz key).last=0/\60<=σ.Iz.length
  ·-- no room for one key more
   (have e0:dS σ key k num body=(507,IR):=by simp[dS,ho,hfull]);rw[e0];have At:σ.Iz.length=60:=Nat.le_antisymm h.many hfull.2;exact hC _ _ (H2 f5 ho hfull.1 At) λe w' hw=>hw
  ·(have e0:dS σ key k num body=(bN (ae σ.Iz key) k,IF ⟨σ.time,bT σ.Iz (bn (ae σ.Iz key) k σ.time num body),σ.log++bG k σ.time key num body⟩):=by simp[dS,ho,hfull]);rw[e0];(have A0:σ.log.length<=(σ.log++bG k σ.time key num body).length:=by simp);(have A1:(bn (ae σ.Iz key) k σ.time num body).last<=(σ.log++bG k σ.time key num body).length:=by have:=rR (E:=ae σ.Iz key) (k:=k) (t:=σ.time) (n:=num) (body:=body) hn;rw[Nm,eW];omega);have Ao:mr (bn (ae σ.Iz key) k σ.time num body):=by
    refine qi (by rw[A2];exact hkey) f1 f2 f3 f4 f5 ho (λh3=>?_) hn h.time hb;obtain⟨i,hv⟩:=(jj ho).1 h3;obtain⟨v,Ae,_⟩:=ku hv;rcases hf.at' with⟨_,_,_,hl⟩|⟨_,_,hl⟩
    ·omega
    ·rw[(bV (λE hE=>(h.ok E hE).last) hl).2] at Ae;simp at Ae
   have B1:=h.time;rcases hf.at' with⟨hp,Aw,A8,hl⟩|⟨hp,A8,hl⟩
   ·-- known
    (have As:(bn (ae σ.Iz key) k σ.time num body).key=(M.en p).key:=by rw[iE,Aw]);have Ai:∀{w':L5},Off (λk=>k=s\/M.jr.ownBlock=IF k\/k=p\/vs.ownBlock=IF k) w w'->Off (λk=>M.own s n k\/k=p) w w':=λho=>ho.mono (by
     rintro b (e|e|e|e)
     ·exact J0 (J0 e)
     ·exact J0 (IH (IH (IH (IH (IH e)))))
     ·exact IH e
     ·exact J0 (IH (IH (IH (IH (J0 ⟨_,p,hi,hp,by rw[A8];exact e⟩))))))
    have Ab:∀{Aa A4:L2} {E':IP},(∀b,Aa.ownBlock=IF b->(M.vs p).ownBlock=IF b\/w.heap.size<=b)->(A4.ownBlock=M.jr.ownBlock\/∃g,A4.ownBlock=IF g/\w.heap.size<=g) ->
     ∀b,Mem.own { M with en:=upd M.en p E',vs:=upd M.vs p Aa,jr:=A4 } s n b->M.own s n b\/w.heap.size<=b\/b=p:=by
     intro Aa A4 E' hv hj b;rintro(e|e|e|e|⟨i,q,A3,hq,e⟩|e)
     ·exact J0 (J0 e)
     ·exact J0 (IH (J0 e))
     ·exact J0 (IH (IH (J0 e)))
     ·exact J0 (IH (IH (IH (J0 e))))
     ·change (upd M.vs p Aa q).ownBlock=IF b at e;by_cases eq:q=p
      ·subst eq;rw[upd_same] at e;rcases hv b e with h1|h1
       ·exact J0 (IH (IH (IH (IH (J0 ⟨i,q,A3,hq,h1⟩)))))
       ·exact IH (J0 h1)
      ·rw[aI eq] at e;exact J0 (IH (IH (IH (IH (J0 ⟨i,q,A3,hq,e⟩)))))
     ·change A4.ownBlock=IF b at e;rcases hj with h1|⟨g,h1,h2⟩
      ·exact J0 (IH (IH (IH (IH (IH (h1 ▸ e))))))
      ·rw[h1] at e;injection e with e;exact IH (J0 (e ▸ h2))
    by_cases A9:k=3
    ·subst A9;obtain⟨i,hv⟩:=(jj ho).1 rfl;refine hC _ _ (H3 f5 i rfl hv (by omega)) ?_;rintro e w' ⟨rfl,A4,Aa,hJ,hE,Am,A7⟩;(have Af:bn (ae σ.Iz key) 3 σ.time num body=⟨(ae σ.Iz key).key,(ae σ.Iz key).last,(ae σ.Iz key).IB.eraseIdx i⟩:=by simp[bn,hv]);have Ac:∀b,Aa.ownBlock=IF b->(M.vs p).ownBlock=IF b\/w.heap.size<=b:=λb hb=>J0 (by rw[A8,<-Am];exact hb);refine⟨by simp[bN],_,h.Oo hi hp As Ao A1 A0 (by rw[Af];exact hE) Ac hJ (by rw[A8];exact A7),Ai A7,Ab Ac hJ.at',rfl⟩
    ·refine hC _ _ (H4 f5 ho A9 (by omega)) ?_;rintro e w' ⟨rfl,A4,g2,A6,hJ,hE,Am,A7⟩;(have Af:bn (ae σ.Iz key) k σ.time num body=⟨(ae σ.Iz key).key,num,(ae σ.Iz key).IB++[⟨num,σ.time,k==2,body⟩]⟩:=by simp[bn,A9]);(have Ac:∀b,(Jx (IF ⟨g2,0,IR⟩) ((ae σ.Iz key).IB.length+1) A6).ownBlock=IF b->(M.vs p).ownBlock=IF b\/w.heap.size<=b:=λb hb=>by injection hb with hb;simp only at hb;rw[A8,<-hb];exact Am);refine⟨rfl,_,h.Oo hi hp As Ao A1 A0 (by rw[Af];exact hE) Ac hJ (by rw[A8];exact A7),Ai A7,Ab Ac hJ.at',rfl⟩
   ·-- it becomes known
    (have A9:k≠3:=by intro h3;obtain⟨i,hv⟩:=(jj ho).1 h3;obtain⟨v,Ae,_⟩:=ku hv;rw[(bV (λE hE=>(h.ok E hE).last) hl).2] at Ae;simp at Ae);have A5:σ.Iz.length<60:=by
     have:=h.many;rcases Nat.lt_or_ge σ.Iz.length 60 with h1|h1
     ·exact h1
     ·exact absurd ⟨hl,h1⟩ hfull
    obtain⟨j,Ag,B0⟩:=h.KI key hl;(have Ah:cR (M.keys (ao key%n)) (ae σ.Iz key).key j:=by rw[A2];exact Ag);(have Al:(M.ps (ao key%n)).length<1000000:=by(have h1:((M.ps (ao key%n)).map M.en).length<=σ.Iz.length:=by rw[h.JQ _ hi];exact List.length_filter_le _ _);rw[List.length_map] at h1;omega);(have Ay:er (M.keys (ao key%n)):=by rw[h.keys_eq hi];exact(h.rise.filter _).rising);(have An:vs.ownBlock=IR:=by rw[A8];rfl);refine hC _ _ (H5 f5 ho A9 hl A5 An cs j hc (hr _ hi).2 Ay Al Ah) ?_;rintro e w' ⟨rfl,A4,g1,Ak,g2,A6,hJ,hg,Ap,Au,hE,Av,A7⟩;(have Af:bn (ae σ.Iz key) k σ.time num body=⟨(ae σ.Iz key).key,num,(ae σ.Iz key).IB++[⟨num,σ.time,k==2,body⟩]⟩:=by simp[bn,A9]);(have Aj:(bn (ae σ.Iz key) k σ.time num body).key=key:=by rw[iE,A2]);have Ad:Off (λk=>k=s\/M.jr.ownBlock=IF k\/k=M.g\/k=p\/(M.es (ao key%n)).ownBlock=IF k) w w':=A7.mono (by
     rintro b (e|e|e|e|e|e)
     ·exact J0 e
     ·exact IH (J0 e)
     ·exact IH (IH (J0 e))
     ·exact IH (IH (IH (J0 e)))
     ·exact IH (IH (IH (IH e)))
     ·rw[An] at e;cases e)
    have Aq:∀b,(Jx (IF ⟨g2,0,IR⟩) ((ae σ.Iz key).IB.length+1) A6).ownBlock=IF b->w.heap.size<=b:=λb hb=>by
     injection hb with hb;simp only at hb;rw[<-hb];rcases Av with h1|h1
     ·rw[An] at h1;cases h1
     ·exact h1
    (have Ar:∀b,(Jx (IF ⟨g1,0,IR⟩) ((M.ps (ao key%n)).length+1) Ak).ownBlock=IF b->(M.es (ao key%n)).ownBlock=IF b\/w.heap.size<=b:=λb hb=>by injection hb with hb;simp only at hb;rw[<-hb];exact Au);refine⟨rfl,_,h.add (i:=ao key%n) (p:=p) (j:=j) (by rw[Aj]) hp hf.Jc.blk (by rw[Aj];exact(bV (λE hE=>(h.ok E hE).last) hl).1) (by rw[Aj];exact Ag) Ao A1 A0 A5 hc hr (by rw[Af];exact hE) Aq hJ hg Ap Ar Ad,?_,?_,rfl⟩
    ·refine Ad.mono ?_;rintro b (e|e|e|e|e)
     ·exact J0 (J0 e)
     ·exact J0 (IH (IH (IH (IH (IH e)))))
     ·exact J0 (IH (J0 e))
     ·exact IH e
     ·exact J0 (IH (IH (J0 ⟨_,hi,e⟩)))
    ·intro b;rintro(e|e|⟨i,A3,e⟩|⟨i,A3,e⟩|⟨i,q,A3,hq,e⟩|e)
     ·exact J0 (J0 e)
     ·exact J0 (IH (J0 e))
     ·change (upd M.es (ao key%n) _ i).ownBlock=IF b at e;by_cases ei:i=ao key%n
      ·subst ei;rw[upd_same] at e;rcases Ar b e with h1|h1
       ·exact J0 (IH (IH (J0 ⟨_,A3,h1⟩)))
       ·exact IH (J0 h1)
      ·rw[aI ei] at e;exact J0 (IH (IH (J0 ⟨i,A3,e⟩)))
     ·change b∈upd M.ps (ao key%n) _ i at e;by_cases ei:i=ao key%n
      ·subst ei;rw[upd_same] at e;rcases kz e with h1|h1
       ·exact IH (IH h1)
       ·exact J0 (IH (IH (IH (J0 ⟨_,A3,h1⟩))))
      ·rw[aI ei] at e;exact J0 (IH (IH (IH (J0 ⟨i,A3,e⟩))))
     ·change (upd M.vs p _ q).ownBlock=IF b at e;by_cases eq:q=p
      ·subst eq;rw[upd_same] at e;exact IH (J0 (Aq b e))
      ·rw[aI eq] at e;change q∈upd M.ps (ao key%n) _ i at hq;have Ax:q∈M.ps i:=by
        by_cases ei:i=ao key%n
        ·subst ei;rw[upd_same] at hq;exact(kz hq).resolve_left eq
        ·rw[aI ei] at hq;exact hq
       exact J0 (IH (IH (IH (IH (J0 ⟨i,q,A3,Ax,e⟩)))))
     ·change A4.ownBlock=IF b at e;rcases hJ.at' with h1|⟨g,h1,h2⟩
      ·exact J0 (IH (IH (IH (IH (IH (h1 ▸ e))))))
      ·rw[h1] at e;injection e with e;exact IH (J0 (e ▸ h2))
 ·(have e0:dS σ key k num body=(aX (ae σ.Iz key) k num,IR):=by simp[dS,ho]);rw[e0];exact hC _ _ (H1 f5 ho) λe w' hw=>hw
theorem qC {M:Mem}(key:List UInt8)(p:Nat)(vs:L2)(k t0 num:Nat)(body:List UInt8)(w:L5)(h:aN w s n rd lk σ M)(hf:Found w M n σ key p vs)
 (hk:k=1\/k=2\/k=3)(hn:k≠3->num=(ae σ.Iz key).last+1)(JJ:num<1000000000000000)(hkey:aW key=N2)(hb:body.length<=400)(JL:σ.log.length<140000000000000) :
 N1 prog 102 #[LS (IF ⟨M.g,ao key%n*3,IR⟩),LS (IF ⟨p,0,IR⟩),ev k t0 key num body,bookC s] w λe w' =>
  match (dS σ key k num body).2 with
  | none=>e=Lw (Nd #[Ks K1 ((dS σ key k num body).1:Nat),Mp LN])/\Below w.heap.size w w'
  | some σ'=>e=Lw (Nd #[Ks K1 ((dS σ key k num body).1:Nat),Mp N2])/\∃M',Vb w w' s n rd lk σ' M M' p:=by
 have A3:key.length<=40:=by unfold aW at hkey;simp at hkey;exact hkey.2.1
 have A1:=cx σ.Iz key;have A4:=h.time;have A2:=(h.found hf).2.2.2.2.2;refine BE (λP=>N1 prog 102 #[LS (IF ⟨M.g,ao key%n*3,IR⟩),LS (IF ⟨p,0,IR⟩),ev k t0 key num body,bookC s] w P) (λP Q hP hPQ=>hP.mono hPQ) (λw'=>Below w.heap.size w w') key p vs k num body w h hf hk hn hkey hb
  (λf5 ho=>vF M.g _ p s (ae σ.Iz key) vs k t0 num key body w hf.Jc (by omega) ho)
  (λf5 ho hl Vw=>by
    have A0:=h.blk;rw[Vw] at A0
    exact vu M.g _ p s _ _ σ.time (ae σ.Iz key) vs k t0 num key body w hf.Jc (by omega) ho hl A0 rfl rfl rfl)
  (λf5 i hk3 hv hl=>by
    subst hk3
    exact zm M.g _ p s _ σ.time M.jr σ.log (ae σ.Iz key) vs t0 num i key body w hf.Jc (by omega) hv (by omega) h.blk rfl rfl rfl h.Jn (by omega) (by omega) (by omega) (by omega) (by omega))
  (λf5 ho hk3 hl=>qX M.g _ p s _ σ.time M.jr σ.log (ae σ.Iz key) vs k t0 num key body w hf.Jc (by omega) ho hk3 (by omega) (by omega) h.blk rfl rfl rfl h.Jn (by omega) (by omega) (by omega) (by omega) (by omega))
  (λf5 ho hk3 hl Vw hvn cs j hc hr Qo UJ hpos =>
    vZ M.g _ p s cs _ (M.es (ao key%n)) (M.ps (ao key%n)) (M.keys (ao key%n)) j σ.time (σ.Iz.length:Int) M.jr σ.log (ae σ.Iz key) vs k t0 num key body w hf.Jc (by omega) ho hk3 (by omega) hl hc hr (h.kt _ (MA _ h.n1)) Qo UJ (by rw[A1];omega) hpos (λg hg=>by rw[hvn] at hg;cases hg) h.blk rfl rfl rfl (by omega) (by omega) rfl h.Jn (by omega) (by omega) (by omega) (by omega) (by omega))
end Go.Proofs.YtmehkneofinmiabGreatDoor
namespace Go.Proofs.YtmehkneofinmiabGreatDoor.Jd
open Go.RowKit
variable {W:Nat->Bool}{T:Nat->ByteArray}{t:ByteArray}{s:Bool}{k:Nat}
def lX (w:L5)(b off:Nat)(n:Nat)(W:Nat->Bool)(T:Nat->ByteArray):Prop :=
 (∀i,i<n->w.cell? ⟨b,off+i*2,IR⟩=IF (Mp (W i)))/\∀i,i<n->w.cell? ⟨b,off+i*2+1,IR⟩=IF (ID (T i))
def hit (W:Nat->Bool)(T:Nat->ByteArray)(t:ByteArray)(strong:Bool)(i:Nat):Bool:=decide ((T i).toList=t.toList)&&!(strong&&W i)
def hits (W:Nat->Bool)(T:Nat->ByteArray)(t:ByteArray)(strong:Bool):Nat->Bool
 | 0=>LN
 | n+1=>hits W T t strong n||hit W T t strong n
theorem xw {n:Nat}(hk:k<n)(h:hit W T t s k=N2):hits W T t s n=N2:=by
 induction n with
 | zero=>omega
 | succ n ih =>
   by_cases e:k=n
   ·subst e;simp[hits,h]
   ·simp[hits,ih (by omega)]
theorem qV (hh:hits W T t s k=LN)(h:hit W T t s k=LN):hits W T t s (k+1)=LN:=by
 simp[hits,hh,h]
theorem bl {a b:Bool}(h:a=b):Lw (Mp a)=Lw (Mp b):=by rw[h]
end Go.Proofs.YtmehkneofinmiabGreatDoor.Jd

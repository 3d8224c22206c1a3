/-part 22-/
import Derived.Test.YtmehkneofinmiabGreatDoorP20
import Derived.Test.YtmehkneofinmiabGreatDoorP21
open Go.Value renaming slice->ID,int->J0
open Go.Proofs.Tryz renaming prog->IF,f77->Kx
open Option renaming some->IH,none->J1
open Go renaming World->IR,Value->Jx,undef->Kf,heap_alloc_new->Ks,Frame->K0,heap_alloc_old->K1,Question->K2
open Go.Obj renaming cells->I3
set_option maxRecDepth 100000
set_option maxHeartbeats 8000000
namespace Go.Proofs.YtmehkneofinmiabGreatDoor
open Go.RowKit Go.MuLone Go.Conc Go.Proofs.Rn
variable {D SB g i:Nat}{c:Array Jx}{ty:TypeId}{v0 v1 v10 v11 v15 v16 v17 v18 v19 v2 v20 v21 v22 v23 v24 v3 v4 v5 v6 v7 v8 v9:Jx}{IC:List K0}{w2:IR}
section
variable {w:IR} {T:K0->List K0->IR->Prop}
theorem yY {n:Nat}(hi:i<n)(hn:n<1000)(hc:w.heap[D]?=IH (I3 c ty))(hci:c[i]?=IH (ID J1 0 0)){k:List Item}
 (hq:∀(w':IR) (v8 v15 v16 v17 v18 v19 v20 v23:Jx),Below w.heap.size w w'->Rn.Reach IF T (mL #[v0,v1,v2,v3,v4,v5,v6,v7,v8,v9,v10,v11,ID (IH ⟨D,0,J1⟩) n n,J0 .i64 n,J0 .i64 (i+1:Nat),v15,v16,v17,v18,v19,v20,v21,v22,v23,v24] k) IC w') :
 Rn.Reach IF T (mL #[v0,v1,v2,v3,v4,v5,v6,v7,v8,v9,v10,v11,ID (IH ⟨D,0,J1⟩) n n,J0 .i64 n,J0 .i64 i,v15,v16,v17,v18,v19,v20,v21,v22,v23,v24] k) IC w:=by
 have hD:D<w.heap.size:=(gL hc);have A1:(i:Int)<(n:Int):=by omega
 have A0:w.cell? ⟨D,i,J1⟩=IH (ID J1 0 0):=by simp only[World.cell?,hc];simpa using hci
 have HQ:=IA hq;clear hq hc hci;refine Rn.Reach.code ?_;simp only[KN,Kx];go_wp2_with fail;refine Rn.Reach.ctl (λcs=>stepG_inLoop) ?_;exact HQ.out _ _ _ _ _ _ _ _ _ ((Below.refl _ _).alloc (Nat.le_refl _) _)
theorem BJ {n m cp:Nat}(hi:i<n)(_:n<1000)(hm:0<m)(hc:w.heap[D]?=IH (I3 c ty))(hci:c[i]?=IH (ID (IH ⟨SB,0,J1⟩) m cp)){k:List Item}
 (hq:∀(v15 v16 v17 v18 v19 v20:Jx),Rn.Reach IF T ((base 77).at ⟨#[v0,v1,v2,v3,v4,v5,v6,v7,pt w.heap.size,v9,v10,v11,ID (IH ⟨D,0,J1⟩) n n,J0 .i64 n,J0 .i64 i,v15,v16,v17,v18,v19,v20,v21,v22,v23,v24],[]⟩ (.code R6::.inBlock 1::.code R7::.inLoop KN::.inBlock 0::.code R8::k)) IC (w.alloc (I3 #[ID (IH ⟨SB,0,J1⟩) m cp] 208))) :
 Rn.Reach IF T (mL #[v0,v1,v2,v3,v4,v5,v6,v7,v8,v9,v10,v11,ID (IH ⟨D,0,J1⟩) n n,J0 .i64 n,J0 .i64 i,v15,v16,v17,v18,v19,v20,v21,v22,v23,v24] k) IC w:=by
 have hD:D<w.heap.size:=(gL hc);have A1:(i:Int)<(n:Int):=by omega
 have A2:(0:Int)<(m:Int):=by omega
 have A0:w.cell? ⟨D,i,J1⟩=IH (ID (IH ⟨SB,0,J1⟩) m cp):=by simp only[World.cell?,hc];simpa using hci
 simp only[R6,R7,KN,Kx] at hq;have HQ:=IA hq;clear hq hc hci;unfold mL;simp only[KN,Kx];refine Rn.Reach.seq λK hK=>?_;go_wp2_with fail;refine Rn.Reach.seq λK hK=>?_;go_wp2_with fail;refine Rn.Reach.ctl (λcs=>stepG_seq) ?_;refine Rn.Reach.ctl (λcs=>stepG_block) ?_;refine Rn.Reach.seq λK hK=>?_;go_wp2_with fail;refine Rn.Reach.seq λK hK=>?_;go_wp2_with fail;refine Rn.Reach.ctl (λcs=>stepG_cond (t:=true) rfl) ?_;simp only[if_true];exact HQ.out _ _ _ _ _ _
end
open Go.RowKit Go.MuLone Go.Conc Go.Proofs.Rn
section
variable {w:IR} {T:K0->List K0->IR->Prop}
theorem wL {n m cp:Nat}(hi:i<n)(hn:n<1000)(hm:0<m)(hci:c[i]?=IH (ID (IH ⟨SB,0,J1⟩) m cp))(hnil:∀x,x<n->x≠i->c[x]?=IH (ID J1 0 0)){k:List Item}(w0:IR)
 (hq:∀(w:IR) (v15 v16 v17 v18 v19 v20 v23:Jx),Below w0.heap.size w0 w->Rn.Reach IF T ((base 77).at ⟨#[v0,v1,v2,v3,v4,v5,v6,v7,pt w.heap.size,v9,v10,v11,ID (IH ⟨D,0,J1⟩) n n,J0 .i64 n,J0 .i64 i,v15,v16,v17,v18,v19,v20,v21,v22,v23,v24],[]⟩ (.code R6::.inBlock 1::.code R7::.inLoop KN::.inBlock 0::.code R8::k)) IC (w.alloc (I3 #[ID (IH ⟨SB,0,J1⟩) m cp] 208)))(hc0:w0.heap[D]?=IH (I3 c ty)) :
 ∀(x j:Nat) (w:IR) (v8 v15 v16 v17 v18 v19 v20 v23:Jx),i=j+x->Below w0.heap.size w0 w->Rn.Reach IF T (mL #[v0,v1,v2,v3,v4,v5,v6,v7,v8,v9,v10,v11,ID (IH ⟨D,0,J1⟩) n n,J0 .i64 n,J0 .i64 j,v15,v16,v17,v18,v19,v20,v21,v22,v23,v24] k) IC w:=by
 have hD:D<w0.heap.size:=(gL hc0);intro x;induction x with
 | zero =>intro j w v8 v15 v16 v17 v18 v19 v20 v23 hj hb;(obtain rfl:i=j:=by omega);exact BJ hi hn hm ((hb.block D hD).trans hc0) hci λv15 v16 v17 v18 v19 v20=>hq w _ _ _ _ _ _ _ hb
 | succ x ih =>intro j w v8 v15 v16 v17 v18 v19 v20 v23 hj hb;refine yY (by omega) hn ((hb.block D hD).trans hc0) (hnil j (by omega) (by omega)) λw' v8 v15 v16 v17 v18 v19 v20 v23 hb'=>?_;exact ih (j+1) w' _ _ _ _ _ _ _ _ (by omega) (hb.trans (hb'.mono hb.size))
end
structure G1 (w:IR)(T N:Nat)(w2:IR)(d:gW):Prop where
 m:d.m=N
 te:d.te=155
 ps:∀j,j<N->d.ps[j]?=IH (tp T j)
 below:Below w.heap.size w w2
section
variable {w:IR} {s n T N m:Nat} {rd:Int} {σ:St} {M:Mem} {kc B:Nat} {t:Jg} {k:I9} {cs:Nat->I7} {gs:Nat->Nat} {bd:Nat->List UInt8} {tc:Array Jx}
theorem ym (cp wk:Nat)(h:ak w s n rd (λ_=>0) σ M kc B)(hT:Kv w T N m t k cs gs bd tc)(hkl:t.key.length<1000000)(hw0:0<wk)(hw:wk<1000)(hN0:0<N) :
 Rn.Reach IF (Vd (pt s) T w (G1 w T N)) (Frame.enter IF 77 #[pt s,ID (IH ⟨T,0,J1⟩) N cp,J0 .i64 wk] .normal) [] w:=by
 have HH:=IA h;have HT:=IA hT;clear h hT;rw[enter_at (P:=IF) _ Tryz.func77 rfl];simp only[Kx,List.size_toArray,List.length_cons,List.length_nil,Nat.reduceAdd,Nat.reduceSub,Array.replicate_succ,Array.replicate_zero,List.push_toArray,List.append_toArray,List.nil_append,List.cons_append];refine Rn.Reach.seq λK hK=>?_;go_wp2_with fail;refine Rn.Reach.seq λK hK=>?_;go_wp2_with fail;refine Rn.Reach.ctl (λcs=>stepG_seq) ?_;refine Rn.Reach.seq λK hK=>?_;go_wp2_with fail;obtain⟨w1,h1⟩:=exj ((w.alloc (I3 #[pt s] 25)).alloc (I3 #[J0 .u64 0,J0 .u32 0] 205));rw[<-h1];have b1:Below w.heap.size w w1:=by rw[h1];exact((Below.refl _ _).alloc (Nat.le_refl _) _).alloc (by simp) _
 have z1:w1.heap.size=w.heap.size+2:=by rw[h1];simp
 have c1:w1.heap[w.heap.size]?=IH (I3 #[pt s] 25):=by rw[h1,K1 _ _ (by simp)];exact Ks _ _
 have c2:w1.heap[w.heap.size+1]?=IH (I3 #[J0 .u64 0,J0 .u32 0] 205):=by have:=Ks (w.alloc (I3 #[pt s] 25)) (I3 #[J0 .u64 0,J0 .u32 0] 205);rw[World.size_alloc] at this;rw[h1];exact this
 refine Calls.mono (CJ cp wk (HH.out.below b1) (HT.out.below b1) hkl hw0 hw) ?_;rintro e w3 ⟨rfl,C,v,hD⟩;have HD:=IA hD;clear hD;go_wp2_with fail;have hD:=HD.out;have A3:ao t.key%n%wk<wk:=Nat.mod_lt _ hw0;rcases hD.row with⟨h0,_⟩|⟨SB,A1,A5,hv,A9,A2,A8,A7,Aa,A6,A4⟩
 ·omega
 subst hv;refine Rn.Reach.ctl (λcs=>stepG_block) ?_;refine Rn.Reach.ctl (λcs=>stepG_loop) ?_;have A0:=wL (T:=Vd (pt s) T w (G1 w T N)) (D:=w1.heap.size) (k:=[]) (IC:=[]) (v0:=pt s) (v1:=ID (IH ⟨T,0,J1⟩) N cp) (v2:=J0 .i64 wk) (v3:=pt w.heap.size) (v4:=Kf) (v5:=Kf) (v6:=pt (w.heap.size+1)) (v7:=Kf) (v9:=pt s) (v10:=ID (IH ⟨T,0,J1⟩) N cp) (v11:=J0 .i64 wk) (v21:=Kf) (v22:=Kf) (v24:=Kf) A3 hw hN0 hD.at' hD.nil w3 (λw4 v15 v16 v17 v18 v19 v20 v23 hb4=>?_) hD.blk _ 0 w3 Kf undef undef undef undef undef undef undef (Nat.zero_add _).symm (Below.refl _ _)
 ·simp only[mL,KN,R8,Kx] at A0;have e0:((0:Nat):Int)=0:=rfl;rw[e0,z1] at A0;exact A0
 ·have b3:Below w.heap.size w w3:=b1.trans (hD.below.mono b1.size);have b4:Below w.heap.size w w4:=b3.trans (hb4.mono b3.size);obtain⟨w5,h5⟩:=exj (w4.alloc (I3 #[ID (IH ⟨SB,0,J1⟩) N A1] 208));rw[<-h5];have q3:=hD.below.size;have q4:=hb4.size;have q5:SB<w3.heap.size:=(gL A2);(have k5:∀b,b<w3.heap.size->w5.heap[b]?=w3.heap[b]?:=λb hb=>by rw[h5,K1 _ _ (by omega)];exact hb4.block b hb);have k1:∀b,b<w1.heap.size->w5.heap[b]?=w1.heap[b]?:=λb hb=>(k5 b (by omega)).trans (hD.below.block b hb);(have b5:Below w.heap.size w w5:=by rw[h5];exact b4.alloc b4.size _);refine Rn.Reach.here ⟨rfl,{ Wg:=w.heap.size+1,Bs:=w.heap.size,Bh:=w4.heap.size,D:=w1.heap.size,n:=wk,i:=ao t.key%n%wk,SB:=SB,m:=N,cp:=A1,te:=155,c:=C,ps:=A5,v0:=pt s,v1:=ID (IH ⟨T,0,J1⟩) N cp,v2:=J0 .i64 wk,v4:=Kf,v5:=Kf,v7:=Kf,v9:=pt s,v10:=ID (IH ⟨T,0,J1⟩) N cp,v11:=J0 .i64 wk,v15:=v15,v16:=v16,v17:=v17,v18:=v18,v19:=v19,v20:=v20,v21:=Kf,v22:=Kf,v23:=v23,v24:=Kf },rfl,?_,rfl,rfl,A6,b5⟩;refine⟨?_,?_,?_,?_,?_,A4,A3,by simp only;omega,λj hj hjn=>hD.nil j hjn (by simp only at hj;omega),b5.block,b5.size,?_,?_,b5.os,b5.tape,b5.output⟩
  ·exact(k1 (w.heap.size+1) (by omega)).trans c2
  ·exact(k1 w.heap.size (by omega)).trans c1
  ·simp only[h5];exact Ks _ _
  ·exact(k5 _ hD.lt).trans hD.blk
  ·exact(k5 _ q5).trans A2
  ·simp only;omega
  ·simp only;have:=hD.lt;omega
end
open Go.RowKit Go.MuLone Go.Conc Go.Proofs.Rn
section
variable {w:IR} (tp':Nat->K2->Nat)
theorem Kt.tape {es:Jx}{ps:List Nat}{K:List (List UInt8)}(h:Kt w es ps K):Kt (az w tp') es ps K:=⟨⟨h.k.row,h.k.len,h.k.key,h.k.lt⟩,h.t⟩
theorem ay.tape {p:Nat}{E:IP}{vs:Jx}(h:ay w p E vs):ay (az w tp') p E vs:=⟨h.blk,h.row⟩
theorem ak.tape {kc B:Nat}{s n:Nat}{rd:Int}{lk:Nat->Int}{σ:St}{M:Mem}(h:ak w s n rd lk σ M kc B):ak (az w tp') s n rd lk σ M kc B :=
 ⟨h.n1,h.n8,h.blk,h.row,λi hi=>(h.kt i hi).tape tp',λi hi p hp=>(h.Jc i hi p hp).tape tp',h.JQ,h.Jn,h.Le,h.Ka,h.rise,h.ok,h.many,h.time,h.lastB⟩
theorem Rl.tape {h a:Bool}{l:Jx}{s:Bool}{o:Option (Bool×eC)}(r:Rl w g h a l s o):Rl (az w tp') g h a l s o:=by
 cases o<;>exact r
theorem Rq.tape {c:I7}{k:I9}(h:Rq w g c k):Rq (az w tp') g c k:=⟨h.m.tape tp',h.n.tape tp',h.s,h.u⟩
theorem Jm.tape (h:Jm w):Jm (az w tp'):=⟨h.z,⟨h.b.tab,h.b.lt⟩⟩
theorem Kv.tape {T N m:Nat}{t:Jg}{k:I9}{cs:Nat->I7}{gs:Nat->Nat}{bd:Nat->List UInt8}{tc:Array Jx}(h:Kv w T N m t k cs gs bd tc):Kv (az w tp') T N m t k cs gs bd tc :=
 ⟨h.tk,h.sz,h.rq,h.tl,λj hj=>⟨(h.cn j hj).1.tape tp',(h.cn j hj).2⟩,h.m2,h.nB⟩
theorem Off.LB {S:Nat->Prop}{x:IR}(h:Off S w x):Off S (az w tp') (az x tp'):=⟨h.os,rfl,h.output,h.size,h.block⟩
end
structure Pr (w:IR)(s n T N:Nat)(rd:Int)(σ:St)(M:Mem)(kc B m:Nat)(t:Jg)(k:I9)(cs:Nat->I7)(gs:Nat->Nat)(bd:Nat->List UInt8)(tc:Array Jx):Prop where
 st:ak w s n rd (λ_=>0) σ M kc B
 tk:Kv w T N m t k cs gs bd tc
 mg:∀j,j<N->M.g<=gs j
 tb:Jm w
 hi:∀k,M.own s n k->eh k
 hT:eh T
 key:aW t.key=true
 kl:t.key.length<1000000
 Q8:∀j,j<N->(bd j).length<=400
 num:t.num<1000000000000000
 kd:t.kind≠3
 bB:B<140000000000000
 lB:∀j,j<N->(ae (Jf σ t k bd tc j).1.Iz t.key).last+1<=B
 rm:∀j,j<N->(ae (Jf σ t k bd tc j).1.Iz t.key).last=0->(Jf σ t k bd tc j).2[j*28+20]?=IH (.bool true)/\(Jf σ t k bd tc j).1.Iz.length<60
section
variable {w:IR} {s n T N m:Nat} {rd:Int} {σ:St} {M:Mem} {kc B:Nat} {t:Jg} {k:I9} {cs:Nat->I7} {gs:Nat->Nat} {bd:Nat->List UInt8} {tc:Array Jx}
theorem Pr.shr (h:Pr w s n T N rd σ M kc B m t k cs gs bd tc)(tp':Nat->K2->Nat)(hb:Below w.heap.size w w2){ps:Array Jx}(hB:w2.heap[SB]?=IH (I3 ps 155 (0,0)))(hps:∀j,j<N->ps[j]?=IH (Go.Proofs.YtmehkneofinmiabGreatDoor.tp T j)):VJ (az w2 tp') s n T SB N rd σ M kc B m t k cs gs bd tc:=by
 have ht:=(h.tk.below hb).tape tp';exact⟨(h.st.below hb).tape tp',ht.tk,ht.sz,⟨ps,hB,hps⟩,ht.rq,λj hj=>⟨(ht.cn j hj).1,(ht.cn j hj).2,h.mg j hj⟩,(h.tb.below hb).tape tp',h.hi,h.hT,h.key,h.Q8,h.num,ht.m2,h.kd,h.bB,h.lB,h.rm,by have:=ht.nB;omega⟩
theorem Oq.down {p:St×Array Jx}{wE:IR}{t1 t2:Nat->K2->Nat}(hb:Below w.heap.size w w2)(h:Oq (az w2 t1) s n T rd M kc B p wE):Oq (az w t2) s n T rd M kc B p (az wE t2):=by
 obtain⟨⟨M',h1,h2,h3⟩,h4,h5⟩:=h;refine⟨⟨M',h1.tape t2,h2,λq hq=>(h3 q hq).imp_right λh=>Nat.le_trans hb.size h⟩,h4,?_⟩;have o1:Off (λk=>M.own s n k\/k=T) (az w t2) (az w2 t2):=Off.LB t2 (Off.of_below hb);have o2:Off (λk=>M.own s n k\/k=T) (az w2 t2) (az wE t2):=⟨h5.os,rfl,h5.output,h5.size,h5.block⟩;exact o1.trans o2
end
structure Wt where
 T:Nat
 s:Nat
 n:Nat
 N:Nat
 cp:Nat
 wk:Nat
 rd:Int
 σ:St
 M:Mem
 kc:Nat
 B:Nat
 m:Nat
 t:Jg
 k:I9
 cs:Nat->I7
 gs:Nat->Nat
 bd:Nat->List UInt8
 tc:Array Jx
structure Dd (T2:K0->List K0->IR->Prop)(i:Wt)(c:K0)(IC:List K0)(sv tv kv:Jx)(T:Nat)(w:IR):Prop where
 fl:∀f∈c::IC,f.fn∈[4,19,38]/\f.mode=.run
 tT:T=i.T
 sv:sv=pt i.s
 tv:tv=ID (IH ⟨T,0,J1⟩) i.N i.cp
 kv:kv=J0 .i64 (i.wk:Nat)
 w0:0<i.wk
 w1:i.wk<1000
 n0:0<i.N
 pr:Pr w i.s i.n T i.N i.rd i.σ i.M i.kc i.B i.m i.t i.k i.cs i.gs i.bd i.tc
 nx:∀t' wE,Oq (az w t') i.s i.n T i.rd i.M i.kc i.B (Jf i.σ i.t i.k i.bd i.tc i.N) wE->Rn.Reach IF T2 (c.finish (.tuple #[])) IC wE
end Go.Proofs.YtmehkneofinmiabGreatDoor

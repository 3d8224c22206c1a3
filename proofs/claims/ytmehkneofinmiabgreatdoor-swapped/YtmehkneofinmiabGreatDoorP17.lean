/-part 17-/
import Derived.Test.YtmehkneofinmiabGreatDoorP16
import Derived.Test.YtmehkneofinmiabGreatDoorP09
import Derived.Conc.HoldsTime
import Derived.Deep.DeepHandedRow
open Go.Proofs.Tryz
open Go.Value renaming string->ID,int->J1,pointer->Kx,slice->K1,bool->K2
open Option renaming none->IF,some->I3
open Go.Act renaming put->IH
open Go.Proofs.Tryz renaming prog->IR
open Go.Calls renaming mono->Jx
open Go.Lib renaming decDigits->J0
open Go.IntKind renaming i64->Kf
open Go.Ending renaming returned->Ks
open Or renaming inl->K0,inr->LR
open Go renaming Calls->Ln,World->LI,wpAnyH_done->L1,wp_region_held_drew->L4,Value->L5,wpAnyH_ready->Mn
open ByteArray renaming size->Lo
open Bool renaming true->Lq,false->Ly
open Go.AllReadyH renaming cons->Lw,nil->Mb
open Go.Obj renaming cells->Lz
open Go.Op renaming stringOp->LL
open Go.World renaming cell?->LN,frozen?->Mp
open List renaming mem_append->LO,length_append->LS,mem_cons->L2,not_mem_nil->L3
set_option maxRecDepth 100000
set_option maxHeartbeats 40000000
namespace Go.Proofs.YtmehkneofinmiabGreatDoor
open Go Go.Conc Go.ConcM Go.Proofs.Rn
variable {B:Nat->Prop}{b c d d' n s t:Nat}{σ σ':St}{M:Mem}{vs vs':Nat->L5}{en en':Nat->IP}{w:LI}{key what:List UInt8}
section
variable {H:Type} {enc:TypeId×L5->H}
theorem pB {a:Assume}{C:Checked}{os:Os}{f:FuncId}{fn:Func}{s:ChangeSpec}{F:Stop.Interp}{conds:List PathCond}{apart fresh handsOn:Bool}{laid:List (String×DataW Unit)}
 (own:ownKnob C.prog.godebug=IF)(started:os.Started)(hfn:C.prog.funcs[f]?=I3 fn)
 (witness:∃(w:LI) (tape:Tape) (i:Input),w.os=os/\(w.forCall tape i).Shaped C.prog/\i.vars=[]/\Input.okWide C.prog (w.forCall tape i) .any w.heap.size f i /\
   (OpenSpec.ofChange s).preRow enc C.prog fn conds apart laid (w.forCall tape i).memory i.args/\a.holds C.prog (lone (Frame.enter C.prog f i.args .normal) [] (w.forCall tape i)))
 (om:∀(W:LI) (base:Nat) (args:Array L5) (ds gs:List (DataW H)) (before:List MemPlace),
   (∀(j:Nat) t v,fn.params[j]?=I3 t->args[j]?=I3 v->Value.okWide C.prog W .any base t v) ->
   DataW.Whole enc C.prog fn.params.toList s.vars apart W args.toList ds gs before ->
   laidMetH C.prog laid W ->
   W.ShapedOpen C.prog ->
   ∃R,EX C.prog R 0 (G (Frame.enter C.prog f args .normal) []) W/\∀v W',R v W'->s.post enc C.prog fn apart fresh handsOn Ly W args v W'/\W'.os=W.os) :
 ReturnsInLeavingWide a C os f .any ((OpenSpec.ofChange s).preRow enc C.prog fn conds apart laid) ((OpenSpec.ofChange s).postWith enc C.prog fn F (outsideKept [.timePasses]) apart fresh handsOn):=by
 refine returnsInLeavingWide_of_good own started witness ?_;intro w tape i _ Aa _ A9 A4 A5;obtain⟨_,_,_,A6,A3,_,_,_,_,A2⟩:=A9;have e:A6=fn:=Option.some.inj (A3.symm.trans hfn);subst e;obtain⟨⟨hp,hl⟩,hz⟩:=A4;obtain⟨ds,gs,before,hw,hc,hk⟩:=OpenSpec.pre_parts hp;have A7:=DataW.Whole.of_heap (w':=w.forCall tape i) (by rfl) hw;obtain⟨R,A0,hR⟩:=om (w.forCall tape i) w.heap.size i.args ds gs before A2 A7 (hl.of_heap (by rfl)) Aa;obtain⟨M,A1,o,w',t',h1,h2,h3,h4⟩:=A0 #[] ⟨λop h=>by simp at h,rfl⟩;obtain⟨v,e,A8,r1,r2,r3,r4⟩:=h4;have hp:=hR v w' A8;refine⟨M,A1,o,w',t',h1,h2,h3,v,e,postWith_blind (postWith_of_post (?_:s.post enc C.prog A6 apart fresh handsOn Ly (w.forCall tape i) i.args v { w' with os:=(w.forCall tape i).os }) ?_),r1,r2,r3,r4⟩
 ·(have e2:({ w' with os:=(w.forCall tape i).os }:LI)=w':=by rw[<-hp.2]);rw[e2];exact hp.1
 ·rw[hp.2];exact⟨0,rfl⟩
end
open Go.RowKit
theorem cX (o:Option IZ):∃(a t:Int) (m:Bool) (x y:ByteArray),sG o=.agg #[J1 Kf a,J1 Kf t,K2 m,ID x,ID y]:=by
 cases o with
 | none=>exact⟨_,_,_,_,_,rfl⟩
 | some v=>exact⟨_,_,_,_,_,rfl⟩
def eB:List UInt8:=[80,85,84]
theorem nK (i:Nat)(hi:i<5)(fields what:List UInt8)(w:LI)(h:Bk B w b s n σ M vs d c)(hc:c<1000)(hf:fields.length<1000)(hw:what.length<100)
 (lets:Bool)(a:L9)(hok:jX (bp eB (47::IW i) fields what))(ha:bF σ (bp eB (47::IW i) fields what)=(a,σ))(hcs:(lets=Ly/\a.told=412)\/(lets=Lq/\20<=(IE σ i).IB.length/\a.told=507)) :
 Ln IR 41 #[Kx (I3 ⟨b,0,IF⟩),J1 Kf i,ID ⟨fields.toArray⟩,ID ⟨what.toArray⟩,K2 lets] w λe w'=>e=Ks (K2 Lq)/\(∃M',Bk B w' b s n σ M' vs d (c+1))/\Off B w w':=by
 have⟨k1,k2,k3⟩:=h.bk.ck i hi;have⟨c0,c16,c17⟩:=h.bk.c0;have Ag:=h.bk.lt;have A5:=h.facts i;rw[A5.2.2.2] at k1;have Ad:=(da (db i)).2.1;obtain⟨K,hK⟩:=IG (IW i);rw[hK] at k1 ha Ad hok;have HB:=IA h;have HA:=IA ha;have Ae:=IA hok;clear hok;have A7:=du b (1+i*3) (vs i) (IE σ i) w k2 (h.bk.row i hi) (by have:=A5.1;omega);obtain⟨q0,q1,q2,q3,q4,hq⟩:=cX (ax (IE σ i));rw[hq] at A7;have HQ:=IA A7;clear h ha A5 A7;go_enter func41,ntmps41;go_wp2_with fail;refine Jx HQ.out ?_;rintro e w1 ⟨rfl,Ac⟩;go_wp2_with fail;obtain⟨X,hX⟩:=exj (w1.alloc (Lz #[J1 Kf q0,J1 Kf q1,K2 q2,ID q3,ID q4] 42));rw[<-hX];have A8:Below w.heap.size w X:=by rw[hX];exact Ac.alloc Ac.size _
 clear hX;have HX:=HB.out.below A8;have x1:=(HX.bk.ck i hi).1;have x2:=HX.bk.c0.1;rw[HX.facts i |>.2.2.2,hK] at x1;have Ab:Hid (∀y,Below X.heap.size X y->Ln IR 11 #[Kx (I3 ⟨s,0,IF⟩),ID ⟨(bp eB (47::K) fields what).toArray⟩] y λe w'=>e=Ks (ID ⟨(aL a.told a.IQ a.body).toArray⟩)/\(aL a.told a.IQ a.body).length<=1000000000/\∃M',J4 B w' s n σ M'/\Off (M.own s n) y w'/\Off B y w') :=
  λy hy=>jU _ (HX.Js.below hy) (by have:=HB.out.lg;omega) (by rw[cQ];simp[eB];omega) HA.out Ae.out
 have hA:∀w:LI,(LL .add ⟨#[47]⟩ ⟨K.toArray⟩).run IR w=.ok (ID ⟨(47::K).toArray⟩) w:=by have:=rX ⟨#[47]⟩ ⟨K.toArray⟩ (by simp[Lo];omega);rw[show(⟨#[47]⟩:ByteArray)++⟨K.toArray⟩=⟨(47::K).toArray⟩ from cZ [47] K] at this;exact this
 have HX:=IA HX;go_region_held3 (λy=>y.cell? ⟨b,0,IF⟩=I3 (Kx (I3 ⟨s,0,IF⟩))/\y.cell? ⟨b,1+i*3,IF⟩=I3 (ID ⟨K.toArray⟩)) (first|assumption|go_keep) (first
  | (go_at_call 12
     refine(dw eB (47::K) fields what _ (by decide) (by simp;omega) (by omega) (by omega)).mono ?_
     rintro e w2 ⟨rfl,rfl⟩)
  | (go_at_call 11
     refine Jx (Ab.out _ (Below.refl _ _).drew) ?_;rintro e w3 ⟨rfl,A4,M3,Aa,A6,A9⟩;have y3:w3.cell? ⟨b,0,IF⟩=I3 (Kx (I3 ⟨s,0,IF⟩))/\w3.cell? ⟨b,1+i*3,IF⟩=I3 (ID ⟨K.toArray⟩):=by
      have A2:=(HX.out.below (Below.refl _ _).drew).bk.did (HX.out.below (Below.refl _ _).drew).Js.st A6;refine⟨A2.c0.1,?_⟩
      rw[(A2.ck i hi).1,(HX.out.facts i).2.2.2,hK]))
 have A2:=(HX.out.below (Below.refl _ _).drew).bk.did (HX.out.below (Below.refl _ _).drew).Js.st A6;have z2:=(A2.ck i hi).2.1;have HF:Hid (∃M',Bk B w3 b s n σ M' vs d (c+1)):=⟨M3,(⟨Aa,A2,HB.out.bB,HB.out.vB,HB.out.ks,HB.out.tm,HB.out.lg,HB.out.ls,HB.out.dn⟩:Bk B w3 b s n σ M3 vs d c).more⟩;have HO:Hid (Off B w w3):=((Off.of_below A8).trans (Off.of_below (Below.refl _ _).drew)).trans A9;have A1:=A2.row i hi;clear A2 Aa A6 A9 Ab HX;rcases hcs with⟨rfl,ht⟩|⟨rfl,Aj,ht⟩
 ·have A0:Ln IR 14 #[ID ⟨(aL a.told a.IQ a.body).toArray⟩] w3 λe w'=>e=Ks (J1 Kf 412)/\w'=w3 :=
   (dJ a.told a.IQ a.body w3 (by omega) (by omega) A4).mono (λe w' h=>by rw[ht] at h;exact h)
  have A3:=IA A0;clear A0 A1 ht A4;generalize (aL a.told a.IQ a.body)=T at A3 ⊢;go_wp2_with (go_at_call 14;refine Jx A3.out ?_;rintro e w4 ⟨rfl,rfl⟩);go_ret;exact⟨rfl,HF.out,HO.out⟩
 ·have A0:Ln IR 14 #[ID ⟨(aL a.told a.IQ a.body).toArray⟩] w3 λe w'=>e=Ks (J1 Kf 507)/\w'=w3 :=
   (dJ a.told a.IQ a.body w3 (by omega) (by omega) A4).mono (λe w' h=>by rw[ht] at h;exact h)
  have A3:=IA A0;obtain⟨x,cp,hx⟩:∃x cp,vs i=K1 x (IE σ i).IB.length cp:=by
   rcases A1.2 with⟨e,h0⟩|⟨g,Ah,Ai,e,_⟩
   ·exact⟨_,_,by rw[e,h0]⟩
   ·exact⟨_,_,e⟩
  rw[hx] at z2;(have Af:(20:Int)<=((IE σ i).IB.length:Int):=by omega);clear A0 A1 ht A4;generalize (aL a.told a.IQ a.body)=T at A3 ⊢;go_wp2_with (go_at_call 14;refine Jx A3.out ?_;rintro e w4 ⟨rfl,rfl⟩);go_ret;exact⟨rfl,HF.out,HO.out⟩
theorem vT (k u:Nat):∀c∈dj k u,∃d,d<16/\c=gS d:=by
 induction k generalizing u with
 | zero=>simp[dj]
 | succ k ih =>
   intro c hc;simp only[dj,LO,List.mem_singleton] at hc;rcases hc with hc|hc
   ·exact ih _ c hc
   ·exact⟨u%16,by omega,hc⟩
theorem EN:∀d,d<16->tb (gS d)=Lq/\gS d≠13/\gS d≠10/\gS d≠34:=by decide
theorem ny (b:List UInt8):dT (dj 16 (JG b))=Lq/\∀c∈dj 16 (JG b),c≠13/\c≠10:=by
 refine⟨List.all_eq_true.2 (λc hc=>?_),λc hc=>?_⟩;all_goals
  obtain⟨d,hd,rfl⟩:=vT 16 _ c hc;have:=EN d hd
 ·exact this.1
 ·exact⟨this.2.1,this.2.2.1⟩
theorem xO (b:List UInt8):OL ⟨mP,bX b⟩:=by
 refine⟨by simp[mP],by simp[mP],λc hc=>?_⟩;simp only[bX,List.cons_append,L2,LO,L3,or_false] at hc;rcases hc with rfl|hc|rfl
 ·decide
 ·exact((ny b).2 c hc).1
 ·decide
theorem kK (n:Nat):OL ⟨eF,J0 n⟩:=⟨by simp[eF],by simp[eF],λc hc=>(lY n c hc).1⟩
theorem iW (s:Nat)(en:Nat->IP)(vs:Nat->L5)(t d:Nat)(L:Nat)(x:Int)(hx:x=(L:Int)):∀i,i<5->(aC s en vs t d).setIfInBounds (1+i*3+2) (J1 Kf x)=aC s (λj=>if j=i then⟨(en j).key,L,(en j).IB⟩ else en j) vs t d:=by
 subst hx;refine tY ?_ ?_ ?_ ?_ ?_<;>simp[aC]
theorem qP (s:Nat)(en:Nat->IP)(vs:Nat->L5)(t d:Nat)(v:L5):∀i,i<5->(aC s en vs t d).setIfInBounds (1+i*3+1) v=aC s en (λj=>if j=i then v else vs j) t d:=by
 refine tY ?_ ?_ ?_ ?_ ?_<;>simp[aC]
theorem nt (s:Nat)(en:Nat->IP)(vs:Nat->L5)(t d t':Nat)(x:Int)(hx:x=(t':Int)):(aC s en vs t d).setIfInBounds 16 (J1 Kf x)=aC s en vs t' d:=by
 subst hx;simp[aC]
theorem fJ (s:Nat)(en:Nat->IP)(vs:Nat->L5)(t d d':Nat)(x:Int)(hx:x=(d':Int)):(aC s en vs t d).setIfInBounds 17 (J1 Kf x)=aC s en vs t d':=by
 subst hx;simp[aC]
theorem jB (h:∀j,j<5->(en j).key=(en' j).key/\(en j).last=(en' j).last/\vs j=vs' j):aC s en vs t d=aC s en' vs' t d:=by
 have h0:=h 0 (by omega);have h1:=h 1 (by omega);have h2:=h 2 (by omega);have h3:=h 3 (by omega);have h4:=h 4 (by omega);simp only[aC,h0,h1,h2,h3,h4]
theorem aY.ext (h:aY w b s en vs t d)(he:∀j,j<5->en j=en' j/\vs j=vs' j):aY w b s en' vs' t d:=by
 refine⟨?_,λi hi=>?_,λi j hi hj=>?_⟩
 ·rw[h.blk,jB (λj hj=>?_)];rw[(he j hj).1,(he j hj).2];exact⟨rfl,rfl,rfl⟩
 ·rw[<- (he i hi).1,<- (he i hi).2];exact h.row i hi
 ·rw[<- (he i hi).2,<- (he j hj).2];exact h.Ka i j hi hj
theorem aY.set {t':Nat}(h:aY w b s en vs t d)(j:Nat)(v:L5)(hc:(aC s en vs t d).setIfInBounds j v=aC s en' vs t' d')(hv:∀i,i<5->(en' i).IB=(en i).IB):aY (w.setCell ⟨b,j,IF⟩ v) b s en' vs t' d':=by
 refine⟨by rw[heap_set h.blk,hc],λi hi=>?_,h.Ka⟩;have hr:=h.row i hi;have hf:=ai hr h.blk (by decide);rw[hv i hi];refine⟨hr.1,?_⟩;rcases hr.2 with h0|⟨g,A2,A1,A0,h1,hg,h2⟩
 ·exact K0 h0
 ·refine LR ⟨g,A2,A1,A0,h1,?_,h2⟩;rw[av (λe=>hf (by rw[A0,e];rfl))];exact hg
theorem D9:(prog.info? 42).map (λi=>(i.zero,i.size,i.bytes))=I3 (I3 (.agg #[J1 Kf 0,J1 Kf 0,K2 Ly,ID ⟨#[]⟩,ID ⟨#[]⟩]),5,56):=by kernel_rfl
theorem nl (Y:LI)(v:L5)(l:List IZ)(x:IZ)(a1 a2:Int)(m:Bool)(s1 s2:ByteArray)(hx:eN x=[J1 Kf a1,J1 Kf a2,K2 m,ID s1,ID s2])(hr:Y.ownsRow 0 42 5 v l.length (jV l))(hl:l.length<1000000) :
 ∃gg cap w2,tN IR 26 26 (Y.alloc (Lz #[J1 Kf a1,J1 Kf a2,K2 m,ID s1,ID s2] 42)) v (K1 (I3 ⟨Y.heap.size,0,IF⟩) 1 1) /\
  (lG IR 26 26 (Y.alloc (Lz #[J1 Kf a1,J1 Kf a2,K2 m,ID s1,ID s2] 42)) v (K1 (I3 ⟨Y.heap.size,0,IF⟩) 1 1)).1=K1 (I3 ⟨gg,0,IF⟩) (l.length+1) cap /\
  (lG IR 26 26 (Y.alloc (Lz #[J1 Kf a1,J1 Kf a2,K2 m,ID s1,ID s2] 42)) v (K1 (I3 ⟨Y.heap.size,0,IF⟩) 1 1)).2=w2 /\
  w2.ownsRow 0 42 5 (K1 (I3 ⟨gg,0,IF⟩) (l.length+1) cap) (l.length+1) (jV (l++[x]))/\(v.ownBlock=I3 gg\/Y.heap.size<=gg)/\Off (λk=>v.ownBlock=I3 k) Y w2:=by
 obtain⟨i0,Ab,A4,A6,A7⟩:=info_parts D9;obtain⟨gg,cap,w2,A2,A0,A1,A5,A9⟩:=run_append_lies (P:=IR) (Y.alloc (Lz #[J1 Kf a1,J1 Kf a2,K2 m,ID s1,ID s2] 42)) 26 26 0 42 i0 _ 5 56 underlying26 Ab A4 A6 A7 rfl (by omega) v l.length (jV l) (World.ownsRow.alloc hr _)
  ⟨Y.heap.size,0,IF⟩ 1 1 [J1 Kf a1,J1 Kf a2,K2 m,ID s1,ID s2] (by rfl) (World.news_of_block (cs:=#[J1 Kf a1,J1 Kf a2,K2 m,ID s1,ID s2]) (t:=42) (fr:=(0,0)) (heap_alloc_new Y _)) (by simp[Value.oneCell'])
  (by omega) (by simp only[maxLen];omega) (by omega) (by simp) _ rfl
 obtain⟨Aa,A8,A3⟩:=nI A2;refine⟨gg,cap,w2,Aa,A8,A3,?_,?_,((Off.refl _ _).alloc _).grown A1 (λk hk=>K0 hk)⟩
 ·(have e1:jV l++[J1 Kf a1,J1 Kf a2,K2 m,ID s1,ID s2]=jV (l++[x]):=by simp[jV,hx]);rw[<-e1];exact A0
 ·rcases A5 with h1|h1
  ·exact K0 h1
  ·right;(have h2:gg=Y.heap.size+1:=by rw[h1];simp);omega
theorem aY.KH {Y w2:LI}(h:aY Y b s en vs t d)(i:Nat)(hi:i<5)(v:L5)(l:List IZ)(ho:Off (λk=>(vs i).ownBlock=I3 k) Y w2)(hr:w2.ownsRow 0 42 5 v l.length (jV l))(hg:∀g,v.ownBlock=I3 g->(vs i).ownBlock=I3 g\/Y.heap.size<=g) :
 aY (w2.setCell ⟨b,1+i*3+1,IF⟩ v) b s (λj=>if j=i then⟨(en i).key,(en i).last,l⟩ else en j) (λj=>if j=i then v else vs j) t d:=by
 have A5:=ai (h.row i hi) h.blk (by decide);have A2:w2.heap[b]?=I3 (Lz (aC s en vs t d) 31 (0,0)):=(ho.block b h.lt A5).trans h.blk;have A0:∀j,j<5->∀g,(vs j).ownBlock=I3 g->g<Y.heap.size:=λj hj g hg=>by obtain⟨A3,hc⟩:=dN (h.row j hj) hg;exact(gL hc)
 refine⟨?_,λj hj=>?_,λj k hj hk hjk g=>?_⟩
 ·rw[heap_set A2,qP _ _ _ _ _ _ i hi];rw[jB (λj hj=>?_)];by_cases e:j=i
  ·subst e;simp
  ·simp[e]
 ·by_cases e:j=i
  ·subst e;simp only[if_pos];refine⟨hr.1,?_⟩;rcases hr.2 with h0|⟨g,A6,A3,A4,h1,A1,h2⟩
   ·exact K0 h0
   ·refine LR ⟨g,A6,A3,A4,h1,?_,h2⟩;rw[av (aa A1 A2 (by decide))];exact A1
  ·simp only[if_neg e];have A8:=h.row j hj;refine⟨A8.1,?_⟩;rcases A8.2 with h0|⟨g,A6,A3,A4,h1,A1,h2⟩
   ·exact K0 h0
   ·refine LR ⟨g,A6,A3,A4,h1,?_,h2⟩;(have A7:(vs j).ownBlock=I3 g:=by rw[A4];rfl);rw[av (aa A1 h.blk (by decide)),ho.block g (A0 j hj g A7) (λe'=>h.Ka j i hj hi e g A7 e')];exact A1
 ·by_cases e1:j=i
  ·have e2:k≠i:=λe=>hjk (e1.trans e.symm);simp only[if_pos e1,if_neg e2];intro h1 h2;rcases hg g h1 with h3|h3
   ·exact h.Ka k i hk hi e2 g h2 h3
   ·have:=A0 k hk g h2;omega
  ·by_cases e2:k=i
   ·simp only[if_neg e1,if_pos e2];intro h1 h2;rcases hg g h2 with h3|h3
    ·exact h.Ka j i hj hi e1 g h1 h3
    ·have:=A0 j hj g h1;omega
   ·simp only[if_neg e1,if_neg e2];exact h.Ka j k hj hk hjk g
theorem J4.book {x:LI}(hS:J4 B w s n σ M)(h:aY w b s en vs t d)(hb:B b)(hv:∀i,i<5->∀g,(vs i).ownBlock=I3 g->B g)(ho:Off (λk=>k=b\/∃i,i<5/\(vs i).ownBlock=I3 k) w x):J4 B x s n σ M:=by
 refine⟨hS.env.off (ho.mono (λk hk=>?_)),hS.st.off ho (λk hk hk2=>?_),hS.own⟩
 ·rcases hk with rfl|⟨i,hi,hg⟩
  ·exact hb
  ·exact hv i hi k hg
 ·rcases hk2 with rfl|⟨i,hi,hg⟩
  ·exact(eT hS.st hk).1 h.blk
  ·obtain⟨A0,hc⟩:=dN (h.row i hi) hg;exact(eT hS.st hk).2 hc
def eV:List UInt8:=[68,69,76,69,84,69]
def getM:List UInt8:=[71,69,84]
theorem xH (h:aW key=Lq):∀c∈47::key,c≠13:=by
 intro c hc;rcases L2.1 hc with rfl|hc
 ·decide
 ·exact((da h).2.2 c hc).1
theorem ju (h:aW key=Lq)(hw:what.length<100):aZ (bp eB (47::key) [] what)=.ok (2,⟨1,key,0⟩,k0,what) :=
 Ov (by have:=(da h).2.1;rw[cQ];simp[eB];omega) (gU xT.1 xT.2 (xH h) (iB h)) (by simp) (by omega) rfl
theorem qj {line:List UInt8}{k:I9}(h:aW key=Lq)(hw:what.length<100)(hl:line≠[])(hn:line.length<1000)(Q3:∀c∈line,c≠13)(hk:fe k0 line=I3 k):aZ (bp eB (47::key) (line++fS) what)=.ok (2,⟨1,key,0⟩,k,what) :=
 Ov (by have:=(da h).2.1;rw[cQ];simp[eB,fS];omega) (wu xT.1 xT.2 (xH h) (iB h) hl Q3 hk) (by simp) (by omega) rfl
theorem kR (h:aW key=Lq):aZ (bp eV (47::key) [] [])=.ok (3,⟨1,key,0⟩,k0,[]) :=
 Ov (by have:=(da h).2.1;rw[cQ];simp[eV];omega) (gU xy.1 xy.2 (xH h) (iB h)) (by simp) (by simp) rfl
theorem Hz (h:aW key=Lq)(n:Nat):∀c∈47::(key++[63]++([118,61]++J0 n)),c≠13:=by
 intro c hc;simp only[L2,LO,L3,or_false] at hc;rcases hc with rfl|(hc|rfl)|(rfl|rfl)|hc
 ·decide
 ·exact((da h).2.2 c hc).1
 ·decide
 ·decide
 ·decide
 ·exact(lY n c hc).1
theorem lA (h:aW key=Lq)(n:Nat)(h0:0<n)(hn:n<1000000000):aZ (bp eV (47::(key++[63]++([118,61]++J0 n))) [] [])=.ok (3,⟨2,key,n⟩,k0,[]) :=
 Ov (by have:=(da h).2.1;have:=ec (n:=n) (k:=9) (by omega) (by omega);rw[cQ];simp[eV];omega) (gU xy.1 xy.2 (Hz h n) (AG h n h0 hn)) (by simp) (by simp) rfl
def iH (t:List UInt8):List UInt8:=[73,102,45,77,97,116,99,104,58,32]++(34::t++[34])
def rT:List UInt8:=[73,102,45,78,111,110,101,45,77,97,116,99,104,58,32,42]
theorem Es {t:List UInt8}(h:∀c∈t,c≠13/\c≠10):∀c∈iH t,c≠13:=by
 intro c hc;simp only[iH,LO,L2,L3,or_false] at hc;rcases hc with(rfl|rfl|rfl|rfl|rfl|rfl|rfl|rfl|rfl|rfl)|(rfl|hc)|rfl;all_goals first|decide|exact(h c hc).1
theorem lq (h:aW key=Lq)(hw:what.length<100):aZ (bp eB (47::key) (rT++fS) what)=.ok (2,⟨1,key,0⟩,⟨IF,I3 (Lq,[]),IF,IF⟩,what) :=
 qj h hw (by decide) (by decide) (by decide) zK
theorem jM {t:List UInt8}(h:aW key=Lq)(hw:what.length<100)(ht:dT t=Lq)(h2:∀c∈t,c≠13/\c≠10)(hl:t.length<100):aZ (bp eB (47::key) (iH t++fS) what)=.ok (2,⟨1,key,0⟩,⟨I3 (Ly,[(Ly,t)]),IF,IF,IF⟩,what) :=
 qj h hw (by simp[iH]) (by simp[iH];omega) (Es h2) (vO ht h2)
theorem lZ (v:Option IZ):aJ Lq ⟨IF,I3 (Lq,[]),IF,IF⟩ v=if v.isSome then 412 else 0:=by
 cases v<;>simp[aJ,Jd.jd,wK,vJ]
theorem jR (t:List UInt8)(v:Option IZ):aJ Lq ⟨I3 (Ly,[(Ly,t)]),IF,IF,IF⟩ v=if v.isSome/\kZ v=t then 0 else 412:=by
 cases v with
 | none=>simp[aJ,Jd.jd,wK]
 | some v =>
   by_cases h:kZ (I3 v)=t
   ·simp[aJ,Jd.jd,wK,vJ,uq,wB,h]
   ·simp[aJ,Jd.jd,wK,vJ,uq,wB,h];rw[if_neg (λe=>h (Eq.symm e))];rfl
theorem Dq {l:List IP}(hr:cG l)(E:IP)(i:Nat)(hi:i<5)(he:E.key=IW i)(σ':St)(hs:σ'.Iz=bT l E)(hl:σ.Iz=l)(j:Nat)(hj:j<5):IE σ' j=if j=i then E else IE σ j:=by
 unfold IE;rw[hs,ly hr,he,hl];by_cases e:j=i
 ·rw[if_pos (by rw[e]),if_pos e]
 ·rw[if_neg (λh=>e (Dk j hj i hi h.symm)),if_neg e]
open Go.RowKit
attribute [local go_sem ↓] eP
attribute [local go_sem] ff
theorem mi (i:Nat)(hi:i<5)(w:LI)(h:Bk B w b s n σ M vs d c)(hc:c<1000)
 (a:L9)(ha:bF σ (bp eV (47::IW i) [] [])=(a,σ))(hcs:((ax (IE σ i)).isSome=Ly/\a.told=404)\/((ax (IE σ i)).isSome=Lq/\20<=(IE σ i).IB.length/\a.told=507)) :
 Ln IR 43 #[Kx (I3 ⟨b,0,IF⟩),J1 Kf i] w λe w'=>e=Ks (K2 Lq)/\(∃M',Bk B w' b s n σ M' vs d (c+1))/\Off B w w':=by
 have⟨k1,k2,k3⟩:=h.bk.ck i hi;have⟨c0,c16,c17⟩:=h.bk.c0;have Ai:=h.bk.lt;have A5:=h.facts i;rw[A5.2.2.2] at k1;have Af:=(da (db i)).2.1;have A8:jX (bp eV (47::IW i) [] []):=⟨_,_,_,_,kR (db i),(by decide:1≠0),(by decide:1≠3),rfl,rfl⟩;obtain⟨K,hK⟩:=IG (IW i);rw[hK] at k1 ha Af A8;have Ag:=IA A8;clear A8;have HB:=IA h;have HA:=IA ha;have A7:=du b (1+i*3) (vs i) (IE σ i) w k2 (h.bk.row i hi) (by have:=A5.1;omega);obtain⟨q0,q1,q2,q3,q4,hq⟩:=cX (ax (IE σ i));obtain⟨tB,Ac⟩:=IG ((ax (IE σ i)).isSome);rw[hq,Ac] at A7;rw[Ac] at hcs;have HQ:=IA A7;clear h ha A5 A7;go_enter func43,ntmps43;go_wp2_with fail;refine Jx HQ.out ?_;rintro e w1 ⟨rfl,Ae⟩;go_wp2_with fail;obtain⟨X,hX⟩:=exj (w1.alloc (Lz #[J1 Kf q0,J1 Kf q1,K2 q2,ID q3,ID q4] 42));rw[<-hX];have A9:Below w.heap.size w X:=by rw[hX];exact Ae.alloc Ae.size _
 clear hX;have HX:=HB.out.below A9;have x1:=(HX.bk.ck i hi).1;have x2:=HX.bk.c0.1;rw[HX.facts i |>.2.2.2,hK] at x1;have Ad:Hid (∀y,Below X.heap.size X y->Ln IR 11 #[Kx (I3 ⟨s,0,IF⟩),ID ⟨(bp eV (47::K) [] []).toArray⟩] y λe w'=>e=Ks (ID ⟨(aL a.told a.IQ a.body).toArray⟩)/\(aL a.told a.IQ a.body).length<=1000000000/\∃M',J4 B w' s n σ M'/\Off (M.own s n) y w'/\Off B y w') :=
  λy hy=>jU _ (HX.Js.below hy) (by have:=HB.out.lg;omega) (by rw[cQ];simp[eV];omega) HA.out Ag.out
 have hA:∀w:LI,(LL .add ⟨#[47]⟩ ⟨K.toArray⟩).run IR w=.ok (ID ⟨(47::K).toArray⟩) w:=by have:=rX ⟨#[47]⟩ ⟨K.toArray⟩ (by simp[Lo];omega);rw[show(⟨#[47]⟩:ByteArray)++⟨K.toArray⟩=⟨(47::K).toArray⟩ from cZ [47] K] at this;exact this
 have HX:=IA HX;go_region_held3 (λy=>y.cell? ⟨b,0,IF⟩=I3 (Kx (I3 ⟨s,0,IF⟩))/\y.cell? ⟨b,1+i*3,IF⟩=I3 (ID ⟨K.toArray⟩)) (first|assumption|go_keep) (first
  | (go_at_call 12
     refine(dw eV (47::K) [] [] _ (by decide) (by simp;omega) (by decide) (by decide)).mono ?_
     rintro e w2 ⟨rfl,rfl⟩)
  | (go_at_call 11
     refine Jx (Ad.out _ (Below.refl _ _).drew) ?_;rintro e w3 ⟨rfl,A4,M3,Ab,A6,Aa⟩;have y3:w3.cell? ⟨b,0,IF⟩=I3 (Kx (I3 ⟨s,0,IF⟩))/\w3.cell? ⟨b,1+i*3,IF⟩=I3 (ID ⟨K.toArray⟩):=by
      have A2:=(HX.out.below (Below.refl _ _).drew).bk.did (HX.out.below (Below.refl _ _).drew).Js.st A6;refine⟨A2.c0.1,?_⟩
      rw[(A2.ck i hi).1,(HX.out.facts i).2.2.2,hK]))
 have A2:=(HX.out.below (Below.refl _ _).drew).bk.did (HX.out.below (Below.refl _ _).drew).Js.st A6;have z2:=(A2.ck i hi).2.1;have HF:Hid (∃M',Bk B w3 b s n σ M' vs d (c+1)):=⟨M3,(⟨Ab,A2,HB.out.bB,HB.out.vB,HB.out.ks,HB.out.tm,HB.out.lg,HB.out.ls,HB.out.dn⟩:Bk B w3 b s n σ M3 vs d c).more⟩;have HO:Hid (Off B w w3):=((Off.of_below A9).trans (Off.of_below (Below.refl _ _).drew)).trans Aa;have A1:=A2.row i hi;clear A2 Ab A6 Aa Ad HX;rcases hcs with⟨hT,ht⟩|⟨hT,Al,ht⟩
 ·subst hT;have A0:Ln IR 14 #[ID ⟨(aL a.told a.IQ a.body).toArray⟩] w3 λe w'=>e=Ks (J1 Kf 404)/\w'=w3 :=
   (dJ a.told a.IQ a.body w3 (by omega) (by omega) A4).mono (λe w' h=>by rw[ht] at h;exact h)
  have A3:=IA A0;clear A0 A1 ht A4;generalize (aL a.told a.IQ a.body)=T at A3 ⊢;go_wp2_with (go_at_call 14;refine Jx A3.out ?_;rintro e w4 ⟨rfl,rfl⟩);go_ret;exact⟨rfl,HF.out,HO.out⟩
 ·subst hT;have A0:Ln IR 14 #[ID ⟨(aL a.told a.IQ a.body).toArray⟩] w3 λe w'=>e=Ks (J1 Kf 507)/\w'=w3 :=
   (dJ a.told a.IQ a.body w3 (by omega) (by omega) A4).mono (λe w' h=>by rw[ht] at h;exact h)
  have A3:=IA A0;obtain⟨x,cp,hx⟩:∃x cp,vs i=K1 x (IE σ i).IB.length cp:=by
   rcases A1.2 with⟨e,h0⟩|⟨g,Aj,Ak,e,_⟩
   ·exact⟨_,_,by rw[e,h0]⟩
   ·exact⟨_,_,e⟩
  rw[hx] at z2;(have Ah:(20:Int)<=((IE σ i).IB.length:Int):=by omega);clear A0 A1 ht A4;generalize (aL a.told a.IQ a.body)=T at A3 ⊢;go_wp2_with (go_at_call 14;refine Jx A3.out ?_;rintro e w4 ⟨rfl,rfl⟩);go_ret;exact⟨rfl,HF.out,HO.out⟩
theorem yE (i:Nat)(hi:i<5)(w:LI)(h:Bk B w b s n σ M vs d c)(hc:c<1000)(h20:(IE σ i).IB.length<20)(Qr:(ax (IE σ i)).isSome=Lq)
 (ha:bF σ (bp eV (47::IW i) [] [])=(⟨204,[⟨eF,J0 ((IE σ i).last+1)⟩],[]⟩,σ')) :
 Ln IR 43 #[Kx (I3 ⟨b,0,IF⟩),J1 Kf i] w λe w'=>e=Ks (K2 Lq)/\(∃M' vs',J4 B w' s n σ' M'/\aY w' b s (λj=>if j=i then⟨IW i,(IE σ i).last+1,(IE σ i).IB++[⟨(IE σ i).last+1,σ.time,Lq,[]⟩]⟩ else IE σ j) vs' σ.time (d+1)/\∀j,j<5->∀g,(vs' j).ownBlock=I3 g->B g)/\Off B w w':=by
 have⟨k1,k2,k3⟩:=h.bk.ck i hi;have⟨c0,c16,c17⟩:=h.bk.c0;have By:=h.bk.lt;have Ay:=h.facts i;rw[Ay.2.2.2] at k1;have Bv:=(da (db i)).2.1;have Aa:jX (bp eV (47::IW i) [] []):=⟨_,_,_,_,kR (db i),(by decide:1≠0),(by decide:1≠3),rfl,rfl⟩;obtain⟨K,hK⟩:=IG (IW i);rw[hK] at k1 ha Bv Aa;have Bq:=IA Aa;clear Aa;obtain⟨A0,A1⟩:∃x:Nat,204=x:=⟨_,rfl⟩;obtain⟨A5,A6⟩:=IG (([⟨eF,J0 ((IE σ i).last+1)⟩]:List J9));rw[A1,A6] at ha;obtain⟨L,hL⟩:=IG ((IE σ i).last);rw[hL] at k3;have Bz:L<=c:=hL ▸ h.ls i;have Bw:=h.dn;have HB:=IA h;have HA:=IA ha;have B5:=du b (1+i*3) (vs i) (IE σ i) w k2 (h.bk.row i hi) (by have:=Ay.1;omega);obtain⟨q0,q1,q2,q3,q4,hq⟩:=cX (ax (IE σ i));rw[hq,Qr] at B5;have HQ:=IA B5;clear h ha Ay B5;go_enter func43,ntmps43;go_wp2_with fail;refine Jx HQ.out ?_;rintro e w1 ⟨rfl,Bj⟩;go_wp2_with fail;obtain⟨X,hX⟩:=exj (w1.alloc (Lz #[J1 Kf q0,J1 Kf q1,K2 q2,ID q3,ID q4] 42));rw[<-hX];have Bf:Below w.heap.size w X:=by rw[hX];exact Bj.alloc Bj.size _
 clear hX;have HX:=HB.out.below Bf;have x1:=(HX.bk.ck i hi).1;have x2:=HX.bk.c0.1;rw[HX.facts i |>.2.2.2,hK] at x1;have Be:Hid (∀y,Below X.heap.size X y->Ln IR 11 #[Kx (I3 ⟨s,0,IF⟩),ID ⟨(bp eV (47::K) [] []).toArray⟩] y λe w'=>e=Ks (ID ⟨(aL A0 A5 []).toArray⟩)/\(aL A0 A5 []).length<=1000000000/\∃M',J4 B w' s n σ' M'/\Off (M.own s n) y w'/\Off B y w') :=
  λy hy=>jU _ (HX.Js.below hy) (by have:=HB.out.lg;omega) (by rw[cQ];simp[eV];omega) HA.out Bq.out
 have hA:∀w:LI,(LL .add ⟨#[47]⟩ ⟨K.toArray⟩).run IR w=.ok (ID ⟨(47::K).toArray⟩) w:=by have:=rX ⟨#[47]⟩ ⟨K.toArray⟩ (by simp[Lo];omega);rw[show(⟨#[47]⟩:ByteArray)++⟨K.toArray⟩=⟨(47::K).toArray⟩ from cZ [47] K] at this;exact this
 have HX:=IA HX;go_region_held3 (λy=>y.cell? ⟨b,0,IF⟩=I3 (Kx (I3 ⟨s,0,IF⟩))/\y.cell? ⟨b,1+i*3,IF⟩=I3 (ID ⟨K.toArray⟩)) (first|assumption|go_keep) (first
  | (go_at_call 12
     refine(dw eV (47::K) [] [] _ (by decide) (by simp;omega) (by decide) (by decide)).mono ?_
     rintro e w2 ⟨rfl,rfl⟩)
  | (go_at_call 11
     refine Jx (Be.out _ (Below.refl _ _).drew) ?_;rintro e w3 ⟨rfl,B2,M3,A4,B4,Bg⟩;have y3:w3.cell? ⟨b,0,IF⟩=I3 (Kx (I3 ⟨s,0,IF⟩))/\w3.cell? ⟨b,1+i*3,IF⟩=I3 (ID ⟨K.toArray⟩):=by
      have A3:=(HX.out.below (Below.refl _ _).drew).bk.did (HX.out.below (Below.refl _ _).drew).Js.st B4;refine⟨A3.c0.1,?_⟩
      rw[(A3.ck i hi).1,(HX.out.facts i).2.2.2,hK]))
 have A3:=(HX.out.below (Below.refl _ _).drew).bk.did (HX.out.below (Below.refl _ _).drew).Js.st B4;have z2:=(A3.ck i hi).2.1;have z3:=(A3.ck i hi).2.2;rw[hL] at z3;have Bl:=A3.c0.2.1;have Bm:=A3.c0.2.2;have zf:=A3.fz;have B7:=A3.lt;have Af:=A3.row i hi;have A9:Ln IR 14 #[ID ⟨(aL A0 A5 []).toArray⟩] w3 λe w'=>e=Ks (J1 Kf A0)/\w'=w3:=dJ A0 A5 [] w3 (by omega) (by omega) B2;have Bi:=IA A9;obtain⟨x,cp,hx⟩:∃x cp,vs i=K1 x (IE σ i).IB.length cp:=by
  rcases Af.2 with⟨e,h0⟩|⟨g,A8,Bx,e,_⟩
  ·exact⟨_,_,by rw[e,h0]⟩
  ·exact⟨_,_,e⟩
 have Ba:=z2;rw[hx] at Ba;have Bt:¬ (20:Int)<=((IE σ i).IB.length:Int):=by omega
 have Bh:=IA A3;have Bd:=IA A4;have Bn:=IA Bg;have Br:=IA Af;have Bo:=IA A1;have Bu:=IA B2;have Bs:=IA hL;have Hx:=IA hx;clear A9 A3 A4 Bg B4 Be HX Af A1 B2 hL hx z2;obtain⟨T,hT⟩:=IG (aL A0 A5 []);rw[hT] at Bi ⊢;have HT:=IA hT;clear hT;go_wp2_with (go_at_call 14;refine Jx Bi.out ?_;rintro e w4 ⟨rfl,rfl⟩);have A7:aY ((w4.setCell ⟨b,1+i*3+2,IF⟩ (J1 Kf ((L:Int)+1))).setCell ⟨b,17,IF⟩ (J1 Kf ((d:Int)+1))) b s (λj=>if j=i then⟨(IE σ j).key,L+1,(IE σ j).IB⟩ else IE σ j) vs σ.time (d+1) :=
  (Bh.out.set _ _ (iW _ _ _ _ _ (L+1) _ (by omega) i hi) (λj _=>by split<;>rfl)).set _ _ (fJ _ _ _ _ _ (d+1) _ (by omega)) (λ_ _=>rfl)
 have Ap:Hid (Off (λk=>k=b\/∃i,i<5/\(vs i).ownBlock=I3 k) w4 ((w4.setCell ⟨b,1+i*3+2,IF⟩ (J1 Kf ((L:Int)+1))).setCell ⟨b,17,IF⟩ (J1 Kf ((d:Int)+1)))) :=
  ((Off.refl _ _).set b _ _ (K0 (K0 rfl))).set b _ _ (K0 (K0 rfl))
 obtain⟨Y,hY⟩:=exj ((w4.setCell ⟨b,1+i*3+2,IF⟩ (J1 Kf ((L:Int)+1))).setCell ⟨b,17,IF⟩ (J1 Kf ((d:Int)+1)));rw[<-hY] at A7 Ap ⊢;clear hY Ba z3 Bl Bm zf B7;have Ad:=A7.below (Below.refl _ _).drew;have At:=Ad.row i hi;simp only[if_pos] at At;obtain⟨gg,A8,w2,Aa,Az,Aw,Am,B3,Ah⟩:=nl Y.drew (vs i) (IE σ i).IB ⟨L+1,σ.time,Lq,[]⟩ ((L:Int)+1) σ.time Lq ⟨#[]⟩ ⟨#[]⟩ (by simp[eN,nZ]) At (by omega);rw[show Y.drew.heap.size=Y.heap.size from rfl,show Y.drew.alloc (Lz #[J1 Kf ((L:Int)+1),J1 Kf (σ.time:Int),K2 Lq,ID ⟨#[]⟩,ID ⟨#[]⟩] 42)=(Y.alloc (Lz #[J1 Kf ((L:Int)+1),J1 Kf (σ.time:Int),K2 Lq,ID ⟨#[]⟩,ID ⟨#[]⟩] 42)).drew from rfl] at Aa Az Aw;have y1:=(A7.ck i hi).2.1;have y2:Y.cell? ⟨b,1+i*3+2,IF⟩=I3 (J1 Kf ((L:Int)+1)):=by have:=(A7.ck i hi).2.2;simp only[if_pos] at this;simpa using this
 have Av:=A7.c0.2.1;have Bp:=A7.lt;have Ag:=ai At Ad.blk (by decide);have An:=Ad.below ((Below.refl _ _).alloc (Nat.le_refl _) (Lz #[J1 Kf ((L:Int)+1),J1 Kf (σ.time:Int),K2 Lq,ID ⟨#[]⟩,ID ⟨#[]⟩] 42));have a1:=(An.ck i hi).2.1;have a2:(Y.drew.alloc (Lz #[J1 Kf ((L:Int)+1),J1 Kf (σ.time:Int),K2 Lq,ID ⟨#[]⟩,ID ⟨#[]⟩] 42)).cell? ⟨b,1+i*3+2,IF⟩=I3 (J1 Kf ((L:Int)+1)):=by have:=(An.ck i hi).2.2;simp only[if_pos] at this;simpa using this
 have Ax:=An.c0.2.1;have Ak:w2.heap[b]?=_:=(Ah.block b Ad.lt Ag).trans Ad.blk;have e1:w2.cell? ⟨b,1+i*3+1,IF⟩=I3 (vs i):=by rw[<-y1];simp only[LN];rw[Ak,A7.blk]
 have e2:w2.cell? ⟨b,1+i*3+2,IF⟩=I3 (J1 Kf ((L:Int)+1)):=by rw[<-y2];simp only[LN];rw[Ak,A7.blk]
 have B1:w2.cell? ⟨b,16,IF⟩=I3 (J1 Kf (σ.time:Int)):=by rw[<-Av];simp only[LN];rw[Ak,A7.blk]
 have ef:w2.frozen? ⟨b,1+i*3+1,IF⟩=Ly:=by simp[Mp,Ak]
 have HW:=Ad.KH i hi (K1 (I3 ⟨gg,0,IF⟩) ((IE σ i).IB.length+1) A8) ((IE σ i).IB++[⟨L+1,σ.time,Lq,[]⟩]) Ah (by rw[LS];exact Am) (λg hg=>by cases hg;exact B3);have B0:(w2.setCell ⟨b,1+i*3+1,IF⟩ (K1 (I3 ⟨gg,0,IF⟩) ((IE σ i).IB.length+1) A8)).cell? ⟨b,1+i*3+2,IF⟩=I3 (J1 Kf ((L:Int)+1)):=by have:=(HW.ck i hi).2.2;simp only[if_pos] at this;simpa using this
 have Ac:=HW.c0.2.1;have Aj:Hid (J4 B (w2.setCell ⟨b,1+i*3+1,IF⟩ (K1 (I3 ⟨gg,0,IF⟩) ((IE σ i).IB.length+1) A8)) s n σ' M3) :=
  Bd.out.book Bh.out HB.out.bB HB.out.vB (((Ap.out.trans (Off.of_below (Below.refl _ _).drew)).trans (Ah.mono (λk hk=>LR ⟨i,hi,hk⟩))).set b _ _ (K0 (K0 rfl)))
 have Ao:Hid (Off B w (w2.setCell ⟨b,1+i*3+1,IF⟩ (K1 (I3 ⟨gg,0,IF⟩) ((IE σ i).IB.length+1) A8))):=by
  have Bb:=HB.out.bB;refine((((((Off.of_below Bf).trans (Off.of_below (Below.refl _ _).drew)).trans Bn.out).trans (Ap.out.mono (λk hk=>?_))).trans (Off.of_below (Below.refl _ _).drew)).trans (Ah.mono (λk hk=>HB.out.vB i hi k hk))).set b _ _ (K0 Bb);rcases hk with rfl|⟨j,hj,hg⟩
  ·exact Bb
  ·exact HB.out.vB j hj k hg
 have Ar:(IE σ i).last=L:=Bs.out;have Au:Hid (∃vs',aY (w2.setCell ⟨b,1+i*3+1,IF⟩ (K1 (I3 ⟨gg,0,IF⟩) ((IE σ i).IB.length+1) A8)) b s (λj=>if j=i then⟨IW i,(IE σ i).last+1,(IE σ i).IB++[⟨(IE σ i).last+1,σ.time,Lq,[]⟩]⟩ else IE σ j) vs' σ.time (d+1)/\∀j,j<5->∀g,(vs' j).ownBlock=I3 g->B g):=by
  refine⟨_,HW.ext (λj hj=>⟨?_,rfl⟩),λj hj g=>?_⟩
  ·by_cases e:j=i
   ·subst e;simp only[if_pos,Ar];rw[(HB.out.facts j).2.2.2]
   ·simp only[if_neg e]
  ·by_cases e:j=i
   ·subst e;simp only[if_pos];intro hg;cases hg;rcases B3 with h1|h1
    ·exact HB.out.vB j hj _ h1
    ·have h2:=Bd.out.env.sz;have h3:=Ap.out.size;have h4:Y.heap.size<=gg:=h1;exact h2 gg (by omega)
   ·simp only[if_neg e];exact HB.out.vB j hj g
 have B6:Hid (∀y,Ln IR 16 #[ID ⟨T.toArray⟩,ID ⟨#[86,101,114,115,105,111,110]⟩] y λe w'=>e=Ks (ID ⟨(J0 (L+1)).toArray⟩)/\w'=y):=by intro y;have h3:=Bu.out;rw[<-A6,Ar] at h3;have:=kJ A0 [] [] eF (J0 (L+1)) [] y (by simp[kK]) (by simp) (by decide) h3;rw[<-HT.out,<-A6,Ar];exact this
 have Ai:Hid (∀y,y=w2.setCell ⟨b,1+i*3+1,IF⟩ (K1 (I3 ⟨gg,0,IF⟩) ((IE σ i).IB.length+1) A8)->Ln IR 13 #[J1 Kf ((L:Int)+1)] y.drew λe w'=>e=Ks (ID ⟨(J0 (L+1)).toArray⟩)/\Below y.drew.heap.size y.drew w'):=by rintro y rfl;have:=fI ((L:Int)+1) (w2.setCell ⟨b,1+i*3+1,IF⟩ (K1 (I3 ⟨gg,0,IF⟩) ((IE σ i).IB.length+1) A8)).drew (by omega) (by omega) (Aj.out.env.tb.below (Below.refl _ _).drew).b;rw[show((L:Int)+1).toNat=L+1 by omega] at this;exact this
 have As:=And.intro a2 Ax;have Aq:=And.intro e2 B1;have A4:=And.intro B0 Ac;have A1:(A0:Int)=204:=by have:=Bo.out;omega
 obtain⟨dg,Bc⟩:=IG ((⟨(J0 (L+1)).toArray⟩:ByteArray));rw[Bc] at Ai B6;clear Bc;clear Ar A7 Ad At An HW Am B3 Ah Ak k1 k2 k3 c0 c16 c17 x1 x2 hA;refine L4 (S:=(λy=>y.cell? ⟨b,1+i*3+2,IF⟩=I3 (J1 Kf ((L:Int)+1))/\y.cell? ⟨b,16,IF⟩=I3 (J1 Kf (σ.time:Int)))) (by kernel_rfl) ⟨y2,Av⟩ (λhHeld=>?_);refine IJ 0 hHeld ?_;try simp only[IH]
 refine IJ 1 hHeld ?_;try simp only[IH]
 refine IJ 2 hHeld ?_;try simp only[IH]
 refine IJ 3 hHeld ?_;try simp only[IH]
 refine IJ 5 hHeld ?_;try simp only[IH]
 refine IJ 6 hHeld ?_;try simp only[IH]
 refine IJ 7 hHeld ?_;try simp only[IH]
 refine IJ 8 hHeld ?_;try simp only[IH]
 refine IJ 9 hHeld ?_;try simp only[IH]
 refine IJ 10 hHeld ?_;try simp only[IH]
 refine IJ 11 hHeld ?_;try simp only[IH]
 refine IJ 12 hHeld ?_;try simp only[IH]
 refine IJ 13 hHeld ?_;try simp only[IH]
 refine Mn (rs:=[4,14]) (by kernel_rfl) (by simp) ?_;refine Lw rfl (λK hK=>?_) (Lw rfl (λK hK=>?_) Mb)
 ·go_simp;refine hK.out _ _ hHeld (λ_=>?_);clear hK K;(try simp only[IH]);refine I6 14 (λK hK=>?_);go_simp;refine hK.out _ _ As (λJj=>?_);clear hK K;(try simp only[IH]);refine I6 15 (λK hK=>?_);go_simp;refine hK.out _ _ Aq (λII=>?_);clear hK K;(try simp only[IH]);refine IJ 16 II ?_;(try simp only[IH]);refine IJ 17 II ?_;(try simp only[IH]);refine I6 18 (λK hK=>?_);go_simp;refine hK.out _ _ A4 (λI8=>?_);clear hK K;(try simp only[IH]);refine L1 (by kernel_rfl) ?_ _;obtain⟨W5,Al⟩:=exj (w2.setCell ⟨b,1+i*3+1,IF⟩ (K1 (I3 ⟨gg,0,IF⟩) ((IE σ i).IB.length+1) A8));rw[<-Al] at Aj Ao Au Ai A4 ⊢;have g2:=A4.1;have Ae:b<W5.heap.size:=bj g2;clear Al Aa Az Aw e1 e2 B1 ef As Aq A4 B0 Ac y1 y2 Av a1 a2 Ax Jj II I8 hHeld;go_wp2_with fail;go_region_held3 (λy=>y.cell? ⟨b,1+i*3+2,IF⟩=I3 (J1 Kf ((L:Int)+1))) (first|assumption|go_keep) (first
   | (go_at_call 16
      refine Jx (B6.out _) ?_
      rintro e w7 ⟨rfl,rfl⟩)
   | (go_at_call 13
      refine Jx (Ai.out _ rfl) ?_;rintro e w7 ⟨rfl,A2⟩
      have g7:w7.cell? ⟨b,1+i*3+2,IF⟩=I3 (J1 Kf ((L:Int)+1)):=(A2.cell (p:=⟨b,1+i*3+2,IF⟩) Ae).trans g2))
  go_wp2;go_ret;have Ab:Below W5.heap.size W5 w7:=⟨A2.os,A2.tape,A2.output,A2.size,A2.block⟩;obtain⟨vs',B9,B8⟩:=Au.out;exact⟨rfl,⟨M3,vs',Aj.out.below Ab,B9.below Ab,B8⟩,Ao.out.trans (Off.of_below Ab)⟩
 ·go_simp;refine hK.out _ _ As (λJj=>?_);clear hK K;(try simp only[IH]);refine I6 4 (λK hK=>?_);go_simp;refine hK.out _ _ Jj (λ_=>?_);clear hK K;(try simp only[IH]);refine I6 15 (λK hK=>?_);go_simp;refine hK.out _ _ Aq (λII=>?_);clear hK K;(try simp only[IH]);refine IJ 16 II ?_;(try simp only[IH]);refine IJ 17 II ?_;(try simp only[IH]);refine I6 18 (λK hK=>?_);go_simp;refine hK.out _ _ A4 (λI8=>?_);clear hK K;(try simp only[IH]);refine L1 (by kernel_rfl) ?_ _;obtain⟨W5,Al⟩:=exj (w2.setCell ⟨b,1+i*3+1,IF⟩ (K1 (I3 ⟨gg,0,IF⟩) ((IE σ i).IB.length+1) A8));rw[<-Al] at Aj Ao Au Ai A4 ⊢;have g2:=A4.1;have Ae:b<W5.heap.size:=bj g2;clear Al Aa Az Aw e1 e2 B1 ef As Aq A4 B0 Ac y1 y2 Av a1 a2 Ax Jj II I8 hHeld;go_wp2_with fail;go_region_held3 (λy=>y.cell? ⟨b,1+i*3+2,IF⟩=I3 (J1 Kf ((L:Int)+1))) (first|assumption|go_keep) (first
   | (go_at_call 16
      refine Jx (B6.out _) ?_
      rintro e w7 ⟨rfl,rfl⟩)
   | (go_at_call 13
      refine Jx (Ai.out _ rfl) ?_;rintro e w7 ⟨rfl,A2⟩
      have g7:w7.cell? ⟨b,1+i*3+2,IF⟩=I3 (J1 Kf ((L:Int)+1)):=(A2.cell (p:=⟨b,1+i*3+2,IF⟩) Ae).trans g2))
  go_wp2;go_ret;have Ab:Below W5.heap.size W5 w7:=⟨A2.os,A2.tape,A2.output,A2.size,A2.block⟩;obtain⟨vs',B9,B8⟩:=Au.out;exact⟨rfl,⟨M3,vs',Aj.out.below Ab,B9.below Ab,B8⟩,Ao.out.trans (Off.of_below Ab)⟩
open Go.RowKit
attribute [local go_sem ↓] eP
attribute [local go_sem] ff
theorem Br (i:Nat)(hi:i<5)(fields what:List UInt8)(w:LI)(h:Bk B w b s n σ M vs d c)(hc:c<1000)(hf:fields.length<1000)(hw:what.length<100)(h20:(IE σ i).IB.length<20)
 (hok:jX (bp eB (47::IW i) fields what))
 (ha:bF σ (bp eB (47::IW i) fields what)=(⟨if(ax (IE σ i)).isSome then 200 else 201,[⟨mP,bX what⟩,⟨eF,J0 ((IE σ i).last+1)⟩],[]⟩,σ')) :
 Ln IR 41 #[Kx (I3 ⟨b,0,IF⟩),J1 Kf i,ID ⟨fields.toArray⟩,ID ⟨what.toArray⟩,K2 Lq] w λe w'=>e=Ks (K2 Lq)/\(∃M' vs',J4 B w' s n σ' M'/\aY w' b s (λj=>if j=i then⟨IW i,(IE σ i).last+1,(IE σ i).IB++[⟨(IE σ i).last+1,σ.time,Ly,what⟩]⟩ else IE σ j) vs' σ.time (d+1)/\∀j,j<5->∀g,(vs' j).ownBlock=I3 g->B g)/\Off B w w':=by
 have⟨k1,k2,k3⟩:=h.bk.ck i hi;have⟨c0,c16,c17⟩:=h.bk.c0;have C5:=h.bk.lt;have B2:=h.facts i;rw[B2.2.2.2] at k1;have C0:=(da (db i)).2.1;obtain⟨K,hK⟩:=IG (IW i);rw[hK] at k1 ha C0 hok;obtain⟨tB,B3⟩:=IG ((ax (IE σ i)).isSome);obtain⟨A2,A0⟩:∃x:Nat,(if tB then 200 else 201)=x:=⟨_,rfl⟩;obtain⟨A7,A3⟩:=IG (([⟨mP,bX what⟩,⟨eF,J0 ((IE σ i).last+1)⟩]:List J9));rw[B3,A0,A3] at ha;obtain⟨L,hL⟩:=IG ((IE σ i).last);rw[hL] at k3;have C6:L<=c:=hL ▸ h.ls i;have C2:=h.dn;have HB:=IA h;have HA:=IA ha;have Bv:=IA hok;clear hok;have Ba:=du b (1+i*3) (vs i) (IE σ i) w k2 (h.bk.row i hi) (by have:=B2.1;omega);obtain⟨q0,q1,q2,q3,q4,hq⟩:=cX (ax (IE σ i));rw[hq,B3] at Ba;have HQ:=IA Ba;clear h ha B2 Ba;go_enter func41,ntmps41;go_wp2_with fail;refine Jx HQ.out ?_;rintro e w1 ⟨rfl,Bo⟩;go_wp2_with fail;obtain⟨X,hX⟩:=exj (w1.alloc (Lz #[J1 Kf q0,J1 Kf q1,K2 q2,ID q3,ID q4] 42));rw[<-hX];have Bh:Below w.heap.size w X:=by rw[hX];exact Bo.alloc Bo.size _
 clear hX;have HX:=HB.out.below Bh;have x1:=(HX.bk.ck i hi).1;have x2:=HX.bk.c0.1;rw[HX.facts i |>.2.2.2,hK] at x1;have Bg:Hid (∀y,Below X.heap.size X y->Ln IR 11 #[Kx (I3 ⟨s,0,IF⟩),ID ⟨(bp eB (47::K) fields what).toArray⟩] y λe w'=>e=Ks (ID ⟨(aL A2 A7 []).toArray⟩)/\(aL A2 A7 []).length<=1000000000/\∃M',J4 B w' s n σ' M'/\Off (M.own s n) y w'/\Off B y w') :=
  λy hy=>jU _ (HX.Js.below hy) (by have:=HB.out.lg;omega) (by rw[cQ];simp[eB];omega) HA.out Bv.out
 have hA:∀w:LI,(LL .add ⟨#[47]⟩ ⟨K.toArray⟩).run IR w=.ok (ID ⟨(47::K).toArray⟩) w:=by have:=rX ⟨#[47]⟩ ⟨K.toArray⟩ (by simp[Lo];omega);rw[show(⟨#[47]⟩:ByteArray)++⟨K.toArray⟩=⟨(47::K).toArray⟩ from cZ [47] K] at this;exact this
 have HX:=IA HX;go_region_held3 (λy=>y.cell? ⟨b,0,IF⟩=I3 (Kx (I3 ⟨s,0,IF⟩))/\y.cell? ⟨b,1+i*3,IF⟩=I3 (ID ⟨K.toArray⟩)) (first|assumption|go_keep) (first
  | (go_at_call 12
     refine(dw eB (47::K) fields what _ (by decide) (by simp;omega) (by omega) (by omega)).mono ?_
     rintro e w2 ⟨rfl,rfl⟩)
  | (go_at_call 11
     refine Jx (Bg.out _ (Below.refl _ _).drew) ?_;rintro e w3 ⟨rfl,B5,M3,A4,B9,Bi⟩;have y3:w3.cell? ⟨b,0,IF⟩=I3 (Kx (I3 ⟨s,0,IF⟩))/\w3.cell? ⟨b,1+i*3,IF⟩=I3 (ID ⟨K.toArray⟩):=by
      have A5:=(HX.out.below (Below.refl _ _).drew).bk.did (HX.out.below (Below.refl _ _).drew).Js.st B9;refine⟨A5.c0.1,?_⟩
      rw[(A5.ck i hi).1,(HX.out.facts i).2.2.2,hK]))
 have A5:=(HX.out.below (Below.refl _ _).drew).bk.did (HX.out.below (Below.refl _ _).drew).Js.st B9;have z2:=(A5.ck i hi).2.1;have z3:=(A5.ck i hi).2.2;rw[hL] at z3;have Bp:=A5.c0.2.1;have Bq:=A5.c0.2.2;have zf:=A5.fz;have Bb:=A5.lt;have Ah:=A5.row i hi;have Ac:Ln IR 14 #[ID ⟨(aL A2 A7 []).toArray⟩] w3 λe w'=>e=Ks (J1 Kf A2)/\w'=w3:=dJ A2 A7 [] w3 (by rw[<-A0];split<;>omega) (by rw[<-A0];split<;>omega) B5;have Bm:=IA Ac;obtain⟨x,cp,hx⟩:∃x cp,vs i=K1 x (IE σ i).IB.length cp:=by
  rcases Ah.2 with⟨e,h0⟩|⟨g,A9,C3,e,_⟩
  ·exact⟨_,_,by rw[e,h0]⟩
  ·exact⟨_,_,e⟩
 have Bd:=z2;rw[hx] at Bd;have Bz:¬ (20:Int)<=((IE σ i).IB.length:Int):=by omega
 have Bj:=IA A5;have Bf:=IA A4;have Bs:=IA Bi;have Bw:=IA Ah;have Bt:=IA A0;have Bn:=IA B5;have Bx:=IA hL;have Hx:=IA hx;clear Ac A5 A4 Bi B9 Bg HX Ah A0 B5 hL hx B3 z2;obtain⟨T,hT⟩:=IG (aL A2 A7 []);rw[hT] at Bm ⊢;have HT:=IA hT;clear hT;go_wp2_with (go_at_call 14;refine Jx Bm.out ?_;rintro e w4 ⟨rfl,rfl⟩);all_goals
  have Aa:aY ((w4.setCell ⟨b,1+i*3+2,IF⟩ (J1 Kf ((L:Int)+1))).setCell ⟨b,17,IF⟩ (J1 Kf ((d:Int)+1))) b s (λj=>if j=i then⟨(IE σ j).key,L+1,(IE σ j).IB⟩ else IE σ j) vs σ.time (d+1) :=
   (Bj.out.set _ _ (iW _ _ _ _ _ (L+1) _ (by omega) i hi) (λj _=>by split<;>rfl)).set _ _ (fJ _ _ _ _ _ (d+1) _ (by omega)) (λ_ _=>rfl)
  have Ay:Hid (Off (λk=>k=b\/∃i,i<5/\(vs i).ownBlock=I3 k) w4 ((w4.setCell ⟨b,1+i*3+2,IF⟩ (J1 Kf ((L:Int)+1))).setCell ⟨b,17,IF⟩ (J1 Kf ((d:Int)+1)))) :=
   ((Off.refl _ _).set b _ _ (K0 (K0 rfl))).set b _ _ (K0 (K0 rfl))
  obtain⟨Y,hY⟩:=exj ((w4.setCell ⟨b,1+i*3+2,IF⟩ (J1 Kf ((L:Int)+1))).setCell ⟨b,17,IF⟩ (J1 Kf ((d:Int)+1)));rw[<-hY] at Aa Ay ⊢;clear hY Bd z3 Bp Bq zf Bb;have Ae:=Aa.below (Below.refl _ _).drew;have B1:=Ae.row i hi;simp only[if_pos] at B1;obtain⟨gg,A9,w2,hok,Aw,At,Ap,B6,An⟩:=nl Y.drew (vs i) (IE σ i).IB ⟨L+1,σ.time,Ly,what⟩ ((L:Int)+1) σ.time Ly ⟨what.toArray⟩ ⟨(bX what).toArray⟩ (by simp[eN,nZ]) B1 (by omega);rw[show Y.drew.heap.size=Y.heap.size from rfl,show Y.drew.alloc (Lz #[J1 Kf ((L:Int)+1),J1 Kf (σ.time:Int),K2 Ly,ID ⟨what.toArray⟩,ID ⟨(bX what).toArray⟩] 42)=(Y.alloc (Lz #[J1 Kf ((L:Int)+1),J1 Kf (σ.time:Int),K2 Ly,ID ⟨what.toArray⟩,ID ⟨(bX what).toArray⟩] 42)).drew from rfl] at hok Aw At;have y1:=(Aa.ck i hi).2.1;(have y2:Y.cell? ⟨b,1+i*3+2,IF⟩=I3 (J1 Kf ((L:Int)+1)):=by have:=(Aa.ck i hi).2.2;simp only[if_pos] at this;simpa using this);have As:=Aa.c0.2.1;have Bu:=Aa.lt;have Am:=ai B1 Ae.blk (by decide);have Au:=Ae.below ((Below.refl _ _).alloc (Nat.le_refl _) (Lz #[J1 Kf ((L:Int)+1),J1 Kf (σ.time:Int),K2 Ly,ID ⟨what.toArray⟩,ID ⟨(bX what).toArray⟩] 42));have a1:=(Au.ck i hi).2.1;(have a2:(Y.drew.alloc (Lz #[J1 Kf ((L:Int)+1),J1 Kf (σ.time:Int),K2 Ly,ID ⟨what.toArray⟩,ID ⟨(bX what).toArray⟩] 42)).cell? ⟨b,1+i*3+2,IF⟩=I3 (J1 Kf ((L:Int)+1)):=by have:=(Au.ck i hi).2.2;simp only[if_pos] at this;simpa using this);have Av:=Au.c0.2.1;have Ao:w2.heap[b]?=_:=(An.block b Ae.lt Am).trans Ae.blk;(have e1:w2.cell? ⟨b,1+i*3+1,IF⟩=I3 (vs i):=by rw[<-y1];simp only[LN];rw[Ao,Aa.blk]);(have e2:w2.cell? ⟨b,1+i*3+2,IF⟩=I3 (J1 Kf ((L:Int)+1)):=by rw[<-y2];simp only[LN];rw[Ao,Aa.blk]);(have Az:w2.cell? ⟨b,16,IF⟩=I3 (J1 Kf (σ.time:Int)):=by rw[<-As];simp only[LN];rw[Ao,Aa.blk]);(have ef:w2.frozen? ⟨b,1+i*3+1,IF⟩=Ly:=by simp[Mp,Ao]);have HW:=Ae.KH i hi (K1 (I3 ⟨gg,0,IF⟩) ((IE σ i).IB.length+1) A9) ((IE σ i).IB++[⟨L+1,σ.time,Ly,what⟩]) An (by rw[LS];exact Ap) (λg hg=>by cases hg;exact B6);(have Ax:(w2.setCell ⟨b,1+i*3+1,IF⟩ (K1 (I3 ⟨gg,0,IF⟩) ((IE σ i).IB.length+1) A9)).cell? ⟨b,1+i*3+2,IF⟩=I3 (J1 Kf ((L:Int)+1)):=by have:=(HW.ck i hi).2.2;simp only[if_pos] at this;simpa using this);have Ab:=HW.c0.2.1;have Ag:Hid (J4 B (w2.setCell ⟨b,1+i*3+1,IF⟩ (K1 (I3 ⟨gg,0,IF⟩) ((IE σ i).IB.length+1) A9)) s n σ' M3) :=
   Bf.out.book Bj.out HB.out.bB HB.out.vB (((Ay.out.trans (Off.of_below (Below.refl _ _).drew)).trans (An.mono (λk hk=>LR ⟨i,hi,hk⟩))).set b _ _ (K0 (K0 rfl)))
  have Ai:Hid (Off B w (w2.setCell ⟨b,1+i*3+1,IF⟩ (K1 (I3 ⟨gg,0,IF⟩) ((IE σ i).IB.length+1) A9))):=by
   have Be:=HB.out.bB;refine((((((Off.of_below Bh).trans (Off.of_below (Below.refl _ _).drew)).trans Bs.out).trans (Ay.out.mono (λk hk=>?_))).trans (Off.of_below (Below.refl _ _).drew)).trans (An.mono (λk hk=>HB.out.vB i hi k hk))).set b _ _ (K0 Be);rcases hk with rfl|⟨j,hj,hg⟩
   ·exact Be
   ·exact HB.out.vB j hj k hg
  have B0:(IE σ i).last=L:=Bx.out;have Al:Hid (∃vs',aY (w2.setCell ⟨b,1+i*3+1,IF⟩ (K1 (I3 ⟨gg,0,IF⟩) ((IE σ i).IB.length+1) A9)) b s (λj=>if j=i then⟨IW i,(IE σ i).last+1,(IE σ i).IB++[⟨(IE σ i).last+1,σ.time,Ly,what⟩]⟩ else IE σ j) vs' σ.time (d+1)/\∀j,j<5->∀g,(vs' j).ownBlock=I3 g->B g):=by
   refine⟨_,HW.ext (λj hj=>⟨?_,rfl⟩),λj hj g=>?_⟩
   ·by_cases e:j=i
    ·subst e;simp only[if_pos,B0];rw[(HB.out.facts j).2.2.2]
    ·simp only[if_neg e]
   ·by_cases e:j=i
    ·subst e;simp only[if_pos];intro hg;cases hg;rcases B6 with h1|h1
     ·exact HB.out.vB j hj _ h1
     ·have h2:=Bf.out.env.sz;have h3:=Ay.out.size;have h4:Y.heap.size<=gg:=h1;exact h2 gg (by omega)
    ·simp only[if_neg e];exact HB.out.vB j hj g
  (have B7:Hid (∀y,Ln IR 16 #[ID ⟨T.toArray⟩,ID ⟨#[69,84,97,103]⟩] y λe w'=>e=Ks (ID ⟨(bX what).toArray⟩)/\w'=y):=by intro y;have h3:=Bn.out;rw[<-A3] at h3;have:=kJ A2 [] [⟨eF,J0 ((IE σ i).last+1)⟩] mP (bX what) [] y (by simp[xO,kK]) (by simp) (by decide) h3;rw[<-HT.out,<-A3];exact this);(have Bl:Hid (∀y,Ln IR 16 #[ID ⟨T.toArray⟩,ID ⟨#[86,101,114,115,105,111,110]⟩] y λe w'=>e=Ks (ID ⟨(J0 (L+1)).toArray⟩)/\w'=y):=by intro y;have h3:=Bn.out;rw[<-A3,B0] at h3;have:=kJ A2 [⟨mP,bX what⟩] [] eF (J0 (L+1)) [] y (by simp[xO,kK]) (by simp[mP,eF]) (by decide) h3;rw[<-HT.out,<-A3,B0];exact this);obtain⟨qt,B8⟩:=IG ((⟨(bX what).toArray⟩:ByteArray));obtain⟨dg,B4⟩:=IG ((⟨(J0 (L+1)).toArray⟩:ByteArray));(have C4:qt.toList.isEmpty=Ly:=by rw[<-B8,ByteArray.toList_eq];rfl);obtain⟨F,By,C1⟩:∃F:ByteArray->ByteArray,F ⟨#[69,84,97,103]⟩=qt/\F ⟨#[86,101,114,115,105,111,110]⟩=dg:=⟨λx=>if x=⟨#[69,84,97,103]⟩ then qt else dg,if_pos rfl,if_neg (by decide)⟩;have Bc:Hid (∀y nm,(nm=⟨#[69,84,97,103]⟩\/nm=⟨#[86,101,114,115,105,111,110]⟩)->Ln IR 16 #[ID ⟨T.toArray⟩,ID nm] y λe w'=>e=Ks (ID (F nm))/\w'=y):=by
   rintro y nm (rfl|rfl)
   ·rw[By,<-B8];exact B7.out y
   ·rw[C1,<-B4];exact Bl.out y
  (have Af:Hid (∀y,y=w2.setCell ⟨b,1+i*3+1,IF⟩ (K1 (I3 ⟨gg,0,IF⟩) ((IE σ i).IB.length+1) A9)->Ln IR 13 #[J1 Kf ((L:Int)+1)] y.drew λe w'=>e=Ks (ID ⟨(J0 (L+1)).toArray⟩)/\Below y.drew.heap.size y.drew w'):=by rintro y rfl;have:=fI ((L:Int)+1) (w2.setCell ⟨b,1+i*3+1,IF⟩ (K1 (I3 ⟨gg,0,IF⟩) ((IE σ i).IB.length+1) A9)).drew (by omega) (by omega) (Ag.out.env.tb.below (Below.refl _ _).drew).b;rw[show((L:Int)+1).toNat=L+1 by omega] at this;exact this);rw[B4] at Af;clear B4 B8 Bl;have Ak:=And.intro a2 Av;have Aj:=And.intro e2 Az;have A4:=And.intro Ax Ab;(have A0:(A2:Int)=if tB then 200 else 201:=by have:=Bt.out;revert this;cases tB<;>simp<;>omega);clear B0 Aa Ae B1 Au HW Ap B6 An Ao k1 k2 k3 c0 c16 c17 x1 x2 hA;refine L4 (S:=(λy=>y.cell? ⟨b,1+i*3+2,IF⟩=I3 (J1 Kf ((L:Int)+1))/\y.cell? ⟨b,16,IF⟩=I3 (J1 Kf (σ.time:Int)))) (by kernel_rfl) ⟨y2,As⟩ (λhHeld=>?_);refine IJ 0 hHeld ?_;(try simp only[IH]);refine IJ 1 hHeld ?_;(try simp only[IH]);refine IJ 2 hHeld ?_;(try simp only[IH]);refine IJ 3 hHeld ?_;(try simp only[IH]);refine IJ 5 hHeld ?_;(try simp only[IH]);refine IJ 6 hHeld ?_;(try simp only[IH]);refine IJ 7 hHeld ?_;(try simp only[IH]);refine IJ 8 hHeld ?_;(try simp only[IH]);refine IJ 9 hHeld ?_;(try simp only[IH]);refine IJ 10 hHeld ?_;(try simp only[IH]);refine IJ 11 hHeld ?_;(try simp only[IH]);refine IJ 12 hHeld ?_;(try simp only[IH]);refine IJ 13 hHeld ?_;(try simp only[IH]);refine IJ 14 hHeld ?_;(try simp only[IH]);refine Mn (rs:=[4,15]) (by kernel_rfl) (by simp) ?_;refine Lw rfl (λK hK=>?_) (Lw rfl (λK hK=>?_) Mb)
  ·go_simp;refine hK.out _ _ hHeld (λ_=>?_);clear hK K;(try simp only[IH]);refine I6 15 (λK hK=>?_);go_simp;refine Jx (B7.out _) ?_;rintro e w1 ⟨rfl,rfl⟩;(try go_wp2_with fail);refine hK.out _ _ hHeld (λI5=>?_);clear hK K;(try simp only[IH]);refine IJ 16 I5 ?_;(try simp only[IH]);refine I6 17 (λK hK=>?_);go_simp;refine hK.out _ _ Ak (λJj=>?_);clear hK K;(try simp only[IH]);refine I6 18 (λK hK=>?_);go_simp;refine hK.out _ _ Aj (λII=>?_);clear hK K;(try simp only[IH]);refine IJ 19 II ?_;(try simp only[IH]);refine IJ 20 II ?_;(try simp only[IH]);refine I6 21 (λK hK=>?_);go_simp;refine hK.out _ _ A4 (λI8=>?_);clear hK K;(try simp only[IH]);refine L1 (by kernel_rfl) ?_ _;obtain⟨W5,Ad⟩:=exj (w2.setCell ⟨b,1+i*3+1,IF⟩ (K1 (I3 ⟨gg,0,IF⟩) ((IE σ i).IB.length+1) A9));rw[<-Ad] at Ag Ai Al Af A4 ⊢;have g2:=A4.1;have A8:b<W5.heap.size:=bj g2;clear Ad hok Aw At e1 e2 Az ef Ak Aj A4 Ax Ab y1 y2 As a1 a2 Av I5 Jj II I8 hHeld;go_wp2_with fail;go_region_held3 (λy=>y.cell? ⟨b,1+i*3+2,IF⟩=I3 (J1 Kf ((L:Int)+1))) (first|assumption|go_keep) (first
    | (go_at_call 16
       refine Jx (Bc.out _ _ (by first|exact K0 rfl|exact LR rfl)) ?_
       rintro e w7 ⟨rfl,rfl⟩)
    | (go_at_call 13
       refine Jx (Af.out _ rfl) ?_;rintro e w7 ⟨rfl,A1⟩
       have g7:w7.cell? ⟨b,1+i*3+2,IF⟩=I3 (J1 Kf ((L:Int)+1)):=(A1.cell (p:=⟨b,1+i*3+2,IF⟩) A8).trans g2))
   go_wp2;go_ret;have A6:Below W5.heap.size W5 w7:=⟨A1.os,A1.tape,A1.output,A1.size,A1.block⟩;obtain⟨vs',Ar,Aq⟩:=Al.out;exact⟨rfl,⟨M3,vs',Ag.out.below A6,Ar.below A6,Aq⟩,Ai.out.trans (Off.of_below A6)⟩
  ·go_simp;refine Jx (B7.out _) ?_;rintro e w1 ⟨rfl,rfl⟩;(try go_wp2_with fail);refine hK.out _ _ hHeld (λI5=>?_);clear hK K;(try simp only[IH]);refine IJ 16 I5 ?_;(try simp only[IH]);refine Mn (rs:=[4,17]) (by kernel_rfl) (by simp) ?_;refine Lw rfl (λK hK=>?_) (Lw rfl (λK hK=>?_) Mb)
   ·go_simp;refine hK.out _ _ I5 (λ_=>?_);clear hK K;(try simp only[IH]);refine I6 17 (λK hK=>?_);go_simp;refine hK.out _ _ Ak (λJj=>?_);clear hK K;(try simp only[IH]);refine I6 18 (λK hK=>?_);go_simp;refine hK.out _ _ Aj (λII=>?_);clear hK K;(try simp only[IH]);refine IJ 19 II ?_;(try simp only[IH]);refine IJ 20 II ?_;(try simp only[IH]);refine I6 21 (λK hK=>?_);go_simp;refine hK.out _ _ A4 (λI8=>?_);clear hK K;(try simp only[IH]);refine L1 (by kernel_rfl) ?_ _;obtain⟨W5,Ad⟩:=exj (w2.setCell ⟨b,1+i*3+1,IF⟩ (K1 (I3 ⟨gg,0,IF⟩) ((IE σ i).IB.length+1) A9));rw[<-Ad] at Ag Ai Al Af A4 ⊢;have g2:=A4.1;have A8:b<W5.heap.size:=bj g2;clear Ad hok Aw At e1 e2 Az ef Ak Aj A4 Ax Ab y1 y2 As a1 a2 Av I5 Jj II I8 hHeld;go_wp2_with fail;go_region_held3 (λy=>y.cell? ⟨b,1+i*3+2,IF⟩=I3 (J1 Kf ((L:Int)+1))) (first|assumption|go_keep) (first
     | (go_at_call 16
        refine Jx (Bc.out _ _ (by first|exact K0 rfl|exact LR rfl)) ?_
        rintro e w7 ⟨rfl,rfl⟩)
     | (go_at_call 13
        refine Jx (Af.out _ rfl) ?_;rintro e w7 ⟨rfl,A1⟩
        have g7:w7.cell? ⟨b,1+i*3+2,IF⟩=I3 (J1 Kf ((L:Int)+1)):=(A1.cell (p:=⟨b,1+i*3+2,IF⟩) A8).trans g2))
    go_wp2;go_ret;have A6:Below W5.heap.size W5 w7:=⟨A1.os,A1.tape,A1.output,A1.size,A1.block⟩;obtain⟨vs',Ar,Aq⟩:=Al.out;exact⟨rfl,⟨M3,vs',Ag.out.below A6,Ar.below A6,Aq⟩,Ai.out.trans (Off.of_below A6)⟩
   ·go_simp;refine hK.out _ _ Ak (λJj=>?_);clear hK K;(try simp only[IH]);refine I6 4 (λK hK=>?_);go_simp;refine hK.out _ _ Jj (λ_=>?_);clear hK K;(try simp only[IH]);refine I6 18 (λK hK=>?_);go_simp;refine hK.out _ _ Aj (λII=>?_);clear hK K;(try simp only[IH]);refine IJ 19 II ?_;(try simp only[IH]);refine IJ 20 II ?_;(try simp only[IH]);refine I6 21 (λK hK=>?_);go_simp;refine hK.out _ _ A4 (λI8=>?_);clear hK K;(try simp only[IH]);refine L1 (by kernel_rfl) ?_ _;obtain⟨W5,Ad⟩:=exj (w2.setCell ⟨b,1+i*3+1,IF⟩ (K1 (I3 ⟨gg,0,IF⟩) ((IE σ i).IB.length+1) A9));rw[<-Ad] at Ag Ai Al Af A4 ⊢;have g2:=A4.1;have A8:b<W5.heap.size:=bj g2;clear Ad hok Aw At e1 e2 Az ef Ak Aj A4 Ax Ab y1 y2 As a1 a2 Av I5 Jj II I8 hHeld;go_wp2_with fail;go_region_held3 (λy=>y.cell? ⟨b,1+i*3+2,IF⟩=I3 (J1 Kf ((L:Int)+1))) (first|assumption|go_keep) (first
     | (go_at_call 16
        refine Jx (Bc.out _ _ (by first|exact K0 rfl|exact LR rfl)) ?_
        rintro e w7 ⟨rfl,rfl⟩)
     | (go_at_call 13
        refine Jx (Af.out _ rfl) ?_;rintro e w7 ⟨rfl,A1⟩
        have g7:w7.cell? ⟨b,1+i*3+2,IF⟩=I3 (J1 Kf ((L:Int)+1)):=(A1.cell (p:=⟨b,1+i*3+2,IF⟩) A8).trans g2))
    go_wp2;go_ret;have A6:Below W5.heap.size W5 w7:=⟨A1.os,A1.tape,A1.output,A1.size,A1.block⟩;obtain⟨vs',Ar,Aq⟩:=Al.out;exact⟨rfl,⟨M3,vs',Ag.out.below A6,Ar.below A6,Aq⟩,Ai.out.trans (Off.of_below A6)⟩
open Go.RowKit
theorem Gk (i:Nat):∃j,j<5/\IW i=IW j:=by
 match i with
 | 0=>exact⟨0,by omega,rfl⟩
 | 1=>exact⟨1,by omega,rfl⟩
 | 2=>exact⟨2,by omega,rfl⟩
 | 3=>exact⟨3,by omega,rfl⟩
 | _+4=>exact⟨4,by omega,rfl⟩
theorem Bk.of {w':LI}{M':Mem}(h:Bk B w b s n σ M vs d c)(hS:J4 B w' s n σ' M')(i:Nat)(hi:i<5)(E:IP)(hE:E.key=IW i)(hs:σ'.Iz=bT σ.Iz E)(ht:σ'.time=σ.time)(hl:σ'.log.length<=σ.log.length+1000)(hL:E.last<=c+1)
 (hb:aY w' b s (λj=>if j=i then E else IE σ j) vs' σ.time d')(hd:d'<=c+1)(hv:∀j,j<5->∀g,(vs' j).ownBlock=I3 g->B g):Bk B w' b s n σ' M' vs' d' (c+1):=by
 have A0:∀j,j<5->IE σ' j=if j=i then E else IE σ j:=λj hj=>Dq h.Js.st.rise E i hi hE σ' hs rfl j hj;refine⟨hS,?_,h.bB,hv,λx hx=>?_,?_,?_,λj=>?_,hd⟩
 ·rw[ht];exact hb.ext (λj hj=>⟨(A0 j hj).symm,rfl⟩)
 ·rw[hs] at hx;rcases el hx with rfl|hx
  ·exact⟨i,hi,hE⟩
  ·exact h.ks x hx
 ·have:=h.tm;omega
 ·have:=h.lg;omega
 ·obtain⟨k,hk,e⟩:=Gk j;(have e2:IE σ' j=IE σ' k:=by unfold IE;rw[e]);rw[e2,A0 k hk];have:=h.ls k;split
  ·exact hL
  ·omega
theorem nJ (i:Nat)(hi:i<5)(fields what:List UInt8)(w:LI)(h:Bk B w b s n σ M vs d c)(hc:c<1000)(hf:fields.length<1000)(hw:what.length<100)
 (k:I9)(hr:aZ (bp eB (47::IW i) fields what)=.ok (2,⟨1,IW i,0⟩,k,what))(hk0:k.s=IF/\k.u=IF)(lets:Bool)(hk:aJ Lq k (ax (IE σ i))=if lets then 0 else 412) :
 Ln IR 41 #[Kx (I3 ⟨b,0,IF⟩),J1 Kf i,ID ⟨fields.toArray⟩,ID ⟨what.toArray⟩,K2 lets] w λe w'=>e=Ks (K2 Lq)/\(∃M' vs' d',Bk B w' b s n (bF σ (bp eB (47::IW i) fields what)).2 M' vs' d' (c+1))/\Off B w w':=by
 have A1:jX (bp eB (47::IW i) fields what):=⟨_,_,_,_,hr,(by decide:1≠0),(by decide:1≠3),hk0.1,hk0.2⟩;cases lets with
 | false =>have A0:aJ Lq k (ax (ae σ.Iz (IW i)))=412:=hk;have ha:=Bt (σ:=σ) hr (by rw[A0];decide);rw[A0] at ha;refine(nK i hi fields what w h hc hf hw Ly _ A1 ha (K0 ⟨rfl,rfl⟩)).mono ?_;rintro e w' ⟨rfl,⟨M',hB⟩,hO⟩;refine⟨rfl,⟨M',vs,d,?_⟩,hO⟩;rw[ha];exact hB
 | true =>
   have A0:aJ Lq k (ax (ae σ.Iz (IW i)))=0:=hk;by_cases h20:20<=(ae σ.Iz (IW i)).IB.length
   ·have ha:=CV (σ:=σ) hr A0 h20;refine(nK i hi fields what w h hc hf hw Lq _ A1 ha (LR ⟨rfl,h20,rfl⟩)).mono ?_;rintro e w' ⟨rfl,⟨M',hB⟩,hO⟩;refine⟨rfl,⟨M',vs,d,?_⟩,hO⟩;rw[ha];exact hB
   ·have ha:=tV (σ:=σ) hr A0 h20 (LR h.many);refine(Br i hi fields what w h hc hf hw (by show(ae σ.Iz (IW i)).IB.length<20;omega) A1 ha).mono ?_;rintro e w' ⟨rfl,⟨M',vs',hS,hb,hv⟩,hO⟩;refine⟨rfl,⟨M',vs',d+1,?_⟩,hO⟩;rw[ha];have A2:=(da (db i)).2.1;exact h.of hS i hi ⟨IW i,(IE σ i).last+1,(IE σ i).IB++[⟨(IE σ i).last+1,σ.time,Ly,what⟩]⟩ rfl rfl rfl (by simp[eW];omega) (by have:=h.ls i;show(IE σ i).last+1<=_;omega) hb (by have:=h.dn;omega) hv
open Go.RowKit
attribute [local go_sem ↓] eP
attribute [local go_sem] ff
def iV (l:List IZ)(m k:Nat):List IZ:=(l.take k).filter λv=>v.num != m
theorem zp (l:List IZ)(m:Nat):iV l m l.length=l.filter λv=>v.num != m:=by unfold iV;rw[List.take_length]
theorem we (l:List IZ)(m k:Nat)(v:IZ)(h:l[k]?=I3 v):iV l m (k+1)=if v.num=m then iV l m k else iV l m k++[v]:=by
 unfold iV;rw[List.take_add_one,h];by_cases e:v.num=m<;>simp[List.filter_append,e]
theorem yk (l:List IZ)(m k:Nat):(iV l m k).length<=l.length:=by
 unfold iV;refine Nat.le_trans (List.length_filter_le _ _) ?_;rw[List.length_take];omega
theorem yU (i:Nat)(hi:i<5)(m:Nat)(hm0:0<m)(hm:m<2000)(w:LI)(h:Bk B w b s n σ M vs d c)(hc:c<1000) :
 Ln IR 44 #[Kx (I3 ⟨b,0,IF⟩),J1 Kf i,J1 Kf m] w λe w'=>e=Ks (K2 Lq)/\(∃M' vs' d',Bk B w' b s n (bF σ (bp eV (47::(IW i++[63]++([118,61]++J0 m))) [] [])).2 M' vs' d' (c+1))/\Off B w w':=by
 have⟨k1,k2,k3⟩:=h.bk.ck i hi;have⟨c0,c16,c17⟩:=h.bk.c0;have Bc:=h.bk.lt;have B4:=h.facts i;rw[B4.2.2.2] at k1;have C7:=(da (db i)).2.1;have C0:=ec (n:=m) (k:=4) (by omega) (by omega);have ha:=BQ (σ:=σ) (lA (db i) m hm0 (by omega)) (h.facts i).2.1 (LR h.many);have Aq:jX (bp eV (47::(IW i++[63]++([118,61]++J0 m))) [] []):=⟨_,_,_,_,lA (db i) m hm0 (by omega),(by decide:2≠0),(by decide:2≠3),rfl,rfl⟩;obtain⟨K,hK⟩:=IG (IW i);obtain⟨D,hD⟩:=IG (J0 m);obtain⟨R,hR⟩:=IG (bp eV (47::(IW i++[63]++([118,61]++J0 m))) [] []);obtain⟨a,Ad⟩:=IG ((bF σ R).1);obtain⟨σ',A7⟩:=IG ((bF σ R).2);rw[hR] at ha Aq ⊢;rw[hK,hD] at hR;rw[hK] at k1 C7;rw[hD] at C0;rw[A7];have HA:Hid (bF σ R=(a,σ')):=by show _=_;rw[<-Ad,<-A7]
 have An:=IA Aq;clear Aq;have Bd:=IA ha;have HB:=IA h;have HR:=IA hR;clear h ha B4 Ad A7;have Bj:Hid (∀y,Below w.heap.size w y->Ln IR 11 #[Kx (I3 ⟨s,0,IF⟩),ID ⟨R.toArray⟩] y λe w'=>e=Ks (ID ⟨(aL a.told a.IQ a.body).toArray⟩)/\(aL a.told a.IQ a.body).length<=1000000000/\∃M',J4 B w' s n σ' M'/\Off (M.own s n) y w'/\Off B y w') :=
  λy hy=>jU _ (HB.out.Js.below hy) (by have:=HB.out.lg;omega) (by rw[<-HR.out,cQ];simp[eV];omega) HA.out An.out
 have B0:Hid (∀y,Ln IR 12 #[ID ⟨#[68,69,76,69,84,69]⟩,ID ⟨(47::(K++[63]++([118,61]++D))).toArray⟩,ID ⟨#[]⟩,ID ⟨#[]⟩] y λe w'=>e=Ks (ID ⟨R.toArray⟩)/\w'=y):=by intro y;have:=dw eV (47::(K++[63]++([118,61]++D))) [] [] y (by decide) (by simp;omega) (by decide) (by decide);rw[HR.out] at this;exact this
 have Bl:∀w:LI,(LL .add ⟨#[47]⟩ ⟨K.toArray⟩).run IR w=.ok (ID ⟨(47::K).toArray⟩) w:=by have:=rX ⟨#[47]⟩ ⟨K.toArray⟩ (by simp[Lo];omega);rw[show(⟨#[47]⟩:ByteArray)++⟨K.toArray⟩=⟨(47::K).toArray⟩ from cZ [47] K] at this;exact this
 have B6:∀w:LI,(LL .add ⟨(47::K).toArray⟩ ⟨#[63,118,61]⟩).run IR w=.ok (ID ⟨(47::K++[63,118,61]).toArray⟩) w:=by have:=rX ⟨(47::K).toArray⟩ ⟨#[63,118,61]⟩ (by simp[Lo];omega);rw[show(⟨(47::K).toArray⟩:ByteArray)++⟨#[63,118,61]⟩=⟨(47::K++[63,118,61]).toArray⟩ from cZ (47::K) [63,118,61]] at this;exact this
 have Bo:∀w:LI,(LL .add ⟨(47::K++[63,118,61]).toArray⟩ ⟨D.toArray⟩).run IR w=.ok (ID ⟨(47::(K++[63]++([118,61]++D))).toArray⟩) w:=by have:=rX ⟨(47::K++[63,118,61]).toArray⟩ ⟨D.toArray⟩ (by simp[Lo];omega);rw[cZ,show 47::K++[63,118,61]++D=47::(K++[63]++([118,61]++D)) by simp] at this;exact this
 have Be:Hid (∀y,Below w.heap.size w y->Ln IR 13 #[J1 Kf m] y λe w'=>e=Ks (ID ⟨D.toArray⟩)/\Below y.heap.size y w'):=by intro y hy;have:=fI (m:Int) y (by omega) (by omega) (HB.out.Js.env.tb.below hy).b;rw[show((m:Int)).toNat=m by omega,hD] at this;exact this
 obtain⟨A1,Ae⟩:=IG (47::K);obtain⟨A2,Af⟩:=IG (47::K++[63,118,61]);obtain⟨A3,Ai⟩:=IG (47::(K++[63]++([118,61]++D)));rw[Af,Ae] at B6;rw[Ae] at Bl;rw[Af,Ai] at Bo;rw[Ai] at B0;clear Ae Af Ai;have Bq:=IA hD;clear hR hD;go_enter func44,ntmps44;go_wp2_with fail;go_region_held3 (λy=>y.cell? ⟨b,0,IF⟩=I3 (Kx (I3 ⟨s,0,IF⟩))/\y.cell? ⟨b,1+i*3,IF⟩=I3 (ID ⟨K.toArray⟩)) (first|assumption|go_keep) (first
  | (go_at_call 13
     refine Jx (Be.out _ (Below.refl _ _).drew) ?_;rintro e w1 ⟨rfl,Bs⟩;have A6:Below w.heap.size w w1:=(Below.refl _ _).drew.trans Bs;have y1:w1.cell? ⟨b,0,IF⟩=I3 (Kx (I3 ⟨s,0,IF⟩))/\w1.cell? ⟨b,1+i*3,IF⟩=I3 (ID ⟨K.toArray⟩) :=
      ⟨(A6.cell (p:=⟨b,0,IF⟩) Bc).trans c0,(A6.cell (p:=⟨b,1+i*3,IF⟩) Bc).trans k1⟩)
  | (go_at_call 12
     refine Jx (B0.out _) ?_
     rintro e w2 ⟨rfl,rfl⟩)
  | (go_at_call 11
     refine Jx (Bj.out _ A6) ?_;rintro e w3 ⟨rfl,Ac,M3,B8,Bn,Bm⟩;have Ah:=(HB.out.below A6).bk.did (HB.out.below A6).Js.st Bn;have y3:w3.cell? ⟨b,0,IF⟩=I3 (Kx (I3 ⟨s,0,IF⟩))/\w3.cell? ⟨b,1+i*3,IF⟩=I3 (ID ⟨K.toArray⟩):=by
      refine⟨Ah.c0.1,?_⟩
      rw[(Ah.ck i hi).1,(HB.out.facts i).2.2.2,hK]))
 have z2:=(Ah.ck i hi).2.1;have C5:=Ah.lt;have Aj:=Ah.row i hi;have Bu:(IE σ i).IB.length<=20:=(HB.out.facts i).1;have Bb:a.told=404\/a.told=204:=by
  have h1:=Bd.out;rw[HA.out] at h1;split at h1
  ·exact K0 (by simpa using congrArg (λz=>z.1.told) h1)
  ·exact LR (by simpa using congrArg (λz=>z.1.told) h1)
 have Az:Hid (Ln IR 14 #[ID ⟨(aL a.told a.IQ a.body).toArray⟩] w3 λe w'=>e=Ks (J1 Kf a.told)/\w'=w3):=dJ a.told a.IQ a.body w3 (by omega) (by omega) Ac;obtain⟨T,hT⟩:=IG (aL a.told a.IQ a.body);obtain⟨told,A9⟩:=IG (a.told);rw[hT] at Az Ac ⊢;rw[A9] at Az;obtain⟨x,cp,hx⟩:∃x cp,vs i=K1 x (IE σ i).IB.length cp:=by
  rcases Aj.2 with⟨e,h0⟩|⟨g,Br,Bt,e,_⟩
  ·exact⟨_,_,by rw[e,h0]⟩
  ·exact⟨_,_,e⟩
 have Aw:=IA B8;have Ar:=IA Ah;have C8:Hid (Off B w w3):=(Off.of_below A6).trans Bm;have Ax:=IA Aj;have HT:=IA hT;have Bg:=IA A9;have C6:=IA Ac;have Ce:=IA Bb;have Hx:=IA hx;clear B8 Ah Bm Bn Aj hT A9 Ac Bb y1 y3 Bj B0 Bl B6 Bo k1 k2 k3 c0 c16 c17 A6 Bs;rw[hx] at z2;clear hx;obtain⟨vl,Al⟩:=IG ((IE σ i).IB);rw[Al] at z2 Bu Ax Hx;go_wp2_with (go_at_call 14;refine Jx Az.out ?_;rintro e w4 ⟨rfl,rfl⟩);go_loopw [10,11] (λr kk wr=>∃k:Nat,k<=vl.length/\kk=J1 Kf k/\Off (λ_=>False) w4 wr/\wr.ownsRow 0 42 5 r (iV vl m k).length (jV (iV vl m k))/\∀g,r.ownBlock=I3 g->w4.heap.size<=g)
  (λ_ kk _=>vl.length-(intOf kk).toNat)
 case atStart=>exact⟨0,Nat.zero_le _,rfl,Off.refl _ _,⟨rfl,K0 ⟨rfl,rfl⟩⟩,λg hg=>by cases hg⟩
 case round =>
  obtain⟨k,hk,rfl,Ab,A0,Ak⟩:=hrel;have Aa:=Ar.out.off Ab (λh=>h) (λ_ _ _ _ h=>h);have A5:=Aa.row i hi;rw[Al] at A5;(have Cg:wr.cell? ⟨b,1+i*3+1,IF⟩=I3 (K1 x vl.length cp):=by rw[(Aa.ck i hi).2.1,Hx.out]);have Ck:=Aa.fz;have Cf:=Aa.c0.2.2;have Bv:=Aa.lt;have Bz:=yk vl m k;clear z2;by_cases hlk:k<vl.length
  ·obtain⟨v,hv⟩:∃v,vl[k]?=I3 v:=⟨_,List.getElem?_eq_getElem hlk⟩;obtain⟨g,Br,At,hn,Ci,hg,hf,d0,d1,d2,d3,d4⟩:=iA A5 k v hv;have Bf:=Hx.out.symm.trans At;simp only[Value.slice.injEq] at Bf;obtain⟨rfl,-,rfl⟩:=Bf;have A4:=we vl m k v hv;have Cj:=IA Aa;have An:=IA Ab;have Av:=IA Ak;by_cases JJ:v.num=m
   ·rw[if_pos JJ] at A4;(have Am:(v.num:Int)=(m:Int):=by omega);have B3:=IA A4;clear A4 Aa A5 At hv Ab Ak d1 d2 d3 d4;go_wp2;exact⟨⟨k+1,by omega,by go_num,An.out,by rw[B3.out];exact A0,Av.out⟩,by simp[intOf];omega⟩
   ·rw[if_neg JJ] at A4;(have Am:¬ (v.num:Int)=(m:Int):=by omega);have B3:=IA A4;obtain⟨gg,C9,w5,Aq,Cd,Ca,Ap,Bh,B9⟩:=nl wr u10 (iV vl m k) v v.num v.time v.mark ⟨v.body.toArray⟩ ⟨(nZ v).toArray⟩ rfl A0 (by omega);have C4:=IA Ap;have C3:=IA Bh;have By:=IA B9;have Ch:=IA A0;clear A4 Aa A5 At hv Ab Ak Ap Bh B9 A0;go_wp2;refine⟨⟨k+1,by omega,by go_num,An.out.trans' By.out (λq hq hq2=>by have:=Av.out q hq2;omega),?_,λq hq=>?_⟩,by simp[intOf];omega⟩
    ·rw[B3.out,LS];exact C4.out
    ·cases hq;rcases C3.out with h1|h1
     ·exact Av.out _ h1
     ·exact Nat.le_trans An.out.size h1
  ·(obtain rfl:k=vl.length:=by omega);have Ag:=zp vl m;rw[Ag] at A0 Bz;obtain⟨y,cq,hy⟩:∃y cq,u10=K1 y (vl.filter λv=>v.num != m).length cq:=by
    rcases A0.2 with⟨e,h0⟩|⟨g,Br,Bt,e,_⟩
    ·exact⟨_,_,by rw[e,h0]⟩
    ·exact⟨_,_,e⟩
   have As:Off (λk=>k=b\/∃i,i<5/\(vs i).ownBlock=I3 k) w4 wr:=Ab.mono (λ_ h=>h.elim);have B7:Hid (Off B w wr):=C8.out.trans (Ab.mono (λ_ h=>h.elim));have Au:=Aw.out.book Ar.out HB.out.bB HB.out.vB As;have A8:=Bd.out;rw[HA.out] at A8;change (a,σ')=if(List.filter _ (IE σ i).IB).length=(IE σ i).IB.length then _ else _ at A8;rw[Al] at A8;by_cases he:(vl.filter λv=>v.num != m).length=vl.length
   ·rw[if_pos he] at A8;have A7:=(Prod.mk.inj A8).2;(have ht:told=404:=by rw[<-Bg.out,(Prod.mk.inj A8).1]);subst ht;have HF:Hid (Bk B wr b s n σ M3 vs d (c+1)):=(⟨A7 ▸ Au,Aa,HB.out.bB,HB.out.vB,HB.out.ks,HB.out.tm,HB.out.lg,HB.out.ls,HB.out.dn⟩:Bk B wr b s n σ M3 vs d c).more;rw[he] at hy;have C1:=IA A7;clear Aa A5 Ab Ak As Au A8 A7 A0 Ag Al;subst hy;go_wp2;go_ret;rw[C1.out];exact⟨rfl,⟨M3,vs,d,HF.out⟩,B7.out⟩
   ·rw[if_neg he] at A8;have Ad:=(Prod.mk.inj A8).1;have A7:=(Prod.mk.inj A8).2;(have ht:told=204:=by rw[<-Bg.out,Ad]);subst ht;(have Cc:¬ (((vl.filter λv=>v.num != m).length:Nat):Int)=(vl.length:Int):=by omega);have Ay:=Ar.out.KH i hi u10 (vl.filter λv=>v.num != m) (Ab.mono (λ_ h=>h.elim)) A0 (λg hg=>LR (Ak g hg));have B5:=Ay.set 17 (J1 Kf ((d:Int)+1)) (fJ _ _ _ _ _ (d+1) _ (by omega)) (λ_ _=>rfl);have B1:=Aw.out.book Ar.out HB.out.bB HB.out.vB ((As.set b (1+i*3+1) u10 (K0 (K0 rfl))).set b 17 (J1 Kf ((d:Int)+1)) (K0 (K0 rfl)));have Bw:=(da (db i)).2.1;have HF:Hid (∃vs',Bk B ((wr.setCell ⟨b,1+i*3+1,IF⟩ u10).setCell ⟨b,17,IF⟩ (J1 Kf ((d:Int)+1))) b s n σ' M3 vs' (d+1) (c+1)):=by
     refine⟨_,HB.out.of B1 i hi ⟨IW i,(IE σ i).last,vl.filter λv=>v.num != m⟩ rfl (by rw[A7,<-Al];rfl) (by rw[A7]) (by rw[A7];simp[eW];omega) (Nat.le_succ_of_le (HB.out.ls i)) (B5.ext (λj hj=>⟨?_,rfl⟩)) (by have:=HB.out.dn;omega) (λj hj g=>?_)⟩
     ·by_cases e:j=i
      ·subst e;simp only[if_pos];rw[(HB.out.facts j).2.2.2]
      ·simp only[if_neg e]
     ·by_cases e:j=i
      ·subst e;simp only[if_pos];intro hg;have h1:=Ak g hg;have h2:=Aw.out.env.sz;exact h2 g (by omega)
      ·simp only[if_neg e];exact HB.out.vB j hj g
    have Bx:Hid (Off B w ((wr.setCell ⟨b,1+i*3+1,IF⟩ u10).setCell ⟨b,17,IF⟩ (J1 Kf ((d:Int)+1)))):=(B7.out.set b _ _ (K0 HB.out.bB)).set b _ _ (K0 HB.out.bB);have B2:J8 ((wr.setCell ⟨b,1+i*3+1,IF⟩ u10).setCell ⟨b,17,IF⟩ (J1 Kf ((d:Int)+1))):=B1.env.tb.b;have C2:(wr.setCell ⟨b,1+i*3+1,IF⟩ u10).cell? ⟨b,17,IF⟩=I3 (J1 Kf d):=Ay.c0.2.2;have Ac:=C6.out;rw[<-HT.out,Ad] at Ac;(have Bp:Hid (∀y,Ln IR 16 #[ID ⟨T.toArray⟩,ID ⟨#[86,101,114,115,105,111,110]⟩] y λe w'=>e=Ks (ID ⟨D.toArray⟩)/\w'=y):=by intro q;have:=kJ 204 [] [] eF (J0 m) [] q (by simp[kK]) (by simp) (by decide) Ac;rw[<-HT.out,Ad,<-Bq.out];exact this);(have Ao:Hid (∀y,J8 y->Ln IR 13 #[J1 Kf m] y λe w'=>e=Ks (ID ⟨D.toArray⟩)/\Below y.heap.size y w'):=by intro q hq;have:=fI (m:Int) q (by omega) (by omega) hq;rw[show((m:Int)).toNat=m by omega,Bq.out] at this;exact this);have Cb:=HB.out.dn;obtain⟨DD,Bi⟩:=IG ((⟨D.toArray⟩:ByteArray));rw[Bi] at Bp Ao;clear Bi Ac Aa A5 Ab Ak As Au B1 Ay B5 A8 Ad A7 A0 Ag Al Be;subst hy;go_wp2_with (first
     | (go_at_call 16;refine Jx (Bp.out _) ?_;rintro e w7 ⟨rfl,rfl⟩)
     | (go_at_call 13;refine Jx (Ao.out _ B2) ?_;rintro e w8 ⟨rfl,Ba⟩))
    go_ret;obtain⟨vs',hB⟩:=HF.out;exact⟨rfl,⟨M3,vs',d+1,hB.below Ba⟩,Bx.out.trans (Off.of_below Ba)⟩
end Go.Proofs.YtmehkneofinmiabGreatDoor

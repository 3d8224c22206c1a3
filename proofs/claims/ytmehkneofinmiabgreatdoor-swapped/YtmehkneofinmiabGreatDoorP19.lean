/-part 19-/
import Derived.Test.YtmehkneofinmiabGreatDoorP18
open Go.Proofs.Tryz
open Array renaming getElem?_setIfInBounds_ne->ID,size_setIfInBounds->Mb
open Or renaming inr->IF,inl->I3
open Go.Value renaming string->IH,bool->IR,int->J0,slice->K0,pointer->Lz,agg->MA,tuple->M1
open Option renaming some->Jx,none->Kx
open Go.IntKind renaming i64->J1
open Go.Obj renaming cells->Kf
open Go.World renaming cell?->Ks,frozen?->L5
open Go renaming Value->K1,World->Lq,heap_alloc_new->L3,madeCells->Mu,wp_region_held_drew->Mz,Calls->MT,leaves_cons->MY
open Bool renaming false->K2,true->LO
open Go.Act renaming put->Ln
open Nat renaming le_trans->Lo,lt_of_lt_of_le->Ly,le_refl->LN,zero_le->Mp,mod_lt->Nd,not_lt->Nm
open Go.Result renaming andThen_ok->Lw
open Go.Proofs.Tryz renaming prog->LI,underlying80->L4,results35->Mn,underlying75->MD
open Go.Ending renaming returned->LL
open Go.Calls renaming mono->LR
open Go.Lib renaming decDigits->LS
open Go.Sem renaming run_bind->L1,run_pure->L2
set_option maxRecDepth 100000
set_option maxHeartbeats 8000000
namespace Go.Proofs.YtmehkneofinmiabGreatDoor
open Go.RowKit
variable {lk:Nat->Int}{c cells old LA:Array K1}{f:Nat×Nat}{S:Nat->Prop}{a w' w6 x y:Lq}{i tm u:Nat}{σ':St}{P:Program}{ops:Array Oper}{J:List UInt8}
def ej (σ:St)(key:List UInt8)(n:Nat)(body:List UInt8):St:=⟨σ.time,bT σ.Iz (bn (ae σ.Iz key) 1 σ.time n body),σ.log⟩
structure GR (w w':Lq)(s n:Nat)(rd:Int)(lk:Nat->Int)(σ':St)(M M':Mem)(p kc B T:Nat)(LA:Array K1):Prop where
 st:ak w' s n rd lk σ' M' kc B
 tk:w'.heap[T]?=Jx (Kf LA 110 (0,0))
 off:Off (λk=>M.own s n k\/k=p\/k=T) w w'
 own:∀k,M'.own s n k->M.own s n k\/w.heap.size<=k\/k=p
 g:M'.g=M.g
theorem iZ {w:Lq}{s n:Nat}{rd:Int}{σ:St}{M:Mem}{kc B:Nat}(h:ak w s n rd lk σ M kc B){k:Nat}(hk:M.own s n k):w.heap[k]?≠Jx (Kf c 110 f):=by
 intro e;rcases hk with rfl|rfl|⟨i,hi,hb⟩|⟨i,hi,hb⟩|⟨i,p,hi,hp,hb⟩|hb
 ·exact aa h.blk e (by decide) rfl
 ·obtain⟨cs,hc,_⟩:=h.row;exact aa hc e (by decide) rfl
 ·exact ai (h.kt i hi).k.row e (by decide) hb
 ·exact aa (h.Jc i hi k hb).blk e (by decide) rfl
 ·exact ai (h.Jc i hi p hp).row e (by decide) hb
 ·exact ai h.Jn e (by decide) hb
theorem pO {w:Lq}{T:Nat}{o o':Obj}(hT:w.heap[T]?=Jx o)(h':w'.heap[T]?=Jx o')(ho:Off (λk=>k=T\/S k) w w') :
 ∃w0:Lq,Off (λk=>k=T) w w0/\Off S w0 w'/\w0.heap.size=w.heap.size/\w0.heap[T]?=Jx o':=by
 have A0:T<w.heap.size:=(gL hT);refine⟨{ w with heap:=w.heap.setIfInBounds T o' },⟨rfl,rfl,rfl,by simp,λk hk hn=>?_⟩,⟨ho.os,ho.tape,ho.output,by simpa using ho.size,λk hk hn=>?_⟩,by simp,by simp[A0]⟩
 ·show(w.heap.setIfInBounds T o')[k]?=_;rw[ID (λe=>hn e.symm)]
 ·show _=(w.heap.setIfInBounds T o')[k]?;by_cases e:k=T
  ·subst e;rw[h'];simp[A0]
  ·rw[ID (λx=>e x.symm)];exact ho.block k (by simpa using hk) (λx=>x.elim e hn)
theorem pF {s n:Nat}{rd:Int}{σ:St}{M:Mem}{kc B:Nat}(T u:Nat)(tc:Array K1)(key:List UInt8)(p:Nat)(vs:K1)(t0 num:Nat)(body:List UInt8)(w:Lq)(h:ak w s n rd lk σ M kc B)(hf:Found w M n σ key p vs)
 (hn:num=(ae σ.Iz key).last+1)(hnB:num<=B)(hB:B<1000000000000000)(hkey:aW key=LO)(hb:body.length<=400)(hT:w.heap[T]?=Jx (Kf tc 110 (0,0)))(hsz:u+28<=tc.size)
 (hroom:(ae σ.Iz key).last=0->tc[u+20]?=Jx (IR LO)/\σ.Iz.length<60) :
 MT LI 102 #[Lz (Jx ⟨M.g,ao key%n*3,Kx⟩),Lz (Jx ⟨p,0,Kx⟩),ev 1 t0 key num body,mn s T u] w λe w' =>
  if 20<=(ae σ.Iz key).IB.length then e=LL (M1 #[J0 J1 507,IR K2])/\Below w.heap.size w w'
  else e=LL (M1 #[J0 J1 (bN (ae σ.Iz key) 1:Nat),IR LO])/\∃M',GR w w' s n rd lk (ej σ key num body) M M' p kc B T (dW tc u 1 t0 key num body):=by
 have hi:ao key%n<n:=Nd _ h.n1;obtain⟨f1,f2,f3,f4,f5,f6⟩:=h.found hf;have B0:key.length<=40:=by unfold aW at hkey;simp at hkey;exact hkey.2.1
 have A0:=cx σ.Iz key;obtain⟨cs,hc,hr⟩:=h.row;have B2:=h.time;by_cases hfull:20<=(ae σ.Iz key).IB.length
 ·(have ho:aX (ae σ.Iz key) 1 num=507:=by simp[aX,hfull]);refine(um M.g _ p (mn s T u) (ae σ.Iz key) vs 1 t0 num key body w hf.Jc (by omega) (by rw[ho];omega)).mono ?_;rintro e w' ⟨rfl,hw⟩;rw[if_pos hfull];exact⟨by rw[ho];rfl,hw⟩
 have ho:aX (ae σ.Iz key) 1 num=0:=by simp[aX,hfull]
 have Ao:mr (bn (ae σ.Iz key) 1 σ.time num body):=qi (by rw[A0];exact hkey) f1 f2 f3 f4 f5 ho (λh3=>by omega) (λ_=>hn) h.time hb;have Ag:bn (ae σ.Iz key) 1 σ.time num body=⟨(ae σ.Iz key).key,num,(ae σ.Iz key).IB++[⟨num,σ.time,(1:Nat)==2,body⟩]⟩:=by simp[bn]
 have Ap:(bn (ae σ.Iz key) 1 σ.time num body).last<=B:=by rw[Ag];exact hnB
 rcases hf.at' with⟨hp,As,A3,hl⟩|⟨hp,A3,hl⟩
 ·-- known
  refine(pn M.g _ p s T u _ tc σ.time kc (ae σ.Iz key) vs 1 t0 num key body w hf.Jc (by omega) ho (by omega) (by omega) (by omega) h.blk rfl rfl rfl hT hsz (by omega) (by omega) (by omega)).mono ?_;rintro e w' ⟨rfl,g2,A2,A6,hE,At,A7⟩;rw[if_neg hfull];obtain⟨w0,o1,o2,z0,Aw⟩:=pO hT A6 A7;have h0:ak w0 s n rd lk σ M kc B:=h.off o1 (λk hk e=>iZ h hk (e ▸ hT));(have Az:(bn (ae σ.Iz key) 1 σ.time num body).key=(M.en p).key:=by rw[iE,As]);(have Al:∀b,(K0 (Jx ⟨g2,0,Kx⟩) ((ae σ.Iz key).IB.length+1) A2).ownBlock=Jx b->(M.vs p).ownBlock=Jx b\/w0.heap.size<=b:=λb hb=>by injection hb with hb;simp only at hb;rw[A3,<-hb,z0];exact At);have Aa:=h0.Jc _ hi p hp;have Ai:w'.heap[s]?=Jx (Kf (storeCells rd M.g n M.cap σ.time kc M.jr) 99 (0,0)):=(o2.block s (gL h0.blk) (by
   rintro(e|e)
   ·exact aa h0.blk Aa.blk (by decide) e
   ·rw[<-A3] at e
    exact ai Aa.row h0.blk (by decide) e)).trans h0.blk
  have Ae:I4 w' 0 M.jr σ.log:=I4.off (base:=0) h0.Jn o2 (by
   intro b hb;rintro(e|e)
   ·exact ai h0.Jn Aa.blk (by decide) (e ▸ hb)
   ·rw[<-A3] at e
    exact bH h0.Jn Aa.row (by decide) b hb e)
  refine⟨rfl,_,⟨ak.Oo (B':=B) (Jk:=M.jr) (Ju:=σ.log) h0 hi hp Az Ao Ap (LN _) (by rw[Ag];exact hE) Al Ai Ae (o2.mono (by
   rintro b (e|e)
   ·exact IF (IF (I3 e))
   ·exact IF (IF (IF (by rw[A3];exact e))))),A6,A7.mono (by
   rintro b (e|e|e)
   ·exact IF (IF e)
   ·exact IF (I3 e)
   ·exact I3 (IF (IF (IF (IF (I3 ⟨_,p,hi,hp,by rw[A3];exact e⟩)))))),?_,rfl⟩⟩
  rintro b (e|e|e|e|⟨i,q,A1,hq,e⟩|e)
  ·exact I3 (I3 e)
  ·exact I3 (IF (I3 e))
  ·exact I3 (IF (IF (I3 e)))
  ·exact I3 (IF (IF (IF (I3 e))))
  ·change (upd M.vs p _ q).ownBlock=Jx b at e;by_cases eq:q=p
   ·subst eq;rw[upd_same] at e;rcases Al b e with h1|h1
    ·exact I3 (IF (IF (IF (IF (I3 ⟨i,q,A1,hq,h1⟩)))))
    ·exact IF (I3 (z0 ▸ h1))
   ·rw[aI eq] at e;exact I3 (IF (IF (IF (IF (I3 ⟨i,q,A1,hq,e⟩)))))
  ·exact I3 (IF (IF (IF (IF (IF e)))))
 ·-- it becomes known
  obtain⟨Ax,A9⟩:=hroom hl;obtain⟨j,A5,B1⟩:=h.KI key hl;(have A8:cR (M.keys (ao key%n)) (ae σ.Iz key).key j:=by rw[A0];exact A5);(have Aj:(M.ps (ao key%n)).length<1000000:=by(have h1:((M.ps (ao key%n)).map M.en).length<=σ.Iz.length:=by rw[h.JQ _ hi];exact List.length_filter_le _ _);rw[List.length_map] at h1;omega);(have Ay:er (M.keys (ao key%n)):=by rw[h.keys_eq hi];exact(h.rise.filter _).rising);(have A4:vs.ownBlock=Kx:=by rw[A3];rfl);refine(sB M.g _ p s T u cs _ tc (M.es (ao key%n)) (M.ps (ao key%n)) (M.keys (ao key%n)) j σ.time kc (ae σ.Iz key) vs 1 t0 num key body w hf.Jc (by omega) ho (by omega) (by omega) hl hc (hr _ hi).2 (h.kt _ hi) Ay Aj (by rw[A0];omega) A8 (λg hg=>by rw[A4] at hg;cases hg) h.blk rfl rfl rfl hT hsz Ax (by omega) (by omega) (by omega)).mono ?_;rintro e w' ⟨rfl,g1,Ah,g2,A2,A6,hg,Ak,Ar,hE,Aq,A7⟩;rw[if_neg hfull];obtain⟨w0,o1,o2,z0,Aw⟩:=pO hT A6 A7;have h0:ak w0 s n rd lk σ M kc B:=h.off o1 (λk hk e=>iZ h hk (e ▸ hT));have Au:p≠T:=λe=>aa hf.Jc.blk hT (by decide) e;have Ab:w0.heap[p]?=_:=(o1.block p (gL hf.Jc.blk) Au).trans hf.Jc.blk;have Ac:w0.heap[M.g]?=Jx (Kf cs 137 (0,0)):=(o1.block _ (gL hc) (λe=>aa hc hT (by decide) e)).trans hc;(have Ad:(bn (ae σ.Iz key) 1 σ.time num body).key=key:=by rw[iE,A0]);have Af:Off (λk=>k=s\/M.jr.ownBlock=Jx k\/k=M.g\/k=p\/(M.es (ao key%n)).ownBlock=Jx k) w0 w':=o2.mono (by
   rintro b (e|e|e|e)
   ·exact IF (IF (I3 e))
   ·exact IF (IF (IF (I3 e)))
   ·exact IF (IF (IF (IF e)))
   ·rw[A4] at e;cases e)
  have Am:∀b,(K0 (Jx ⟨g2,0,Kx⟩) ((ae σ.Iz key).IB.length+1) A2).ownBlock=Jx b->w0.heap.size<=b:=λb hb=>by
   injection hb with hb;simp only at hb;rw[<-hb,z0];rcases Aq with h1|h1
   ·rw[A4] at h1;cases h1
   ·exact h1
  (have An:∀b,(K0 (Jx ⟨g1,0,Kx⟩) ((M.ps (ao key%n)).length+1) Ah).ownBlock=Jx b->(M.es (ao key%n)).ownBlock=Jx b\/w0.heap.size<=b:=λb hb=>by injection hb with hb;simp only at hb;rw[<-hb,z0];exact Ar);have Ai:w'.heap[s]?=Jx (Kf (storeCells rd M.g n M.cap σ.time kc M.jr) 99 (0,0)):=(o2.block s (gL h0.blk) (by
   rintro(e|e|e|e)
   ·exact aa h0.blk Ac (by decide) e
   ·exact aa h0.blk Ab (by decide) e
   ·exact ai (h0.kt _ hi).k.row h0.blk (by decide) e
   ·rw[A4] at e;cases e)).trans h0.blk
  have Ae:I4 w' 0 M.jr σ.log:=I4.off (base:=0) h0.Jn o2 (by
   intro b hb;rintro(e|e|e|e)
   ·exact ai h0.Jn Ac (by decide) (e ▸ hb)
   ·exact ai h0.Jn Ab (by decide) (e ▸ hb)
   ·exact bH h0.Jn (h0.kt _ hi).k.row (by decide) b hb e
   ·rw[A4] at e;cases e)
  refine⟨rfl,_,⟨ak.add (LH:=kc) (B':=B) (Jk:=M.jr) (Ju:=σ.log) h0 (i:=ao key%n) (p:=p) (j:=j) (by rw[Ad]) hp Ab (by rw[Ad];exact(bV (λE hE=>(h.ok E hE).last) hl).1) (by rw[Ad];exact A5) Ao Ap (LN _) A9 Ac hr (by rw[Ag];exact hE) Am Ai Ae hg Ak An Af,A6,A7.mono (by
   rintro b (e|e|e|e|e)
   ·exact IF (IF e)
   ·exact I3 (IF (I3 e))
   ·exact IF (I3 e)
   ·exact I3 (IF (IF (I3 ⟨_,hi,e⟩)))
   ·rw[A4] at e;cases e),?_,rfl⟩⟩
  rintro b (e|e|⟨i,A1,e⟩|⟨i,A1,e⟩|⟨i,q,A1,hq,e⟩|e)
  ·exact I3 (I3 e)
  ·exact I3 (IF (I3 e))
  ·change (upd M.es (ao key%n) _ i).ownBlock=Jx b at e;by_cases ei:i=ao key%n
   ·subst ei;rw[upd_same] at e;rcases An b e with h1|h1
    ·exact I3 (IF (IF (I3 ⟨_,A1,h1⟩)))
    ·exact IF (I3 (z0 ▸ h1))
   ·rw[aI ei] at e;exact I3 (IF (IF (I3 ⟨i,A1,e⟩)))
  ·change b∈upd M.ps (ao key%n) _ i at e;by_cases ei:i=ao key%n
   ·subst ei;rw[upd_same] at e;rcases kz e with h1|h1
    ·exact IF (IF h1)
    ·exact I3 (IF (IF (IF (I3 ⟨_,A1,h1⟩))))
   ·rw[aI ei] at e;exact I3 (IF (IF (IF (I3 ⟨i,A1,e⟩))))
  ·change (upd M.vs p _ q).ownBlock=Jx b at e;by_cases eq:q=p
   ·subst eq;rw[upd_same] at e;exact IF (I3 (z0 ▸ Am b e))
   ·rw[aI eq] at e;change q∈upd M.ps (ao key%n) _ i at hq;have Av:q∈M.ps i:=by
     by_cases ei:i=ao key%n
     ·subst ei;rw[upd_same] at hq;exact(kz hq).resolve_left eq
     ·rw[aI ei] at hq;exact hq
    exact I3 (IF (IF (IF (IF (I3 ⟨i,q,A1,Av,e⟩)))))
  ·exact I3 (IF (IF (IF (IF (IF e)))))
open Go.RowKit Go.MuLone
noncomputable def fQ (σ:St)(t:Jg)(k:I9)(body:List UInt8)(tc:Array K1)(u:Nat):L9×St×Array K1 :=
 if aJ LO k (dA (ae σ.Iz t.key) t)≠0 then(⟨aJ LO k (dA (ae σ.Iz t.key) t),[],[]⟩,σ,tc)
 else if 20<=(ae σ.Iz t.key).IB.length then(⟨507,[],[]⟩,σ,tc)
 else(⟨bN (ae σ.Iz t.key) 1,[⟨[69,84,97,103],bX body⟩,⟨[86,101,114,115,105,111,110],LS ((ae σ.Iz t.key).last+1)⟩],[]⟩,ej σ t.key ((ae σ.Iz t.key).last+1) body,dW tc u 1 0 t.key ((ae σ.Iz t.key).last+1) body)
def Ce (w w':Lq)(e:Ending)(s n:Nat)(rd:Int)(lk:Nat->Int)(M:Mem)(kc B T:Nat)(r:L9×St×Array K1):Prop :=
 ∃fs M',e=LL (MA #[J0 J1 (r.1.told:Nat),fs,IH ⟨r.1.body.toArray⟩])/\w'.ownsRow 0 124 2 fs r.1.IQ.length (cN r.1.IQ)/\ak w' s n rd lk r.2.1 M' kc B/\M'.g=M.g/\w'.heap[T]?=Jx (Kf r.2.2 110 (0,0))/\Off (λk=>M.own s n k\/k=T) w w'/\∀k,M'.own s n k->M.own s n k\/w.heap.size<=k
structure wJ (w w6:Lq)(s n:Nat)(rd:Int)(lk:Nat->Int)(i:Nat)(σ':St)(M:Mem)(kc B T:Nat)(LA:Array K1)(a:Lq):Prop where
 ex:∃M',ak a s n rd (λj=>if j=i then 1 else lk j) σ' M' kc B/\M'.g=M.g/\Off (λk=>M.own s n k\/k=T) w a/\(∀k,M'.own s n k->M.own s n k\/w.heap.size<=k)/\Jm a/\a.heap[w.heap.size+1]?=Jx (Kf #[J0 J1 0,K0 Kx 0 0,IH ⟨#[]⟩] 80 (0,0))/\a.heap[T]?=Jx (Kf LA 110 (0,0))
theorem wJ.OY {w:Lq}{s n:Nat}{rd:Int}{M:Mem}{kc B T:Nat}(h:wJ w w6 s n rd lk i σ' M kc B T LA a):Jm a:=by
 obtain⟨_,_,_,_,_,h5,_⟩:=h.ex;exact h5
theorem wJ.off {w:Lq}{s n:Nat}{rd:Int}{M:Mem}{kc B T:Nat}{b:Lq}(h:wJ w w6 s n rd lk i σ' M kc B T LA a)(hT:Jm w6)(Qn:w.heap.size+1<w6.heap.size)(ho:Off (Loc w6.heap.size a) a b):wJ w w6 s n rd lk i σ' M kc B T LA b:=by
 obtain⟨M',h1,h2,h3,h4,h5,h6,h7⟩:=h.ex;refine⟨M',h1.off ho (λk hk hl=>?_),h2,h3.trans' ho (λk hk hl=>?_),h4,h5.off ho (λk hl=>hT.high hl.1),(ho.block _ (gL h6) (λhl=>?_)).trans h6,(ho.block _ (gL h7) (λhl=>?_)).trans h7⟩
 ·obtain⟨_,c,f,e⟩:=hl;exact fo h1 hk e
 ·have:=hl.1;omega
 ·have:=hl.1;omega
 ·obtain⟨_,c,f,e⟩:=hl;exact aa h7 e (by decide) rfl
theorem ED {w:Lq}{s n p:Nat}{rd:Int}{σ:St}{M:Mem}{kc B T:Nat}{tc:Array K1}{told:Nat}{f:FuncId}{args:Array K1}(QX:ak w6 s n rd (λj=>if j=i then 1 else lk j) σ M kc B)(UT:Jm w6)(hHi:∀k,M.own s n k->eh k)(Tq:Off (M.own s n) w w6)(hP:M.own s n p\/w.heap.size<=p)
 (OB:w6.heap[w.heap.size+1]?=Jx (Kf #[J0 J1 0,K0 Kx 0 0,IH ⟨#[]⟩] 80 (0,0)))(Qn:w.heap.size+1<w6.heap.size)(hpe:∃cp,w6.heap[p]?=Jx (Kf cp 183 (0,0)))(UQ:eh p)(UR:eh T)(MF:w6.heap[T]?=Jx (Kf tc 110 (0,0)))(hy:Below w6.heap.size w6 y)
 (hc:MT LI f args y λe w'=>e=LL (M1 #[J0 J1 (told:Nat),IR LO])/\∃M',GR y w' s n rd (λj=>if j=i then 1 else lk j) σ' M M' p kc B T LA) :
 MT LI f args y λe w'=>e=LL (M1 #[J0 J1 told,IR LO])/\wJ w w6 s n rd lk i σ' M kc B T LA w'/\(∀k,w6.heap.size<=k->k<y.heap.size->w'.heap[k]?=y.heap[k]?)/\y.heap.size<=w'.heap.size:=by
 refine hc.mono ?_;rintro e w' ⟨rfl,M',hd⟩;obtain⟨cp,hpe⟩:=hpe;have A1:p<w6.heap.size:=(gL hpe);have A2:T<w6.heap.size:=(gL MF);refine⟨rfl,⟨M',hd.st,hd.g,((Tq.mono (T:=λk=>M.own s n k\/k=T) λk h=>I3 h).trans (Off.of_below hy)).trans' hd.off (λk hk h=>?_),λk hk=>?_,(UT.below hy).off hd.off (λk h=>?_),?_,hd.tk⟩,λk h1 h2=>hd.off.block k h2 (λh=>?_),hd.off.size⟩
 ·rcases h with h|h|h
  ·exact I3 h
  ·rcases hP with h'|h'
   ·exact I3 (h ▸ h')
   ·omega
  ·exact IF h
 ·have A3:=hy.size;have A0:=Tq.size;rcases hd.own k hk with h|h|h
  ·exact I3 h
  ·right;omega
  ·exact h ▸ hP
 ·rcases h with h|h|h
  ·exact hHi k h
  ·exact h ▸ UQ
  ·exact h ▸ UR
 ·refine(hd.off.block _ (Ly Qn hy.size) (λh=>?_)).trans ((hy.block _ Qn).trans OB);rcases h with h|h|h
  ·exact fo QX h OB
  ·exact aa OB hpe (by decide) h
  ·exact aa OB MF (by decide) h
 ·rcases h with h|h|h
  ·have:=JB QX h;omega
  ·omega
  ·omega
theorem Gm {w:Lq}{s n:Nat}{rd:Int}{M M':Mem}{kc B T:Nat}{r:L9×St×Array K1}{fs:K1}(hi:i<n)(hlk:lk i=0)(hA:y.heap[w.heap.size+1]?=Jx (Kf #[J0 J1 0,K0 Kx 0 0,IH ⟨#[]⟩] 80 (0,0)))
 (hS:ak y s n rd (λj=>if j=i then 1 else lk j) r.2.1 M' kc B)(MF:y.heap[T]?=Jx (Kf r.2.2 110 (0,0)))(hg:M'.g=M.g)(hof:Off (λk=>M.own s n k\/k=T) w y)(hown:∀k,M'.own s n k->M.own s n k\/w.heap.size<=k)(hrow:y.ownsRow 0 124 2 fs r.1.IQ.length (cN r.1.IQ)) :
 (((y.setCell ⟨w.heap.size+1,0,Kx⟩ (J0 J1 (r.1.told:Nat))).setCell ⟨w.heap.size+1,1,Kx⟩ fs).setCell ⟨w.heap.size+1,2,Kx⟩ (IH ⟨r.1.body.toArray⟩)).cell? ⟨M.g,i*3,Kx⟩=Jx (J0 .i32 1) /\
 (((y.setCell ⟨w.heap.size+1,0,Kx⟩ (J0 J1 (r.1.told:Nat))).setCell ⟨w.heap.size+1,1,Kx⟩ fs).setCell ⟨w.heap.size+1,2,Kx⟩ (IH ⟨r.1.body.toArray⟩)).frozen? ⟨M.g,i*3,Kx⟩=K2 /\
 ((((y.setCell ⟨w.heap.size+1,0,Kx⟩ (J0 J1 (r.1.told:Nat))).setCell ⟨w.heap.size+1,1,Kx⟩ fs).setCell ⟨w.heap.size+1,2,Kx⟩ (IH ⟨r.1.body.toArray⟩)).setCell ⟨M.g,i*3,Kx⟩ (J0 .i32 0)).heap[w.heap.size+1]?=Jx (Kf #[J0 J1 (r.1.told:Nat),fs,IH ⟨r.1.body.toArray⟩] 80 (0,0)) /\
 Ce w ((((y.setCell ⟨w.heap.size+1,0,Kx⟩ (J0 J1 (r.1.told:Nat))).setCell ⟨w.heap.size+1,1,Kx⟩ fs).setCell ⟨w.heap.size+1,2,Kx⟩ (IH ⟨r.1.body.toArray⟩)).setCell ⟨M.g,i*3,Kx⟩ (J0 .i32 0)) (LL (MA #[J0 J1 (r.1.told:Nat),fs,IH ⟨r.1.body.toArray⟩])) s n rd lk M kc B T r:=by
 obtain⟨Y,hY⟩:=exj ((((y.setCell ⟨w.heap.size+1,0,Kx⟩ (J0 J1 (r.1.told:Nat))).setCell ⟨w.heap.size+1,1,Kx⟩ fs).setCell ⟨w.heap.size+1,2,Kx⟩ (IH ⟨r.1.body.toArray⟩)));rw[<-hY];have A7:Y.heap[w.heap.size+1]?=Jx (Kf #[J0 J1 (r.1.told:Nat),fs,IH ⟨r.1.body.toArray⟩] 80 (0,0)):=by rw[hY,heap_set (heap_set (heap_set hA))];rfl
 have A1:Off (λk=>k=w.heap.size+1) y Y:=by rw[hY];exact(((Off.refl (λk=>k=w.heap.size+1) _).set _ 0 _ (I3 rfl)).set _ 1 _ (I3 rfl)).set _ 2 _ (I3 rfl)
 have A5:ak Y s n rd (λj=>if j=i then 1 else lk j) r.2.1 M' kc B:=hS.off A1 (λk hk e=>fo hS hk (e ▸ hA));obtain⟨cs,hc,hr⟩:=A5.row;rw[hg] at hc;have A8:w.heap.size+1≠M.g:=aa A7 hc (by decide);refine⟨?_,by simp[L5,hc],(av A8).trans A7,fs,M',rfl,?_,?_,hg,?_,?_,hown⟩
 ·simp only[Ks,hc];simp[(hr i hi).1]
 ·have A4:Y.ownsRow 0 124 2 fs r.1.IQ.length (cN r.1.IQ):=by
   refine⟨hrow.1,?_⟩;rcases hrow.2 with h0|⟨g,A2,A3,hv,h1,A0,h2⟩
   ·exact I3 h0
   ·exact IF ⟨g,A2,A3,hv,h1,(A1.block g (gL A0) (aa A0 hA (by decide))).trans A0,h2⟩
  refine⟨A4.1,?_⟩;rcases A4.2 with h0|⟨g,A2,A3,hv,h1,A0,h2⟩
  ·exact I3 h0
  ·exact IF ⟨g,A2,A3,hv,h1,(av (aa A0 hc (by decide))).trans A0,h2⟩
 ·have:=A5.lock i hi 0;rw[hg] at this;have e:(λj=>if j=i then(0:Int) else if j=i then 1 else lk j)=lk:=by
   funext j;by_cases h:j=i
   ·simp[h,hlk]
   ·simp[h]
  rw[e] at this;exact this
 ·have A6:Y.heap[T]?=_:=(A1.block T (gL MF) (aa MF hA (by decide))).trans MF;exact(av (aa A6 hc (by decide))).trans A6
 ·exact(hof.trans' A1 (λk hk e=>by omega)).set M.g _ _ (I3 (I3 (IF (I3 rfl))))
theorem EO {s n:Nat}{rd:Int}{σ:St}{M:Mem}{kc B T:Nat}{tc:Array K1}(m:Nat)(t:Jg)(c:I7)(body:List UInt8)(w:Lq)(h:ak w s n rd lk σ M kc B)(hlk:lk (ao t.key%n)=0)(k:I9)(g0:Nat)(hR:Rq w g0 c k)(hg0:g0<=w.heap.size)(hMg:M.g<=g0)(hT:Jm w)(hHi:∀k,M.own s n k->eh k)(hkey:aW t.key=LO)(hbody:body.length<=400)(JJ:t.num<1000000000000000)
 (hm2:m=2)(hkd:t.kind≠3)(hB:B<140000000000000)(hlB:(ae σ.Iz t.key).last+1<=B)(MF:w.heap[T]?=Jx (Kf tc 110 (0,0)))(UR:eh T)(hsz:u+28<=tc.size)(hroom:(ae σ.Iz t.key).last=0->tc[u+20]?=Jx (IR LO)/\σ.Iz.length<60) :
 MT LI 35 #[Lz (Jx ⟨s,0,Kx⟩),eY m t (Jb m) c body,mn s T u] w λe w'=>Ce w w' e s n rd lk M kc B T (fQ σ t k body tc u):=by
 have Dc:Hid (m=2):=hm2;have hw:Jb m=LO:=by rw[hm2];rfl
 have HW:=IA hw;have Bw:T<w.heap.size:=(gL MF);have Bx:=IA MF;have Cp:=IA hroom;have Cr:=IA hlB;have Bt:Hid (∀k,M.own s n k->k≠T):=λk hk e=>iZ h hk (e ▸ MF);clear hm2 hw MF hroom hlB;have Dd:t.key.length<1000000:=by unfold aW at hkey;simp at hkey;omega
 obtain⟨rr,Bl⟩:=IG (fQ σ t k body tc u);rw[Bl];have Ab:=IA Bl;clear Bl;have e1:=hR.m.list.2.2.2;have e2:=hR.n.list.2.2.2;obtain⟨a1,m1,p1,e1⟩:=e1;obtain⟨a2,m2,p2,e2⟩:=e2;unfold eY;rw[e1,e2];obtain⟨i,A8⟩:=IG (ao t.key%n);have hi:i<n:=by rw[<-A8];exact Nd _ h.n1
 have HH:=IA h;clear h;go_enter_defers func35,ntmps35;go_wp2_with fail;obtain⟨X,hX⟩:=exj (((w.alloc (Kf #[J0 J1 (m:Int),J0 J1 (t.kind:Int),IH ⟨t.key.toArray⟩,J0 J1 (t.num:Int),IR (Jb m),IR c.hm,IR c.am,K0 a1 m1 p1,IR c.hn,IR c.an,K0 a2 m2 p2,IR c.hs,J0 J1 c.si,IR c.hu,J0 J1 c.ul,IR K2,IH ⟨#[]⟩,J0 J1 0,IH ⟨body.toArray⟩] 75)).alloc (Kf #[J0 J1 0,K0 Kx 0 0,IH ⟨#[]⟩] 80)));rw[<-hX];have Ay:Below w.heap.size w X:=by rw[hX];exact((Below.refl _ _).alloc (LN _) _).alloc (by simp) _
 have hQ:X.heap[w.heap.size]?=Jx (Kf #[J0 J1 (m:Int),J0 J1 (t.kind:Int),IH ⟨t.key.toArray⟩,J0 J1 (t.num:Int),IR (Jb m),IR c.hm,IR c.am,K0 a1 m1 p1,IR c.hn,IR c.an,K0 a2 m2 p2,IR c.hs,J0 J1 c.si,IR c.hu,J0 J1 c.ul,IR K2,IH ⟨#[]⟩,J0 J1 0,IH ⟨body.toArray⟩] 75 (0,0)):=by rw[hX];exact(heap_alloc_old _ _ (by simp)).trans (L3 _ _)
 have hZ:X.heap[w.heap.size+1]?=Jx (Kf #[J0 J1 0,K0 Kx 0 0,IH ⟨#[]⟩] 80 (0,0)):=by rw[hX];have:=L3 (w.alloc (Kf #[J0 J1 (m:Int),J0 J1 (t.kind:Int),IH ⟨t.key.toArray⟩,J0 J1 (t.num:Int),IR (Jb m),IR c.hm,IR c.am,K0 a1 m1 p1,IR c.hn,IR c.an,K0 a2 m2 p2,IR c.hs,J0 J1 c.si,IR c.hu,J0 J1 c.ul,IR K2,IH ⟨#[]⟩,J0 J1 0,IH ⟨body.toArray⟩] 75)) (Kf #[J0 J1 0,K0 Kx 0 0,IH ⟨#[]⟩] 80);simpa using this
 have By:w.heap.size+1<X.heap.size:=(gL hZ);clear hX;generalize (MA #[J0 J1 (m:Int),J0 J1 (t.kind:Int),IH ⟨t.key.toArray⟩,J0 J1 (t.num:Int),IR (Jb m),IR c.hm,IR c.am,K0 a1 m1 p1,IR c.hn,IR c.an,K0 a2 m2 p2,IR c.hs,J0 J1 c.si,IR c.hu,J0 J1 c.ul,IR K2,IH ⟨#[]⟩,J0 J1 0,IH ⟨body.toArray⟩])=Qv;have Az:=HH.out.below Ay;have Br:X.cell? ⟨s,6,Kx⟩=Jx (K0 (Jx ⟨M.g,0,Kx⟩) n M.cap):=by simp[Ks,Az.blk,storeCells]
 have HQ:=IA hQ;have HZ:=IA hZ;have Ap:=IA Az;have HL:=IA Ay;clear hQ hZ Az Ay;refine(ie s M.g n M.cap t.key X Br Ap.out.n1 Ap.out.n8 Dd).mono ?_;rintro e w1 ⟨rfl,Ao⟩;rw[A8];have Bh:=Ap.out.below Ao;obtain⟨cs,hc,hr⟩:=Bh.row;have Bi:lk i=0:=by rw[<-A8];exact hlk
 have l0:w1.cell? ⟨M.g,i*3,Kx⟩=Jx (J0 .i32 0):=by simp only[Ks,hc];simp[(hr i hi).1,Bi]
 have lf:w1.frozen? ⟨M.g,i*3,Kx⟩=K2:=by simp[L5,hc]
 have Bq:=IA Bh;have As:=IA Ao;have Cw:M.g≠w.heap.size:=aa hc ((Ao.block _ (by omega)).trans HQ.out) (by decide);have Dh:M.g≠w.heap.size+1:=aa hc ((Ao.block _ By).trans HZ.out) (by decide);clear Ao Bh hc hr Br cs;go_wp2_with (go_at_call 60;refine(lock_free Ja ⟨M.g,i*3,Kx⟩ _ l0 lf).mono ?_;rintro e w2 ⟨rfl,Aw⟩;have Af:w2.heap[w.heap.size]?=Jx (Kf #[J0 J1 (m:Int),J0 J1 (t.kind:Int),IH ⟨t.key.toArray⟩,J0 J1 (t.num:Int),IR (Jb m),IR c.hm,IR c.am,K0 a1 m1 p1,IR c.hn,IR c.an,K0 a2 m2 p2,IR c.hs,J0 J1 c.si,IR c.hu,J0 J1 c.ul,IR K2,IH ⟨#[]⟩,J0 J1 0,IH ⟨body.toArray⟩] 75 (0,0)):=(by rw[Aw,av Cw.symm];exact(As.out.block _ (by omega)).trans HQ.out);have q0:w2.cell? ⟨w.heap.size,0,Kx⟩=Jx (J0 J1 (m:Int)):=(by simp[Ks,Af]);have q1:w2.cell? ⟨w.heap.size,1,Kx⟩=Jx (J0 J1 (t.kind:Int)):=(by simp[Ks,Af]);have q2:w2.cell? ⟨w.heap.size,2,Kx⟩=Jx (IH ⟨t.key.toArray⟩):=(by simp[Ks,Af]);have Ag:Hid _:=Aw;have Ci:Hid _:=Af;clear Aw Af l0 lf);have Ba:ak w2 s n rd (λj=>if j=i then 1 else lk j) σ M kc B:=by rw[Ag.out];exact Bq.out.lock i hi 1
 have Ar:Below X.heap.size X w1:=As.out;have C7:Rq w2 g0 c k:=by rw[Ag.out];exact((hR.below hg0 HL.out).below (Lo hg0 HL.out.size) Ar).set (by omega)
 have Bp:Jm w2:=by rw[Ag.out];exact((hT.below HL.out).below Ar).off ((Off.refl (λk=>k=M.g) _).set M.g _ _ (I3 rfl)) (λk e=>e ▸ hHi _ (IF (I3 rfl)))
 have Ax:w2.heap[w.heap.size+1]?=Jx (Kf #[J0 J1 0,K0 Kx 0 0,IH ⟨#[]⟩] 80 (0,0)):=by rw[Ag.out,av Dh.symm];exact(As.out.block _ By).trans HZ.out
 have Bs:Off (M.own s n) w w2:=by rw[Ag.out];exact(Off.of_below (HL.out.trans (Ar.mono HL.out.size))).set M.g _ _ (I3 (IF (I3 rfl)))
 have B4:=jK t.key w2 Ba;rw[A8] at B4;refine B4.mono ?_;rintro e w3 ⟨p,vs,rfl,hF,A6,C8⟩;have Ae:w.heap.size+1<w2.heap.size:=(gL Ax);have Bb:w3.heap[w.heap.size]?=Jx (Kf #[J0 J1 (m:Int),J0 J1 (t.kind:Int),IH ⟨t.key.toArray⟩,J0 J1 (t.num:Int),IR (Jb m),IR c.hm,IR c.am,K0 a1 m1 p1,IR c.hn,IR c.an,K0 a2 m2 p2,IR c.hs,J0 J1 c.si,IR c.hu,J0 J1 c.ul,IR K2,IH ⟨#[]⟩,J0 J1 0,IH ⟨body.toArray⟩] 75 (0,0)):=(A6.block _ (by omega)).trans Ci.out;have C9:=IA Bb;have De:=IA ((A6.block _ Ae).trans Ax);have C2:=IA (Ba.below A6);have D1:=IA (C7.below (Lo hg0 (by omega)) A6);have C1:Hid (Jm w3):=Bp.below A6;have Df:Hid (Off (M.own s n) w w3):=Bs.trans (Off.of_below A6);have Bj:=IA hF;have HP:Hid (M.own s n p\/w.heap.size<=p):=C8.imp_right (λh=>by omega);have Ac:w.heap.size+1<w3.heap.size:=Ly Ae A6.size;obtain⟨q0,q1,q2,q3,-,-,-,-,-,-,-,-,-,-,-,-,-,-,-⟩:=D3 Bb;clear B4 Ba Ar C7 Bp Ax Bs A6 hF C8 Bb HQ HZ Ap Bq As Ci Ae
 ·have D9:((t.kind:Int)==3)=K2:=beq_eq_false_iff_ne.2 (by omega);obtain⟨f1,f2,f3,f4,f5,f6⟩:=C2.out.found Bj.out;go_wp2_with fail;refine(yf p (ae σ.Iz t.key) vs t w3 Bj.out.Jc (by omega)).mono ?_;rintro e w4 ⟨⟨v,rfl,hv⟩,Av⟩;have Bf:w4.heap[w.heap.size]?=Jx (Kf #[J0 J1 (m:Int),J0 J1 (t.kind:Int),IH ⟨t.key.toArray⟩,J0 J1 (t.num:Int),IR (Jb m),IR c.hm,IR c.am,K0 a1 m1 p1,IR c.hn,IR c.an,K0 a2 m2 p2,IR c.hs,J0 J1 c.si,IR c.hu,J0 J1 c.ul,IR K2,IH ⟨#[]⟩,J0 J1 0,IH ⟨body.toArray⟩] 75 (0,0)):=(Av.block _ (by omega)).trans C9.out;have Dl:=IA Bf;obtain⟨o,B2⟩:=IG (dA (ae σ.Iz t.key) t);rw[B2] at hv ⊢;have Ck:=IA B2;have HV:=IA hv;have Bd:=IA Av;have Bo:w.heap.size+1<w4.heap.size:=Ly Ac Av.size;(have Cm:w.heap.size<w4.heap.size:=by omega);unfold bq;obtain⟨-,-,-,-,r4,r5,r6,r7,r8,r9,D2,Ct,Dk,D4,Dj,Cz,Da,Db,-⟩:=D3 Bf;clear Bf B2 hv Av q0 q1 q2 q3;go_wp2_with fail;have Aj:Below w3.heap.size w3 (w4.alloc (Kf #[J0 J1 v.num,J0 J1 v.time,IR v.mark,IH ⟨v.body.toArray⟩] 147)):=Bd.out.alloc Bd.out.size _;have B6:∀u,o=Jx u->u∈(ae σ.Iz t.key).IB:=λu hu=>qH (Ck.out.trans hu);have At:=lx (Jb m) c k g0 v o (w4.alloc (Kf #[J0 J1 v.num,J0 J1 v.time,IR v.mark,IH ⟨v.body.toArray⟩] 147)) (D1.out.below (Lo hg0 (by omega)) Aj) HV.out (C1.out.below Aj).z (λu hu=>f4 u (B6 u hu));unfold ua bq at At;rw[e1,e2] at At;refine LR At ?_;rintro e w5 ⟨rfl,Bg⟩;have B5:w5.heap[w4.heap.size]?=Jx (Kf #[J0 J1 v.num,J0 J1 v.time,IR v.mark,IH ⟨v.body.toArray⟩] 147 (0,0)):=(Bg.block _ (by simp)).trans (L3 _ _);have A7:Below w3.heap.size w3 w5:=Aj.trans (Bg.mono Aj.size);have Au:w5.heap[w.heap.size]?=Jx (Kf #[J0 J1 (m:Int),J0 J1 (t.kind:Int),IH ⟨t.key.toArray⟩,J0 J1 (t.num:Int),IR (Jb m),IR c.hm,IR c.am,K0 a1 m1 p1,IR c.hn,IR c.an,K0 a2 m2 p2,IR c.hs,J0 J1 c.si,IR c.hu,J0 J1 c.ul,IR K2,IH ⟨#[]⟩,J0 J1 0,IH ⟨body.toArray⟩] 75 (0,0)):=(A7.block _ (by omega)).trans C9.out;have C4:=IA Au;have D6:=IA B5;have Cf:=IA ((A7.block _ Ac).trans De.out);have C5:=IA (C2.out.below A7);have Cx:Hid (Jm w5):=C1.out.below A7;have B0:Hid (Off (M.own s n) w w5):=Df.out.trans (Off.of_below A7);have Cc:=IA (Bj.out.below A7);have Dn:=IA B6;have A9:w.heap.size+1<w5.heap.size:=Ly Ac A7.size;(have Do:w.heap.size<w5.heap.size:=by omega);(have p0:w5.cell? ⟨w.heap.size,0,Kx⟩=Jx (J0 J1 (m:Int)):=by simp[Ks,Au]);(have p4:w5.cell? ⟨w.heap.size,4,Kx⟩=Jx (IR (Jb m)):=by simp[Ks,Au]);obtain⟨v0,v1,v2,v3⟩:=MM B5;clear At Aj B6 Bg B5 A7 Au r4 r5 r6 r7 r8 r9 D2 Ct Dk D4 Dj Cz Da Db Dl Bd Cm Bo;obtain⟨cf,B1⟩:=IG (aJ (Jb m) k o);rw[B1];have D0:=IA B1;clear B1
  have A2:Hid (fQ σ t k body tc u=if cf≠0 then(⟨cf,[],[]⟩,σ,tc) else if 20<=(ae σ.Iz t.key).IB.length then(⟨507,[],[]⟩,σ,tc)
   else(⟨bN (ae σ.Iz t.key) 1,[⟨[69,84,97,103],bX body⟩,⟨[86,101,114,115,105,111,110],LS ((ae σ.Iz t.key).last+1)⟩],[]⟩,ej σ t.key ((ae σ.Iz t.key).last+1) body,dW tc u 1 0 t.key ((ae σ.Iz t.key).last+1) body)):=by
   show _=_;unfold fQ;have:=D0.out;rw[HW.out] at this;rw[Ck.out,this]
  by_cases ME:cf≠0
  ·have Di:((cf:Int)==0)=K2:=beq_eq_false_iff_ne.2 (by omega);have An:Hid (rr=(⟨cf,[],[]⟩,σ,tc)):=Ab.out.symm.trans (by rw[A2.out,if_pos ME]);go_wp2_with fail;refine(iC cf _).mono ?_;rintro e y ⟨rfl,A5⟩;have A0:=(A5.block _ A9).trans Cf.out;obtain⟨a0,a1,a2⟩:=LP A0;have C3:=Je A0 0;have Cl:=Je A0 1;have Ch:=Je A0 2;have HE:=IA (Gm (w:=w) (i:=i) (lk:=lk) (M:=M) (M':=M) (r:=(⟨cf,[],[]⟩,σ,tc)) (fs:=K0 Kx 0 0) hi (by rw[<-A8];exact hlk) A0 (C5.out.below A5) ((((B0.out.trans (Off.of_below A5)).block T Bw (λh=>Bt.out _ h rfl))).trans Bx.out) rfl ((B0.out.trans (Off.of_below A5)).mono λk h=>I3 h) (λ_ h=>I3 h) ⟨rfl,I3 ⟨rfl,rfl⟩⟩);clear A0;go_wp2;refine MY (f:=61) (args:=#[Lz (Jx ⟨M.g,i*3,Kx⟩)]) (by simp) (by simp[go_sem]) ?_;refine(unlock_deferred Ja ⟨M.g,i*3,Kx⟩ .returning _ HE.out.1 HE.out.2.1).mono ?_;rintro e u' Cd ⟨rfl,rfl,rfl⟩;exact⟨_,aK Mn _ _ (w.heap.size+1) 80 _ (0,0) _ rfl HE.out.2.2.1 L4 rfl fb,by rw[An.out];exact HE.out.2.2.2⟩
  ·have Bm:cf=0:=Classical.not_not.1 ME;subst Bm
   ·have hw:=HW.out;rw[hw] at p4;have Ah:=oF p (ae σ.Iz t.key) vs m t LO c body w5 Cc.out.Jc (by omega) ⟨_,_,_,e1⟩ ⟨_,_,_,e2⟩;unfold eY at Ah;rw[e1,e2,cx] at Ah;obtain⟨kd,num,bd,Bk⟩:∃a b c,bJ (ae σ.Iz t.key) m t body=(a,b,c):=⟨_,_,_,rfl⟩;rw[Bk] at Ah;have Aq:=xY Bk (JJ:=JJ) (by omega:(ae σ.Iz t.key).last<140000000000000) hbody;have Ca:=IA Ah;(have Ai:Hid (w5.heap[w.heap.size]?=Jx (Kf #[J0 J1 (m:Int),J0 J1 (t.kind:Int),IH ⟨t.key.toArray⟩,J0 J1 (t.num:Int),IR LO,IR c.hm,IR c.am,K0 a1 m1 p1,IR c.hn,IR c.an,K0 a2 m2 p2,IR c.hs,J0 J1 c.si,IR c.hu,J0 J1 c.ul,IR K2,IH ⟨#[]⟩,J0 J1 0,IH ⟨body.toArray⟩] 75 (0,0))):=by have:=C4.out;rw[hw] at this;exact this);clear Ah;go_wp2_with (refine wpList_load_row rfl 75 (.tmp 4) rfl w.heap.size rfl 75 #[J0 J1 (m:Int),J0 J1 (t.kind:Int),IH ⟨t.key.toArray⟩,J0 J1 (t.num:Int),IR LO,IR c.hm,IR c.am,K0 a1 m1 p1,IR c.hn,IR c.an,K0 a2 m2 p2,IR c.hs,J0 J1 c.si,IR c.hu,J0 J1 c.ul,IR K2,IH ⟨#[]⟩,J0 J1 0,IH ⟨body.toArray⟩] (0,0) _ Ai.out MD rfl gj ?_);refine LR Ca.out ?_;rintro e w6 ⟨rfl,Ad⟩;have Bz:=(Ad.block _ A9).trans Cf.out;have Aa:w.heap.size+1<w6.heap.size:=Ly A9 Ad.size;have Cg:=C5.out.below Ad;have C6:Jm w6:=Cx.out.below Ad;have Be:Off (M.own s n) w w6:=B0.out.trans (Off.of_below Ad);have B8:=Cc.out.below Ad;have A3:w6.heap[T]?=Jx (Kf tc 110 (0,0)):=(Be.block T Bw (λh=>Bt.out _ h rfl)).trans Bx.out;(have A4:kd=1/\num=(ae σ.Iz t.key).last+1/\bd=body:=by have:=Bk;unfold bJ at this;rw[if_pos Dc.out] at this;injection this with x1 x2;injection x2 with x2 x3;exact⟨x1.symm,x2.symm,x3.symm⟩);have Am:∀y,Below w6.heap.size w6 y->_:=λy hy=>pF T u tc t.key p vs 0 num bd y (Cg.below hy) (B8.below hy) A4.2.1 (by rw[A4.2.1];exact Cr.out) (by omega) hkey Aq.2.2.2.1 ((hy.block T (gL A3)).trans A3) hsz Cp.out;rw[A8] at Am;have Bc:∃cp,w6.heap[p]?=Jx (Kf cp 183 (0,0)):=⟨_,B8.Jc.blk⟩;have D5:eh p:=HP.out.elim (hHi p) (λh=>hT.high h);have Cj:=IA Bz;have C0:=IA Cg;have Cb:=IA Be;have Bn:=IA A3;have Co:=IA A4;have Ak:=Aq.2.2.1;have Cu:=Aq.2.2.2.1;clear Ad Bz Be B8 C4 Ai Ca D6 v0 v1 v2 v3 p0 p4 Aq A3 A4;obtain⟨rfl,e7,rfl⟩:=Co.out;have HN:=IA e7;clear e7;by_cases hfull:20<=(ae σ.Iz t.key).IB.length
    ·have An:Hid (rr=(⟨507,[],[]⟩,σ,tc)):=Ab.out.symm.trans (by rw[A2.out,if_neg (by simp),if_pos hfull]);have Bv:=kj M.g (i*3) p (mn s T u) 1 0 num 507 t.key bd w6 (λy hy=>(Am y hy).mono λe w' hh=>by rw[if_pos hfull] at hh;exact hh);have Cs:=IA Bv;clear Bv Am hfull;go_wp2_with fail;refine LR Cs.out ?_;rintro e y ⟨rfl,A5⟩;have A0:=(A5.block _ Aa).trans Cj.out;obtain⟨a0,a1,a2⟩:=LP A0;have C3:=Je A0 0;have Cl:=Je A0 1;have Ch:=Je A0 2;have HE:=IA (Gm (w:=w) (i:=i) (lk:=lk) (M:=M) (M':=M) (r:=(⟨507,[],[]⟩,σ,tc)) (fs:=K0 Kx 0 0) hi (by rw[<-A8];exact hlk) A0 (C0.out.below A5) ((A5.block T (gL Bn.out)).trans Bn.out) rfl ((Cb.out.trans (Off.of_below A5)).mono λk h=>I3 h) (λ_ h=>I3 h) ⟨rfl,I3 ⟨rfl,rfl⟩⟩);clear A0;go_wp2;refine MY (f:=61) (args:=#[Lz (Jx ⟨M.g,i*3,Kx⟩)]) (by simp) (by simp[go_sem]) ?_;refine(unlock_deferred Ja ⟨M.g,i*3,Kx⟩ .returning _ HE.out.1 HE.out.2.1).mono ?_;rintro e u' Cd ⟨rfl,rfl,rfl⟩;exact⟨_,aK Mn _ _ (w.heap.size+1) 80 _ (0,0) _ rfl HE.out.2.2.1 L4 rfl fb,by rw[An.out];exact HE.out.2.2.2⟩
    ·have An:Hid (rr=(⟨bN (ae σ.Iz t.key) 1,[⟨[69,84,97,103],bX bd⟩,⟨[86,101,114,115,105,111,110],LS num⟩],[]⟩,ej σ t.key num bd,dW tc u 1 0 t.key num bd)):=Ab.out.symm.trans (by rw[A2.out,if_neg (by simp),if_neg hfull,HN.out]);obtain⟨told,A1⟩:=IG (bN (ae σ.Iz t.key) 1);have Cv:=IA A1;have Al:=λy hy=>ED (w:=w) (w6:=w6) (M:=M) (told:=told) (σ':=ej σ t.key num bd) (y:=y) C0.out C6 hHi Cb.out HP.out Cj.out Aa Bc D5 UR Bn.out hy ((Am y hy).mono λe w' hh=>by rw[if_neg hfull,A1] at hh;exact hh)
     ·have Bu:=jE M.g (i*3) p (mn s T u) 0 num told t.key bd w6 (wJ w w6 s n rd lk i (ej σ t.key num bd) M kc B T (dW tc u 1 0 t.key num bd)) (λa b ha hab=>ha.off C6 Aa hab) (λa ha=>⟨ha.OY.z,ha.OY.b⟩) (by omega) Ak Al;have Cn:=IA Bu;clear Bu Al Am A1 hfull;go_wp2_with fail;refine LR Cn.out ?_;rintro e y ⟨gs,rfl,D7,Cy⟩;obtain⟨M',D8,Dg,Cq,B7,Dm,B9,B3⟩:=D7.ex;have A0:=B9;obtain⟨a0,a1,a2⟩:=LP A0;have C3:=Je A0 0;have Cl:=Je A0 1;have Ch:=Je A0 2;have HE:=IA (Gm (w:=w) (i:=i) (lk:=lk) (M:=M) (M':=M') (r:=(⟨told,[⟨[69,84,97,103],bX bd⟩,⟨[86,101,114,115,105,111,110],LS num⟩],[]⟩,ej σ t.key num bd,dW tc u 1 0 t.key num bd)) (fs:=K0 (Jx ⟨gs,0,Kx⟩) 2 2) hi (by rw[<-A8];exact hlk) A0 D8 B3 Dg Cq B7 Cy);clear A0;go_wp2;refine MY (f:=61) (args:=#[Lz (Jx ⟨M.g,i*3,Kx⟩)]) (by simp) (by simp[go_sem]) ?_;refine(unlock_deferred Ja ⟨M.g,i*3,Kx⟩ .returning _ HE.out.1 HE.out.2.1).mono ?_;rintro e u' Cd ⟨rfl,rfl,rfl⟩;exact⟨_,aK Mn _ _ (w.heap.size+1) 80 _ (0,0) _ rfl HE.out.2.2.1 L4 rfl fb,by rw[An.out,Cv.out];exact HE.out.2.2.2⟩
abbrev rJ (m:Nat) (t:Jg) (c:I7) (body:List UInt8):Array K1 :=
 #[J0 J1 (m:Int),J0 J1 (t.kind:Int),IH ⟨t.key.toArray⟩,J0 J1 (t.num:Int),IR (Jb m),IR c.hm,IR c.am,c.lm,IR c.hn,IR c.an,c.ln,IR c.hs,J0 J1 c.si,IR c.hu,J0 J1 c.ul,IR K2,IH ⟨#[]⟩,J0 J1 0,IH ⟨body.toArray⟩]
noncomputable def Jf (σ:St)(t:Jg)(k:I9)(bd:Nat->List UInt8)(tc:Array K1):Nat->St×Array K1
 | 0=>(σ,tc)
 | j+1=>((fQ (Jf σ t k bd tc j).1 t k (bd j) (Jf σ t k bd tc j).2 (j*28)).2.1,(fQ (Jf σ t k bd tc j).1 t k (bd j) (Jf σ t k bd tc j).2 (j*28)).2.2.setIfInBounds (j*28+27)
    (IH ⟨(aL (fQ (Jf σ t k bd tc j).1 t k (bd j) (Jf σ t k bd tc j).2 (j*28)).1.told (fQ (Jf σ t k bd tc j).1 t k (bd j) (Jf σ t k bd tc j).2 (j*28)).1.IQ (fQ (Jf σ t k bd tc j).1 t k (bd j) (Jf σ t k bd tc j).2 (j*28)).1.body).toArray⟩))
theorem zZ (tc:Array K1)(o k t:Nat)(key:List UInt8)(n:Nat)(body:List UInt8)(x:Nat)(h:x<o+21\/o+27<=x):(dW tc o k t key n body)[x]?=tc[x]?:=by
 unfold dW;rw[ID (by omega),ID (by omega),ID (by omega),ID (by omega),ID (by omega),ID (by omega)]
theorem qa (tc:Array K1)(o k t:Nat)(key:List UInt8)(n:Nat)(body:List UInt8):(dW tc o k t key n body).size=tc.size:=by
 unfold dW;simp
theorem vG {σ:St}{t:Jg}{k:I9}{body:List UInt8}{tc:Array K1}(h:aJ LO k (dA (ae σ.Iz t.key) t)≠0):fQ σ t k body tc u=(⟨aJ LO k (dA (ae σ.Iz t.key) t),[],[]⟩,σ,tc):=if_pos h
theorem wo {σ:St}{t:Jg}{k:I9}{body:List UInt8}{tc:Array K1}(h:aJ LO k (dA (ae σ.Iz t.key) t)=0)(hf:20<=(ae σ.Iz t.key).IB.length):fQ σ t k body tc u=(⟨507,[],[]⟩,σ,tc):=(if_neg (λx=>x h)).trans (if_pos hf)
theorem vg {σ:St}{t:Jg}{k:I9}{body:List UInt8}{tc:Array K1}(h:aJ LO k (dA (ae σ.Iz t.key) t)=0)(hf:¬ 20<=(ae σ.Iz t.key).IB.length):fQ σ t k body tc u=(⟨bN (ae σ.Iz t.key) 1,[⟨[69,84,97,103],bX body⟩,⟨[86,101,114,115,105,111,110],LS ((ae σ.Iz t.key).last+1)⟩],[]⟩,ej σ t.key ((ae σ.Iz t.key).last+1) body,dW tc u 1 0 t.key ((ae σ.Iz t.key).last+1) body):=(if_neg (λx=>x h)).trans (if_neg hf)
theorem lM (σ:St)(t:Jg)(k:I9)(body:List UInt8)(tc:Array K1)(u:Nat):(fQ σ t k body tc u).2.2.size=tc.size/\∀x,x<u+21\/u+27<=x->(fQ σ t k body tc u).2.2[x]?=tc[x]?:=by
 by_cases h:aJ LO k (dA (ae σ.Iz t.key) t)=0
 ·by_cases hf:20<=(ae σ.Iz t.key).IB.length
  ·rw[wo h hf];exact⟨rfl,λ_ _=>rfl⟩
  ·rw[vg h hf];have h1:=qa tc u 1 0 t.key ((ae σ.Iz t.key).last+1) body;have h2:=zZ tc u 1 0 t.key ((ae σ.Iz t.key).last+1) body;generalize dW tc u 1 0 t.key ((ae σ.Iz t.key).last+1) body=z at h1 h2;exact⟨h1,h2⟩
 ·rw[vG h];exact⟨rfl,λ_ _=>rfl⟩
theorem gz (σ:St)(t:Jg)(k:I9)(bd:Nat->List UInt8)(tc:Array K1):∀j,(Jf σ t k bd tc j).2.size=tc.size/\∀x,j*28<=x->(Jf σ t k bd tc j).2[x]?=tc[x]?:=by
 intro j;induction j with
 | zero=>exact⟨rfl,λ_ _=>rfl⟩
 | succ j ih =>
   have hk:=lM (Jf σ t k bd tc j).1 t k (bd j) (Jf σ t k bd tc j).2 (j*28);refine⟨?_,λx hx=>?_⟩
   ·show(Array.setIfInBounds _ _ _).size=_;rw[Mb,hk.1,ih.1]
   ·show(Array.setIfInBounds _ _ _)[x]?=_;rw[ID (by omega),hk.2 x (IF (by omega)),ih.2 x (by omega)]
theorem xN (σ:St)(t:Jg)(k:I9)(body:List UInt8)(tc:Array K1)(u:Nat)(hl:(ae σ.Iz t.key).last+1<1000000000000000):pM (fQ σ t k body tc u).1:=by
 by_cases h:aJ LO k (dA (ae σ.Iz t.key) t)=0
 ·by_cases hf:20<=(ae σ.Iz t.key).IB.length
  ·rw[wo h hf];exact⟨by show(507:Nat)<100000;decide,by simp,by simp,by simp⟩
  ·rw[vg h hf];refine⟨by have:=tJ (ae σ.Iz t.key) 1;show bN _ 1<_;omega,by simp,?_,by simp⟩;intro f hf;simp at hf;rcases hf with rfl|rfl
   ·have:=gx body;simp;omega
   ·have:=BR hl;simp;omega
 ·rw[vG h];exact⟨by have:=tu LO k (dA (ae σ.Iz t.key) t);show aJ LO k _<_;omega,by simp,by simp,by simp⟩
theorem qo {S:Lq->Prop}{op:Oper}{a:Act}(hw:Region.wanted op (yielded ops a.tmps)=LO)(ty:TypeId)(x:Operand)(ho:op.op=.load ty x)
 (g u:Nat)(hx:a.eval x=Lz (Jx ⟨g,u,Kx⟩))(cs:Array K1)(d:TypeDesc)(hS:∀w:Lq,S w->∀(j:Nat) v,cs[j]?=Jx v->w.cell? ⟨g,u+j,Kx⟩=Jx v)
 (hu:P.underlying ty=Jx d)(hd:(match d with|.struct _|.array _ _=>LO|_=>K2)=LO)(hi:(P.info? ty).map (·.size)=Jx cs.size):YieldsIf P ops S op (MA cs) a :=
 .inl ⟨hw,λw hw'=>by
  have hl:(loadCells ⟨g,u,Kx⟩ cs.toList.length).run P w=.ok cs.toList.toArray w :=
   run_loadCells_list (P:=P) w ⟨g,u,Kx⟩ cs.toList (λj v hv=>by
    have hadd:(⟨g,u,Kx⟩:Addr).add j=⟨g,u+j,Kx⟩:=by unfold Addr.add;split<;>simp_all
    rw[hadd]
    exact hS w hw' j v (by simpa using hv))
  unfold execOp
  cases hq:P.info? ty with
  | none=>simp[hq] at hi
  | some i =>
    have hsz:i.size=cs.size:=by simpa [hq] using hi
    have hag:(isAgg ty:Sem Bool).run P w=.ok LO w:=by
     simp only[isAgg,underlying,L1,L2,Lw,run_program,hu];cases d<;>first|rfl|simp at hd
    (have A1:(sizeOf ty:Sem Nat).run P w=.ok cs.size w:=by simp only[sizeOf,typeInfo,L1,L2,Lw,run_program,hq,hsz]);have A0:(loadVar ty ⟨g,u,Kx⟩).run P w=.ok (MA cs) w:=by simp only[loadVar,L1,L2,Lw,hag,if_true,A1];(have:cs.size=cs.toList.length:=by simp);rw[this,hl];simp[Lw]
    simp only[ho,hx,Instr.loadAt,Instr.sureAddr,L1,L2,Lw,A0]⟩
open Go.RowKit Go.MuLone
theorem DQ {w:Lq}{s n:Nat}{rd:Int}{σ:St}{M:Mem}{kc B:Nat}(h:ak w s n rd lk σ M kc B){k:Nat}(hk:M.own s n k):w.heap[k]?≠Jx (Kf c 273 f):=by
 intro e;rcases hk with rfl|rfl|⟨i,hi,hb⟩|⟨i,hi,hb⟩|⟨i,p,hi,hp,hb⟩|hb
 ·exact aa h.blk e (by decide) rfl
 ·obtain⟨cs,hc,_⟩:=h.row;exact aa hc e (by decide) rfl
 ·exact ai (h.kt i hi).k.row e (by decide) hb
 ·exact aa (h.Jc i hi k hb).blk e (by decide) rfl
 ·exact ai (h.Jc i hi p hp).row e (by decide) hb
 ·exact ai h.Jn e (by decide) hb
theorem z7 {w:Lq}{s n:Nat}{rd:Int}{σ:St}{M:Mem}{kc B:Nat}(h:ak w s n rd lk σ M kc B){k:Nat}(hk:M.own s n k):w.heap[k]?≠Jx (Kf c 155 f):=by
 intro e;rcases hk with rfl|rfl|⟨i,hi,hb⟩|⟨i,hi,hb⟩|⟨i,p,hi,hp,hb⟩|hb
 ·exact aa h.blk e (by decide) rfl
 ·obtain⟨cs,hc,_⟩:=h.row;exact aa hc e (by decide) rfl
 ·exact ai (h.kt i hi).k.row e (by decide) hb
 ·exact aa (h.Jc i hi k hb).blk e (by decide) rfl
 ·exact ai (h.Jc i hi p hp).row e (by decide) hb
 ·exact ai h.Jn e (by decide) hb
theorem Rl.off {g:Nat}{h a:Bool}{l:K1}{s:Bool}{o:Option (Bool×eC)}(r:Rl x g h a l s o)(ho:Off S x y)(hS:∀b c f,x.heap[b]?=Jx (Kf c 273 f)->¬ S b):Rl y g h a l s o:=by
 obtain⟨r1,r2,r3⟩:=r;refine⟨r1,r2,?_⟩;cases o with
 | none=>exact r3
 | some p =>
   refine⟨r3.1,r3.2.1,?_⟩;rcases r3.2.2 with e|⟨b,A1,A0,hv,h1,hg,h2⟩
   ·exact I3 e
   ·exact IF ⟨b,A1,A0,hv,h1,(ho.block b (gL hg) (hS b _ _ hg)).trans hg,h2⟩
theorem Rq.off {g:Nat}{c:I7}{k:I9}(h:Rq x g c k)(ho:Off S x y)(hS:∀b c f,x.heap[b]?=Jx (Kf c 273 f)->¬ S b):Rq y g c k:=⟨h.m.off ho hS,h.n.off ho hS,h.s,h.u⟩
structure VJ (w:Lq)(s n T SB N:Nat)(rd:Int)(σ:St)(M:Mem)(kc B m:Nat)(t:Jg)(k:I9)(cs:Nat->I7)(gs:Nat->Nat)(bd:Nat->List UInt8)(tc:Array K1):Prop where
 st:ak w s n rd (λ_=>0) σ M kc B
 tk:w.heap[T]?=Jx (Kf tc 110 (0,0))
 sz:tc.size=N*28
 sh:∃ps,w.heap[SB]?=Jx (Kf ps 155 (0,0))/\∀j,j<N->ps[j]?=Jx (Lz (Jx ⟨T,j*28,Kx⟩))
 rq:∀j,j<N->∀(i:Nat) v,(rJ m t (cs j) (bd j))[i]?=Jx v->tc[j*28+i]?=Jx v
 cn:∀j,j<N->Rq w (gs j) (cs j) k/\gs j<=w.heap.size/\M.g<=gs j
 tb:Jm w
 hi:∀k,M.own s n k->eh k
 hT:eh T
 key:aW t.key=LO
 Q8:∀j,j<N->(bd j).length<=400
 num:t.num<1000000000000000
 m2:m=2
 kd:t.kind≠3
 bB:B<140000000000000
 lB:∀j,j<N->(ae (Jf σ t k bd tc j).1.Iz t.key).last+1<=B
 rm:∀j,j<N->(ae (Jf σ t k bd tc j).1.Iz t.key).last=0->(Jf σ t k bd tc j).2[j*28+20]?=Jx (IR LO)/\(Jf σ t k bd tc j).1.Iz.length<60
 nB:N<1000000
structure Oq (w:Lq)(s n T:Nat)(rd:Int)(M:Mem)(kc B:Nat)(p:St×Array K1)(wr:Lq):Prop where
 ex:∃M',ak wr s n rd (λ_=>0) p.1 M' kc B/\M'.g=M.g/\∀k,M'.own s n k->M.own s n k\/w.heap.size<=k
 tk:wr.heap[T]?=Jx (Kf p.2 110 (0,0))
 off:Off (λk=>M.own s n k\/k=T) w wr
section
variable {w:Lq} {s n T SB N:Nat} {rd:Int} {σ:St} {M:Mem} {kc B m:Nat} {t:Jg} {k:I9} {cs:Nat->I7} {gs:Nat->Nat} {bd:Nat->List UInt8} {tc:Array K1}
theorem pG (cp:Nat)(h:VJ w s n T SB N rd σ M kc B m t k cs gs bd tc) :
 MT LI 121 #[Lz (Jx ⟨s,0,Kx⟩),K0 (Jx ⟨SB,0,Kx⟩) N cp] w λe w'=>e=LL (M1 #[])/\Oq w s n T rd M kc B (Jf σ t k bd tc N) w':=by
 have HH:=IA h;have hN:=h.nB;clear h;go_enter func121,ntmps121;go_wp2_with fail;go_loopw [5,8] (λ_ iv wr=>∃j:Nat,j<=N/\iv=J0 J1 j/\Hid (Oq w s n T rd M kc B (Jf σ t k bd tc j) wr))
  (λ_ iv _=>N-(intOf iv).toNat)
 case atStart=>exact⟨0,Mp _,rfl,⟨⟨M,HH.out.st,rfl,λ_ h=>I3 h⟩,HH.out.tk,Off.refl _ _⟩⟩
 case round =>
  obtain⟨j,hj,rfl,hJ⟩:=hrel;by_cases hlt:j<N
  ·(have B1:(j:Int)<(N:Int):=by omega);have Aq:∀b,(M.own s n b\/b=T)->∀c f,w.heap[b]?≠Jx (Kf c 273 f):=λb hb c f e=>hb.elim (λhb=>DQ HH.out.st hb e) (λhb=>aa HH.out.tk e (by decide) hb.symm);obtain⟨ps,Ac,Ap⟩:=HH.out.sh;have Ar:wr.heap[SB]?=Jx (Kf ps 155 (0,0)):=(hJ.out.off.block SB (gL Ac) (λhb=>hb.elim (λhb=>z7 HH.out.st hb Ac) (λhb=>aa Ac HH.out.tk (by decide) hb))).trans Ac;(have sc:wr.cell? ⟨SB,j,Kx⟩=Jx (Lz (Jx ⟨T,j*28,Kx⟩)):=by simp only[Ks,Ar];simp[Ap j hlt]);obtain⟨Mj,hS,hg,Au⟩:=hJ.out.ex;have A4:=gz σ t k bd tc j;(have Ad:∀(i:Nat) v,(rJ m t (cs j) (bd j))[i]?=Jx v->wr.cell? ⟨T,j*28+i,Kx⟩=Jx v:=λi v hv=>by simp only[Ks,hJ.out.tk];simp[A4.2 (j*28+i) (by omega),HH.out.rq j hlt i v hv]);have A1:=IA Ad;have HS:=IA hS;have HO:=IA Au;have Av:=IA Aq;have HG:=IA hg;clear Aq Ac Ap Ar hS Au A4 Ad hg;go_wp2_with fail;obtain⟨u,hu⟩:=IG (j*28);rw[hu] at sc A1 ⊢;have HU:=IA hu;clear hu;obtain⟨RC,Ae⟩:=IG (rJ m t (cs j) (bd j));(have A5:RC.size=19:=by rw[<-Ae];rfl);have Ah:Below wr.heap.size wr wr.drew:=(Below.refl _ _).drew;have A6:Off (λk=>M.own s n k\/k=T) w wr:=hJ.out.off;have Az:Jm wr:=HH.out.tb.off A6 (λk hk=>hk.elim (HH.out.hi k) (λe=>e ▸ HH.out.hT));obtain⟨rr,Ab⟩:=IG (fQ (Jf σ t k bd tc j).1 t k (bd j) (Jf σ t k bd tc j).2 u);have An:MT LI 35 #[Lz (Jx ⟨s,0,Kx⟩),MA RC,mn s T u] wr.drew λe w'=>Ce wr.drew w' e s n rd (λ_=>0) Mj kc B T rr:=by
    have Af:=HH.out.cn j hlt;have:=EO (u:=u) m t (cs j) (bd j) wr.drew (HS.out.below Ah) rfl k (gs j) ((Af.1.off A6 (λb c f e hb=>Av.out b hb c f e)).below (Lo Af.2.1 A6.size) Ah) (Lo Af.2.1 A6.size) (by rw[HG.out];exact Af.2.2) (Az.below Ah)
     (λq hq=>(HO.out q hq).elim (HH.out.hi q) (λhq=>HH.out.tb.high hq)) HH.out.key (HH.out.Q8 j hlt) HH.out.num HH.out.m2 HH.out.kd HH.out.bB (HH.out.lB j hlt) hJ.out.tk HH.out.hT (by rw[(gz σ t k bd tc j).1,HH.out.sz,<-HU.out];omega) (λhl=>by rw[<-HU.out];exact HH.out.rm j hlt hl)
    unfold eY at this;rw[<-Ae,<-Ab];exact this
   have B0:=IA An;(have A3:pM rr.1:=by rw[<-Ab];exact xN _ _ _ _ _ _ (by have:=HH.out.lB j hlt;have:=HH.out.bB;omega));have Aj:=IA (lM (Jf σ t k bd tc j).1 t k (bd j) (Jf σ t k bd tc j).2 u);rw[Ae] at A1;rw[Ab] at Aj;have B3:=IA Ab;(have Al:u+28<=(Jf σ t k bd tc j).2.size:=by rw[(gz σ t k bd tc j).1,HH.out.sz,<-HU.out];omega);clear An Ab Ae Ah;refine Mz (S:=(λy=>∀(i:Nat) v,RC[i]?=Jx v->y.cell? ⟨T,u+i,Kx⟩=Jx v)) (by kernel_rfl) A1.out (λhHeld=>?_);refine IJ 0 hHeld ?_;(try simp only[Ln]);refine IJ 1 hHeld ?_;(try simp only[Ln]);refine IJ 2 hHeld ?_;(try simp only[Ln]);refine IJ 3 hHeld ?_;(try simp only[Ln]);refine IJ 4 hHeld ?_;(try simp only[Ln]);refine Ky 5 rfl (by kernel_rfl) (λ_ _ _ h=>h) (qo (by rfl) 75 (.tmp 16) rfl T u rfl RC _ (λy hy=>hy) MD rfl (by rw[A5];exact gj)) hHeld ?_;(try simp only[Ln]);refine IJ 6 hHeld ?_;(try simp only[Ln]);refine IJ 7 hHeld ?_;(try simp only[Ln]);refine IJ 8 hHeld ?_;(try simp only[Ln]);refine IJ 9 hHeld ?_;(try simp only[Ln]);refine IJ 10 hHeld ?_;(try simp only[Ln]);refine IJ 11 hHeld ?_;(try simp only[Ln]);refine I6 12 (λK hK=>?_);go_simp;refine LR B0.out ?_;rintro e w3 ⟨fs,M3,rfl,A8,A9,Ay,A2,A0,Ak⟩;have A0:Off (λk=>Mj.own s n k\/k=T) wr w3:=⟨A0.os,A0.tape,A0.output,A0.size,A0.block⟩;have Ao:Off (λk=>M.own s n k\/k=T) w w3:=A6.trans' A0 (λq hq h=>h.elim (λh=>(HO.out q h).elim I3 (λh=>absurd hq (Nm.2 h))) IF);have B2:Jm w3:=HH.out.tb.off Ao (λk hk=>hk.elim (HH.out.hi k) (λe=>e ▸ HH.out.hT));(have At:∀(i:Nat) v,RC[i]?=Jx v->w3.cell? ⟨T,u+i,Kx⟩=Jx v:=λi v hv=>by have h1:=A1.out i v hv;simp only[Ks,hJ.out.tk] at h1;simp only[Ks,A2];(have hi:i<19:=by rw[<-A5];exact(gL hv));simpa [Aj.out.2 (u+i) (I3 (by omega))] using h1);(try go_wp2_with fail);refine hK.out _ _ At (λhHeld=>?_);clear hK K;(try simp only[Ln]);refine I6 13 (λK hK=>?_);go_simp;refine(sM rr.1.told fs rr.1.IQ rr.1.body w3 B2.b A3.1 A8 A3.2.1 A3.2.2.1 A3.2.2.2).mono ?_;rintro e y ⟨rfl,Aa⟩;have A7:y.heap[T]?=Jx (Kf rr.2.2 110 (0,0)):=(Aa.block T (gL A2)).trans A2;have Ag:∀(i:Nat) v,RC[i]?=Jx v->y.cell? ⟨T,u+i,Kx⟩=Jx v:=λi v hv=>(World.cell?_of_block (w:=w3) (a:=⟨T,u+i,Kx⟩) (Aa.block T (gL A2))).trans (At i v hv);(have Ax:u+28<=rr.2.2.size:=by rw[Aj.out.1];exact Al);obtain⟨va,ha⟩:∃v,y.cell? ⟨T,u+27,Kx⟩=Jx v:=⟨rr.2.2[u+27],by simp[Ks,A7]⟩;(have B5:y.frozen? ⟨T,u+27,Kx⟩=K2:=by simp[L5,A7]);obtain⟨tx,Ai⟩:=IG (aL rr.1.told rr.1.IQ rr.1.body);rw[Ai];have Aw:=IA Ai;clear Ai;(try go_wp2_with fail);refine hK.out _ _ Ag (λhHeld=>?_);clear hK K;(try simp only[Ln]);refine I6 14 (λK hK=>?_);go_simp;refine hK.out _ _ Ag (λhHeld=>?_);clear hK K;(try simp only[Ln]);refine I6 15 (λK hK=>?_);go_simp;refine hK.out _ _ Ag (λhHeld=>?_);clear hK K;(try simp only[Ln]);refine I6 16 (λK hK=>?_);go_simp;obtain⟨Y,hY⟩:=exj (y.setCell ⟨T,u+27,Kx⟩ (IH ⟨tx.toArray⟩));rw[<-hY];(have Am:Off (λk=>k=T) y Y:=by rw[hY];exact(Off.refl (λk=>k=T) y).set T _ _ (I3 rfl));(have As:Y.heap[T]?=Jx (Kf (rr.2.2.setIfInBounds (u+27) (IH ⟨tx.toArray⟩)) 110 (0,0)):=by rw[hY];exact heap_set A7);(have B4:∀(i:Nat) v,RC[i]?=Jx v->Y.cell? ⟨T,u+i,Kx⟩=Jx v:=λi v hv=>by have h1:=Ag i v hv;(have hi:i<19:=by rw[<-A5];exact(gL hv));simp only[Ks,A7] at h1;simp only[Ks,As];rw[ID (by omega)];exact h1);(have HF:Hid (Oq w s n T rd M kc B (Jf σ t k bd tc (j+1)) Y):=by(have e1:Jf σ t k bd tc (j+1)=(rr.2.1,rr.2.2.setIfInBounds (u+27) (IH ⟨tx.toArray⟩)):=by rw[<-Aw.out,<-B3.out,<-HU.out];rfl);rw[e1];refine⟨⟨M3,(A9.below Aa).off Am (λq hq e=>iZ (A9.below Aa) hq (e ▸ A7)),Ay.trans HG.out,λq hq=>(Ak q hq).elim (HO.out q) (λh=>IF (Lo A6.size h))⟩,As,(Ao.trans (Off.of_below Aa)).trans (Am.mono λ_ h=>IF h)⟩);refine hK.out _ _ B4 (λhHeld=>?_);clear hK K;(try simp only[Ln]);refine wpAnyH_done (by kernel_rfl) ?_ _;clear hY;go_wp2;exact⟨⟨j+1,by omega,by go_num,HF⟩,by simp[intOf];omega⟩
  ·(obtain rfl:j=N:=by omega);go_wp2;go_end0;exact⟨rfl,hJ.out⟩
end
open Go.RowKit Go.MuLone
theorem ak.UF {kc B:Nat}{w:Lq}{s n:Nat}{rd:Int}{σ:St}{M:Mem}(h:ak w s n rd lk σ M kc B){Jk:K1}{Ju:List UInt8}
 (hb:w'.heap[s]?=Jx (Kf (storeCells rd M.g n M.cap σ.time kc Jk) 99 (0,0)))(hj:I4 w' 0 Jk Ju)(ho:Off (λk=>k=s\/M.jr.ownBlock=Jx k) w w') :
 ak w' s n rd lk ⟨σ.time,σ.Iz,Ju⟩ { M with jr:=Jk } kc B:=by
 obtain⟨cs,hc,hr⟩:=h.row;refine⟨h.n1,h.n8,hb,⟨cs,(ho.block _ (gL hc) ?_).trans hc,hr⟩,λi hi=>(h.kt i hi).off ho ?_ ?_,λi hi p hp=>(h.Jc i hi p hp).off ho ?_ ?_,h.JQ,hj,h.Le,h.Ka,h.rise,h.ok,h.many,h.time,h.lastB⟩
 ·rintro(e|e)
  ·exact aa hc h.blk (by decide) e
  ·exact ai h.Jn hc (by decide) e
 ·intro b hb;rintro(e|e)
  ·exact ai (h.kt i hi).k.row h.blk (by decide) (e ▸ hb)
  ·exact bH (h.kt i hi).k.row h.Jn (by decide) b hb e
 ·intro q hq;obtain⟨cq,A0⟩:=(h.kt i hi).t q hq;rintro(e|e)
  ·exact aa A0 h.blk (by decide) e
  ·exact ai h.Jn A0 (by decide) e
 ·have hb:=(h.Jc i hi p hp).blk;rintro(e|e)
  ·exact aa hb h.blk (by decide) e
  ·exact ai h.Jn hb (by decide) e
 ·intro b hb;rintro(e|e)
  ·exact ai (h.Jc i hi p hp).row h.blk (by decide) (e ▸ hb)
  ·exact bH (h.Jc i hi p hp).row h.Jn (by decide) b hb e
structure MV where
 kd:Nat
 t0:Nat
 key:List UInt8
 n:Nat
 body:List UInt8
def Gu (tc:Array K1)(u:Nat):Option MV->Prop
 | none=>tc[u+21]?=Jx (IR K2)
 | some r=>tc[u+21]?=Jx (IR LO)/\tc[u+22]?=Jx (J0 .u8 r.kd)/\tc[u+23]?=Jx (J0 J1 r.t0)/\tc[u+24]?=Jx (IH ⟨r.key.toArray⟩)/\tc[u+25]?=Jx (J0 J1 r.n)/\tc[u+26]?=Jx (IH ⟨r.body.toArray⟩)
def fP (tm:Nat)(rc:Nat->Option MV)(J:List UInt8):Nat->List UInt8
 | 0=>J
 | j+1=>match rc j with
   | none=>fP tm rc J j
   | some r=>fP tm rc J j++bG r.kd tm r.key r.n r.body
theorem qR {rc:Nat->Option MV}{j:Nat}(h:rc j=Kx):fP tm rc J (j+1)=fP tm rc J j:=by simp[fP,h]
theorem uI {rc:Nat->Option MV}{j:Nat}{r:MV}(h:rc j=Jx r):fP tm rc J (j+1)=fP tm rc J j++bG r.kd tm r.key r.n r.body:=by simp[fP,h]
structure TH (w:Lq)(s n T:Nat)(rd:Int)(M:Mem)(kc B:Nat)(σ:St)(tc:Array K1)(J:List UInt8)(wr:Lq):Prop where
 ex:∃M',ak wr s n rd (λ_=>0) ⟨σ.time,σ.Iz,J⟩ M' kc B/\M'.g=M.g/\∀k,M'.own s n k->M.own s n k\/w.heap.size<=k
 tk:wr.heap[T]?=Jx (Kf tc 110 (0,0))
 off:Off (M.own s n) w wr
section
variable {w:Lq} {s n T N:Nat} {rd:Int} {σ:St} {M:Mem} {kc B:Nat} {tc:Array K1}
theorem qM (cp:Nat)(rc:Nat->Option MV)(h:ak w s n rd (λ_=>0) σ M kc B)(hT:w.heap[T]?=Jx (Kf tc 110 (0,0)))(hsz:tc.size=N*28)(hN:N<1000000)
 (hr:∀j,j<N->Gu tc (j*28) (rc j))(hb:∀j r,j<N->rc j=Jx r->r.kd<256/\r.n<9223372036854775807/\r.key.length<100000/\r.body.length<100000)(hl:∀j,j<N->(fP σ.time rc σ.log j).length<140000000000000) :
 MT LI 78 #[Lz (Jx ⟨s,0,Kx⟩),K0 (Jx ⟨T,0,Kx⟩) N cp] w λe w'=>e=LL (M1 #[])/\TH w s n T rd M kc B σ tc (fP σ.time rc σ.log N) w':=by
 have HH:=IA h;have HT:=IA hT;have Aj:=IA hr;have HB:=IA hb;have HL:=IA hl;have Al:=h.time;clear h hT hr hb hl;go_enter func78,ntmps78;go_wp2_with fail;go_loopw [4,5,8] (λ_ _ iv wr=>∃j:Nat,j<=N/\iv=J0 J1 j/\Hid (TH w s n T rd M kc B σ tc (fP σ.time rc σ.log j) wr))
  (λ_ _ iv _=>N-(intOf iv).toNat)
 case atStart=>exact⟨0,Mp _,rfl,⟨⟨M,HH.out,rfl,λ_ h=>I3 h⟩,HT.out,Off.refl _ _⟩⟩
 case round =>
  obtain⟨j,hj,rfl,hJ⟩:=hrel;by_cases hlt:j<N
  ·(have Ai:(j:Int)<(N:Int):=by omega);obtain⟨u,hu⟩:=IG (j*28);have A1:=Aj.out j hlt;rw[hu] at A1;obtain⟨Mj,hS,hg,A6⟩:=hJ.out.ex;have A2:=hJ.out.tk;cases hrc:rc j with
   | none =>rw[hrc] at A1;have A1:tc[u+21]?=Jx (IR K2):=A1;(have d0:wr.cell? ⟨T,u+21,Kx⟩=Jx (IR K2):=by simp only[Ks,A2];simpa using A1);(have HF:Hid (TH w s n T rd M kc B σ tc (fP σ.time rc σ.log (j+1)) wr):=by rw[qR hrc];exact hJ.out);clear A1 hS A6 A2 hrc;go_wp2_with fail;exact⟨⟨j+1,by omega,by go_num,HF⟩,by simp[intOf];omega⟩
   | some r =>
     rw[hrc] at A1;obtain⟨r1,r2,r3,r4,r5,r6⟩:=A1;(have d0:wr.cell? ⟨T,u+21,Kx⟩=Jx (IR LO):=by simp only[Ks,A2];simpa using r1);have A7:Hid (∀(i:Nat) v,(#[J0 .u8 r.kd,J0 J1 r.t0,IH ⟨r.key.toArray⟩,J0 J1 r.n,IH ⟨r.body.toArray⟩]:Array K1)[i]?=Jx v->wr.cell? ⟨T,u+22+i,Kx⟩=Jx v):=by
      intro i v hv;simp only[Ks,A2]
      match i,hv with
      | 0,hv=>simpa using r2.trans (by simpa using hv)
      | 1,hv=>simpa using r3.trans (by simpa using hv)
      | 2,hv=>simpa using r4.trans (by simpa using hv)
      | 3,hv=>simpa using r5.trans (by simpa using hv)
      | 4,hv=>simpa using r6.trans (by simpa using hv)
      | i+5,hv=>simp at hv
     have A4:=HB.out j r hlt hrc;have Aa:=HL.out j hlt;have Ag:=IA hrc;have HS:=IA hS;have HO:=IA A6;have HG:=IA hg;have A5:=IA A2;have Ad:s≠T:=aa hS.blk A2 (by decide);have A3:Below wr.heap.size wr wr.drew:=(Below.refl _ _).drew;have A9:=jb s 7 _ 99 σ.time r.kd r.t0 r.n r.key r.body Mj.jr (fP σ.time rc σ.log j) wr.drew (hS.below A3).blk rfl rfl rfl (hS.below A3).Jn (ai (hS.below A3).Jn (hS.below A3).blk (by decide)) A4.1 (by omega) A4.2.1 A4.2.2.1 A4.2.2.2 Aa;have Af:=IA A9;clear r1 r2 r3 r4 r5 r6 hS A6 A2 hrc A4 Aa hg A9 A3;go_wp2_with fail;refine Mz (S:=(λy=>∀(i:Nat) v,(#[J0 .u8 r.kd,J0 J1 r.t0,IH ⟨r.key.toArray⟩,J0 J1 r.n,IH ⟨r.body.toArray⟩]:Array K1)[i]?=Jx v->y.cell? ⟨T,u+22+i,Kx⟩=Jx v)) (by kernel_rfl) A7.out (λhHeld=>?_);refine IJ 0 hHeld ?_;(try simp only[Ln]);refine IJ 1 hHeld ?_;(try simp only[Ln]);refine IJ 2 hHeld ?_;(try simp only[Ln]);refine IJ 3 hHeld ?_;(try simp only[Ln]);refine IJ 4 hHeld ?_;(try simp only[Ln]);refine IJ 5 hHeld ?_;(try simp only[Ln]);refine Ky 6 rfl (by kernel_rfl) (λ_ _ _ h=>h) (qo (by rfl) 108 (.tmp 23) rfl T (u+22) rfl #[J0 .u8 r.kd,J0 J1 r.t0,IH ⟨r.key.toArray⟩,J0 J1 r.n,IH ⟨r.body.toArray⟩] _ (λy hy=>hy) underlying108 rfl (by kernel_rfl)) hHeld ?_;(try simp only[Ln]);refine I6 7 (λK hK=>?_);go_simp;refine LR Af.out ?_;rintro e y ⟨rfl,Ae,Ab,Ah,Ac,A0⟩;have A0:Off (λk=>k=s\/Mj.jr.ownBlock=Jx k) wr y:=⟨A0.os,A0.tape,A0.output,A0.size,A0.block⟩;have A8:y.heap[T]?=Jx (Kf tc 110 (0,0)):=(A0.block T (gL A5.out) (by
      rintro(e|e)
      ·exact Ad e.symm
      ·exact ai HS.out.Jn A5.out (by decide) e)).trans A5.out
     (have Ak:∀(i:Nat) v,(#[J0 .u8 r.kd,J0 J1 r.t0,IH ⟨r.key.toArray⟩,J0 J1 r.n,IH ⟨r.body.toArray⟩]:Array K1)[i]?=Jx v->y.cell? ⟨T,u+22+i,Kx⟩=Jx v:=λi v hv=>by have:=A7.out i v hv;simp only[Ks,A5.out] at this;simp only[Ks,A8];exact this);have HF:Hid (TH w s n T rd M kc B σ tc (fP σ.time rc σ.log (j+1)) y):=by
      rw[uI Ag.out];refine⟨⟨_,HS.out.UF Ab Ah A0,HG.out,λq hq=>?_⟩,A8,hJ.out.off.trans' A0 (λq hq h=>?_)⟩
      ·rcases hq with e|e|e|e|e|e
       ·exact HO.out q (I3 e)
       ·exact HO.out q (IF (I3 e))
       ·exact HO.out q (IF (IF (I3 e)))
       ·exact HO.out q (IF (IF (IF (I3 e))))
       ·exact HO.out q (IF (IF (IF (IF (I3 e)))))
       ·change Ae.ownBlock=Jx q at e;rcases Ac with h1|⟨g,h1,h2⟩
        ·exact HO.out q (IF (IF (IF (IF (IF (h1 ▸ e))))))
        ·rw[h1] at e;injection e with e;exact IF (Lo hJ.out.off.size (e ▸ h2))
      ·rcases h with e|e
       ·exact I3 e
       ·exact(HO.out q (IF (IF (IF (IF (IF e)))))).elim id (λh=>absurd hq (Nm.2 h))
     (try go_wp2_with fail);refine hK.out _ _ Ak (λhHeld=>?_);clear hK K;(try simp only[Ln]);refine wpAnyH_done (by kernel_rfl) ?_ _;go_wp2;exact⟨⟨j+1,by omega,by go_num,HF⟩,by simp[intOf];omega⟩
  ·(obtain rfl:j=N:=by omega);go_wp2;go_end0;exact⟨rfl,hJ.out⟩
end
open Go.RowKit Go.MuLone
section
variable {w:Lq} {T N:Nat} {tc:Array K1}
theorem pe (cp:Nat)(kd:Nat)(hT:w.heap[T]?=Jx (Kf tc 110 (0,0)))(hN:N<1000000)(h0:∀j,j<N->tc[j*28+19]?=Jx (J0 J1 0)/\tc[j*28+1]?=Jx (J0 J1 (kd:Int)))(hk:((kd:Int)==0)=K2) :
 MT LI 76 #[K0 (Jx ⟨T,0,Kx⟩) N cp] w λe w'=>e=LL (J0 J1 N)/\w'=w:=by
 have HT:=IA hT;have H0:=IA h0;clear hT h0;go_enter func76,ntmps76;go_wp2_with fail;go_loopw [3,6] (λ_ iv wr=>∃j:Nat,j<=N/\iv=J0 J1 j/\wr=w)
  (λ_ iv _=>N-(intOf iv).toNat)
 case atStart=>exact⟨0,Mp _,rfl,rfl⟩
 case round =>
  obtain⟨j,hj,rfl,rfl⟩:=hrel;by_cases hlt:j<N
  ·(have A0:(j:Int)<(N:Int):=by omega);(have d0:wr.cell? ⟨T,j*28+19,Kx⟩=Jx (J0 J1 0):=by simp only[Ks,HT.out];simpa using(H0.out j hlt).1);(have d1:wr.cell? ⟨T,j*28+1,Kx⟩=Jx (J0 J1 (kd:Int)):=by simp only[Ks,HT.out];simpa using(H0.out j hlt).2);go_wp2_with fail;exact⟨⟨j+1,by omega,by go_num,by first|rfl|trivial⟩,by simp[intOf];omega⟩
  ·(obtain rfl:j=N:=by omega);go_wp2;go_ret;exact⟨rfl,rfl⟩
end
open Go.RowKit Go.MuLone
def rowAt (old:Array K1)(u:Nat)(cells:Array K1):Array K1:=(old.toList.take u++cells.toList++old.toList.drop (u+cells.toList.length)).toArray
theorem nR (h:u+cells.size<=old.size):(rowAt old u cells).size=old.size:=by
 simp[rowAt];omega
theorem BN (h:u+cells.size<=old.size)(hi:i<cells.size):(rowAt old u cells)[u+i]?=cells[i]?:=by
 simp only[rowAt,List.getElem?_toArray];rw[List.append_assoc,List.getElem?_append_right (by simp;omega)];have e:u+i-(old.toList.take u).length=i:=by simp;omega
 rw[e,List.getElem?_append_left (by simpa using hi)];simp
theorem gK (h:u+cells.size<=old.size){x:Nat}(hx:x<u\/u+cells.size<=x):(rowAt old u cells)[x]?=old[x]?:=by
 simp only[rowAt,List.getElem?_toArray];rcases hx with hx|hx
 ·rw[List.append_assoc,List.getElem?_append_left (by simp;omega),List.getElem?_take,if_pos hx];simp
 ·rw[List.getElem?_append_right (by simp;omega),List.getElem?_drop];(have e:u+cells.toList.length+(x-(old.toList.take u++cells.toList).length)=x:=by simp;omega);rw[e];simp
theorem mI {rest:List Oper}{o:Oper}{a:Act}{w:Lq}{Q:Exit->Act->Lq->Prop}(hgd:o.guard=Kx)(ty:TypeId)(x y:Operand)(ho:o.op=.store ty x y)
 (g u:Nat)(cells:Array K1)(hx:a.eval x=Lz (Jx ⟨g,u,Kx⟩))(hy:a.eval y=MA cells)
 (t:TypeId)(old:Array K1)(hg:w.heap[g]?=Jx (Kf old t (0,0)))(hi:(P.info? ty).map (·.size)=Jx cells.size)
 (hold:u+cells.size<=old.size)(h1:cells.all (·.oneCell')=LO)
 (h:wpList P ops Q rest (a.put o.dst undef) (w.setRow g (rowAt old u cells))):wpList P ops Q (o::rest) a w :=
 wpList_plain hgd λ_ hK=>by
  have hst:(storeVar ty ⟨g,u,Kx⟩ (MA cells)).run P w=.ok () (w.setRow g (rowAt old u cells)):=by
   have:=run_storeCells_at (P:=P) g u t cells.toList 0 old w hg (by simpa using hold) (λv hv=>by simpa using Array.all_eq_true_iff_forall_mem.1 h1 v (by simpa using hv));cases hq:P.info? ty with
   | none=>simp[hq] at hi
   | some i =>(have hs:cells.size=i.size:=by simp[hq] at hi;omega);simpa [storeVar,sizeOf,typeInfo,hq,Value.cells,hs,rowAt] using this
  unfold Oper.wp execOp;simp only[ho,hx,hy,Instr.storeAt,Instr.sureAddr,L1,L2,Lw,hst];exact hK _ _ h
open Go.RowKit Go.MuLone
abbrev xZ:Array K1:=#[J0 J1 0,J0 J1 0,IH ⟨#[]⟩,J0 J1 0,IR K2,IR K2,IR K2,K0 Kx 0 0,IR K2,IR K2,K0 Kx 0 0,IR K2,J0 J1 0,IR K2,J0 J1 0,IR K2,IH ⟨#[]⟩,J0 J1 0,IH ⟨#[]⟩,J0 J1 0,IR K2,IR K2,J0 .u8 0,J0 J1 0,IH ⟨#[]⟩,J0 J1 0,IH ⟨#[]⟩,IH ⟨#[]⟩]
theorem Cv:(prog.info? 110).map (λi=>(i.zero,i.size,i.bytes))=Jx (Jx (MA xZ),28,288):=by kernel_rfl
theorem xR (z:Array K1)(n i x:Nat)(hi:i<n)(hx:x<z.size):(Mu z (n*z.size))[i*z.size+x]?=z[x]?:=by
 have A0:i*z.size+x<n*z.size:=by have:=Nat.mul_le_mul_right z.size (show i+1<=n from hi);rw[Nat.add_mul,Nat.one_mul] at this;omega
 unfold Mu;rw[Array.getElem?_map,Array.getElem?_range,if_pos A0,Option.map_some];have e:(i*z.size+x)%z.size=x:=by rw[Nat.mul_comm,Nat.mul_add_mod];exact Nat.mod_eq_of_lt hx
 show Jx (z[(i*z.size+x)%z.size]!)=_;rw[e];simp[hx]
theorem lp (z:Array K1)(n:Nat):(Mu z n).size=n:=by
 simp[Mu]
structure TF (w:Lq)(N m:Nat)(t:Jg)(k:I9)(bd:Nat->List UInt8)(j:Nat)(cs:Nat->I7)(gs:Nat->Nat)(wr:Lq):Prop where
 blk:∃tc,wr.heap[w.heap.size]?=Jx (Kf tc 110 (0,0))/\tc.size=N*28/\(∀i,i<j->∀(x:Nat) v,(rJ m t (cs i) (bd i))[x]?=Jx v->tc[i*28+x]?=Jx v)/\(∀i,i<N->tc[i*28+19]?=Jx (J0 J1 0))/\(∀i,i<N->tc[i*28+20]?=Jx (IR K2))/\∀i,i<N->tc[i*28+21]?=Jx (IR K2)
 rq:∀i,i<j->Rq wr (gs i) (cs i) k/\gs i<=wr.heap.size/\w.heap.size<gs i
 below:Below w.heap.size w wr
section
variable {w:Lq} {R N m:Nat} {t:Jg} {k:I9} {bd:Nat->List UInt8} {l:Nat->List UInt8}
theorem oS (cp:Nat)(hM:bu w)(hN:N<1000)(hN0:0<N)(hc:∀j,j<N->w.cell? ⟨R,j,Kx⟩=Jx (IH ⟨(l j).toArray⟩))(hl:∀j,j<N->(l j).length<=9223372036854775807)(hrd:∀j,j<N->aZ (l j)=.ok (m,t,k,bd j))(Vm:∀j,j<N->jX (l j)) :
 MT LI 37 #[K0 (Jx ⟨R,0,Kx⟩) N cp] w λe w'=>e=LL (K0 (Jx ⟨w.heap.size,0,Kx⟩) N N)/\∃cs gs,TF w N m t k bd N cs gs w':=by
 have HM:Hid (bu w):=hM;have HC:=IA hc;have HL:=IA hl;have Ay:=IA hrd;have Bb:=IA Vm;have B0:R<w.heap.size:=bj (hc 0 hN0);obtain⟨i0,B6,Ax,As,B2⟩:=info_parts Cv;have Ai:=run_makeSlice (P:=LI) w 103 110 i0 _ underlying103 B6 Ax J1 J1 N N (by omega) (by omega) (by rw[As];omega) (by rw[B2];omega) (by omega);rw[As] at Ai;simp only[Int.toNat_natCast] at Ai;obtain⟨z0,hz⟩:=IG (Mu (MA xZ).cells (N*28));rw[hz] at Ai;have zs:z0.size=N*28:=by rw[<-hz];exact lp _ _
 have zc:∀i,i<N->∀x,x<28->z0[i*28+x]?=xZ[x]?:=λi hi x hx=>by rw[<-hz];exact xR xZ N i x hi hx
 have B8:=IA zs;have Al:=IA zc;clear hM hc hl hrd Vm hz zs zc;go_enter func37,ntmps37;go_wp2_with fail;go_loopw [4,5,11] (λ_ _ iv wr=>∃j:Nat,j<=N/\iv=J0 J1 j/\Hid (∃cs gs,TF w N m t k bd j cs gs wr))
  (λ_ _ iv _=>N-(intOf iv).toNat)
 case atStart =>refine⟨0,Mp _,rfl,λ_=>⟨K2,K2,K0 Kx 0 0,K2,K2,K0 Kx 0 0,K2,0,K2,0,K2,K2,K2,K2⟩,λ_=>0,⟨z0,L3 _ _,B8.out,λi hi=>by omega,λi hi=>Al.out i hi 19 (by omega),λi hi=>Al.out i hi 20 (by omega),λi hi=>Al.out i hi 21 (by omega)⟩,λi hi=>by omega,(Below.refl _ _).alloc (LN _) _⟩
 case round =>
  obtain⟨j,hj,rfl,hJ⟩:=hrel;by_cases hlt:j<N
  ·(have Ba:(j:Int)<(N:Int):=by omega);obtain⟨cs,gs,hR⟩:=hJ.out;have rc:wr.cell? ⟨R,j,Kx⟩=Jx (IH ⟨(l j).toArray⟩):=(hR.below.cell (p:=⟨R,j,Kx⟩) B0).trans (HC.out j hlt);have A1:=uF E5 (l j) wr (HM.out.below hR.below) (HL.out j hlt) (Bb.out j hlt);have A6:=IA A1;have HR:=IA hR;clear A1 hR;go_wp2_with fail;refine LR A6.out ?_;rintro e w2 ⟨Ak,Aa⟩;obtain⟨m',t',k',Ar,c,g,Aq,rfl,Be,B9,Ae⟩:=Aa;have e4:=Aq.symm.trans (Ay.out j hlt);cases e4;clear Aq;obtain⟨u,hu⟩:=IG (j*28);obtain⟨RC,A5⟩:=IG (rJ m t c (bd j));(have A7:RC.size=19:=by rw[<-A5];rfl);(have Af:RC.all (·.oneCell')=LO:=by obtain⟨_,_,_,e1⟩:=Ae.m.slice;obtain⟨_,_,_,e2⟩:=Ae.n.slice;rw[<-A5];simp[rJ,e1,e2,Value.oneCell']);obtain⟨tc,Ag,Am,Ap,A8,A9,A3⟩:=HR.out.blk;have Au:w.heap.size<wr.heap.size:=(gL Ag);have An:w2.heap[w.heap.size]?=Jx (Kf tc 110 (0,0)):=(Ak.block _ Au).trans Ag;(have Bf:u+28<=tc.size:=by rw[Am,<-hu];omega);unfold eY;rw[hu];have A4:(#[J0 J1 (m:Int),J0 J1 (t.kind:Int),IH ⟨t.key.toArray⟩,J0 J1 (t.num:Int),IR (Jb m),IR c.hm,IR c.am,c.lm,IR c.hn,IR c.an,c.ln,IR c.hs,J0 J1 c.si,IR c.hu,J0 J1 c.ul,IR K2,IH ⟨#[]⟩,J0 J1 0,IH ⟨(bd j).toArray⟩]:Array K1)=RC:=A5;rw[A4];have Az:=IA A5;have HU:=IA hu;have Bc:=IA Ae;have Aj:=IA Ak;have B7:=IA Am;have B3:=IA Ap;have Ao:=IA A8;have Aw:=IA A9;have Av:=IA A3;have Ah:=IA An;clear A5 A4 hu Ae Ak Am Ap A8 A9 A3 Ag An;go_wp2_with (refine mI rfl 75 (.tmp 28) (.tmp 25) rfl w.heap.size u RC rfl rfl 110 tc Ah.out (by rw[A7];exact gj) (by omega) Af ?_;obtain⟨X,hX⟩:∃X,X=w2.setRow w.heap.size (rowAt tc u RC):=⟨_,rfl⟩;rw[<-hX];have Ad:X.heap[w.heap.size]?=Jx (Kf (rowAt tc u RC) 110 (0,0)):=(by rw[hX];exact setRow_heap w2 _ _ _ _ _ Ah.out);have A2:(rowAt tc u RC)[u+19]?=Jx (J0 J1 0):=(by rw[gK (by omega) (IF (by omega)),<-HU.out];exact Ao.out j hlt);have Bd:X.cell? ⟨w.heap.size,u+19,Kx⟩=Jx (J0 J1 0):=(by simp[Ks,Ad,A2]);have xf:X.frozen? ⟨w.heap.size,u+19,Kx⟩=K2:=(by simp[L5,Ad]);have HX:Hid _:=hX;have B5:Hid _:=Ad;have B1:Hid _:=A2;clear hX Ad A2);refine⟨⟨j+1,by omega,by go_num,?_⟩,by simp[intOf];omega⟩;have hX:=HX.out;obtain⟨Y,hY⟩:=exj (X.setCell ⟨w.heap.size,u+19,Kx⟩ (J0 J1 0));rw[<-hY];have hu:=HU.out;(have B4:Y.heap[w.heap.size]?=Jx (Kf ((rowAt tc u RC).setIfInBounds (u+19) (J0 J1 0)) 110 (0,0)):=by rw[hY];exact heap_set B5.out);(have At:Off (λk=>k=w.heap.size) w2 X:=by rw[hX];exact⟨rfl,rfl,rfl,by rw[setRow_size];exact LN _,λq _ hq=>setRow_other w2 w.heap.size q _ (λe=>hq e)⟩);(have Ac:Off (λk=>k=w.heap.size) w2 Y:=by rw[hY];exact At.set _ _ _ (I3 rfl));have Ab:∀b c f,w2.heap[b]?=Jx (Kf c 273 f)->¬ b=w.heap.size:=λb c f e hb=>aa Ah.out e (by decide) hb.symm;(have A0:u+RC.size<=tc.size:=by omega);refine⟨λi=>if i=j then c else cs i,λi=>if i=j then g else gs i,⟨_,B4,?_,λi hi x v hv=>?_,λi hi=>?_,λi hi=>?_,λi hi=>?_⟩,λi hi=>?_,?_⟩
   ·rw[Mb,nR A0,B7.out]
   ·by_cases e:i=j
    ·subst e;simp only[if_true] at hv;rw[Az.out] at hv;(have hx:x<19:=by rw[<-A7];exact(gL hv));rw[hu,ID (by omega),BN A0 (by omega)];exact hv
    ·simp only[e,if_false] at hv;have hx:x<19:=(gL hv);rw[ID (by omega),gK A0 (I3 (by omega))];exact B3.out i (by omega) x v hv
   ·by_cases e:i=j
    ·subst e;rw[hu,Array.getElem?_setIfInBounds_self_of_lt (by rw[nR A0];omega)]
    ·rw[ID (by omega),gK A0 (by omega)];exact Ao.out i hi
   ·rw[ID (by omega),gK A0 (by omega)];exact Aw.out i hi
   ·rw[ID (by omega),gK A0 (by omega)];exact Av.out i hi
   ·by_cases e:i=j
    ·subst e;simp only[if_true];exact⟨Bc.out.off Ac Ab,Lo B9 Ac.size,by omega⟩
    ·simp only[e,if_false];have h3:=HR.out.rq i (by omega);exact⟨(h3.1.below h3.2.1 Aj.out).off Ac Ab,Lo h3.2.1 (Lo Aj.out.size Ac.size),h3.2.2⟩
   ·have h1:=(HR.out.below.trans (Aj.out.mono HR.out.below.size));rw[hY,hX];exact(below_setRow h1 (LN _) _).setCell (p:=⟨w.heap.size,u+19,Kx⟩) (LN _) _
  ·(obtain rfl:j=N:=by omega);go_wp2;go_ret;exact⟨rfl,hJ.out⟩
end
end Go.Proofs.YtmehkneofinmiabGreatDoor

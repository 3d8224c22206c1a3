/-part 8-/
import Derived.Test.YtmehkneofinmiabGreatDoorP07
open Go.Proofs.Tryz
open Go.Value renaming string->ID,bool->IF,int->IH,slice->I3,pointer->Lz,agg->Mn,tuple->Nm
open Go.IntKind renaming i64->IR,i32->NX
open Option renaming none->Jx,some->Kx
open Nat renaming le_refl->J0,lt_of_lt_of_le->Lo,le_succ->LI,le_trans->MT,lt_irrefl->Nd,zero_le->Nx,mod_lt->NO
open Go.Proofs.Tryz renaming prog->J1,underlying80->Lw,results35->LN,ntmps147->LR,ntmps148->LS,underlying9->L3
open Go.Obj renaming cells->Kf
open Go.Ending renaming returned->Ks
open Go.Lib renaming decDigits->K0
open Bool renaming false->K1,true->L1,and_eq_true->L4
open Go.World renaming cell?->K2,frozen?->L5,block_lt_of_cell?->MA
open Go renaming heap_alloc_new->Ln,World->Lq,Calls->LL,Value->LO,leaves_cons->Mb,heap_alloc_old->Mu,bodyPost_ret->MD,maxLen->MY,wpList_load_row->M1
open Or renaming inl->Ly,inr->L2
open Go.Act renaming put->Mp
open Go.Calls renaming mono->Mz
set_option maxRecDepth 1000000
set_option maxHeartbeats 8000000
namespace Go.Proofs.YtmehkneofinmiabGreatDoor.Jd
open Go.RowKit
variable {w w':Lq}{v:LO}{n:Nat}{W:Nat->Bool}{T:Nat->ByteArray}
theorem Cf {B:Nat}{W w1:Lq}(hb:Below B W w1):(∀b o,b<B->w1.cell? ⟨b,o,Jx⟩=W.cell? ⟨b,o,Jx⟩)/\(∀b o,b<B->w1.frozen? ⟨b,o,Jx⟩=W.frozen? ⟨b,o,Jx⟩) :=
 ⟨λb o h=>hb.cell (p:=⟨b,o,Jx⟩) h,λb o h=>hb.frozen (p:=⟨b,o,Jx⟩) h⟩
theorem bj {b o:Nat}(h:w.cell? ⟨b,o,Jx⟩=Kx v):b<w.heap.size:=by
 by_cases hb:b<w.heap.size
 ·exact hb
 ·simp[K2,Array.getElem?_eq_none (by omega:w.heap.size<=b)] at h
theorem lE {o:Obj}{i:Nat}(h:n<w.heap.size)(hc:w.cell? ⟨n,i,Jx⟩=Kx v):(w.alloc o).cell? ⟨n,i,Jx⟩=Kx v:=by
 rw[World.cell?_alloc_past (hn:=h)];exact hc
theorem ss (wt hm am hn an hs hu th:Bool)(since JE tm:Int)(tag:ByteArray)(ln:LO)(b off n cap:Nat)(W:Nat->Bool)(T:Nat->ByteArray)(w:Lq)(hn0:n<=MY)(ht:lX w b off n W T) :
 LL J1 147 #[Mn #[IF wt,IF hm,IF am,I3 (Kx ⟨b,off,Jx⟩) n cap,IF hn,IF an,ln,IF hs,IH IR since,IF hu,IH IR JE,IF th,ID tag,IH IR tm]] w
  λe w'=>e=Ks (IF (th&&(am||hits W T tag L1 n)))/\Below w.heap.size w w':=by
 unfold MY at hn0;obtain⟨h0,h1⟩:=ht;cases th
 ·go_enter func147,LR;go_wp2;go_ret;exact⟨rfl,(Below.refl _ _).alloc (J0 _) _⟩
 cases am
 rotate_left
 ·go_enter func147,LR;go_wp2;go_ret;exact⟨rfl,(Below.refl _ _).alloc (J0 _) _⟩
 go_enter func147,LR;go_wp2;go_loopw [15] (λi wr=>∃k:Nat,k<=n/\i=IH IR k/\Hid (hits W T tag L1 k=K1)/\Below w.heap.size w wr/\wr.cell? ⟨w.heap.size,12,Jx⟩=Kx (ID tag)/\w.heap.size<wr.heap.size) (λi _=>n-(intOf i).toNat);case atStart=>exact⟨0,Nx _,rfl,rfl,(Below.refl _ _).alloc (J0 _) _,by simp,by simp⟩
 case round =>
  obtain⟨k,hk,rfl,hh,hb,hc,hz⟩:=hrel;by_cases hlt:k<n
  ·have A0:b<w.heap.size:=bj (h0 k hlt);have c0:=(hb.cell (p:=⟨b,off+k*2,Jx⟩) A0).trans (h0 k hlt);have c1:=(hb.cell (p:=⟨b,off+k*2+1,Jx⟩) A0).trans (h1 k hlt);clear h0 h1;go_wp2
   ·exact⟨⟨k+1,by omega,by go_num,qV hh.out (by simp_all [hit]),hb.alloc (by omega) _,lE hz hc,by simp;omega⟩,by simp[intOf];omega⟩
   ·go_ret;exact⟨bl (by rw[xw hlt (by simp_all [hit])];rfl),hb.alloc (by omega) _⟩
   ·exact⟨⟨k+1,by omega,by go_num,qV hh.out (by simp_all [hit]),hb.alloc (by omega) _,lE hz hc,by simp;omega⟩,by simp[intOf];omega⟩
  ·go_wp2;go_ret;exact⟨bl (by rw[show n=k by omega,hh.out];rfl),hb⟩
theorem sw (o:Option Addr)(cap:Nat)(wt hm am hn an hs hu th:Bool)(since JE tm:Int)(tag:ByteArray)(ln:LO)(w:Lq) :
 LL J1 147 #[Mn #[IF wt,IF hm,IF am,I3 o 0 cap,IF hn,IF an,ln,IF hs,IH IR since,IF hu,IH IR JE,IF th,ID tag,IH IR tm]] w
  λe w'=>e=Ks (IF (th&&(am||false)))/\Below w.heap.size w w':=by
 cases th
 ·go_enter func147,LR;go_wp2;go_ret;exact⟨rfl,(Below.refl _ _).alloc (J0 _) _⟩
 cases am
 rotate_left
 ·go_enter func147,LR;go_wp2;go_ret;exact⟨rfl,(Below.refl _ _).alloc (J0 _) _⟩
 go_enter func147,LR;go_wp2;go_loopw [15] (λi wr=>i=IH IR 0/\Below w.heap.size w wr) (λ_ _=>0);case atStart=>exact⟨rfl,(Below.refl _ _).alloc (J0 _) _⟩
 case round =>obtain⟨rfl,hb⟩:=hrel;go_wp2;go_ret;exact⟨rfl,hb⟩
theorem rh (wt hm am hn an hs hu th:Bool)(since JE tm:Int)(tag:ByteArray)(lm:LO)(b off n cap:Nat)(W:Nat->Bool)(T:Nat->ByteArray)(w:Lq)(hn0:n<=MY)(ht:lX w b off n W T) :
 LL J1 148 #[Mn #[IF wt,IF hm,IF am,lm,IF hn,IF an,I3 (Kx ⟨b,off,Jx⟩) n cap,IF hs,IH IR since,IF hu,IH IR JE,IF th,ID tag,IH IR tm]] w
  λe w'=>e=Ks (IF (th&&(an||hits W T tag K1 n)))/\Below w.heap.size w w':=by
 unfold MY at hn0;obtain⟨h0,h1⟩:=ht;cases th
 ·go_enter func148,LS;go_wp2;go_ret;exact⟨rfl,(Below.refl _ _).alloc (J0 _) _⟩
 cases an
 rotate_left
 ·go_enter func148,LS;go_wp2;go_ret;exact⟨rfl,(Below.refl _ _).alloc (J0 _) _⟩
 go_enter func148,LS;go_wp2;go_loopw [15] (λi wr=>∃k:Nat,k<=n/\i=IH IR k/\Hid (hits W T tag K1 k=K1)/\Below w.heap.size w wr/\wr.cell? ⟨w.heap.size,12,Jx⟩=Kx (ID tag)/\w.heap.size<wr.heap.size) (λi _=>n-(intOf i).toNat);case atStart=>exact⟨0,Nx _,rfl,rfl,(Below.refl _ _).alloc (J0 _) _,by simp,by simp⟩
 case round =>
  obtain⟨k,hk,rfl,hh,hb,hc,hz⟩:=hrel;by_cases hlt:k<n
  ·have A0:b<w.heap.size:=bj (h0 k hlt);have c0:=(hb.cell (p:=⟨b,off+k*2,Jx⟩) A0).trans (h0 k hlt);have c1:=(hb.cell (p:=⟨b,off+k*2+1,Jx⟩) A0).trans (h1 k hlt);clear h0 h1;go_wp2
   ·go_ret;exact⟨bl (by rw[xw hlt (by simp_all [hit])];rfl),hb.alloc (by omega) _⟩
   ·exact⟨⟨k+1,by omega,by go_num,qV hh.out (by simp_all [hit]),hb.alloc (by omega) _,lE hz hc,by simp;omega⟩,by simp[intOf];omega⟩
  ·go_wp2;go_ret;exact⟨bl (by rw[show n=k by omega,hh.out];rfl),hb⟩
theorem qQ (o:Option Addr)(cap:Nat)(wt hm am hn an hs hu th:Bool)(since JE tm:Int)(tag:ByteArray)(lm:LO)(w:Lq) :
 LL J1 148 #[Mn #[IF wt,IF hm,IF am,lm,IF hn,IF an,I3 o 0 cap,IF hs,IH IR since,IF hu,IH IR JE,IF th,ID tag,IH IR tm]] w
  λe w'=>e=Ks (IF (th&&(an||false)))/\Below w.heap.size w w':=by
 cases th
 ·go_enter func148,LS;go_wp2;go_ret;exact⟨rfl,(Below.refl _ _).alloc (J0 _) _⟩
 cases an
 rotate_left
 ·go_enter func148,LS;go_wp2;go_ret;exact⟨rfl,(Below.refl _ _).alloc (J0 _) _⟩
 go_enter func148,LS;go_wp2;go_loopw [15] (λi wr=>i=IH IR 0/\Below w.heap.size w wr) (λ_ _=>0);case atStart=>exact⟨rfl,(Below.refl _ _).alloc (J0 _) _⟩
 case round =>obtain⟨rfl,hb⟩:=hrel;go_wp2;go_ret;exact⟨rfl,hb⟩
def IV (w:Lq)(v:LO)(n:Nat)(W:Nat->Bool)(T:Nat->ByteArray):Prop :=
 n<=MY/\((∃o cap,v=I3 o 0 cap/\n=0)\/∃b off cap,v=I3 (Kx ⟨b,off,Jx⟩) n cap/\lX w b off n W T)
theorem lX.below {b off:Nat}(h:lX w b off n W T)(hb:Below w.heap.size w w'):lX w' b off n W T :=
 ⟨λi hi=>(hb.cell (p:=⟨b,off+i*2,Jx⟩) (bj (h.1 i hi))).trans (h.1 i hi),λi hi=>(hb.cell (p:=⟨b,off+i*2+1,Jx⟩) (bj (h.2 i hi))).trans (h.2 i hi)⟩
theorem IV.below (h:IV w v n W T)(hb:Below w.heap.size w w'):IV w' v n W T:=by
 refine⟨h.1,?_⟩;rcases h.2 with h0|⟨b,A0,A1,e,ht⟩
 ·exact Ly h0
 ·exact L2 ⟨b,A0,A1,e,ht.below hb⟩
def mB (th am:Bool)(W:Nat->Bool)(T:Nat->ByteArray)(tag:ByteArray)(strong:Bool)(n:Nat):Bool:=th&&(am||hits W T tag strong n)
theorem zk (wt hm am hn an hs hu th:Bool)(since JE tm:Int)(tag:ByteArray)(lm ln:LO)(n:Nat)(W:Nat->Bool)(T:Nat->ByteArray)(w:Lq)(h:IV w lm n W T) :
 LL J1 147 #[Mn #[IF wt,IF hm,IF am,lm,IF hn,IF an,ln,IF hs,IH IR since,IF hu,IH IR JE,IF th,ID tag,IH IR tm]] w
  λe w'=>e=Ks (IF (mB th am W T tag L1 n))/\Below w.heap.size w w':=by
 obtain⟨A2,⟨o,A0,rfl,rfl⟩|⟨b,A1,A0,rfl,ht⟩⟩:=h
 ·exact sw o A0 wt hm am hn an hs hu th since JE tm tag ln w
 ·exact ss wt hm am hn an hs hu th since JE tm tag ln b A1 n A0 W T w A2 ht
theorem nT (wt hm am hn an hs hu th:Bool)(since JE tm:Int)(tag:ByteArray)(lm ln:LO)(n:Nat)(W:Nat->Bool)(T:Nat->ByteArray)(w:Lq)(h:IV w ln n W T) :
 LL J1 148 #[Mn #[IF wt,IF hm,IF am,lm,IF hn,IF an,ln,IF hs,IH IR since,IF hu,IH IR JE,IF th,ID tag,IH IR tm]] w
  λe w'=>e=Ks (IF (mB th an W T tag K1 n))/\Below w.heap.size w w':=by
 obtain⟨A2,⟨o,A0,rfl,rfl⟩|⟨b,A1,A0,rfl,ht⟩⟩:=h
 ·exact qQ o A0 wt hm am hn an hs hu th since JE tm tag lm w
 ·exact rh wt hm am hn an hs hu th since JE tm tag lm b A1 n A0 W T w A2 ht
end Go.Proofs.YtmehkneofinmiabGreatDoor.Jd
namespace Go.Proofs.YtmehkneofinmiabGreatDoor.Jd
open Go.RowKit
def jd (wt hm m hn x hs:Bool)(since:Int)(hu:Bool)(JE:Int)(th:Bool)(tm:Int):Int :=
 if hm&&!m then 412 else if !hm&&hu&&th&&decide (JE<tm) then 412 else if hn&&x then(if wt then 412 else 304)
 else if !hn&&hs&&!wt&&th&&decide (tm<=since) then 304 else 0
theorem fX {k:IntKind}{a b:Int}(h:a=b):Ks (IH k a)=Ks (IH k b):=by rw[h]
theorem zX (wt am hn an hs hu th:Bool)(since JE tm:Int)(tag:ByteArray)(lm ln:LO)(n1 n2:Nat)(W1 W2:Nat->Bool)(T1 T2:Nat->ByteArray)(w:Lq)(h2:IV w ln n2 W2 T2) :
 LL J1 101 #[Mn #[IF wt,IF K1,IF am,lm,IF hn,IF an,ln,IF hs,IH IR since,IF hu,IH IR JE,IF th,ID tag,IH IR tm]] w
  λe w'=>e=Ks (IH IR (jd wt K1 (mB th am W1 T1 tag L1 n1) hn (mB th an W2 T2 tag K1 n2) hs since hu JE th tm))/\Below w.heap.size w w':=by
 go_enter func101,ntmps101;go_wp2_with (first|(go_at_call 148;refine(nT _ _ _ _ _ _ _ _ _ _ _ _ _ _ n2 W2 T2 _ (h2.below ((Below.refl _ _).alloc (J0 _) _))).mono ?_;rintro e w' ⟨rfl,hb⟩;obtain⟨hc,hf⟩:=Cf hb));all_goals
  go_ret;refine⟨fX ?_,?_⟩
  ·first|(simp[jd, *];done)|(simp[jd, *];omega)
  ·first|exact(Below.refl _ _).alloc (J0 _) _|exact((Below.refl _ _).alloc (J0 _) _).trans (hb.mono (by simp))
theorem vY (wt am hn an hs hu th:Bool)(since JE tm:Int)(tag:ByteArray)(lm ln:LO)(n1 n2:Nat)(W1 W2:Nat->Bool)(T1 T2:Nat->ByteArray)(w:Lq)(h1:IV w lm n1 W1 T1)(h2:IV w ln n2 W2 T2) :
 LL J1 101 #[Mn #[IF wt,IF L1,IF am,lm,IF hn,IF an,ln,IF hs,IH IR since,IF hu,IH IR JE,IF th,ID tag,IH IR tm]] w
  λe w'=>e=Ks (IH IR (jd wt L1 (mB th am W1 T1 tag L1 n1) hn (mB th an W2 T2 tag K1 n2) hs since hu JE th tm))/\Below w.heap.size w w':=by
 go_enter func101,ntmps101;go_wp2_with fail;refine(zk _ _ _ _ _ _ _ _ _ _ _ _ _ _ n1 W1 T1 _ (h1.below ((Below.refl _ _).alloc (J0 _) _))).mono ?_;rintro e w1 ⟨rfl,A1⟩;obtain⟨A4,A3⟩:=Cf A1;have A5:w.heap.size<w1.heap.size:=by have:=A1.size;simp at this;omega
 have A0:=((Below.refl _ _).alloc (J0 w.heap.size) _).trans (A1.mono (by simp));have A2:=h2.below A0;go_wp2_with (first|(go_at_call 148;refine(nT _ _ _ _ _ _ _ _ _ _ _ _ _ _ n2 W2 T2 _ A2).mono ?_;rintro e w' ⟨rfl,hb⟩;obtain⟨hc,hf⟩:=Cf hb));all_goals
  go_ret;refine⟨fX ?_,?_⟩
  ·first|(simp[jd, *];done)|(clear A4 A3 A1 A0 A2;simp_all [jd];done)|(clear A4 A3 A1 A0 A2;simp_all [jd];omega)
  ·first|exact A0|exact A0.trans (hb.mono (by omega))
end Go.Proofs.YtmehkneofinmiabGreatDoor.Jd
namespace Go.Proofs.YtmehkneofinmiabGreatDoor.Jd
open Go.RowKit
theorem LJ (wt hm am hn an hs hu th:Bool)(since JE tm:Int)(tag:ByteArray)(lm ln:LO)(n1 n2:Nat)(W1 W2:Nat->Bool)(T1 T2:Nat->ByteArray)(w:Lq)(h1:IV w lm n1 W1 T1)(h2:IV w ln n2 W2 T2) :
 LL J1 101 #[Mn #[IF wt,IF hm,IF am,lm,IF hn,IF an,ln,IF hs,IH IR since,IF hu,IH IR JE,IF th,ID tag,IH IR tm]] w
  λe w'=>e=Ks (IH IR (jd wt hm (mB th am W1 T1 tag L1 n1) hn (mB th an W2 T2 tag K1 n2) hs since hu JE th tm))/\Below w.heap.size w w':=by
 cases hm
 ·exact zX wt am hn an hs hu th since JE tm tag lm ln n1 n2 W1 W2 T1 T2 w h2
 ·exact vY wt am hn an hs hu th since JE tm tag lm ln n1 n2 W1 W2 T1 T2 w h1 h2
end Go.Proofs.YtmehkneofinmiabGreatDoor.Jd
namespace Go.Proofs.YtmehkneofinmiabGreatDoor
open Go.RowKit
variable {a w6 x y:Lq}{B g i k kc n s:Nat}{h:Bool}{S:Nat->Prop}{rd:Int}{lk:Nat->Int}{σ σ':St}{M:Mem}{E:IP}{t:Jg}{l:List UInt8}
theorem G4:(prog.info? 73).map (·.size)=Kx 14:=by kernel_rfl
abbrev ua (wt:Bool) (c:I7):Array LO:=#[IF wt,IF c.hm,IF c.am,c.lm,IF c.hn,IF c.an,c.ln,IF c.hs,IH IR c.si,IF c.hu,IH IR c.ul,IF K1,ID ⟨#[]⟩,IH IR 0]
theorem B7 (wt:Bool)(c:I7)(v:IZ)(n1 n2:Nat)(W1 W2:Nat->Bool)(T1 T2:Nat->ByteArray)(w:Lq)(h1:Jd.IV w c.lm n1 W1 T1)(h2:Jd.IV w c.ln n2 W2 T2)(e1:∃a n m,c.lm=I3 a n m)(e2:∃a n m,c.ln=I3 a n m) :
 LL J1 68 #[Mn (ua wt c),bq v,IF K1] w λe w'=>e=Ks (IH IR (Jd.jd wt c.hm (Jd.mB K1 c.am W1 T1 ⟨#[]⟩ L1 n1) c.hn (Jd.mB K1 c.an W2 T2 ⟨#[]⟩ K1 n2) c.hs c.si c.hu c.ul K1 0))/\Below w.heap.size w w':=by
 obtain⟨a1,m1,p1,e1⟩:=e1;obtain⟨a2,m2,p2,e2⟩:=e2;have H1:=IA h1;have H2:=IA h2;clear h1 h2;unfold ua bq;rw[e1,e2];go_enter func68,ntmps68;go_wp2_with fail;have A0:Below w.heap.size w ((w.alloc (Kf #[IF wt,IF c.hm,IF c.am,I3 a1 m1 p1,IF c.hn,IF c.an,I3 a2 m2 p2,IF c.hs,IH IR c.si,IF c.hu,IH IR c.ul,IF K1,ID ⟨#[]⟩,IH IR 0] 73)).alloc (Kf #[IH IR v.num,IH IR v.time,IF v.mark,ID ⟨v.body.toArray⟩] 147)):=((Below.refl _ _).alloc (J0 _) _).alloc (by simp) _;have A2:Jd.IV ((w.alloc (Kf #[IF wt,IF c.hm,IF c.am,I3 a1 m1 p1,IF c.hn,IF c.an,I3 a2 m2 p2,IF c.hs,IH IR c.si,IF c.hu,IH IR c.ul,IF K1,ID ⟨#[]⟩,IH IR 0] 73)).alloc (Kf #[IH IR v.num,IH IR v.time,IF v.mark,ID ⟨v.body.toArray⟩] 147)) c.lm n1 W1 T1:=Jd.IV.below H1.out A0;have A3:Jd.IV ((w.alloc (Kf #[IF wt,IF c.hm,IF c.am,I3 a1 m1 p1,IF c.hn,IF c.an,I3 a2 m2 p2,IF c.hs,IH IR c.si,IF c.hu,IH IR c.ul,IF K1,ID ⟨#[]⟩,IH IR 0] 73)).alloc (Kf #[IH IR v.num,IH IR v.time,IF v.mark,ID ⟨v.body.toArray⟩] 147)) c.ln n2 W2 T2:=Jd.IV.below H2.out A0;rw[<-e1,<-e2] at *
 refine(Jd.LJ wt c.hm c.am c.hn c.an c.hs c.hu K1 c.si c.ul 0 ⟨#[]⟩ c.lm c.ln n1 n2 W1 W2 T1 T2 _ A2 A3).mono ?_;rintro e w1 ⟨rfl,A1⟩;have HB:Hid (Below w.heap.size w w1):=A0.trans (A1.mono (by simp;omega));clear A1 A0 A2 A3;go_wp2;go_ret;exact⟨rfl,HB.out⟩
theorem yB (wt:Bool)(c:I7)(v:IZ)(n1 n2:Nat)(W1 W2:Nat->Bool)(T1 T2:Nat->ByteArray)(w:Lq)(h1:Jd.IV w c.lm n1 W1 T1)(h2:Jd.IV w c.ln n2 W2 T2)(e1:∃a n m,c.lm=I3 a n m)(e2:∃a n m,c.ln=I3 a n m)(hT:Tz w)(hb:v.body.length<1000000) :
 LL J1 68 #[Mn (ua wt c),bq v,IF L1] w λe w'=>e=Ks (IH IR (Jd.jd wt c.hm (Jd.mB L1 c.am W1 T1 ⟨(dj 16 (JG v.body)).toArray⟩ L1 n1) c.hn (Jd.mB L1 c.an W2 T2 ⟨(dj 16 (JG v.body)).toArray⟩ K1 n2) c.hs c.si c.hu c.ul L1 v.time))/\Below w.heap.size w w':=by
 obtain⟨tg,A5⟩:=IG (dj 16 (JG v.body));have Ab:Hid (∀y,Tz y->LL J1 100 #[ID ⟨v.body.toArray⟩] y λe w'=>e=Ks (ID ⟨tg.toArray⟩)/\Below y.heap.size y w'):=by intro y hy;have:=xz ⟨v.body.toArray⟩ y (by rw[Lib.size_eq];simp;omega) hy;rw[<-A5];exact this
 rw[A5];clear A5;obtain⟨a1,m1,p1,e1⟩:=e1;obtain⟨a2,m2,p2,e2⟩:=e2;have H1:=IA h1;have H2:=IA h2;clear h1 h2;unfold ua bq;rw[e1,e2];go_enter func68,ntmps68;go_wp2_with fail;obtain⟨X,hX⟩:=exj (((w.alloc (Kf #[IF wt,IF c.hm,IF c.am,I3 a1 m1 p1,IF c.hn,IF c.an,I3 a2 m2 p2,IF c.hs,IH IR c.si,IF c.hu,IH IR c.ul,IF K1,ID ⟨#[]⟩,IH IR 0] 73)).alloc (Kf #[IH IR v.num,IH IR v.time,IF v.mark,ID ⟨v.body.toArray⟩] 147)));rw[<-hX];have A6:Below w.heap.size w X:=by rw[hX];exact((Below.refl _ _).alloc (J0 _) _).alloc (by simp) _
 have hA:X.heap[w.heap.size]?=Kx (Kf #[IF wt,IF c.hm,IF c.am,I3 a1 m1 p1,IF c.hn,IF c.an,I3 a2 m2 p2,IF c.hs,IH IR c.si,IF c.hu,IH IR c.ul,IF K1,ID ⟨#[]⟩,IH IR 0] 73 (0,0)):=by rw[hX];exact(Mu _ _ (by simp)).trans (Ln _ _)
 have hV:X.heap[w.heap.size+1]?=Kx (Kf #[IH IR v.num,IH IR v.time,IF v.mark,ID ⟨v.body.toArray⟩] 147 (0,0)):=by rw[hX];have:=Ln (w.alloc (Kf #[IF wt,IF c.hm,IF c.am,I3 a1 m1 p1,IF c.hn,IF c.an,I3 a2 m2 p2,IF c.hs,IH IR c.si,IF c.hu,IH IR c.ul,IF K1,ID ⟨#[]⟩,IH IR 0] 73)) (Kf #[IH IR v.num,IH IR v.time,IF v.mark,ID ⟨v.body.toArray⟩] 147);simpa using this
 have A4:w.heap.size+1<X.heap.size:=(gL hV);clear hX;obtain⟨-,v1,-,v3⟩:=MM hV;have Ac:Hid (Tz X):=hT.below A6;have HA:=IA hA;have HV:=IA hV;have HL:=IA A6;clear hA hV A6 hT;go_region_held3 (λy=>y.cell? ⟨w.heap.size+1,1,Jx⟩=Kx (IH IR v.time)/\y.cell? ⟨w.heap.size+1,3,Jx⟩=Kx (ID ⟨v.body.toArray⟩)) (first|assumption|go_keep) (first
  | (go_at_call 100
     refine(Ab.out X.drew Ac.out).mono ?_;rintro e w1 ⟨rfl,A1⟩;have A0:w1.heap[w.heap.size]?=Kx (Kf #[IF wt,IF c.hm,IF c.am,I3 a1 m1 p1,IF c.hn,IF c.an,I3 a2 m2 p2,IF c.hs,IH IR c.si,IF c.hu,IH IR c.ul,IF K1,ID ⟨#[]⟩,IH IR 0] 73 (0,0)):=(A1.block _ (Nat.lt_trans (Nat.lt_succ_self _) A4)).trans HA.out;have Af:w1.cell? ⟨w.heap.size+1,1,Jx⟩=Kx (IH IR v.time)/\w1.cell? ⟨w.heap.size+1,3,Jx⟩=Kx (ID ⟨v.body.toArray⟩):=⟨(A1.cell (p:=⟨w.heap.size+1,1,Jx⟩) A4).trans v1,(A1.cell (p:=⟨w.heap.size+1,3,Jx⟩) A4).trans v3⟩;have d1:w1.cell? ⟨w.heap.size,11,Jx⟩=Kx (IF K1):=(by simp[K2,A0]);have d2:w1.cell? ⟨w.heap.size,12,Jx⟩=Kx (ID ⟨#[]⟩):=(by simp[K2,A0]);have d3:w1.cell? ⟨w.heap.size,13,Jx⟩=Kx (IH IR 0):=(by simp[K2,A0]);have f1:w1.frozen? ⟨w.heap.size,11,Jx⟩=K1:=(by simp[L5,A0]);have f2:w1.frozen? ⟨w.heap.size,12,Jx⟩=K1:=(by simp[L5,A0]);have f3:w1.frozen? ⟨w.heap.size,13,Jx⟩=K1:=(by simp[L5,A0]);have Ae:=IA A0;have A2:=IA A1
     clear A0 A1))
 obtain⟨Y,hY⟩:=exj (((w1.setCell ⟨w.heap.size,11,Jx⟩ (IF L1)).setCell ⟨w.heap.size,12,Jx⟩ (ID ⟨tg.toArray⟩)).setCell ⟨w.heap.size,13,Jx⟩ (IH IR v.time));rw[<-hY];have Aa:Y.heap[w.heap.size]?=Kx (Kf #[IF wt,IF c.hm,IF c.am,I3 a1 m1 p1,IF c.hn,IF c.an,I3 a2 m2 p2,IF c.hs,IH IR c.si,IF c.hu,IH IR c.ul,IF L1,ID ⟨tg.toArray⟩,IH IR v.time] 73 (0,0)):=by rw[hY,heap_set (heap_set (heap_set Ae.out))];rfl
 have A1:Below X.heap.size X w1:=⟨A2.out.os,A2.out.tape,A2.out.output,A2.out.size,A2.out.block⟩;have A3:Hid (Below w.heap.size w Y):=by rw[hY];exact(((HL.out.trans (A1.mono HL.out.size)).setCell (p:=⟨w.heap.size,11,Jx⟩) (J0 _) _).setCell (p:=⟨w.heap.size,12,Jx⟩) (J0 _) _).setCell (p:=⟨w.heap.size,13,Jx⟩) (J0 _) _
 have A9:Jd.IV Y c.lm n1 W1 T1:=Jd.IV.below H1.out A3.out;have A7:Jd.IV Y c.ln n2 W2 T2:=Jd.IV.below H2.out A3.out;have Ai:=IA Aa;have Ah:Hid (Jd.IV Y c.lm n1 W1 T1):=A9;have Ad:Hid (Jd.IV Y c.ln n2 W2 T2):=A7;clear hY Aa A1 A9 A7 d1 d2 d3 f1 f2 f3 Af;go_wp2_with (refine M1 rfl 73 (.tmp 3) rfl w.heap.size rfl 73 #[IF wt,IF c.hm,IF c.am,I3 a1 m1 p1,IF c.hn,IF c.an,I3 a2 m2 p2,IF c.hs,IH IR c.si,IF c.hu,IH IR c.ul,IF L1,ID ⟨tg.toArray⟩,IH IR v.time] (0,0) _ Ai.out underlying73 rfl G4 ?_);rw[<-e1,<-e2];refine(Jd.LJ wt c.hm c.am c.hn c.an c.hs c.hu L1 c.si c.ul v.time ⟨tg.toArray⟩ c.lm c.ln n1 n2 W1 W2 T1 T2 _ Ah.out Ad.out).mono ?_;rintro e w2 ⟨rfl,A8⟩;have Ag:Hid (Below w.heap.size w w2):=A3.out.trans (A8.mono A3.out.size);clear A8;go_wp2;go_ret;exact⟨rfl,Ag.out⟩
open Go.RowKit
def wB (t:eC)(tag:List UInt8)(strong:Bool):Bool:=t.any λx=>decide (x.2=tag)&&!(strong&&x.1)
def tS (t:eC)(i:Nat):Bool:=(t.getD i (K1,[])).1
def sZ (t:eC)(i:Nat):ByteArray:=⟨(t.getD i (K1,[])).2.toArray⟩
theorem za (t:eC)(tag:List UInt8)(strong:Bool)(n:Nat)(h:n<=t.length):Jd.hits (tS t) (sZ t) ⟨tag.toArray⟩ strong n=wB (t.take n) tag strong:=by
 induction n with
 | zero=>rfl
 | succ n ih =>have A0:n<t.length:=h;rw[Jd.hits,ih (by omega),List.take_succ_eq_append_getElem A0];simp only[wB,List.any_append,List.any_cons,List.any_nil,Bool.or_false];congr 1;simp only[Jd.hit,tS,sZ,List.getD_eq_getElem?_getD,List.getElem?_eq_getElem A0,Option.getD_some];congr 1;rw[ByteArray.toList_eq,ByteArray.toList_eq]
theorem Av (t:eC)(tag:List UInt8)(strong:Bool):Jd.hits (tS t) (sZ t) ⟨tag.toArray⟩ strong t.length=wB t tag strong:=by
 rw[za t tag strong t.length (J0 _),List.take_length]
theorem og (t:eC)(i:Nat)(h:i<t.length):(cO t)[i*2]?=Kx (IF (tS t i))/\(cO t)[i*2+1]?=Kx (ID (sZ t i)):=by
 induction t generalizing i with
 | nil=>simp at h
 | cons x t ih =>
   (have e:cO (x::t)=IF x.1::ID ⟨x.2.toArray⟩::cO t:=by simp[cO]);rw[e];cases i with
   | zero=>simp[tS,sZ]
   | succ i =>have h2:=ih i (by simpa using h);rw[show(i+1)*2=i*2+1+1 by omega];simp only[List.getElem?_cons_succ];simpa [tS,sZ] using h2
theorem wT {w:Lq}{base:Nat}{v:LO}{t:eC}(h:w.ownsRow base 273 2 v t.length (cO t)):Jd.IV w v t.length (tS t) (sZ t):=by
 rcases h.2 with⟨rfl,h0⟩|⟨g,A1,A2,rfl,_,hg,hn,hm,hs,A0⟩
 ·exact⟨by omega,Ly ⟨_,_,rfl,h0⟩⟩
 ·refine⟨by omega,L2 ⟨g,0,A1,rfl,λi hi=>?_,λi hi=>?_⟩⟩
  ·have h1:=(og t i hi).1;rw[<-A0,List.getElem?_take_of_lt (by omega)] at h1;simpa [K2,hg] using h1
  ·have h1:=(og t i hi).2;rw[<-A0,List.getElem?_take_of_lt (by omega)] at h1;simpa [K2,hg] using h1
def wK:Option (Bool×eC)->Bool
 | none=>K1
 | some x=>x.1
def uq:Option (Bool×eC)->eC
 | none=>[]
 | some x=>x.2
def vJ:Option (Int×Bool)->Bool
 | none=>K1
 | some x=>x.2
def Gl:Option (Int×Bool)->Int
 | none=>0
 | some x=>x.1
def kZ (v:Option IZ):List UInt8:=match v with|none=>[]|some v=>dj 16 (JG v.body)
def vA (v:Option IZ):Nat:=match v with|none=>0|some v=>v.time
def aJ (wt:Bool)(k:I9)(v:Option IZ):Nat :=
 (Jd.jd wt k.m.isSome (v.isSome&&(wK k.m||wB (uq k.m) (kZ v) L1)) k.n.isSome (v.isSome&&(wK k.n||wB (uq k.n) (kZ v) K1)) (vJ k.s) (Gl k.s) (vJ k.u) (Gl k.u) v.isSome (vA v:Int)).toNat
theorem BZ (wt hm m hn x hs:Bool)(since:Int)(hu:Bool)(JE:Int)(th:Bool)(tm:Int):((Jd.jd wt hm m hn x hs since hu JE th tm).toNat:Int)=Jd.jd wt hm m hn x hs since hu JE th tm:=by
 unfold Jd.jd;repeat' split
 all_goals rfl
theorem Rl.list {a:Bool}{l:LO}{s:Bool}{o:Option (Bool×eC)}(r:Rl x g h a l s o):h=o.isSome/\a=wK o/\Jd.IV x l (uq o).length (tS (uq o)) (sZ (uq o))/\∃a n m,l=I3 a n m:=by
 obtain⟨_,r2,r3⟩:=r;cases o with
 | none =>obtain⟨ra,rfl⟩:=r3;exact⟨r2,ra,⟨by simp[uq],Ly ⟨_,_,rfl,rfl⟩⟩,_,_,_,rfl⟩
 | some p =>
   refine⟨r2,r3.1,wT r3.2,?_⟩;rcases r3.2.2 with⟨e,_⟩|⟨g,A1,A0,e,_⟩
   ·exact⟨_,_,_,e⟩
   ·exact⟨_,_,_,e⟩
theorem OG.val {n:Int}{s:Bool}{o:Option (Int×Bool)}(r:OG h n s o):h=vJ o/\n=Gl o:=by
 obtain⟨_,r⟩:=r;cases o with
 | none=>exact r
 | some p=>exact r
theorem lx (wt:Bool)(c:I7)(k:I9)(g:Nat)(v:IZ)(o:Option IZ)(w:Lq)(hR:Rq w g c k)(hv:∀u,o=Kx u->v=u)(hT:Tz w)(hb:∀u,o=Kx u->u.body.length<=400) :
 LL J1 68 #[Mn (ua wt c),bq v,IF o.isSome] w λe w'=>e=Ks (IH IR (aJ wt k o:Nat))/\Below w.heap.size w w':=by
 obtain⟨m1,m2,m3,m4⟩:=hR.m.list;obtain⟨n1,n2,n3,n4⟩:=hR.n.list;obtain⟨s1,s2⟩:=hR.s.val;obtain⟨u1,u2⟩:=hR.u.val;cases o with
 | none =>refine(B7 wt c v _ _ _ _ _ _ w m3 n3 m4 n4).mono ?_;rintro e w' ⟨rfl,hb⟩;refine⟨?_,hb⟩;simp only[aJ,BZ,Jd.mB,Option.isSome_none,Bool.false_and,vA,m1,n1,s1,s2,u1,u2];rfl
 | some u =>obtain rfl:=hv u rfl;refine(yB wt c v _ _ _ _ _ _ w m3 n3 m4 n4 hT (by have:=hb v rfl;omega)).mono ?_;rintro e w' ⟨rfl,hb⟩;refine⟨?_,hb⟩;simp only[aJ,BZ,Jd.mB,Option.isSome_some,Bool.true_and,vA,kZ,Av,m1,m2,n1,n2,s1,s2,u1,u2]
theorem kj (g o p:Nat)(bk:LO)(k t n told:Nat)(key body:List UInt8)(w:Lq)
 (h:∀y,Below w.heap.size w y->LL J1 102 #[Lz (Kx ⟨g,o,Jx⟩),Lz (Kx ⟨p,0,Jx⟩),ev k t key n body,bk] y λe w'=>e=Ks (Nm #[IH IR told,IF K1])/\Below y.heap.size y w') :
 LL J1 69 #[Lz (Kx ⟨g,o,Jx⟩),Lz (Kx ⟨p,0,Jx⟩),ev k t key n body,bk] w λe w'=>e=Ks (Mn #[IH IR told,I3 Jx 0 0,ID ⟨#[]⟩])/\Below w.heap.size w w':=by
 have HC:=IA h;clear h;go_enter func69,ntmps69;go_wp2_with fail;obtain⟨X,hX⟩:=exj (((w.alloc (Kf #[IH .u8 k,IH IR t,ID ⟨key.toArray⟩,IH IR n,ID ⟨body.toArray⟩] 108)).alloc (Kf #[IH IR 0,I3 Jx 0 0,ID ⟨#[]⟩] 80)));rw[<-hX];have A2:Below w.heap.size w X:=by rw[hX];exact((Below.refl _ _).alloc (J0 _) _).alloc (by simp) _
 have hZ:X.heap[w.heap.size+1]?=Kx (Kf #[IH IR 0,I3 Jx 0 0,ID ⟨#[]⟩] 80 (0,0)):=by rw[hX];have:=Ln (w.alloc (Kf #[IH .u8 k,IH IR t,ID ⟨key.toArray⟩,IH IR n,ID ⟨body.toArray⟩] 108)) (Kf #[IH IR 0,I3 Jx 0 0,ID ⟨#[]⟩] 80);simpa using this
 have A4:w.heap.size+1<X.heap.size:=(gL hZ);clear hX;refine(HC.out X A2).mono ?_;rintro e w1 ⟨rfl,A1⟩;have A5:Hid (Below w.heap.size w w1):=A2.trans (A1.mono A2.size);have A8:=IA ((A1.block _ A4).trans hZ);have A9:w.heap.size+1<w1.heap.size:=Lo A4 A1.size;clear A1 hZ A2;go_wp2_with fail;refine(iC told _).mono ?_;rintro e w2 ⟨rfl,A3⟩;have A0:=(A3.block _ A9).trans A8.out;obtain⟨z0,z1,z2⟩:=LP A0;have Aa:=Je A0 0;have Ac:=Je A0 1;have Ab:=Je A0 2;have A6:=IA A0;have A7:Hid (Below w.heap.size w w2):=A5.out.trans (A3.mono A5.out.size);clear A3 A0;go_wp2;have hs:=heap_set (i:=2) (v:=ID ⟨#[]⟩) (heap_set (i:=1) (v:=I3 Jx 0 0) (heap_set (i:=0) (v:=IH IR told) A6.out));exact MD (v:=Mn #[IH IR told,I3 Jx 0 0,ID ⟨#[]⟩]) (aK results69 _ _ (w.heap.size+1) 80 _ (0,0) _ rfl hs Lw rfl fb) rfl ⟨rfl,((A7.out.setCell (p:=⟨w.heap.size+1,0,Jx⟩) (LI _) _).setCell (p:=⟨w.heap.size+1,1,Jx⟩) (LI _) _).setCell (p:=⟨w.heap.size+1,2,Jx⟩) (LI _) _⟩
def Loc (n:Nat)(a:Lq)(k:Nat):Prop:=n<=k/\∃c f,a.heap[k]?=Kx (Kf c 80 f)
theorem jE (g o p:Nat)(bk:LO)(t n told:Nat)(key body:List UInt8)(w:Lq)(R:Lq->Prop)(hR:∀a b,R a->Off (Loc w.heap.size a) a b->R b)(Tp:∀a,R a->Tz a/\J8 a)(hbl:body.length<1000000)(hnl:n<1000000000000000)
 (h:∀y,Below w.heap.size w y->LL J1 102 #[Lz (Kx ⟨g,o,Jx⟩),Lz (Kx ⟨p,0,Jx⟩),ev 1 t key n body,bk] y λe w'=>e=Ks (Nm #[IH IR told,IF L1])/\R w'/\(∀k,w.heap.size<=k->k<y.heap.size->w'.heap[k]?=y.heap[k]?)/\y.heap.size<=w'.heap.size) :
 LL J1 69 #[Lz (Kx ⟨g,o,Jx⟩),Lz (Kx ⟨p,0,Jx⟩),ev 1 t key n body,bk] w λe w'=>∃gs,e=Ks (Mn #[IH IR told,I3 (Kx ⟨gs,0,Jx⟩) 2 2,ID ⟨#[]⟩])/\R w'/\w'.ownsRow 0 124 2 (I3 (Kx ⟨gs,0,Jx⟩) 2 2) 2 (cN [⟨[69,84,97,103],bX body⟩,⟨[86,101,114,115,105,111,110],K0 n⟩]):=by
 obtain⟨tg,A6⟩:=IG (bX body);obtain⟨nn,A9⟩:=IG (K0 n);have Af:Hid (∀y,Tz y->LL J1 104 #[ID ⟨body.toArray⟩] y λe w'=>e=Ks (Mn #[ID ⟨#[69,84,97,103]⟩,ID ⟨tg.toArray⟩])/\Below y.heap.size y w'):=by rw[<-A6];exact λy hy=>kD body y hbl hy
 have Ah:Hid (∀y,J8 y->LL J1 105 #[IH IR n] y λe w'=>e=Ks (Mn #[ID ⟨#[86,101,114,115,105,111,110]⟩,ID ⟨nn.toArray⟩])/\Below y.heap.size y w'):=by rw[<-A9];exact λy hy=>eX n y hnl hy
 have HF:Hid (cN [⟨[69,84,97,103],bX body⟩,⟨[86,101,114,115,105,111,110],K0 n⟩]=[ID ⟨#[69,84,97,103]⟩,ID ⟨tg.toArray⟩,ID ⟨#[86,101,114,115,105,111,110]⟩,ID ⟨nn.toArray⟩]):=by show _=_;rw[<-A6,<-A9];rfl
 clear A6 A9;have HC:=IA h;clear h;go_enter func69,ntmps69;go_wp2_with fail;obtain⟨X,hX⟩:=exj (((w.alloc (Kf #[IH .u8 1,IH IR t,ID ⟨key.toArray⟩,IH IR n,ID ⟨body.toArray⟩] 108)).alloc (Kf #[IH IR 0,I3 Jx 0 0,ID ⟨#[]⟩] 80)));rw[<-hX];have Ad:Below w.heap.size w X:=by rw[hX];exact((Below.refl _ _).alloc (J0 _) _).alloc (by simp) _
 have hQ:X.heap[w.heap.size]?=Kx (Kf #[IH .u8 1,IH IR t,ID ⟨key.toArray⟩,IH IR n,ID ⟨body.toArray⟩] 108 (0,0)):=by rw[hX];exact(Mu _ _ (by simp)).trans (Ln _ _)
 have hZ:X.heap[w.heap.size+1]?=Kx (Kf #[IH IR 0,I3 Jx 0 0,ID ⟨#[]⟩] 80 (0,0)):=by rw[hX];have:=Ln (w.alloc (Kf #[IH .u8 1,IH IR t,ID ⟨key.toArray⟩,IH IR n,ID ⟨body.toArray⟩] 108)) (Kf #[IH IR 0,I3 Jx 0 0,ID ⟨#[]⟩] 80);simpa using this
 have Ag:w.heap.size+1<X.heap.size:=(gL hZ);clear hX;refine(HC.out X Ad).mono ?_;rintro e w1 ⟨rfl,Ae,A4,Al⟩;have A5:w1.heap[w.heap.size]?=_:=(A4 _ (J0 _) (by omega)).trans hQ;have Ac:w1.heap[w.heap.size+1]?=_:=(A4 _ (LI _) Ag).trans hZ;obtain⟨r0,-,-,r3,r4⟩:=Ku A5;have Am:=IA A5;have Aj:=IA Ac;have A7:=IA Ae;clear A5 Ac Ae A4 hQ hZ Ad;go_wp2_with fail;have Ab:w.heap.size<w1.heap.size:=by omega
 have Ak:w.heap.size+1<w1.heap.size:=by omega
 have HS:Hid (∀y,Below w1.heap.size w1 y->(y.cell? ⟨w.heap.size,3,Jx⟩=Kx (IH IR n)/\y.cell? ⟨w.heap.size,4,Jx⟩=Kx (ID ⟨body.toArray⟩))/\Tz y/\J8 y):=by intro y hy;exact⟨⟨(hy.cell (p:=⟨w.heap.size,3,Jx⟩) Ab).trans r3,(hy.cell (p:=⟨w.heap.size,4,Jx⟩) Ab).trans r4⟩,(Tp _ A7.out).1.below hy,(Tp _ A7.out).2.below hy⟩
 have g0:Below w1.heap.size w1 w1.drew:=(Below.refl _ _).drew;refine wp_region_held_drew (S:=(λy=>y.cell? ⟨w.heap.size,3,Jx⟩=Kx (IH IR n)/\y.cell? ⟨w.heap.size,4,Jx⟩=Kx (ID ⟨body.toArray⟩))) (by kernel_rfl) ⟨r3,r4⟩ (λhHeld=>?_);refine IJ 0 hHeld ?_;try simp only[Mp]
 refine IJ 1 hHeld ?_;try simp only[Mp]
 refine IJ 2 hHeld ?_;try simp only[Mp]
 refine IJ 4 hHeld ?_;try simp only[Mp]
 refine IJ 5 hHeld ?_;try simp only[Mp]
 refine I6 3 (λK hK=>?_);go_simp;refine(Af.out w1.drew (HS.out _ g0).2.1).mono ?_;rintro e y1 ⟨rfl,h1⟩;have g1:Below w1.heap.size w1 y1:=g0.trans (h1.mono g0.size);clear h1;try go_wp2_with fail
 refine hK.out _ _ (HS.out _ g1).1 (λhHeld=>?_);clear hK K;try simp only[Mp]
 refine I6 6 (λK hK=>?_);go_simp;refine(Ah.out y1 (HS.out _ g1).2.2).mono ?_;rintro e y2 ⟨rfl,h2⟩;have g2:Below w1.heap.size w1 y2:=g1.trans (h2.mono g1.size);clear h2;try go_wp2_with fail
 refine hK.out _ _ (HS.out _ g2).1 (λhHeld=>?_);clear hK K;try simp only[Mp]
 refine I6 7 (λK hK=>?_);go_simp;obtain⟨s3,A3⟩:=exj (y2.alloc (Kf #[ID ⟨#[69,84,97,103]⟩,ID ⟨tg.toArray⟩,ID ⟨#[86,101,114,115,105,111,110]⟩,ID ⟨nn.toArray⟩] 124));rw[<-A3];obtain⟨q3,Aa⟩:=exj (y2.heap.size);rw[<-Aa];have g3:Below w1.heap.size w1 s3:=by rw[A3];exact g2.alloc g2.size _
 have k3:s3.heap[q3]?=Kx (Kf #[ID ⟨#[69,84,97,103]⟩,ID ⟨tg.toArray⟩,ID ⟨#[86,101,114,115,105,111,110]⟩,ID ⟨nn.toArray⟩] 124 (0,0)):=by rw[A3,Aa];exact Ln _ _
 clear A3 Aa;refine hK.out _ _ (HS.out _ g3).1 (λhHeld=>?_);clear hK K;try simp only[Mp]
 refine I6 8 (λK hK=>?_);go_simp;refine(dx told (Kx ⟨q3,0,Jx⟩) 2 2 s3).mono ?_;rintro e y4 ⟨rfl,h4⟩;have g4:Below w1.heap.size w1 y4:=g3.trans (h4.mono g3.size);have k4:y4.heap[q3]?=Kx (Kf #[ID ⟨#[69,84,97,103]⟩,ID ⟨tg.toArray⟩,ID ⟨#[86,101,114,115,105,111,110]⟩,ID ⟨nn.toArray⟩] 124 (0,0)):=(h4.block _ (gL k3)).trans k3;clear h4;try go_wp2_with fail
 refine hK.out _ _ (HS.out _ g4).1 (λhHeld=>?_);clear hK K;try simp only[Mp]
 refine I6 9 (λK hK=>?_);have A1:=(g4.block _ Ak).trans Aj.out;obtain⟨c0,c1,c2⟩:=LP A1;have f0:=Je A1 0;have f1:=Je A1 1;have f2:=Je A1 2;have A0:w.heap.size≠w.heap.size+1:=by omega
 have A2:=IA A1;clear A1;go_simp;refine hK.out _ _ ⟨?_,?_⟩ (λhHeld=>?_)
 ·rw[ah A0,ah A0,ah A0];exact(HS.out _ g4).1.1
 ·rw[ah A0,ah A0,ah A0];exact(HS.out _ g4).1.2
 clear hK K;try simp only[Mp]
 refine wpAnyH_done (by kernel_rfl) ?_ _;go_wp2;have A8:q3≠w.heap.size+1:=aa k4 A2.out (by decide);have hs:=heap_set (i:=2) (v:=ID ⟨#[]⟩) (heap_set (i:=1) (v:=I3 (Kx ⟨q3,0,Jx⟩) 2 2) (heap_set (i:=0) (v:=IH IR told) A2.out));refine MD (v:=Mn #[IH IR told,I3 (Kx ⟨q3,0,Jx⟩) 2 2,ID ⟨#[]⟩]) (aK results69 _ _ (w.heap.size+1) 80 _ (0,0) _ rfl hs Lw rfl fb) rfl ⟨q3,rfl,?_,?_⟩
 ·have Ai:R y4:=hR _ _ A7.out (Off.of_below g4);exact hR _ _ Ai ((((Off.refl _ _).set _ 0 _ (Ly ⟨LI _,_,_,A2.out⟩)).set _ 1 _ (Ly ⟨LI _,_,_,A2.out⟩)).set _ 2 _ (Ly ⟨LI _,_,_,A2.out⟩))
 ·refine kH (l:=[⟨[69,84,97,103],bX body⟩,⟨[86,101,114,115,105,111,110],K0 n⟩]) (cs:=#[ID ⟨#[69,84,97,103]⟩,ID ⟨tg.toArray⟩,ID ⟨#[86,101,114,115,105,111,110]⟩,ID ⟨nn.toArray⟩]) ?_ (by rw[HF.out]) rfl (by simp[MY]);exact(av A8).trans ((av A8).trans ((av A8).trans k4))
theorem mJ (g o p:Nat)(bk:LO)(k t n told:Nat)(key body:List UInt8)(w:Lq)(R:Lq->Prop)(hR:∀a b,R a->Off (Loc w.heap.size a) a b->R b)(Tp:∀a,R a->Tz a/\J8 a)(hk:((k:Int)==1)=K1)(hnl:n<1000000000000000)
 (h:∀y,Below w.heap.size w y->LL J1 102 #[Lz (Kx ⟨g,o,Jx⟩),Lz (Kx ⟨p,0,Jx⟩),ev k t key n body,bk] y λe w'=>e=Ks (Nm #[IH IR told,IF L1])/\R w'/\(∀k,w.heap.size<=k->k<y.heap.size->w'.heap[k]?=y.heap[k]?)/\y.heap.size<=w'.heap.size) :
 LL J1 69 #[Lz (Kx ⟨g,o,Jx⟩),Lz (Kx ⟨p,0,Jx⟩),ev k t key n body,bk] w λe w'=>∃gs,e=Ks (Mn #[IH IR told,I3 (Kx ⟨gs,0,Jx⟩) 1 1,ID ⟨#[]⟩])/\R w'/\w'.ownsRow 0 124 2 (I3 (Kx ⟨gs,0,Jx⟩) 1 1) 1 (cN [⟨[86,101,114,115,105,111,110],K0 n⟩]):=by
 obtain⟨nn,A5⟩:=IG (K0 n);have Ad:Hid (∀y,J8 y->LL J1 105 #[IH IR n] y λe w'=>e=Ks (Mn #[ID ⟨#[86,101,114,115,105,111,110]⟩,ID ⟨nn.toArray⟩])/\Below y.heap.size y w'):=by rw[<-A5];exact λy hy=>eX n y hnl hy
 have HF:Hid (cN [⟨[86,101,114,115,105,111,110],K0 n⟩]=[ID ⟨#[86,101,114,115,105,111,110]⟩,ID ⟨nn.toArray⟩]):=by show _=_;rw[<-A5];rfl
 clear A5;have HC:=IA h;clear h;go_enter func69,ntmps69;go_wp2_with fail;obtain⟨X,hX⟩:=exj (((w.alloc (Kf #[IH .u8 k,IH IR t,ID ⟨key.toArray⟩,IH IR n,ID ⟨body.toArray⟩] 108)).alloc (Kf #[IH IR 0,I3 Jx 0 0,ID ⟨#[]⟩] 80)));rw[<-hX];have A9:Below w.heap.size w X:=by rw[hX];exact((Below.refl _ _).alloc (J0 _) _).alloc (by simp) _
 have hQ:X.heap[w.heap.size]?=Kx (Kf #[IH .u8 k,IH IR t,ID ⟨key.toArray⟩,IH IR n,ID ⟨body.toArray⟩] 108 (0,0)):=by rw[hX];exact(Mu _ _ (by simp)).trans (Ln _ _)
 have hZ:X.heap[w.heap.size+1]?=Kx (Kf #[IH IR 0,I3 Jx 0 0,ID ⟨#[]⟩] 80 (0,0)):=by rw[hX];have:=Ln (w.alloc (Kf #[IH .u8 k,IH IR t,ID ⟨key.toArray⟩,IH IR n,ID ⟨body.toArray⟩] 108)) (Kf #[IH IR 0,I3 Jx 0 0,ID ⟨#[]⟩] 80);simpa using this
 have Ab:w.heap.size+1<X.heap.size:=(gL hZ);clear hX;refine(HC.out X A9).mono ?_;rintro e w1 ⟨rfl,Aa,A2,Ak⟩;have A3:w1.heap[w.heap.size]?=_:=(A2 _ (J0 _) (by omega)).trans hQ;have A8:w1.heap[w.heap.size+1]?=_:=(A2 _ (LI _) Ab).trans hZ;obtain⟨r0,-,-,r3,r4⟩:=Ku A3;have Al:=IA A3;have Ag:=IA A8;have A7:=IA Aa;clear A3 A8 Aa A2 hQ hZ A9;go_wp2_with fail;have Aj:w.heap.size<w1.heap.size:=by omega
 have Ah:w.heap.size+1<w1.heap.size:=by omega
 refine(Ad.out w1 (Tp _ A7.out).2).mono ?_;rintro e y2 ⟨rfl,g2⟩;have Ac:=IA g2;have Af:=g2.size;clear g2;go_wp2_with fail;have g3:Below w1.heap.size w1 (y2.alloc (Kf #[ID ⟨#[86,101,114,115,105,111,110]⟩,ID ⟨nn.toArray⟩] 124)):=Ac.out.alloc Af _;refine(dx told (Kx ⟨y2.heap.size,0,Jx⟩) 1 1 _).mono ?_;rintro e y4 ⟨rfl,h4⟩;have g4:Below w1.heap.size w1 y4:=g3.trans (h4.mono g3.size);have k4:y4.heap[y2.heap.size]?=Kx (Kf #[ID ⟨#[86,101,114,115,105,111,110]⟩,ID ⟨nn.toArray⟩] 124 (0,0)):=(h4.block _ (by simp)).trans (Ln _ _);have A0:=(g4.block _ Ah).trans Ag.out;obtain⟨c0,c1,c2⟩:=LP A0;have f0:=Je A0 0;have f1:=Je A0 1;have f2:=Je A0 2;have A1:=IA A0;have A6:=IA k4;have Ai:=IA g4;clear A0 h4 g3 k4 g4;go_wp2;have A4:y2.heap.size≠w.heap.size+1:=aa A6.out A1.out (by decide);have hs:=heap_set (i:=2) (v:=ID ⟨#[]⟩) (heap_set (i:=1) (v:=I3 (Kx ⟨y2.heap.size,0,Jx⟩) 1 1) (heap_set (i:=0) (v:=IH IR told) A1.out));refine MD (v:=Mn #[IH IR told,I3 (Kx ⟨y2.heap.size,0,Jx⟩) 1 1,ID ⟨#[]⟩]) (aK results69 _ _ (w.heap.size+1) 80 _ (0,0) _ rfl hs Lw rfl fb) rfl ⟨y2.heap.size,rfl,?_,?_⟩
 ·have Ae:R y4:=hR _ _ A7.out (Off.of_below Ai.out);exact hR _ _ Ae ((((Off.refl _ _).set _ 0 _ (Ly ⟨LI _,_,_,A1.out⟩)).set _ 1 _ (Ly ⟨LI _,_,_,A1.out⟩)).set _ 2 _ (Ly ⟨LI _,_,_,A1.out⟩))
 ·refine kH (l:=[⟨[86,101,114,115,105,111,110],K0 n⟩]) (cs:=#[ID ⟨#[86,101,114,115,105,111,110]⟩,ID ⟨nn.toArray⟩]) ?_ (by rw[HF.out]) rfl (by simp[MY]);exact(av A4).trans ((av A4).trans ((av A4).trans A6.out))
open Go.RowKit Go.MuLone
structure Jm (w:Lq):Prop where
 z:Tz w
 b:J8 w
theorem Jm.below {w:Lq}(h:Jm w)(hb:Below w.heap.size w x):Jm x:=⟨h.z.below hb,h.b.below hb⟩
theorem var?_off {P:Program}{w w':Lq}(ho:Off S w w'){n:String}(hg:P.globalNamed n=Kx g)(hlt:g<w.heap.size)(hS:¬ S g){cs:Array LO}(h:w.var? P n=Kx cs):w'.var? P n=Kx cs:=by
 unfold World.var? at h ⊢;rw[hg] at h ⊢;simp only[Option.bind_some] at h ⊢;rw[ho.block g hlt hS];exact h
def eh (k:Nat):Prop:=0<k/\3<k
theorem Jm.off {w:Lq}(h:Jm w)(ho:Off S w x)(hS:∀k,S k->eh k):Jm x:=by
 refine⟨?_,?_,Lo h.b.lt ho.size⟩
 ·have hz:=h.z;unfold Tz at hz ⊢;have A0:=MA _ _ hz;simp only[K2] at hz ⊢;rw[ho.block _ A0 (λhs=>Nd _ (hS _ hs).2)];exact hz
 ·exact var?_off ho G5 h.b.lt (λhs=>Nd _ (hS _ hs).1) h.b.tab
theorem Jm.high {w:Lq}(h:Jm w)(hk:w.heap.size<=k):eh k :=
 ⟨Lo h.b.lt hk,Lo (MA _ _ h.z) hk⟩
theorem jK (key:List UInt8)(w:Lq)(h:ak w s n rd lk σ M kc B) :
 LL J1 65 #[Lz (Kx ⟨M.g,ao key%n*3,Jx⟩),ID ⟨key.toArray⟩] w λe w'=>∃p vs,e=Ks (Lz (Kx ⟨p,0,Jx⟩))/\Found w' M n σ key p vs/\Below w.heap.size w w'/\(M.own s n p\/w.heap.size<=p):=by
 have hi:ao key%n<n:=NO _ h.n1;obtain⟨cs,hc,hr⟩:=h.row;have A3:w.cell? ⟨M.g,ao key%n*3+2,Jx⟩=Kx (M.es (ao key%n)):=by simp only[K2,hc];simp[(hr _ hi).2]
 have A1:(M.ps (ao key%n)).length<1000000:=by(have h1:((M.ps (ao key%n)).map M.en).length<=σ.Iz.length:=by rw[h.JQ _ hi];exact List.length_filter_le _ _);rw[List.length_map] at h1;have:=h.many;omega
 have A4:er (M.keys (ao key%n)):=by rw[h.keys_eq hi];exact(h.rise.filter _).rising
 by_cases hl:(ae σ.Iz key).last=0
 ·obtain⟨j,A0,A6⟩:=h.KI key hl;refine(CX M.g _ _ _ _ key j w A3 (h.kt _ hi).k A4 A1 A0 A6).mono ?_;rintro e w' ⟨p,rfl,hp,hE,hb⟩;refine⟨p,_,rfl,⟨?_,L2 ⟨λa ha hm=>?_,rfl,hl⟩⟩,hb,L2 hp⟩
  ·rw[(bV (λE hE=>(h.ok E hE).last) hl).2];exact hE
  ·have:=(h.Jc a ha p hm).lt;omega
 ·obtain⟨j,p,A0,A5,hp,A2⟩:=h.Mv key hl;refine(Ax M.g _ _ _ _ key j p w A3 (h.kt _ hi).k A4 A1 A0 A5 hp (gL hc)).mono ?_;rintro e w' ⟨rfl,hb⟩;have hm:=List.mem_of_getElem? hp;refine⟨p,M.vs p,rfl,⟨?_,Ly ⟨hm,A2,rfl,hl⟩⟩,hb,Ly (L2 (L2 (L2 (Ly ⟨_,hi,hm⟩))))⟩;rw[<-A2];exact(h.Jc _ hi p hm).below hb
theorem qH {u:IZ}(h:dA E t=Kx u):u∈E.IB:=by
 unfold dA at h;split at h
 ·unfold numOf at h;split at h
  ·cases h
  ·rename_i v hv;split at h
   ·cases h
   ·cases h;exact List.mem_of_find?_eq_some hv
 ·unfold ax at h;split at h
  ·cases h
  ·rename_i v hv;split at h
   ·cases h
   ·cases h;exact List.mem_of_getLast? hv
theorem qc {n:Int}(h:IK.Jh n l):l.length<=40:=by
 obtain⟨y,m,k,_,rfl⟩:=h;have h1:∀s i,(IK.nm s i).length<=3:=λs i=>by unfold IK.nm;rw[List.length_take];omega
 have h2:=h1 IK.KR (n/86400%7).toNat;have h3:=h1 IK.JR m;simp only[IK.fmt,IK.two,IK.four,List.length_append,List.length_cons,List.length_nil];omega
theorem DU (n:Nat)(w:Lq)(hn:n<=253402300799)(hT:J8 w):LL J1 107 #[IH IR n] w λe w'=>e=Ks (ID ⟨(cw n).toArray⟩)/\Below w.heap.size w w':=by
 refine(ze n w (by omega) (by omega) hT).mono ?_;rintro e w' ⟨⟨l,hl,rfl⟩,hb⟩;have hx:IK.Jh (n:Int) (Classical.epsilon (IK.Jh (n:Int))):=Classical.epsilon_spec ⟨l,hl⟩;have hs:cw n=l:=by unfold cw;rw[hx.uniq hl];exact List.take_of_length_le (qc hl)
 rw[hs];exact⟨rfl,hb⟩
structure L9 where
 told:Nat
 IQ:List J9
 body:List UInt8
noncomputable def ir (σ:St)(m:Nat)(t:Jg)(k:I9)(body:List UInt8):L9×St :=
 if t.kind=3 then(⟨0,[],[]⟩,σ)
 else if aJ (Jb m) k (dA (ae σ.Iz t.key) t)≠0 then(⟨aJ (Jb m) k (dA (ae σ.Iz t.key) t),[],[]⟩,σ)
 else if Jb m then
  match dS σ t.key (bJ (ae σ.Iz t.key) m t body).1 (bJ (ae σ.Iz t.key) m t body).2.1 (bJ (ae σ.Iz t.key) m t body).2.2 with
  | (told,Jx)=>(⟨told,[],[]⟩,σ)
  | (told,Kx σ')=>(⟨told,if m=2 then[⟨[69,84,97,103],bX body⟩,⟨[86,101,114,115,105,111,110],K0 (bJ (ae σ.Iz t.key) m t body).2.1⟩] else[⟨[86,101,114,115,105,111,110],K0 (bJ (ae σ.Iz t.key) m t body).2.1⟩],[]⟩,σ')
 else match dA (ae σ.Iz t.key) t with
  | none=>(⟨404,[],[]⟩,σ)
  | some v=>(⟨200,cj v (cw v.time),if m=0 then v.body else[]⟩,σ)
def Done (w w':Lq)(e:Ending)(s n:Nat)(rd:Int)(lk:Nat->Int)(M:Mem)(r:L9×St):Prop :=
 ∃fs M',e=Ks (Mn #[IH IR (r.1.told:Nat),fs,ID ⟨r.1.body.toArray⟩])/\w'.ownsRow 0 124 2 fs r.1.IQ.length (cN r.1.IQ)/\aN w' s n rd lk r.2 M'/\Off (M.own s n) w w'/\∀k,M'.own s n k->M.own s n k\/w.heap.size<=k
theorem fo {w:Lq}(h:ak w s n rd lk σ M kc B)(hk:M.own s n k){c:Array LO}{f:Nat×Nat}:w.heap[k]?≠Kx (Kf c 80 f):=by
 intro e;rcases hk with rfl|rfl|⟨i,hi,hb⟩|⟨i,hi,hb⟩|⟨i,p,hi,hp,hb⟩|hb
 ·exact aa h.blk e (by decide) rfl
 ·obtain⟨cs,hc,_⟩:=h.row;exact aa hc e (by decide) rfl
 ·exact ai (h.kt i hi).k.row e (by decide) hb
 ·exact aa (h.Jc i hi k hb).blk e (by decide) rfl
 ·exact ai (h.Jc i hi p hp).row e (by decide) hb
 ·exact ai h.Jn e (by decide) hb
theorem JB {w:Lq}(h:ak w s n rd lk σ M kc B)(hk:M.own s n k):k<w.heap.size:=by
 rcases hk with rfl|rfl|⟨i,hi,hb⟩|⟨i,hi,hb⟩|⟨i,p,hi,hp,hb⟩|hb
 ·exact(gL h.blk)
 ·obtain⟨cs,hc,_⟩:=h.row;exact(gL hc)
 ·exact((h.kt i hi).k.row.lt _ hb).2
 ·exact(h.Jc i hi k hb).lt
 ·exact((h.Jc i hi p hp).row.lt _ hb).2
 ·exact(h.Jn.lt _ hb).2
theorem oF (p:Nat)(E:IP)(vs:LO)(m:Nat)(t:Jg)(wr:Bool)(c:I7)(body:List UInt8)(w:Lq)(h:ay w p E vs)(hl:E.last<4611686018427387904)(e1:∃a n m,c.lm=I3 a n m)(e2:∃a n m,c.ln=I3 a n m) :
 LL J1 70 #[eY m t wr c body,Lz (Kx ⟨p,0,Jx⟩)] w λe w'=>e=Ks (ev (bJ E m t body).1 0 E.key (bJ E m t body).2.1 (bJ E m t body).2.2)/\Below w.heap.size w w':=by
 by_cases hm:m=2
 ·subst hm;exact wanted_put p E vs t wr c body w h hl e1 e2
 ·have A0:((m:Int)==2)=K1:=beq_eq_false_iff_ne.2 (by omega);by_cases hk:t.kind=2
  ·(have hw:bJ E m t body=(3,t.num,[]):=by simp[bJ,hm,hk]);rw[hw];exact zH p E vs m t wr c body w h A0 (by rw[hk];rfl) e1 e2
  ·(have hw:bJ E m t body=(2,E.last+1,[]):=by simp[bJ,hm,hk]);rw[hw];exact tr p E vs m t wr c body w h A0 (beq_eq_false_iff_ne.2 (by omega)) hl e1 e2
theorem xY {m:Nat}{body:List UInt8}{kd num:Nat}{bd:List UInt8}(h:bJ E m t body=(kd,num,bd))(hl:E.last<140000000000000)(hbody:body.length<=400)(JJ:t.num<1000000000000000) :
 (kd=1\/kd=2\/kd=3)/\(kd≠3->num=E.last+1)/\num<1000000000000000/\bd.length<=400/\(kd=1 ↔ m=2)/\(kd=1->bd=body):=by
 unfold bJ at h;split at h
 ·rename_i hm2;cases h;exact⟨Ly rfl,λ_=>rfl,by omega,hbody,⟨λ_=>hm2,λ_=>rfl⟩,λ_=>rfl⟩
 ·rename_i hm2;split at h
  ·cases h;exact⟨L2 (L2 rfl),λh=>absurd rfl h,JJ,by simp,⟨λh=>by omega,λh=>absurd h hm2⟩,λh=>by omega⟩
  ·cases h;exact⟨L2 (Ly rfl),λ_=>rfl,by omega,by simp,⟨λh=>by omega,λh=>absurd h hm2⟩,λh=>by omega⟩
structure OH (w w6:Lq)(s n:Nat)(rd:Int)(lk:Nat->Int)(i:Nat)(σ':St)(M:Mem)(a:Lq):Prop where
 ex:∃M',aN a s n rd (λj=>if j=i then 1 else lk j) σ' M'/\M'.g=M.g/\Off (M.own s n) w a/\(∀k,M'.own s n k->M.own s n k\/w.heap.size<=k)/\Jm a/\a.heap[w.heap.size+1]?=Kx (Kf #[IH IR 0,I3 Jx 0 0,ID ⟨#[]⟩] 80 (0,0))
theorem OH.OY {w:Lq}(h:OH w w6 s n rd lk i σ' M a):Jm a:=by
 obtain⟨_,_,_,_,_,h5,_⟩:=h.ex;exact h5
theorem OH.off {w:Lq}{b:Lq}(h:OH w w6 s n rd lk i σ' M a)(hT:Jm w6)(Qn:w.heap.size+1<w6.heap.size)(ho:Off (Loc w6.heap.size a) a b):OH w w6 s n rd lk i σ' M b:=by
 obtain⟨M',h1,h2,h3,h4,h5,h6⟩:=h.ex;refine⟨M',h1.off ho (λk hk hl=>?_),h2,h3.trans' ho (λk hk hl=>?_),h4,h5.off ho (λk hl=>hT.high hl.1),(ho.block _ (gL h6) (λhl=>?_)).trans h6⟩
 ·obtain⟨_,c,f,e⟩:=hl;exact fo h1 hk e
 ·have:=hl.1;omega
 ·have:=hl.1;omega
theorem FY {w:Lq}{p:Nat}{told:Nat}{f:FuncId}{args:Array LO}(QX:aN w6 s n rd (λj=>if j=i then 1 else lk j) σ M)(UT:Jm w6)(hHi:∀k,M.own s n k->eh k)(Tq:Off (M.own s n) w w6)(hP:M.own s n p\/w.heap.size<=p)
 (OB:w6.heap[w.heap.size+1]?=Kx (Kf #[IH IR 0,I3 Jx 0 0,ID ⟨#[]⟩] 80 (0,0)))(Qn:w.heap.size+1<w6.heap.size)(hpe:∃cp,w6.heap[p]?=Kx (Kf cp 183 (0,0)))(UQ:eh p)(hy:Below w6.heap.size w6 y)
 (hc:LL J1 f args y λe w'=>e=Ks (Nm #[IH IR (told:Nat),IF L1])/\∃M',Vb y w' s n rd (λj=>if j=i then 1 else lk j) σ' M M' p) :
 LL J1 f args y λe w'=>e=Ks (Nm #[IH IR told,IF L1])/\OH w w6 s n rd lk i σ' M w'/\(∀k,w6.heap.size<=k->k<y.heap.size->w'.heap[k]?=y.heap[k]?)/\y.heap.size<=w'.heap.size:=by
 refine hc.mono ?_;rintro e w' ⟨rfl,M',hd⟩;obtain⟨cp,hpe⟩:=hpe;have A0:p<w6.heap.size:=(gL hpe);refine⟨rfl,⟨M',hd.st,hd.g,(Tq.trans (Off.of_below hy)).trans' hd.off (λk hk h=>?_),λk hk=>?_,(UT.below hy).off hd.off (λk h=>?_),?_⟩,λk h1 h2=>hd.off.block k h2 (λh=>?_),hd.off.size⟩
 ·rcases h with h|h
  ·exact h
  ·rcases hP with h'|h'
   ·exact h ▸ h'
   ·omega
 ·have A1:=hy.size;rcases hd.own k hk with h|h|h
  ·exact Ly h
  ·right;omega
  ·exact h ▸ hP
 ·rcases h with h|h
  ·exact hHi k h
  ·exact h ▸ UQ
 ·refine(hd.off.block _ (Lo Qn hy.size) (λh=>?_)).trans ((hy.block _ Qn).trans OB);rcases h with h|h
  ·exact fo QX h OB
  ·exact aa OB hpe (by decide) h
 ·rcases h with h|h
  ·have:=JB QX h;omega
  ·omega
theorem jg {w:Lq}{M':Mem}{r:L9×St}{fs:LO}(hi:i<n)(hlk:lk i=0)(hA:y.heap[w.heap.size+1]?=Kx (Kf #[IH IR 0,I3 Jx 0 0,ID ⟨#[]⟩] 80 (0,0)))
 (hS:aN y s n rd (λj=>if j=i then 1 else lk j) r.2 M')(hg:M'.g=M.g)(hof:Off (M.own s n) w y)(hown:∀k,M'.own s n k->M.own s n k\/w.heap.size<=k)(hrow:y.ownsRow 0 124 2 fs r.1.IQ.length (cN r.1.IQ)) :
 (((y.setCell ⟨w.heap.size+1,0,Jx⟩ (IH IR (r.1.told:Nat))).setCell ⟨w.heap.size+1,1,Jx⟩ fs).setCell ⟨w.heap.size+1,2,Jx⟩ (ID ⟨r.1.body.toArray⟩)).cell? ⟨M.g,i*3,Jx⟩=Kx (IH NX 1) /\
 (((y.setCell ⟨w.heap.size+1,0,Jx⟩ (IH IR (r.1.told:Nat))).setCell ⟨w.heap.size+1,1,Jx⟩ fs).setCell ⟨w.heap.size+1,2,Jx⟩ (ID ⟨r.1.body.toArray⟩)).frozen? ⟨M.g,i*3,Jx⟩=K1 /\
 ((((y.setCell ⟨w.heap.size+1,0,Jx⟩ (IH IR (r.1.told:Nat))).setCell ⟨w.heap.size+1,1,Jx⟩ fs).setCell ⟨w.heap.size+1,2,Jx⟩ (ID ⟨r.1.body.toArray⟩)).setCell ⟨M.g,i*3,Jx⟩ (IH NX 0)).heap[w.heap.size+1]?=Kx (Kf #[IH IR (r.1.told:Nat),fs,ID ⟨r.1.body.toArray⟩] 80 (0,0)) /\
 Done w ((((y.setCell ⟨w.heap.size+1,0,Jx⟩ (IH IR (r.1.told:Nat))).setCell ⟨w.heap.size+1,1,Jx⟩ fs).setCell ⟨w.heap.size+1,2,Jx⟩ (ID ⟨r.1.body.toArray⟩)).setCell ⟨M.g,i*3,Jx⟩ (IH NX 0)) (Ks (Mn #[IH IR (r.1.told:Nat),fs,ID ⟨r.1.body.toArray⟩])) s n rd lk M r:=by
 obtain⟨Y,hY⟩:=exj ((((y.setCell ⟨w.heap.size+1,0,Jx⟩ (IH IR (r.1.told:Nat))).setCell ⟨w.heap.size+1,1,Jx⟩ fs).setCell ⟨w.heap.size+1,2,Jx⟩ (ID ⟨r.1.body.toArray⟩)));rw[<-hY];have A6:Y.heap[w.heap.size+1]?=Kx (Kf #[IH IR (r.1.told:Nat),fs,ID ⟨r.1.body.toArray⟩] 80 (0,0)):=by rw[hY,heap_set (heap_set (heap_set hA))];rfl
 have A1:Off (λk=>k=w.heap.size+1) y Y:=by rw[hY];exact(((Off.refl (λk=>k=w.heap.size+1) _).set _ 0 _ (Ly rfl)).set _ 1 _ (Ly rfl)).set _ 2 _ (Ly rfl)
 have A5:aN Y s n rd (λj=>if j=i then 1 else lk j) r.2 M':=hS.off A1 (λk hk e=>fo hS hk (e ▸ hA));obtain⟨cs,hc,hr⟩:=A5.row;rw[hg] at hc;have A7:w.heap.size+1≠M.g:=aa A6 hc (by decide);refine⟨?_,by simp[L5,hc],(av A7).trans A6,fs,M',rfl,?_,?_,?_,hown⟩
 ·simp only[K2,hc];simp[(hr i hi).1]
 ·have A4:Y.ownsRow 0 124 2 fs r.1.IQ.length (cN r.1.IQ):=by
   refine⟨hrow.1,?_⟩;rcases hrow.2 with h0|⟨g,A2,A3,hv,h1,A0,h2⟩
   ·exact Ly h0
   ·exact L2 ⟨g,A2,A3,hv,h1,(A1.block g (gL A0) (aa A0 hA (by decide))).trans A0,h2⟩
  refine⟨A4.1,?_⟩;rcases A4.2 with h0|⟨g,A2,A3,hv,h1,A0,h2⟩
  ·exact Ly h0
  ·exact L2 ⟨g,A2,A3,hv,h1,(av (aa A0 hc (by decide))).trans A0,h2⟩
 ·have:=A5.lock i hi 0;rw[hg] at this;have e:(λj=>if j=i then(0:Int) else if j=i then 1 else lk j)=lk:=by
   funext j;by_cases h:j=i
   ·simp[h,hlk]
   ·simp[h]
  rw[e] at this;exact this
 ·exact(hof.trans' A1 (λk hk e=>by omega)).set M.g _ _ (Ly (L2 (Ly rfl)))
theorem vR (m:Nat)(t:Jg)(c:I7)(body:List UInt8)(w:Lq)(h:aN w s n rd lk σ M)(hlk:lk (ao t.key%n)=0)(k:I9)(g0:Nat)(hR:Rq w g0 c k)(hg0:g0<=w.heap.size)(hMg:M.g<=g0)(hT:Jm w)(hHi:∀k,M.own s n k->eh k)(hkey:aW t.key=L1)(hbody:body.length<=400)(JJ:t.num<1000000000000000)(JL:σ.log.length<140000000000000)(hk3:t.kind≠3) :
 LL J1 35 #[Lz (Kx ⟨s,0,Jx⟩),eY m t (Jb m) c body,bookC s] w λe w'=>Done w w' e s n rd lk M (ir σ m t k body):=by
 have D5:Hid (t.kind≠3):=hk3;clear hk3;have Da:t.key.length<1000000:=by unfold aW at hkey;simp at hkey;omega
 obtain⟨rr,Bx⟩:=IG (ir σ m t k body);rw[Bx];have A5:=IA Bx;clear Bx;have e1:=hR.m.list.2.2.2;have e2:=hR.n.list.2.2.2;obtain⟨a1,m1,p1,e1⟩:=e1;obtain⟨a2,m2,p2,e2⟩:=e2;unfold eY;rw[e1,e2];obtain⟨i,A6⟩:=IG (ao t.key%n);have hi:i<n:=by rw[<-A6];exact NO _ h.n1
 have HH:=IA h;clear h;go_enter_defers func35,ntmps35;go_wp2_with fail;obtain⟨X,hX⟩:=exj (((w.alloc (Kf #[IH IR (m:Int),IH IR (t.kind:Int),ID ⟨t.key.toArray⟩,IH IR (t.num:Int),IF (Jb m),IF c.hm,IF c.am,I3 a1 m1 p1,IF c.hn,IF c.an,I3 a2 m2 p2,IF c.hs,IH IR c.si,IF c.hu,IH IR c.ul,IF K1,ID ⟨#[]⟩,IH IR 0,ID ⟨body.toArray⟩] 75)).alloc (Kf #[IH IR 0,I3 Jx 0 0,ID ⟨#[]⟩] 80)));rw[<-hX];have B9:Below w.heap.size w X:=by rw[hX];exact((Below.refl _ _).alloc (J0 _) _).alloc (by simp) _
 have hQ:X.heap[w.heap.size]?=Kx (Kf #[IH IR (m:Int),IH IR (t.kind:Int),ID ⟨t.key.toArray⟩,IH IR (t.num:Int),IF (Jb m),IF c.hm,IF c.am,I3 a1 m1 p1,IF c.hn,IF c.an,I3 a2 m2 p2,IF c.hs,IH IR c.si,IF c.hu,IH IR c.ul,IF K1,ID ⟨#[]⟩,IH IR 0,ID ⟨body.toArray⟩] 75 (0,0)):=by rw[hX];exact(Mu _ _ (by simp)).trans (Ln _ _)
 have hZ:X.heap[w.heap.size+1]?=Kx (Kf #[IH IR 0,I3 Jx 0 0,ID ⟨#[]⟩] 80 (0,0)):=by rw[hX];have:=Ln (w.alloc (Kf #[IH IR (m:Int),IH IR (t.kind:Int),ID ⟨t.key.toArray⟩,IH IR (t.num:Int),IF (Jb m),IF c.hm,IF c.am,I3 a1 m1 p1,IF c.hn,IF c.an,I3 a2 m2 p2,IF c.hs,IH IR c.si,IF c.hu,IH IR c.ul,IF K1,ID ⟨#[]⟩,IH IR 0,ID ⟨body.toArray⟩] 75)) (Kf #[IH IR 0,I3 Jx 0 0,ID ⟨#[]⟩] 80);simpa using this
 have C6:w.heap.size+1<X.heap.size:=(gL hZ);clear hX;generalize (Mn #[IH IR (m:Int),IH IR (t.kind:Int),ID ⟨t.key.toArray⟩,IH IR (t.num:Int),IF (Jb m),IF c.hm,IF c.am,I3 a1 m1 p1,IF c.hn,IF c.an,I3 a2 m2 p2,IF c.hs,IH IR c.si,IF c.hu,IH IR c.ul,IF K1,ID ⟨#[]⟩,IH IR 0,ID ⟨body.toArray⟩])=Qv;have Ba:=HH.out.below B9;have C2:X.cell? ⟨s,6,Jx⟩=Kx (I3 (Kx ⟨M.g,0,Jx⟩) n M.cap):=by simp[K2,Ba.blk,storeCells]
 have HQ:=IA hQ;have HZ:=IA hZ;have Av:=IA Ba;have HL:=IA B9;clear hQ hZ Ba B9;refine(ie s M.g n M.cap t.key X C2 Av.out.n1 Av.out.n8 Da).mono ?_;rintro e w1 ⟨rfl,Au⟩;rw[A6];have Bt:=Av.out.below Au;obtain⟨cs,hc,hr⟩:=Bt.row;have Bv:lk i=0:=by rw[<-A6];exact hlk
 have l0:w1.cell? ⟨M.g,i*3,Jx⟩=Kx (IH NX 0):=by simp only[K2,hc];simp[(hr i hi).1,Bv]
 have lf:w1.frozen? ⟨M.g,i*3,Jx⟩=K1:=by simp[L5,hc]
 have C1:=IA Bt;have Az:=IA Au;have Cw:M.g≠w.heap.size:=aa hc ((Au.block _ (by omega)).trans HQ.out) (by decide);have Dd:M.g≠w.heap.size+1:=aa hc ((Au.block _ C6).trans HZ.out) (by decide);clear Au Bt hc hr C2 cs;go_wp2_with (go_at_call 60;refine(lock_free Ja ⟨M.g,i*3,Jx⟩ _ l0 lf).mono ?_;rintro e w2 ⟨rfl,B5⟩;have Aj:w2.heap[w.heap.size]?=Kx (Kf #[IH IR (m:Int),IH IR (t.kind:Int),ID ⟨t.key.toArray⟩,IH IR (t.num:Int),IF (Jb m),IF c.hm,IF c.am,I3 a1 m1 p1,IF c.hn,IF c.an,I3 a2 m2 p2,IF c.hs,IH IR c.si,IF c.hu,IH IR c.ul,IF K1,ID ⟨#[]⟩,IH IR 0,ID ⟨body.toArray⟩] 75 (0,0)):=(by rw[B5,av Cw.symm];exact(Az.out.block _ (by omega)).trans HQ.out);have q0:w2.cell? ⟨w.heap.size,0,Jx⟩=Kx (IH IR (m:Int)):=(by simp[K2,Aj]);have q1:w2.cell? ⟨w.heap.size,1,Jx⟩=Kx (IH IR (t.kind:Int)):=(by simp[K2,Aj]);have q2:w2.cell? ⟨w.heap.size,2,Jx⟩=Kx (ID ⟨t.key.toArray⟩):=(by simp[K2,Aj]);have Ak:Hid _:=B5;have Cl:Hid _:=Aj;clear B5 Aj l0 lf);have Bk:aN w2 s n rd (λj=>if j=i then 1 else lk j) σ M:=by rw[Ak.out];exact C1.out.lock i hi 1
 have Ax:Below X.heap.size X w1:=Az.out;have Cc:Rq w2 g0 c k:=by rw[Ak.out];exact((hR.below hg0 HL.out).below (MT hg0 HL.out.size) Ax).set (by omega)
 have C0:Jm w2:=by rw[Ak.out];exact((hT.below HL.out).below Ax).off ((Off.refl (λk=>k=M.g) _).set M.g _ _ (Ly rfl)) (λk e=>e ▸ hHi _ (L2 (Ly rfl)))
 have B6:w2.heap[w.heap.size+1]?=Kx (Kf #[IH IR 0,I3 Jx 0 0,ID ⟨#[]⟩] 80 (0,0)):=by rw[Ak.out,av Dd.symm];exact(Az.out.block _ C6).trans HZ.out
 have C3:Off (M.own s n) w w2:=by rw[Ak.out];exact(Off.of_below (HL.out.trans (Ax.mono HL.out.size))).set M.g _ _ (Ly (L2 (Ly rfl)))
 have Be:=jK t.key w2 Bk;rw[A6] at Be;refine Be.mono ?_;rintro e w3 ⟨p,vs,rfl,hF,Aa,Cd⟩;have Ah:w.heap.size+1<w2.heap.size:=(gL B6);have Bl:w3.heap[w.heap.size]?=Kx (Kf #[IH IR (m:Int),IH IR (t.kind:Int),ID ⟨t.key.toArray⟩,IH IR (t.num:Int),IF (Jb m),IF c.hm,IF c.am,I3 a1 m1 p1,IF c.hn,IF c.an,I3 a2 m2 p2,IF c.hs,IH IR c.si,IF c.hu,IH IR c.ul,IF K1,ID ⟨#[]⟩,IH IR 0,ID ⟨body.toArray⟩] 75 (0,0)):=(Aa.block _ (by omega)).trans Cl.out;have Ce:=IA Bl;have Db:=IA ((Aa.block _ Ah).trans B6);have Ca:=IA (Bk.below Aa);have Cz:=IA (Cc.below (MT hg0 (by omega)) Aa);have C9:Hid (Jm w3):=C0.below Aa;have Dc:Hid (Off (M.own s n) w w3):=C3.trans (Off.of_below Aa);have Bw:=IA hF;have HP:Hid (M.own s n p\/w.heap.size<=p):=Cd.imp_right (λh=>by omega);have Ae:w.heap.size+1<w3.heap.size:=Lo Ah Aa.size;obtain⟨q0,q1,q2,q3,-,-,-,-,-,-,-,-,-,-,-,-,-,-,-⟩:=D3 Bl;clear Be Bk Ax Cc C0 B6 C3 Aa hF Cd Bl HQ HZ Av C1 Az Cl Ah;by_cases hkd:t.kind=3
 ·exact absurd hkd D5.out
 ·have D6:((t.kind:Int)==3)=K1:=beq_eq_false_iff_ne.2 (by omega);obtain⟨f1,f2,f3,f4,f5,f6⟩:=Ca.out.found Bw.out;go_wp2_with fail;refine(yf p (ae σ.Iz t.key) vs t w3 Bw.out.Jc (by omega)).mono ?_;rintro e w4 ⟨⟨v,rfl,hv⟩,B4⟩;have Br:w4.heap[w.heap.size]?=Kx (Kf #[IH IR (m:Int),IH IR (t.kind:Int),ID ⟨t.key.toArray⟩,IH IR (t.num:Int),IF (Jb m),IF c.hm,IF c.am,I3 a1 m1 p1,IF c.hn,IF c.an,I3 a2 m2 p2,IF c.hs,IH IR c.si,IF c.hu,IH IR c.ul,IF K1,ID ⟨#[]⟩,IH IR 0,ID ⟨body.toArray⟩] 75 (0,0)):=(B4.block _ (by omega)).trans Ce.out;have Di:=IA Br;obtain⟨o,Bc⟩:=IG (dA (ae σ.Iz t.key) t);rw[Bc] at hv ⊢;have Cn:=IA Bc;have HV:=IA hv;have Bn:=IA B4;have Bz:w.heap.size+1<w4.heap.size:=Lo Ae B4.size;(have Cp:w.heap.size<w4.heap.size:=by omega);unfold bq;obtain⟨-,-,-,-,r4,r5,r6,r7,r8,r9,D0,Ct,Dh,D1,Df,Cx,D8,D9,-⟩:=D3 Br;clear Br Bc hv B4 q0 q1 q2 q3;go_wp2_with fail;have Aq:Below w3.heap.size w3 (w4.alloc (Kf #[IH IR v.num,IH IR v.time,IF v.mark,ID ⟨v.body.toArray⟩] 147)):=Bn.out.alloc Bn.out.size _;have Bi:∀u,o=Kx u->u∈(ae σ.Iz t.key).IB:=λu hu=>qH (Cn.out.trans hu);have B0:=lx (Jb m) c k g0 v o (w4.alloc (Kf #[IH IR v.num,IH IR v.time,IF v.mark,ID ⟨v.body.toArray⟩] 147)) (Cz.out.below (MT hg0 (by omega)) Aq) HV.out (C9.out.below Aq).z (λu hu=>f4 u (Bi u hu));unfold ua bq at B0;rw[e1,e2] at B0;refine Mz B0 ?_;rintro e w5 ⟨rfl,Bs⟩;have Bf:w5.heap[w4.heap.size]?=Kx (Kf #[IH IR v.num,IH IR v.time,IF v.mark,ID ⟨v.body.toArray⟩] 147 (0,0)):=(Bs.block _ (by simp)).trans (Ln _ _);have Ac:Below w3.heap.size w3 w5:=Aq.trans (Bs.mono Aq.size);have B1:w5.heap[w.heap.size]?=Kx (Kf #[IH IR (m:Int),IH IR (t.kind:Int),ID ⟨t.key.toArray⟩,IH IR (t.num:Int),IF (Jb m),IF c.hm,IF c.am,I3 a1 m1 p1,IF c.hn,IF c.an,I3 a2 m2 p2,IF c.hs,IH IR c.si,IF c.hu,IH IR c.ul,IF K1,ID ⟨#[]⟩,IH IR 0,ID ⟨body.toArray⟩] 75 (0,0)):=(Ac.block _ (by omega)).trans Ce.out;have Cb:=IA B1;have D4:=IA Bf;have B2:=IA ((Ac.block _ Ae).trans Db.out);have Ay:=IA (Ca.out.below Ac);have Bg:Hid (Jm w5):=C9.out.below Ac;have Aw:Hid (Off (M.own s n) w w5):=Dc.out.trans (Off.of_below Ac);have Ch:=IA (Bw.out.below Ac);have Cu:=IA Bi;have A4:w.heap.size+1<w5.heap.size:=Lo Ae Ac.size;(have Dj:w.heap.size<w5.heap.size:=by omega);(have p0:w5.cell? ⟨w.heap.size,0,Jx⟩=Kx (IH IR (m:Int)):=by simp[K2,B1]);(have p4:w5.cell? ⟨w.heap.size,4,Jx⟩=Kx (IF (Jb m)):=by simp[K2,B1]);obtain⟨v0,v1,v2,v3⟩:=MM Bf;clear B0 Aq Bi Bs Bf Ac B1 r4 r5 r6 r7 r8 r9 D0 Ct Dh D1 Df Cx D8 D9 Di Bn Cp Bz;obtain⟨cf,Bb⟩:=IG (aJ (Jb m) k o);rw[Bb];have Cy:=IA Bb;clear Bb
  have A1:Hid (ir σ m t k body=if cf≠0 then(⟨cf,[],[]⟩,σ) else if Jb m then
   (match dS σ t.key (bJ (ae σ.Iz t.key) m t body).1 (bJ (ae σ.Iz t.key) m t body).2.1 (bJ (ae σ.Iz t.key) m t body).2.2 with
   | (told,Jx)=>(⟨told,[],[]⟩,σ)
   | (told,Kx σ')=>(⟨told,if m=2 then[⟨[69,84,97,103],bX body⟩,⟨[86,101,114,115,105,111,110],K0 (bJ (ae σ.Iz t.key) m t body).2.1⟩] else[⟨[86,101,114,115,105,111,110],K0 (bJ (ae σ.Iz t.key) m t body).2.1⟩],[]⟩,σ'))
   else match o with
    | none=>(⟨404,[],[]⟩,σ)
    | some v=>(⟨200,cj v (cw v.time),if m=0 then v.body else[]⟩,σ)):=by
   show _=_;unfold ir;rw[if_neg hkd,Cn.out,Cy.out]
  by_cases ME:cf≠0
  ·have De:((cf:Int)==0)=K1:=beq_eq_false_iff_ne.2 (by omega);have A3:Hid (rr=(⟨cf,[],[]⟩,σ)):=A5.out.symm.trans (by rw[A1.out,if_pos ME]);go_wp2_with fail;refine(iC cf _).mono ?_;rintro e y ⟨rfl,A2⟩;have A0:=(A2.block _ A4).trans B2.out;obtain⟨a0,a1,a2⟩:=LP A0;have An:=Je A0 0;have At:=Je A0 1;have As:=Je A0 2;have HE:=IA (jg (w:=w) (i:=i) (lk:=lk) (M:=M) (M':=M) (r:=(⟨cf,[],[]⟩,σ)) (fs:=I3 Jx 0 0) hi (by rw[<-A6];exact hlk) A0 (Ay.out.below A2) rfl (Aw.out.trans (Off.of_below A2)) (λ_ h=>Ly h) ⟨rfl,Ly ⟨rfl,rfl⟩⟩);clear A0;go_wp2;refine Mb (f:=61) (args:=#[Lz (Kx ⟨M.g,i*3,Jx⟩)]) (by simp) (by simp[go_sem]) ?_;refine(unlock_deferred Ja ⟨M.g,i*3,Jx⟩ .returning _ HE.out.1 HE.out.2.1).mono ?_;rintro e u' Ar ⟨rfl,rfl,rfl⟩;exact⟨_,aK LN _ _ (w.heap.size+1) 80 _ (0,0) _ rfl HE.out.2.2.1 Lw rfl fb,by rw[A3.out];exact HE.out.2.2.2⟩
  ·have By:cf=0:=Classical.not_not.1 ME;subst By;cases hw:Jb m with
   | true =>
     rw[hw] at p4;have Am:=oF p (ae σ.Iz t.key) vs m t L1 c body w5 Ch.out.Jc (by omega) ⟨_,_,_,e1⟩ ⟨_,_,_,e2⟩;unfold eY at Am;rw[e1,e2,cx] at Am;obtain⟨kd,num,bd,B3⟩:∃a b c,bJ (ae σ.Iz t.key) m t body=(a,b,c):=⟨_,_,_,rfl⟩;rw[B3] at Am;have A7:=xY B3 (JJ:=JJ) (by omega:(ae σ.Iz t.key).last<140000000000000) hbody;have Cf:=IA Am;(have Ap:Hid (w5.heap[w.heap.size]?=Kx (Kf #[IH IR (m:Int),IH IR (t.kind:Int),ID ⟨t.key.toArray⟩,IH IR (t.num:Int),IF L1,IF c.hm,IF c.am,I3 a1 m1 p1,IF c.hn,IF c.an,I3 a2 m2 p2,IF c.hs,IH IR c.si,IF c.hu,IH IR c.ul,IF K1,ID ⟨#[]⟩,IH IR 0,ID ⟨body.toArray⟩] 75 (0,0))):=by have:=Cb.out;rw[hw] at this;exact this);clear Am;go_wp2_with (refine M1 rfl 75 (.tmp 4) rfl w.heap.size rfl 75 #[IH IR (m:Int),IH IR (t.kind:Int),ID ⟨t.key.toArray⟩,IH IR (t.num:Int),IF L1,IF c.hm,IF c.am,I3 a1 m1 p1,IF c.hn,IF c.an,I3 a2 m2 p2,IF c.hs,IH IR c.si,IF c.hu,IH IR c.ul,IF K1,ID ⟨#[]⟩,IH IR 0,ID ⟨body.toArray⟩] (0,0) _ Ap.out underlying75 rfl gj ?_);refine Mz Cf.out ?_;rintro e w6 ⟨rfl,Af⟩;have C7:=(Af.block _ A4).trans B2.out;have A8:w.heap.size+1<w6.heap.size:=Lo A4 Af.size;have Ck:=Ay.out.below Af;have Bh:Jm w6:=Bg.out.below Af;have Cj:Off (M.own s n) w w6:=Aw.out.trans (Off.of_below Af);have Bj:=Ch.out.below Af;have Ai:∀y,Below w6.heap.size w6 y->_:=λy hy=>qC t.key p vs kd 0 num bd y (Ck.below hy) (Bj.below hy) A7.1 A7.2.1 A7.2.2.1 hkey A7.2.2.2.1 JL;rw[A6] at Ai;have Bm:∃cp,w6.heap[p]?=Kx (Kf cp 183 (0,0)):=⟨_,Bj.Jc.blk⟩;have D2:eh p:=HP.out.elim (hHi p) (λh=>hT.high h);have Cm:=IA C7;have C8:=IA Ck;have Cg:=IA Cj;have Ci:Hid (kd=1 ↔ m=2):=A7.2.2.2.2.1;have Cs:Hid (kd=1->bd=body):=A7.2.2.2.2.2;have Ab:=A7.2.2.1;have Cv:=A7.2.2.2.1;clear Af C7 Cj Bj Cb Ap Cf D4 v0 v1 v2 v3 p0 p4 A7;rcases hcg:dS σ t.key kd num bd with⟨told,_|σ'⟩
     ·have A3:Hid (rr=(⟨told,[],[]⟩,σ)):=A5.out.symm.trans (by rw[A1.out,if_neg (by simp),if_pos hw,B3];simp only[hcg]);have C5:=kj M.g (i*3) p (bookC s) kd 0 num told t.key bd w6 (λy hy=>by
       have:=Ai y hy;rw[hcg] at this
       exact this)
      have Cr:=IA C5;clear C5 Ai;go_wp2_with fail;refine Mz Cr.out ?_;rintro e y ⟨rfl,A2⟩;have A0:=(A2.block _ A8).trans Cm.out;obtain⟨a0,a1,a2⟩:=LP A0;have An:=Je A0 0;have At:=Je A0 1;have As:=Je A0 2;have HE:=IA (jg (w:=w) (i:=i) (lk:=lk) (M:=M) (M':=M) (r:=(⟨told,[],[]⟩,σ)) (fs:=I3 Jx 0 0) hi (by rw[<-A6];exact hlk) A0 (C8.out.below A2) rfl (Cg.out.trans (Off.of_below A2)) (λ_ h=>Ly h) ⟨rfl,Ly ⟨rfl,rfl⟩⟩);clear A0;go_wp2;refine Mb (f:=61) (args:=#[Lz (Kx ⟨M.g,i*3,Jx⟩)]) (by simp) (by simp[go_sem]) ?_;refine(unlock_deferred Ja ⟨M.g,i*3,Jx⟩ .returning _ HE.out.1 HE.out.2.1).mono ?_;rintro e u' Ar ⟨rfl,rfl,rfl⟩;exact⟨_,aK LN _ _ (w.heap.size+1) 80 _ (0,0) _ rfl HE.out.2.2.1 Lw rfl fb,by rw[A3.out];exact HE.out.2.2.2⟩
     ·have A3:Hid (rr=(⟨told,if m=2 then[⟨[69,84,97,103],bX body⟩,⟨[86,101,114,115,105,111,110],K0 num⟩] else[⟨[86,101,114,115,105,111,110],K0 num⟩],[]⟩,σ')):=A5.out.symm.trans (by rw[A1.out,if_neg (by simp),if_pos hw,B3];simp only[hcg]);have A9:=λy hy=>FY (w:=w) (w6:=w6) (M:=M) (told:=told) (σ':=σ') (y:=y) C8.out Bh hHi Cg.out HP.out Cm.out A8 Bm D2 hy (by
       have:=Ai y hy;rw[hcg] at this
       exact this)
      by_cases hm2:m=2
      ·obtain rfl:kd=1:=Ci.out.2 hm2;obtain rfl:=Cs.out rfl;have Al:=jE M.g (i*3) p (bookC s) 0 num told t.key bd w6 (OH w w6 s n rd lk i σ' M) (λa b ha hab=>ha.off Bh A8 hab) (λa ha=>⟨ha.OY.z,ha.OY.b⟩) (by omega) Ab A9;have B7:=IA Al;clear Al A9 Ai;rw[if_pos hm2] at A3;go_wp2_with fail;refine Mz B7.out ?_;rintro e y ⟨gs,rfl,Bo,Ao⟩;obtain⟨M',Bp,Bu,B8,Ad,Cq,Ag⟩:=Bo.ex;have A0:=Ag;obtain⟨a0,a1,a2⟩:=LP A0;have An:=Je A0 0;have At:=Je A0 1;have As:=Je A0 2;have HE:=IA (jg (w:=w) (i:=i) (lk:=lk) (M:=M) (M':=M') (r:=(⟨told,[⟨[69,84,97,103],bX bd⟩,⟨[86,101,114,115,105,111,110],K0 num⟩],[]⟩,σ')) (fs:=I3 (Kx ⟨gs,0,Jx⟩) 2 2) hi (by rw[<-A6];exact hlk) A0 Bp Bu B8 Ad Ao);clear A0;go_wp2;refine Mb (f:=61) (args:=#[Lz (Kx ⟨M.g,i*3,Jx⟩)]) (by simp) (by simp[go_sem]) ?_;refine(unlock_deferred Ja ⟨M.g,i*3,Jx⟩ .returning _ HE.out.1 HE.out.2.1).mono ?_;rintro e u' Ar ⟨rfl,rfl,rfl⟩;exact⟨_,aK LN _ _ (w.heap.size+1) 80 _ (0,0) _ rfl HE.out.2.2.1 Lw rfl fb,by rw[A3.out];exact HE.out.2.2.2⟩
      ·have Co:((kd:Int)==1)=K1:=beq_eq_false_iff_ne.2 (λe=>hm2 (Ci.out.1 (by omega)));have Al:=mJ M.g (i*3) p (bookC s) kd 0 num told t.key bd w6 (OH w w6 s n rd lk i σ' M) (λa b ha hab=>ha.off Bh A8 hab) (λa ha=>⟨ha.OY.z,ha.OY.b⟩) Co Ab A9;have B7:=IA Al;clear Al A9 Ai;rw[if_neg hm2] at A3;go_wp2_with fail;refine Mz B7.out ?_;rintro e y ⟨gs,rfl,Bo,Ao⟩;obtain⟨M',Bp,Bu,B8,Ad,Cq,Ag⟩:=Bo.ex;have A0:=Ag;obtain⟨a0,a1,a2⟩:=LP A0;have An:=Je A0 0;have At:=Je A0 1;have As:=Je A0 2;have HE:=IA (jg (w:=w) (i:=i) (lk:=lk) (M:=M) (M':=M') (r:=(⟨told,[⟨[86,101,114,115,105,111,110],K0 num⟩],[]⟩,σ')) (fs:=I3 (Kx ⟨gs,0,Jx⟩) 1 1) hi (by rw[<-A6];exact hlk) A0 Bp Bu B8 Ad Ao);clear A0;go_wp2;refine Mb (f:=61) (args:=#[Lz (Kx ⟨M.g,i*3,Jx⟩)]) (by simp) (by simp[go_sem]) ?_;refine(unlock_deferred Ja ⟨M.g,i*3,Jx⟩ .returning _ HE.out.1 HE.out.2.1).mono ?_;rintro e u' Ar ⟨rfl,rfl,rfl⟩;exact⟨_,aK LN _ _ (w.heap.size+1) 80 _ (0,0) _ rfl HE.out.2.2.1 Lw rfl fb,by rw[A3.out];exact HE.out.2.2.2⟩
   | false =>
     rw[hw] at p4;cases o with
     | none =>have A3:Hid (rr=(⟨404,[],[]⟩,σ)):=A5.out.symm.trans (by rw[A1.out,if_neg (by simp),if_neg (by rw[hw];simp)]);go_wp2_with fail;refine(iC 404 _).mono ?_;rintro e y ⟨rfl,A2⟩;have A0:=(A2.block _ A4).trans B2.out;obtain⟨a0,a1,a2⟩:=LP A0;have An:=Je A0 0;have At:=Je A0 1;have As:=Je A0 2;have HE:=IA (jg (w:=w) (i:=i) (lk:=lk) (M:=M) (M':=M) (r:=(⟨404,[],[]⟩,σ)) (fs:=I3 Jx 0 0) hi (by rw[<-A6];exact hlk) A0 (Ay.out.below A2) rfl (Aw.out.trans (Off.of_below A2)) (λ_ h=>Ly h) ⟨rfl,Ly ⟨rfl,rfl⟩⟩);clear A0;go_wp2;refine Mb (f:=61) (args:=#[Lz (Kx ⟨M.g,i*3,Jx⟩)]) (by simp) (by simp[go_sem]) ?_;refine(unlock_deferred Ja ⟨M.g,i*3,Jx⟩ .returning _ HE.out.1 HE.out.2.1).mono ?_;rintro e u' Ar ⟨rfl,rfl,rfl⟩;exact⟨_,aK LN _ _ (w.heap.size+1) 80 _ (0,0) _ rfl HE.out.2.2.1 Lw rfl fb,by rw[A3.out];exact HE.out.2.2.2⟩
     | some u =>have Dg:=HV.out u rfl;subst Dg;have A3:Hid (rr=(⟨200,cj v (cw v.time),if m=0 then v.body else[]⟩,σ)):=A5.out.symm.trans (by rw[A1.out,if_neg (by simp),if_neg (by rw[hw];simp)]);have Bd:=Cu.out v rfl;have Bq:=mG v m (cw v.time) w5 (by have:=f4 v Bd;omega) (by have:=f1 v Bd;omega) Bg.out.z Bg.out.b (λy hy=>DU v.time y (f3 v Bd) hy);unfold bq at Bq;have D7:=IA Bq;clear Bq;go_wp2_with fail;refine Mz D7.out ?_;rintro e y ⟨gs,rfl,Ao,A2⟩;obtain⟨bd,C4⟩:=IG ((if m=0 then v.body else[]));rw[C4] at A3 ⊢;clear C4;have A0:=(A2.block _ A4).trans B2.out;obtain⟨a0,a1,a2⟩:=LP A0;have An:=Je A0 0;have At:=Je A0 1;have As:=Je A0 2;have HE:=IA (jg (w:=w) (i:=i) (lk:=lk) (M:=M) (M':=M) (r:=(⟨200,cj v (cw v.time),bd⟩,σ)) (fs:=I3 (Kx ⟨gs,0,Jx⟩) 3 3) hi (by rw[<-A6];exact hlk) A0 (Ay.out.below A2) rfl (Aw.out.trans (Off.of_below A2)) (λ_ h=>Ly h) Ao);clear A0;go_wp2;refine Mb (f:=61) (args:=#[Lz (Kx ⟨M.g,i*3,Jx⟩)]) (by simp) (by simp[go_sem]) ?_;refine(unlock_deferred Ja ⟨M.g,i*3,Jx⟩ .returning _ HE.out.1 HE.out.2.1).mono ?_;rintro e u' Ar ⟨rfl,rfl,rfl⟩;exact⟨_,aK LN _ _ (w.heap.size+1) 80 _ (0,0) _ rfl HE.out.2.2.1 Lw rfl fb,by rw[A3.out];exact HE.out.2.2.2⟩
open Go.RowKit
theorem nM (r:Int)(w:Lq)(h0:128<=r)(h1:r<=2147483647) :
 LL J1 249 #[ID ⟨#[13,10]⟩,IH NX r] w λe w'=>e=Ks (IH IR (-1))/\Below w.heap.size w w':=by
 by_cases hE:r=65533
 ·subst hE;go_enter func249,ntmps249;go_wp2_with fail;go_loopg [5,6] 2 (λg _ _ wx=>∃i:Nat,i+g=2/\wx=w.iter ⟨#[13,10]⟩ i);(case atStart=>exact⟨0,by omega,rfl⟩);case round =>
   obtain⟨i,Ae,rfl⟩:=hrel;cases gk with
   | zero =>(obtain rfl:i=2:=by omega);have A5:=λty=>run_next_end (P:=J1) w ⟨#[13,10]⟩ 2 ty (by decide);go_wp2;go_ret;exact⟨rfl,(Below.refl _ _).alloc (J0 _) _⟩
   | succ g =>
     (have A7:i=0\/i=1:=by omega);rcases A7 with rfl|rfl
     ·have A5:=λty=>run_next_ascii (P:=J1) w ⟨#[13,10]⟩ 0 ty (by decide) (by decide);go_wp2;go_roundg g;(case measure=>omega);case rel=>exact⟨1,by omega,rfl⟩
     ·have A5:=λty=>run_next_ascii (P:=J1) w ⟨#[13,10]⟩ 1 ty (by decide) (by decide);go_wp2;go_roundg g;(case measure=>omega);case rel=>exact⟨2,by omega,rfl⟩
 ·have Aa:(r==65533)=K1:=beq_eq_false_iff_ne.2 hE;(have A9:¬ (r<128):=by omega);go_enter func249,ntmps249;go_wp2_with fail;refine(utf8_ValidRune r _).mono ?_;rintro e w1 ⟨rfl,rfl⟩;cases hv:Lib.validRune r with
  | false =>go_wp2;go_ret;exact⟨rfl,Below.refl _ _⟩
  | true =>
    (have A0:Utf8.valid r=L1:=by unfold Lib.validRune at hv;unfold Utf8.valid;simp at hv ⊢;omega);obtain⟨A4,A3,A2⟩:=encode_facts r A0 (by omega);obtain⟨rs,A1⟩:=IG (Utf8.encode r);rw[A1] at A4 A3 A2;(have Ad:∀w:Lq,(convert 21 9 (IH NX r)).run J1 w=.ok (ID rs) w:=by intro w;rw[run_convert_int_string w 21 9 NX r (by rw[underlying21];rfl) L3,A1]);clear A0 hv A1;go_wp2_with fail;go_step3;go_wp2_with fail;go_loopg [9] 1 (λg x wx=>x=IH IR ((rs.size:Int)-1)/\wx=w1);(case atStart=>exact⟨rfl,rfl⟩);case round =>
     obtain⟨rfl,rfl⟩:=hrel;by_cases h3:rs.size=2
     ·(have A8:128<=(rs[1]'(by omega)).toNat:=by have:=A2 (by omega);simpa [h3] using this);obtain⟨c,hc⟩:∃c:UInt8,rs[1]'(by omega)=c:=⟨_,rfl⟩;rw[hc] at A8;(have hI:(rs.size:Int)-1=1:=by omega);rw[hI];have Ab:((10:Int)==(c.toNat:Int))=K1:=beq_eq_false_iff_ne.2 (by omega);clear A2 A3 A4;(have A6:(1:Int)<(rs.size:Int):=by omega);(have e1:∀w:Lq,(Instr.index 9 (ID ⟨#[13,10]⟩) (IH IR 1)).run J1 w=.ok (IH .u8 10) w:=by intro w;rw[run_index_string _ 9 ⟨#[13,10]⟩ IR 1 L3,dif_pos ⟨by omega,by decide⟩];rfl);(have e2:∀w:Lq,(Instr.index 9 (ID rs) (IH IR 1)).run J1 w=.ok (IH .u8 c.toNat) w:=by intro w;rw[run_index_string _ 9 rs IR 1 L3,dif_pos ⟨by omega,by omega⟩];rw[<-hc];rfl);(have e3:∀w:Lq,(Instr.slice 9 (ID ⟨#[13,10]⟩) (Kx (IH IR 2)) Jx Jx).run J1 w=.ok (ID ⟨#[]⟩) w:=by intro w;rw[run_slice_string_from_if _ 9 ⟨#[13,10]⟩ IR 2 L3,if_pos ⟨by omega,by decide⟩];rfl);go_wp2_with fail;go_step3;go_wp2_with fail;go_region;go_wp2_with fail;go_region_with (go_at_call 267;refine(strings_IndexByte ⟨#[]⟩ c.toNat _).mono ?_;rintro e w9 ⟨rfl,rfl⟩;rw[show Lib.indexByte (⟨#[]⟩:ByteArray).data.toList (c.toNat:Int).toNat.toUInt8 = -1 from rfl]);(all_goals(go_wp2_with fail));(all_goals(rw[Exit.noGoto_ret];go_wp2;rw[Exit.noGoto_ret];go_wp2));(all_goals go_ret);all_goals exact⟨rfl,Below.drew (Below.drew (Below.refl _ _))⟩
     ·(have Ac:¬ ((rs.size:Int)-1<2):=by omega);go_wp2;go_ret;exact⟨rfl,Below.refl _ _⟩
def Fq (l:List UInt8)(i:Nat):Prop:=∀j b,j<i->l[j]?=Kx b->cU b=K1
theorem Fq.end' (h:Fq l l.length):l.any cU=K1:=by
 rw[List.any_eq_false];intro b hb;obtain⟨j,hj,e⟩:=List.getElem_of_mem hb;simp[h j b hj (by rw[List.getElem?_eq_getElem hj,e])]
theorem hit {b:UInt8}(h:l[i]?=Kx b)(hb:cU b=L1):l.any cU=L1 :=
 List.any_eq_true.2 ⟨b,List.mem_of_getElem? h,hb⟩
theorem tE (s:ByteArray)(i:Nat)(h:i<s.size)(ha:128<=(s[i]'h).toNat) :
 i+(Utf8.decode s i).2<=s.size/\∀j b,i<=j->j<i+(Utf8.decode s i).2->s.data.toList[j]?=Kx b->128<=b.toNat:=by
 have hn:¬ (s[i]'h).toNat<128:=by omega
 have A0:∀k (hk:i+k<s.size),s.get! (i+k)=s[i+k]'hk:=by intro k hk;simp[ByteArray.get!,getElem!_pos,hk];rfl
 have h0:∀b,s.data.toList[i]?=Kx b->128<=b.toNat:=by intro b hb;have:=Lib.data_getElem? s i h;rw[this] at hb;cases hb;exact ha
 have hc:∀k,(decide (i+k<s.size)&&(s.get! (i+k)).toNat/64==2)=L1->i+k<s.size/\∀b,s.data.toList[i+k]?=Kx b->128<=b.toNat:=by intro k hk;simp only[L4,decide_eq_true_eq,beq_iff_eq] at hk;refine⟨hk.1,λb hb=>?_⟩;have:=Lib.data_getElem? s (i+k) hk.1;rw[this] at hb;cases hb;have h2:=hk.2;rw[A0 k hk.1] at h2;omega
 have one:i+1<=s.size/\∀j b,i<=j->j<i+1->s.data.toList[j]?=Kx b->128<=b.toNat:=by refine⟨h,λj b h1 h2 hb=>?_⟩;(obtain rfl:j=i:=by omega);exact h0 b hb
 simp only[Utf8.decode,get_at s i h,hn,if_false];split
 ·rename_i h1;simp only[L4] at h1;have c1:=hc 1 (by simpa using h1.2);split
  ·refine⟨c1.1,λj b h1 h2 hb=>?_⟩;obtain rfl|rfl:j=i\/j=i+1:=by omega
   ·exact h0 b hb
   ·exact c1.2 b hb
  ·exact one
 ·split
  ·rename_i h1;simp only[L4] at h1;have c1:=hc 1 (by simpa using h1.1.2);have c2:=hc 2 (by simpa using h1.2);split
   ·refine⟨c2.1,λj b h1 h2 hb=>?_⟩;obtain rfl|rfl|rfl:j=i\/j=i+1\/j=i+2:=by omega
    ·exact h0 b hb
    ·exact c1.2 b hb
    ·exact c2.2 b hb
   ·exact one
  ·split
   ·rename_i h1;simp only[L4] at h1;have c1:=hc 1 (by simpa using h1.1.1.2);have c2:=hc 2 (by simpa using h1.1.2);have c3:=hc 3 (by simpa using h1.2);split
    ·refine⟨c3.1,λj b h1 h2 hb=>?_⟩;obtain rfl|rfl|rfl|rfl:j=i\/j=i+1\/j=i+2\/j=i+3:=by omega
     ·exact h0 b hb
     ·exact c1.2 b hb
     ·exact c2.2 b hb
     ·exact c3.2 b hb
    ·exact one
   ·exact one
end Go.Proofs.YtmehkneofinmiabGreatDoor

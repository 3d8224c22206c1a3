/-part 33-/
import Derived.Test.YtmehkneofinmiaaGreatDoorP32
set_option maxRecDepth 100000
set_option maxHeartbeats 4000000
namespace Go.Proofs.YtmehkneofinmiaaGreatDoor
open Go.RowKit
structure tP where
 tells:Nat
 method:Nat
 target:Nat
 key:List UInt8
 after:List UInt8
 v:Int
 wr:Bool
 hm:Bool
 am:Bool
 lm:Value
 hn:Bool
 an:Bool
 ln:Value
 hs:Bool
 si:Int
 hu:Bool
 ul:Int
 body:List UInt8
def aj (r:tP):Array Value:=#[.int .i64 r.tells,.int .i64 r.method,.int .i64 r.target,.string ⟨r.key.toArray⟩,.string ⟨r.after.toArray⟩,.int .i64 r.v,.bool r.wr,.bool r.hm,.bool r.am,r.lm,.bool r.hn,.bool r.an,r.ln,.bool r.hs,.int .i64 r.si,.bool r.hu,.int .i64 r.ul,.bool false,.string ⟨#[]⟩,.int .i64 0,.string ⟨r.body.toArray⟩]
structure Rst where
 l:List Itm
 J:List UInt8
def eR (t:Nat)(s:Rst)(key body:List UInt8)(at_:Bool):List UInt8×Rst :=
 if g7 key s.l then (ap (if at_ then 200 else 201) [⟨[69,84,97,103],cD body⟩,⟨[86,101,114,115,105,111,110],Lib.decDigits (aH key s.l+1)⟩] [],⟨s.l++[⟨key,aH key s.l+1,t,false,body,false⟩],s.J++aF 1 t key (aH key s.l+1) body⟩)
 else (ap 507 [] [],s)
theorem eK (p t:Nat)(l:List Itm)(J:List UInt8)(vs:Value)(r:tP)(at_:Int)(w:World)(h:aC w p t l J vs)(hT:Tbl w)(hH:∀ k,(k=p\/vs.ownBlock=some k)->ju k)(hl:l.length+1<1000000000000)(hJ:J.length<=900000000000000)(ht:t<4611686018427387904)(hn:aH r.key l<1000000000000)(hk:r.key.length<=1000)(hb:r.body.length<=1000) :
 Calls Tryz.prog 117 #[.pointer (some ⟨p,0,none⟩),.agg (aj r),.int .i64 at_] w λ e w'=>e=.returned (.string ⟨(eR t ⟨l,J⟩ r.key r.body (decide (0<=at_))).1.toArray⟩)/\∃ vs',aC w' p t (eR t ⟨l,J⟩ r.key r.body (decide (0<=at_))).2.l (eR t ⟨l,J⟩ r.key r.body (decide (0<=at_))).2.J vs'/\(∀ g,vs'.ownBlock=some g->vs.ownBlock=some g\/w.heap.size<=g)/\Off (λ k=>k=p\/vs.ownBlock=some k) w w':=by
 have HR:Hid _:=h;have HA:Hid _:=h.apart;have Ay:Hid _:=hT;have B7:Hid _:=hH;have Ba:=h.lt;have B5:Hid (∀ g,vs.ownBlock=some g->g<w.heap.size):=λ g hg=>by
  rcases h.row.2 with ⟨h0,_⟩|⟨g',Bb,Be,hv,_,B2,_⟩
  ·rw[h0] at hg;cases hg
  ·rw[hv] at hg;cases hg;exact (gL B2)
 obtain⟨key,A4⟩:∃ k,r.key=k:=⟨_,rfl⟩;obtain⟨body,A2⟩:∃ k,r.body=k:=⟨_,rfl⟩;have A9:Hid ((aj r).size=21/\(aj r)[3]?=some (.string ⟨key.toArray⟩)/\(aj r)[20]?=some (.string ⟨body.toArray⟩)):=by rw[<- A4,<- A2];exact⟨rfl,rfl,rfl⟩
 rw[A4] at hn hk ⊢;rw[A2] at hb ⊢;obtain⟨RC,At⟩:∃ c,aj r=c:=⟨_,rfl⟩;rw[At] at A9 ⊢;have B9:=A9.out.1;have q3:=A9.out.2.1;have Al:=A9.out.2.2;have k3:RC[3]'(by omega)=.string ⟨key.toArray⟩:=(Array.getElem?_eq_some_iff.1 q3).2;have HN:Hid _:=hn;have HK:Hid _:=hk;have Ax:Hid _:=hb;have HL:Hid _:=hl;have B0:Hid _:=hJ;have B6:Hid _:=ht;clear h hT hH A4 A2 At hn hk hb hl hJ ht A9;go_enter Tryz.func117,Tryz.ntmps117;go_wp2_with fail;obtain⟨x,hx⟩:∃ x,w.alloc (.cells RC 130)=x:=⟨_,rfl⟩;have Ag:Below w.heap.size w x:=by rw[<- hx];exact (Below.refl _ _).alloc (Nat.le_refl _) _
 have Ab:Hid (x.heap[w.heap.size]?=some (.cells RC 130 (0,0))):=by rw[<- hx];exact heap_alloc_new w _
 have As:w.heap.size<x.heap.size:=by rw[<- hx];simp
 have Ac:Hid (aC x p t l J vs):=HR.out.below Ag;have A3:Hid _:=Ag;rw[hx];clear hx Ag HR;refine Calls.mono (iz p t l J vs key x Ac.out) ?_;rintro e w' ⟨rfl,Az⟩;rw[Az];clear Az;cases hro:g7 key l with
 | false =>(have HP:Hid (eR t ⟨l,J⟩ key body (decide (0<=at_))=(ap 507 [] [],⟨l,J⟩)):=by show _=_;unfold eR;rw[hro];rfl);have B4:Hid _:=ay 507 [] [] x (Ay.out.below A3.out).b (by omega) (by simp) (by simp);clear hro;go_wp2_with fail;refine Calls.mono B4.out ?_;rintro e w2 ⟨rfl,Ai⟩;have B1:Hid _:=A3.out.trans (Ai.mono A3.out.size);have Aa:Hid _:=Ac.out.below Ai;clear Ai;go_wp2;go_ret;rw[HP.out];exact⟨aM (by simp[ap]),vs,Aa.out,λ g hg=>Or.inl hg,Off.of_below B1.out⟩
 | true =>
   have Aj:Hid _:=fC p t l J vs key false body x Ac.out HL.out B0.out B6.out HN.out HK.out Ax.out;obtain⟨nn,Af⟩:∃ n,aH key l+1=n:=⟨_,rfl⟩;(have Bc:nn<2000000000000:=by have:=HN.out;omega);rw[Af] at Aj;(have HP:Hid (eR t ⟨l,J⟩ key body (decide (0<=at_))=(ap (if decide (0<=at_) then 200 else 201) [⟨[69,84,97,103],cD body⟩,⟨[86,101,114,115,105,111,110],Lib.decDigits nn⟩] [],⟨l++[⟨key,nn,t,false,body,false⟩],J++aF 1 t key nn body⟩)):=by show _=_;unfold eR;rw[hro,<- Af];rfl);clear hro Af;(have x3:x.cell? ⟨w.heap.size,3,none⟩=some (.string ⟨key.toArray⟩):=by simp only[World.cell?,Ab.out];exact q3);(have B3:x.cell? ⟨w.heap.size,20,none⟩=some (.string ⟨body.toArray⟩):=by simp only[World.cell?,Ab.out];exact Al);clear k3;go_wp2_with fail;refine Calls.mono Aj.out ?_;rintro e w2 ⟨rfl,vs',Ao,Ar,A6⟩;have A7:Hid (w2.heap[w.heap.size]?=some (.cells RC 130 (0,0))):=by
    show _=_;rw[<- Ab.out];refine A6.block _ As (λ e=>?_);rcases e with e|e
    ·omega
    ·have:=B5.out _ e;omega
   (have Bd:w2.cell? ⟨w.heap.size,20,none⟩=some (.string ⟨body.toArray⟩):=by simp only[World.cell?,A7.out];exact Al);have B8:w.heap.size<w2.heap.size:=Nat.lt_of_lt_of_le As A6.size;have An:Hid (Tbl w2):=(Ay.out.below A3.out).off A6 B7.out;have Ap:=cn body;have HQ:Hid _:=λ y=>dG body y (by have:=Ax.out;omega);have HI:Hid _:=λ y (hy:Below w2.heap.size w2 y)=>fX nn y (by omega) (An.out.below hy).b;have hd:=ez (n:=nn) (k:=13) (by omega) (by omega);obtain⟨q,hq⟩:∃ q,cD body=q:=⟨_,rfl⟩;obtain⟨D,hD⟩:∃ q,Lib.decDigits nn=q:=⟨_,rfl⟩;rw[hq] at Ap HQ HP;rw[hD] at hd HI HP;have Ae:Hid _:=λ y=>bp [69,84,97,103] q y (by simp) (by omega);have Ah:Hid _:=λ y=>bp [86,101,114,115,105,111,110] D y (by simp) (by omega);(have l1:(au ⟨[69,84,97,103],q⟩).length<=100:=by simp[au];omega);(have l2:(au ⟨[86,101,114,115,105,111,110],D⟩).length<=100:=by simp[au];omega);(have A8:Hid ([(⟨[69,84,97,103],q⟩:Fld),⟨[86,101,114,115,105,111,110],D⟩].flatMap au=au ⟨[69,84,97,103],q⟩++au ⟨[86,101,114,115,105,111,110],D⟩):=by show _=_;simp);obtain⟨f1,Au⟩:∃ f,au ⟨[69,84,97,103],q⟩=f:=⟨_,rfl⟩;obtain⟨f2,Am⟩:∃ f,au ⟨[86,101,114,115,105,111,110],D⟩=f:=⟨_,rfl⟩;rw[Au] at Ae l1 A8;rw[Am] at Ah l2 A8;have ha:=fj f1 f2 (by omega);obtain⟨fs,Ak⟩:∃ f,f1++f2=f:=⟨_,rfl⟩;(have l3:fs.length<=200:=by rw[<- Ak,List.length_append];omega);rw[Ak] at ha A8;have Aa:Hid _:=Ao;have Aw:Hid _:=Ar;have Aq:Hid _:=A6;clear Ak Au Am hq hD l1 l2 Ap hd Ao Ar A6 x3 B3 Ab A7 Aj Ac;have Av:Hid (∀ (cd:Nat) (y:World),cd<1000->Below w2.heap.size w2 y->Calls Tryz.prog 55 #[.int .i64 cd,.string ⟨fs.toArray⟩,.string ⟨#[]⟩] y λ e w'=>e=.returned (.string ⟨(Lib.decDigits cd++[13,10]++fs++[13,10]++[]).toArray⟩)/\Below y.heap.size y w'):=λ cd y hc hy=>ay cd fs [] y (An.out.below hy).b (by omega) (by omega) (by simp);by_cases hat:(0:Int)<=at_
   ·go_wp2_with (first
     | (go_at_call 111;refine Calls.mono (HQ.out _) ?_;rintro e w3 ⟨rfl,A0⟩)
     | (go_at_call_of 112 (Value.string ⟨q.toArray⟩);refine Calls.mono (Ae.out _) ?_;rintro e w4 ⟨rfl,rfl⟩)
     | (go_at_call 17;refine Calls.mono (HI.out _ A0) ?_;rintro e w5 ⟨rfl,A5⟩)
     | (go_at_call_of 112 (Value.string ⟨D.toArray⟩);refine Calls.mono (Ah.out _) ?_;rintro e w6 ⟨rfl,rfl⟩)
     | (go_at_call 55;refine Calls.mono (Av.out 200 _ (by omega) (A0.trans (A5.mono A0.size))) ?_;rintro e w7 ⟨rfl,Ad⟩))
    have A1:=(A0.trans (A5.mono A0.size)).trans (Ad.mono (A0.trans (A5.mono A0.size)).size);go_ret;rw[HP.out];refine⟨aM (by simp[ap,A8.out,decide_eq_true hat]),vs',Aa.out.below A1,λ g hg=>(Aw.out g hg).imp id (λ h=>Nat.le_trans A3.out.size h),?_⟩;exact ((Off.of_below A3.out).trans Aq.out).trans (Off.of_below A1)
   ·go_wp2_with (first
     | (go_at_call 111;refine Calls.mono (HQ.out _) ?_;rintro e w3 ⟨rfl,A0⟩)
     | (go_at_call_of 112 (Value.string ⟨q.toArray⟩);refine Calls.mono (Ae.out _) ?_;rintro e w4 ⟨rfl,rfl⟩)
     | (go_at_call 17;refine Calls.mono (HI.out _ A0) ?_;rintro e w5 ⟨rfl,A5⟩)
     | (go_at_call_of 112 (Value.string ⟨D.toArray⟩);refine Calls.mono (Ah.out _) ?_;rintro e w6 ⟨rfl,rfl⟩)
     | (go_at_call 55;refine Calls.mono (Av.out 201 _ (by omega) (A0.trans (A5.mono A0.size))) ?_;rintro e w7 ⟨rfl,Ad⟩))
    have A1:=(A0.trans (A5.mono A0.size)).trans (Ad.mono (A0.trans (A5.mono A0.size)).size);go_ret;rw[HP.out];refine⟨aM (by simp[ap,A8.out,decide_eq_false (p:=(0:Int)<=at_) (by omega)]),vs',Aa.out.below A1,λ g hg=>(Aw.out g hg).imp id (λ h=>Nat.le_trans A3.out.size h),?_⟩;exact ((Off.of_below A3.out).trans Aq.out).trans (Off.of_below A1)
def fV:List UInt8:=[86,101,114,115,105,111,110]
def dF (t:Nat)(s:Rst)(one:Bool)(key:List UInt8)(v:Nat)(at_:Bool)(whole:Option Nat):List UInt8×Rst :=
 if one then
  match whole with
  | none=>(ap 404 [] [],s)
  | some i=>match s.l[i]? with
    | none=>(ap 404 [] [],s)
    | some it=>(ap 204 [⟨fV,Lib.decDigits v⟩] [],⟨s.l.set i ⟨it.key,it.num,it.time,it.mark,it.body,true⟩,s.J++aF 3 t it.key it.num []⟩)
 else if at_ then
  if g7 key s.l then (ap 204 [⟨fV,Lib.decDigits (aH key s.l+1)⟩] [],⟨s.l++[⟨key,aH key s.l+1,t,true,[],false⟩],s.J++aF 2 t key (aH key s.l+1) []⟩)
  else (ap 507 [] [],s)
 else (ap 404 [] [],s)
def eS (w:World)(p t:Nat)(vs:Value)(r:List UInt8×Rst)(e:Ending)(w':World):Prop :=
 e=.returned (.string ⟨r.1.toArray⟩)/\∃ vs',aC w' p t r.2.l r.2.J vs'/\(∀ g,vs'.ownBlock=some g->vs.ownBlock=some g\/w.heap.size<=g)/\Off (λ k=>k=p\/vs.ownBlock=some k) w w'
theorem aC.vlt {w:World}{p t:Nat}{l:List Itm}{J:List UInt8}{vs:Value}(h:aC w p t l J vs):∀ g,vs.ownBlock=some g->g<w.heap.size:=λ g hg=>by
 rcases h.row.2 with ⟨h0,_⟩|⟨g',cap,cur,hv,_,hgg,_⟩
 ·rw[h0] at hg
  cases hg
 ·rw[hv] at hg
  cases hg
  exact (gL hgg)
theorem mr (D:List UInt8)(y:World)(hT:Tab y)(hd:D.length<=30) :
 Calls Tryz.prog 55 #[.int .i64 204,.string ⟨(au ⟨fV,D⟩).toArray⟩,.string ⟨#[]⟩] y λ e w'=>e=.returned (.string ⟨(ap 204 [⟨fV,D⟩] []).toArray⟩)/\Below y.heap.size y w':=by
 have:=ay 204 (au ⟨fV,D⟩) [] y hT (by omega) (by simp[au,fV];omega) (by simp);have e:Lib.decDigits 204++[13,10]++au ⟨fV,D⟩++[13,10]++[]=ap 204 [⟨fV,D⟩] []:=by simp[ap]
 rw[e] at this;exact this
theorem cY (p t:Nat)(l:List Itm)(J:List UInt8)(vs:Value)(r:tP)(v:Nat)(at_:Int)(whole:Option Nat)(w:World)(h:aC w p t l J vs)(hT:Tbl w)(hH:∀ k,(k=p\/vs.ownBlock=some k)->ju k)(hl:l.length+1<1000000000000)(hJ:J.length<=900000000000000)(ht:t<4611686018427387904)(hn:aH r.key l<1000000000000)(hk:r.key.length<=1000)
 (hv:r.v=(v:Int))(hv1:v<1000000000000)(hwh:∀ i,whole=some i->∃ it,l[i]?=some it/\it.num<4611686018427387904/\it.key.length<=1000) :
 Calls Tryz.prog 118 #[.pointer (some ⟨p,0,none⟩),.agg (aj r),.int .i64 at_,.int .i64 (dR whole)] w (eS w p t vs (dF t ⟨l,J⟩ (decide (r.target=4)) r.key v (decide (0<=at_)) whole)):=by
 have HR:Hid _:=h;have B5:Hid _:=hT;have Ax:Hid _:=hH;have B8:=h.lt;have B4:Hid _:=h.vlt;obtain⟨key,A6⟩:∃ k,r.key=k:=⟨_,rfl⟩;obtain⟨tg,Al⟩:∃ k,r.target=k:=⟨_,rfl⟩;have A9:Hid ((aj r).size=21/\(aj r)[3]?=some (.string ⟨key.toArray⟩)/\(aj r)[5]?=some (.int .i64 (v:Int))/\(aj r)[2]?=some (.int .i64 (tg:Int))):=by rw[<- A6,<- Al,<- hv];exact⟨rfl,rfl,rfl,rfl⟩
 rw[A6] at hn hk ⊢;rw[Al] at ⊢;obtain⟨RC,Au⟩:∃ c,aj r=c:=⟨_,rfl⟩;rw[Au] at A9 ⊢;have B7:=A9.out.1;have q3:=A9.out.2.1;have q5:=A9.out.2.2.1;have q2:=A9.out.2.2.2;have k2:RC[2]'(by omega)=.int .i64 (tg:Int):=(Array.getElem?_eq_some_iff.1 q2).2;have k3:RC[3]'(by omega)=.string ⟨key.toArray⟩:=(Array.getElem?_eq_some_iff.1 q3).2;have HN:Hid _:=hn;have HK:Hid _:=hk;have HL:Hid _:=hl;have Ar:Hid _:=hJ;have Aw:Hid _:=ht;have B3:Hid _:=hwh;obtain⟨x,hx⟩:∃ x,w.alloc (.cells RC 130)=x:=⟨_,rfl⟩;have Ai:Below w.heap.size w x:=by rw[<- hx];exact (Below.refl _ _).alloc (Nat.le_refl _) _
 have An:Hid (x.heap[w.heap.size]?=some (.cells RC 130 (0,0))):=by rw[<- hx];exact heap_alloc_new w _
 have At:w.heap.size<x.heap.size:=by rw[<- hx];simp
 have Aj:Hid (aC x p t l J vs):=HR.out.below Ai;have Ah:Hid _:=Ai;have Ak:Hid _:=B5.out.below Ai;have Aq:Hid (∀ cd:Nat,cd<1000->Calls Tryz.prog 55 #[.int .i64 cd,.string ⟨#[]⟩,.string ⟨#[]⟩] x λ e w'=>e=.returned (.string ⟨(ap cd [] []).toArray⟩)/\Below x.heap.size x w'):=λ cd hc=>by have:=ay cd [] [] x Ak.out.b (by omega) (by simp) (by simp);(have e:Lib.decDigits cd++[13,10]++[]++[13,10]++[]=ap cd [] []:=by simp[ap]);rw[e] at this;exact this
 have A2:Hid (∀ cd w2,Below x.heap.size x w2->dF t ⟨l,J⟩ (decide (tg=4)) key v (decide (0<=at_)) whole=(ap cd [] [],⟨l,J⟩)->eS w p t vs (dF t ⟨l,J⟩ (decide (tg=4)) key v (decide (0<=at_)) whole) (.returned (.string ⟨(ap cd [] []).toArray⟩)) w2):=λ cd w2 hb he=>by rw[he];exact⟨rfl,vs,Aj.out.below hb,λ g hg=>Or.inl hg,Off.of_below (Ah.out.trans (hb.mono Ah.out.size))⟩
 have A4:Hid (∀ w2 w3 A8 (s:Rst) D,aC w2 p t s.l s.J A8->(∀ g,A8.ownBlock=some g->vs.ownBlock=some g\/x.heap.size<=g)->Off (λ k=>k=p\/vs.ownBlock=some k) x w2->Below w2.heap.size w2 w3->dF t ⟨l,J⟩ (decide (tg=4)) key v (decide (0<=at_)) whole=(ap 204 [⟨fV,D⟩] [],s)->eS w p t vs (dF t ⟨l,J⟩ (decide (tg=4)) key v (decide (0<=at_)) whole) (.returned (.string ⟨(ap 204 [⟨fV,D⟩] []).toArray⟩)) w3):=λ w2 w3 A8 s D hr hg ho hb he=>by rw[he];exact⟨rfl,A8,hr.below hb,λ g h=>(hg g h).imp id (λ h=>Nat.le_trans Ah.out.size h),((Off.of_below Ah.out).trans ho).trans (Off.of_below hb)⟩
 obtain⟨dl,Ap⟩:∃ d,dF t ⟨l,J⟩ (decide (tg=4)) key v (decide (0<=at_)) whole=d:=⟨_,rfl⟩;have Aa:Hid _:=Ap;rw[Ap] at A2 A4 ⊢;clear h hT hH A6 Al Au hn hk hl hJ ht A9 hwh hv Ai HR Ap;have Ba:w.alloc (.cells RC 130)=x:=hx;have x2:x.cell? ⟨w.heap.size,2,none⟩=some (.int .i64 (tg:Int)):=by simp only[World.cell?,An.out];exact q2
 have x3:x.cell? ⟨w.heap.size,3,none⟩=some (.string ⟨key.toArray⟩):=by simp only[World.cell?,An.out];exact q3
 clear k2 k3 hx;by_cases h4:tg=4
 ·(have Az:(tg:Int)=4:=by omega);cases whole with
  | none =>(have HE:Hid (dl=(ap 404 [] [],⟨l,J⟩)):=by rw[<- Aa.out,h4];rfl);simp only[dR];go_enter Tryz.func118,Tryz.ntmps118;go_wp2_with (go_at_call 55;refine Calls.mono (Aq.out 404 (by omega)) ?_;rintro e w2 ⟨rfl,Af⟩);go_ret;exact A2.out 404 w2 Af HE.out
  | some i =>
    obtain⟨it,hit,Ay,B2⟩:=B3.out i rfl;have B0:Hid _:=jT p t l J vs i it x Aj.out hit Ar.out Aw.out Ay B2;(have HE:Hid (dl=(ap 204 [⟨fV,Lib.decDigits v⟩] [],⟨l.set i ⟨it.key,it.num,it.time,it.mark,it.body,true⟩,J++aF 3 t it.key it.num []⟩)):=by show _=_;rw[<- Aa.out,h4];simp[dF,hit]);simp only[dR];clear hit;go_enter Tryz.func118,Tryz.ntmps118;go_wp2_with fail;refine Calls.mono B0.out ?_;rintro e w2 ⟨⟨u,rfl⟩,Ae,A1⟩;have A0:∀ w3,Below w2.heap.size w2 w3->eS w p t vs dl (.returned (.string ⟨(ap 204 [⟨fV,Lib.decDigits v⟩] []).toArray⟩)) w3:=λ w3 hb=>A4.out w2 w3 vs _ _ Ae (λ g hg=>Or.inl hg) A1 hb HE.out;have Ad:Hid (w2.heap[w.heap.size]?=some (.cells RC 130 (0,0))):=by
     show _=_;rw[<- An.out];refine A1.block _ At (λ e=>?_);rcases e with e|e
     ·omega
     ·have:=B4.out _ e;omega
    (have y5:w2.cell? ⟨w.heap.size,5,none⟩=some (.int .i64 (v:Int)):=by simp only[World.cell?,Ad.out];exact q5);have B6:w.heap.size<w2.heap.size:=Nat.lt_of_lt_of_le At A1.size;have Ac:Hid (Tbl w2):=Ak.out.off A1 Ax.out;have hd:=ez (n:=v) (k:=13) (by omega) (by omega);have HI:Hid _:=fX v w2 (by omega) Ac.out.b;obtain⟨D,hD⟩:∃ q,Lib.decDigits v=q:=⟨_,rfl⟩;rw[hD] at hd HI A0;have A5:Hid _:=λ y=>bp fV D y (by simp[fV]) (by omega);have A3:Hid (∀ y,Below w2.heap.size w2 y->_):=λ y hy=>mr D y (Ac.out.below hy).b (by omega);unfold fV at A5 A3 A0;obtain⟨f2,Ab⟩:∃ f,au ⟨[86,101,114,115,105,111,110],D⟩=f:=⟨_,rfl⟩;rw[Ab] at A5 A3;have HY:Hid _:=A0;clear Ab hD A0 Ae A1 Ad;go_wp2_with (first
     | (go_at_call 17;refine Calls.mono HI.out ?_;rintro e w5 ⟨rfl,A7⟩)
     | (go_at_call 112;refine Calls.mono (A5.out _) ?_;rintro e w6 ⟨rfl,rfl⟩)
     | (go_at_call 55;refine Calls.mono (A3.out _ A7) ?_;rintro e w7 ⟨rfl,Am⟩))
    go_ret;exact HY.out w7 (A7.trans (Am.mono A7.size))
 ·(have Az:¬ (tg:Int)=4:=by omega);by_cases hat:at_<0
  ·(have HE:Hid (dl=(ap 404 [] [],⟨l,J⟩)):=by show _=_;rw[<- Aa.out];simp[dF,h4,show ¬ (0:Int)<=at_ by omega]);go_enter Tryz.func118,Tryz.ntmps118;go_wp2_with (go_at_call 55;refine Calls.mono (Aq.out 404 (by omega)) ?_;rintro e w2 ⟨rfl,Af⟩);go_ret;exact A2.out 404 w2 Af HE.out
  ·have Ag:Hid _:=iz p t l J vs key x Aj.out;cases hro:g7 key l with
   | false =>
     (have HE:Hid (dl=(ap 507 [] [],⟨l,J⟩)):=by show _=_;rw[<- Aa.out];simp[dF,h4,show (0:Int)<=at_ by omega,hro]);rw[hro] at Ag;clear hro;go_enter Tryz.func118,Tryz.ntmps118;go_wp2_with (first
      | (go_at_call 164;refine Calls.mono Ag.out ?_;rintro e w1 ⟨rfl,rfl⟩)
      | (go_at_call 55;refine Calls.mono (Aq.out 507 (by omega)) ?_;rintro e w2 ⟨rfl,Af⟩))
     go_ret;exact A2.out 507 w2 Af HE.out
   | true =>
     have Av:Hid _:=fC p t l J vs key true [] x Aj.out HL.out Ar.out Aw.out HN.out HK.out (by simp);obtain⟨nn,Ao⟩:∃ n,aH key l+1=n:=⟨_,rfl⟩;(have B9:nn<2000000000000:=by have:=HN.out;omega);rw[Ao] at Av;(have HE:Hid (dl=(ap 204 [⟨fV,Lib.decDigits nn⟩] [],⟨l++[⟨key,nn,t,true,[],false⟩],J++aF 2 t key nn []⟩)):=by show _=_;rw[<- Aa.out];simp[dF,h4,show (0:Int)<=at_ by omega,hro,Ao]);rw[hro] at Ag;clear hro Ao;go_enter Tryz.func118,Tryz.ntmps118;go_wp2_with (go_at_call 164;refine Calls.mono Ag.out ?_;rintro e w1 ⟨rfl,As⟩;rw[As];clear As);refine Calls.mono Av.out ?_;rintro e w2 ⟨rfl,A8,Ae,B1,A1⟩;have A0:∀ w3,Below w2.heap.size w2 w3->eS w p t vs dl (.returned (.string ⟨(ap 204 [⟨fV,Lib.decDigits nn⟩] []).toArray⟩)) w3:=λ w3 hb=>A4.out w2 w3 A8 _ _ Ae B1 A1 hb HE.out;have Ac:Hid (Tbl w2):=Ak.out.off A1 Ax.out;have hd:=ez (n:=nn) (k:=13) (by omega) (by omega);have HI:Hid _:=fX nn w2 (by omega) Ac.out.b;obtain⟨D,hD⟩:∃ q,Lib.decDigits nn=q:=⟨_,rfl⟩;rw[hD] at hd HI A0;have A5:Hid _:=λ y=>bp fV D y (by simp[fV]) (by omega);have A3:Hid (∀ y,Below w2.heap.size w2 y->_):=λ y hy=>mr D y (Ac.out.below hy).b (by omega);unfold fV at A5 A3 A0;obtain⟨f2,Ab⟩:∃ f,au ⟨[86,101,114,115,105,111,110],D⟩=f:=⟨_,rfl⟩;rw[Ab] at A5 A3;have HY:Hid _:=A0;clear Ab hD A0 Ae A1;go_wp2_with (first
      | (go_at_call 17;refine Calls.mono HI.out ?_;rintro e w5 ⟨rfl,A7⟩)
      | (go_at_call 112;refine Calls.mono (A5.out _) ?_;rintro e w6 ⟨rfl,rfl⟩)
      | (go_at_call 55;refine Calls.mono (A3.out _ A7) ?_;rintro e w7 ⟨rfl,Am⟩))
     go_ret;exact HY.out w7 (A7.trans (Am.mono A7.size))
theorem fi {W y z:World}(h:Below W.heap.size W y)(k:Below y.heap.size y z):Below W.heap.size W z:=h.trans (k.mono h.size)
def tX (v:Nat)(it:Itm):List UInt8:=Lib.decDigits v++[32]++Lib.decDigits it.time++[32]++(if it.mark then [103,111,110,101] else cD it.body)++[10]
def ro (l:List Itm)(key:List UInt8)(v:Nat):List UInt8:=match bH key (v:Int) l with
 | none=>[]
 | some i=>match l[i]? with
   | none=>[]
   | some it=>tX v it
def gI (l:List Itm)(key:List UInt8):Nat->List UInt8
 | 0=>[]
 | n+1=>ro l key (n+1)++gI l key n
def kP (l:List Itm)(key:List UInt8):List UInt8:=if gI l key (aH key l)=[] then ap 404 [] [] else ap 200 [] (gI l key (aH key l))
theorem mq (p t:Nat)(l:List Itm)(J:List UInt8)(vs:Value)(key:List UInt8)(w:World)(h:aC w p t l J vs)(hT:Tbl w)(hn:aH key l<1000000000000)(hit:∀ it∈l,it.time<1000000000000/\it.body.length<=1000) :
 Calls Tryz.prog 57 #[.pointer (some ⟨p,0,none⟩),.string ⟨key.toArray⟩] w λ e w'=>e=.returned (.string ⟨(kP l key).toArray⟩)/\Below w.heap.size w w':=by
 have HR:Hid (∀ x,Below w.heap.size w x->aC x p t l J vs):=λ x hx=>h.below hx;have A6:Hid (∀ x,Below w.heap.size w x->Tbl x):=λ x hx=>hT.below hx;have B8:Hid _:=hit;have Ay:Hid _:=fG p t l J vs key w h;clear h hT hit;have HH:Hid (kP l key=if gI l key (aH key l)=[] then ap 404 [] [] else ap 200 [] (gI l key (aH key l))):=rfl;obtain⟨la,Ax⟩:∃ n,aH key l=n:=⟨_,rfl⟩;rw[Ax] at Ay hn HH;obtain⟨HL,Ak⟩:∃ x,gI l key la=x:=⟨_,rfl⟩;rw[Ak] at HH;have Bb:Hid _:=Ak;obtain⟨out,A7⟩:∃ x,kP l key=x:=⟨_,rfl⟩;rw[A7] at HH ⊢;clear Ax Ak A7;go_enter Tryz.func57,Tryz.ntmps57;go_wp2_with fail;refine Calls.mono Ay.out ?_;rintro e w0 ⟨rfl,Az⟩;rw[Az];clear Az;go_wp2_with fail;go_loopw [5,6] (λ ov vv wr=>∃ (m:Nat) (o:List UInt8),m<=la/\vv=.int .i64 m/\ov=.string ⟨o.toArray⟩/\HL=o++gI l key m/\o.length+m*200<=la*200/\Below w.heap.size w wr) (λ _ vv _=>(intOf vv).toNat);case atStart=>exact⟨la,[],Nat.le_refl _,rfl,rfl,by rw[List.nil_append];exact Bb.out.symm,by simp,Below.refl _ _⟩
 case round =>
  obtain⟨m,o,hm,rfl,rfl,ho,Bi,hb⟩:=hrel;have HO:Hid _:=ho;have HB:Hid _:=hb;clear ho hb;by_cases hm0:m=0
  ·subst hm0;(have HE:Hid (HL=o):=by have:=HO.out;rw[gI,List.append_nil] at this;exact this);have Bl:(⟨o.toArray⟩:ByteArray).size=o.length:=Lib.size_eq _;have Bg:Hid _:=ay 404 [] [] wr (A6.out wr HB.out).b (by omega) (by simp) (by simp);have Bd:Hid _:=ay 200 [] o wr (A6.out wr HB.out).b (by omega) (by simp) (by omega);by_cases ho0:o=[]
   ·subst ho0;(have HX:Hid (out=Lib.decDigits 404++[13,10]++[]++[13,10]++[]):=by show _=_;rw[HH.out,HE.out];simp[ap]);go_wp2_with (go_at_call 55;refine Calls.mono Bg.out ?_;rintro e w2 ⟨rfl,Au⟩);go_ret;exact⟨aM (by rw[HX.out];simp),HB.out.trans (Au.mono HB.out.size)⟩
   ·(have Bk:o.isEmpty=false:=by simpa using ho0);have Bm:(o=[])=False:=eq_false ho0;(have HX:Hid (out=Lib.decDigits 200++[13,10]++[]++[13,10]++o):=by show _=_;rw[HH.out,HE.out,if_neg ho0];simp[ap]);go_wp2_with (first
     | (go_at_call_of 55 (Value.int .i64 200);refine Calls.mono Bd.out ?_;rintro e w2 ⟨rfl,Au⟩)
     | (exfalso;simp_all;done))
    (all_goals go_ret);all_goals exact⟨aM (by rw[HX.out];simp),HB.out.trans (Au.mono HB.out.size)⟩
  ·obtain⟨m',A5⟩:∃ m',m=m'+1:=⟨m-1,by omega⟩;(have Bh:(0:Int)<(m:Int):=by omega);have A4:=db p t l J vs key (m:Int) wr (HR.out wr HB.out);(have HS:Hid (gI l key m=ro l key m++gI l key m'):=by show _=_;rw[A5];rfl);have HM:Hid (m=m'+1):=A5;clear A5 hm0;have c1:=(HR.out wr HB.out).c1;obtain⟨a,c,B9,hI⟩:=(HR.out wr HB.out).itms;have A8:=(HR.out wr HB.out).few;cases hf:bH key (m:Int) l with
   | none =>(have Af:Hid (ro l key m=[]):=by show _=_;unfold ro;rw[hf]);rw[hf] at A4;have A3:Hid _:=A4;clear A4 hf hI;go_wp2_with (go_at_call 114;refine Calls.mono A3.out ?_;rintro e w1 ⟨rfl,A2⟩;rw[A2];clear A2;simp only[dR]);have A5:=HM.out;exact⟨⟨m',o,by omega,congrArg (Value.int .i64) (by omega),rfl,by rw[HO.out,HS.out,Af.out,List.nil_append],by omega,HB.out⟩,by simp[intOf];omega⟩
   | some i =>
     have Be:=dZ hf;obtain⟨it,Aj⟩:∃ v,l[i]?=some v:=⟨_,List.getElem?_eq_getElem Be⟩;have Bj:=B8.out it (List.mem_of_getElem? Aj);(have Af:Hid (ro l key m=tX m it):=by show _=_;unfold ro;rw[hf];simp only[Aj]);obtain⟨g,rfl,hg,i0,i1,i2,i3,i4,i5⟩:=hI i it Aj;rw[hf] at A4;have A3:Hid _:=A4;(have B5:(i:Int)<(l.length:Int):=by omega);subst B9;clear A4 hf hI Aj;have B0:=ez (n:=m) (k:=13) (by omega) (by omega);have B2:=ez (n:=it.time) (k:=13) (by omega) (by omega);have lq:=cn it.body;obtain⟨D1,Ag⟩:∃ D,Lib.decDigits m=D:=⟨_,rfl⟩;obtain⟨D2,Ah⟩:∃ D,Lib.decDigits it.time=D:=⟨_,rfl⟩;obtain⟨q,hq⟩:∃ q,cD it.body=q:=⟨_,rfl⟩;rw[Ag] at B0;rw[Ah] at B2;rw[hq] at lq;(have Ad:Hid (tX m it=D1++[32]++D2++[32]++(if it.mark then [103,111,110,101] else q)++[10]):=by rw[<- Ag,<- Ah,<- hq];rfl);(have HQ:Hid (∀ y,Calls Tryz.prog 111 #[.string ⟨it.body.toArray⟩] y λ e w'=>e=.returned (.string ⟨q.toArray⟩)/\Below y.heap.size y w'):=by rw[<- hq];exact λ y=>dG it.body y (by omega));have B4:Hid (Lib.decDigits m=D1):=Ag;have B6:Hid (Lib.decDigits it.time=D2):=Ah;obtain⟨q1,e1⟩:∃ x,o++D1=x:=⟨_,rfl⟩;obtain⟨q2,e2⟩:∃ x,q1++[32]=x:=⟨_,rfl⟩;obtain⟨q3,e3⟩:∃ x,q2++D2=x:=⟨_,rfl⟩;obtain⟨q4,e4⟩:∃ x,q3++[32]=x:=⟨_,rfl⟩;(have z0:o.length<=200000000000000:=by omega);(have z1:q1.length=o.length+D1.length:=by rw[<- e1,List.length_append]);(have z2:q2.length=q1.length+1:=by rw[<- e2];simp);(have z3:q3.length=q2.length+D2.length:=by rw[<- e3,List.length_append]);(have z4:q4.length=q3.length+1:=by rw[<- e4];simp);have a1:=fj o D1 (by omega);have a2:=fj q1 [32] (by simp;omega);have a3:=fj q2 D2 (by omega);have a4:=fj q3 [32] (by simp;omega);rw[e1] at a1;rw[e2] at a2;rw[e3] at a3;rw[e4] at a4;(have B3:Hid (q4=o++(D1++[32]++D2++[32])):=by show _=_;rw[<- e4,<- e3,<- e2,<- e1];simp);(have Bn:q4.length<=300000000000000:=by omega);(have B1:Hid (q4.length<=o.length+28):=by show _<=_;omega);clear e1 e2 e3 e4 z1 z2 z3 z4 Ag Ah hq B0 B2;have Aw:Below wr.heap.size wr (wr.alloc (.cells #[.string ⟨it.key.toArray⟩,.int .i64 (it.num:Nat),.int .i64 (it.time:Nat),.bool it.mark,.string ⟨it.body.toArray⟩,.bool it.gone] 199)):=(Below.refl _ _).alloc (Nat.le_refl _) _;(have A9:(wr.alloc (.cells #[.string ⟨it.key.toArray⟩,.int .i64 (it.num:Nat),.int .i64 (it.time:Nat),.bool it.mark,.string ⟨it.body.toArray⟩,.bool it.gone] 199)).cell? ⟨wr.heap.size,2,none⟩=some (.int .i64 (it.time:Nat)):=by simp);have Ac:Hid _:=Aw;have A1:Hid _:=A9;clear Aw A9;cases hmk:it.mark with
     | true =>
       rw[hmk] at i3 Ad Ac A1;have a5:=fj q4 [103,111,110,101] (by simp;omega);obtain⟨q5,e5⟩:∃ x,q4++[103,111,110,101]=x:=⟨_,rfl⟩;(have z5:q5.length<=300000000000100:=by rw[<- e5];simp;omega);have a6:=fj q5 [10] (by simp;omega);rw[e5] at a5;have As:Hid _:=e5;(have Aq:Hid (q5.length<=q4.length+18):=by show _<=_;rw[<- e5];simp);clear e5;go_wp2_with (go_at_call 114;refine Calls.mono A3.out ?_;rintro e w1 ⟨rfl,A2⟩;rw[A2];clear A2;simp only[dR]);obtain⟨W,hW⟩:∃ W,wr.alloc (.cells #[.string ⟨it.key.toArray⟩,.int .i64 (it.num:Nat),.int .i64 (it.time:Nat),.bool true,.string ⟨it.body.toArray⟩,.bool it.gone] 199)=W:=⟨_,rfl⟩;have Ai:Hid _:=A1.out;have A0:Hid _:=HB.out.trans (Ac.out.mono HB.out.size);(have Ao:Hid (wr.heap.size<W.heap.size):=by show _<_;rw[<- hW];simp);rw[hW] at Ai A0 ⊢;clear hW;have Ab:W.cell? ⟨wr.heap.size,2,none⟩=some (.int .i64 (it.time:Nat)):=Ai.out;have Aa:wr.heap.size<W.heap.size:=Ao.out;(have Ar:Hid (∀ y,Below W.heap.size W y->Calls Tryz.prog 17 #[.int .i64 (m:Int)] y λ e w'=>e=.returned (.string ⟨D1.toArray⟩)/\Below y.heap.size y w'):=λ y hy=>by have:=fX m y (by omega) ((A6.out _ (A0.out.trans (hy.mono A0.out.size)))).b;rw[B4.out] at this;exact this);(have Ap:Hid (∀ y,Below W.heap.size W y->Calls Tryz.prog 17 #[.int .i64 (it.time:Nat)] y λ e w'=>e=.returned (.string ⟨D2.toArray⟩)/\Below y.heap.size y w'):=λ y hy=>by have:=fX it.time y (by omega) ((A6.out _ (A0.out.trans (hy.mono A0.out.size)))).b;rw[B6.out] at this;exact this);have Bc:Below W.heap.size W W.drew:=(Below.refl _ _).drew;clear i0 i1 i2 i3 i4 i5 c1 A3 hg B5 A8;go_region_held3 (λ y=>y.cell? ⟨wr.heap.size,2,none⟩=some (.int .i64 (it.time:Nat))/\Below W.heap.size W y) (first|assumption|exact⟨by assumption,by assumption⟩|go_keep) (first
        | (go_at_call_of 17 (Value.int .i64 (m:Int))
           refine Calls.mono (Ar.out _ (by assumption)) ?_;rintro e w3 ⟨rfl,At⟩;have Av:=fi (W:=W) (by assumption) At
           have B7:=(Av.cell (p:=⟨wr.heap.size,2,none⟩) Aa).trans Ab)
        | (go_at_call_of 17 (Value.int .i64 (it.time:Nat))
           refine Calls.mono (Ap.out _ (by assumption)) ?_;rintro e w4 ⟨rfl,Am⟩;have Al:=fi (W:=W) (by assumption) Am
           have Bf:=(Al.cell (p:=⟨wr.heap.size,2,none⟩) Aa).trans Ab))
       all_goals
        have An:=fi (W:=w) A0.out (by assumption);go_wp2;have A5:=HM.out;have Ba:=B1.out;refine⟨⟨m',q5++[10],by omega,congrArg (Value.int .i64) (by omega),rfl,?_,?_,An⟩,by simp[intOf];omega⟩
        ·rw[HO.out,HS.out,Af.out,Ad.out,<- As.out,B3.out];simp
        ·rw[List.length_append];have:=Aq.out;simp;omega
     | false =>
       rw[hmk] at i3 Ad Ac A1;have a5:=fj q4 q (by omega);obtain⟨q5,e5⟩:∃ x,q4++q=x:=⟨_,rfl⟩;(have z5:q5.length<=300000000000100:=by rw[<- e5,List.length_append];omega);have a6:=fj q5 [10] (by simp;omega);rw[e5] at a5;have As:Hid _:=e5;(have Aq:Hid (q5.length<=q4.length+18):=by show _<=_;rw[<- e5,List.length_append];omega);clear e5;go_wp2_with (first
        | (go_at_call 114;refine Calls.mono A3.out ?_;rintro e w1 ⟨rfl,A2⟩;rw[A2];clear A2;simp only[dR])
        | (go_at_call 111;refine Calls.mono (HQ.out _) ?_;rintro e W ⟨rfl,Ae⟩))
       have Ai:Hid (W.cell? ⟨wr.heap.size,2,none⟩=some (.int .i64 (it.time:Nat))):=(Ae.cell (p:=⟨wr.heap.size,2,none⟩) (by simp)).trans A1.out;have A0:Hid (Below w.heap.size w W):=fi (W:=w) (HB.out.trans (Ac.out.mono HB.out.size)) Ae;(have Ao:Hid (wr.heap.size<W.heap.size):=by show _<_;have:=Ae.size;simp at this;omega);clear Ae;have Ab:W.cell? ⟨wr.heap.size,2,none⟩=some (.int .i64 (it.time:Nat)):=Ai.out;have Aa:wr.heap.size<W.heap.size:=Ao.out;(have Ar:Hid (∀ y,Below W.heap.size W y->Calls Tryz.prog 17 #[.int .i64 (m:Int)] y λ e w'=>e=.returned (.string ⟨D1.toArray⟩)/\Below y.heap.size y w'):=λ y hy=>by have:=fX m y (by omega) ((A6.out _ (A0.out.trans (hy.mono A0.out.size)))).b;rw[B4.out] at this;exact this);(have Ap:Hid (∀ y,Below W.heap.size W y->Calls Tryz.prog 17 #[.int .i64 (it.time:Nat)] y λ e w'=>e=.returned (.string ⟨D2.toArray⟩)/\Below y.heap.size y w'):=λ y hy=>by have:=fX it.time y (by omega) ((A6.out _ (A0.out.trans (hy.mono A0.out.size)))).b;rw[B6.out] at this;exact this);have Bc:Below W.heap.size W W.drew:=(Below.refl _ _).drew;clear i0 i1 i2 i3 i4 i5 c1 A3 hg B5 A8;go_region_held3 (λ y=>y.cell? ⟨wr.heap.size,2,none⟩=some (.int .i64 (it.time:Nat))/\Below W.heap.size W y) (first|assumption|exact⟨by assumption,by assumption⟩|go_keep) (first
        | (go_at_call_of 17 (Value.int .i64 (m:Int))
           refine Calls.mono (Ar.out _ (by assumption)) ?_;rintro e w3 ⟨rfl,At⟩;have Av:=fi (W:=W) (by assumption) At
           have B7:=(Av.cell (p:=⟨wr.heap.size,2,none⟩) Aa).trans Ab)
        | (go_at_call_of 17 (Value.int .i64 (it.time:Nat))
           refine Calls.mono (Ap.out _ (by assumption)) ?_;rintro e w4 ⟨rfl,Am⟩;have Al:=fi (W:=W) (by assumption) Am
           have Bf:=(Al.cell (p:=⟨wr.heap.size,2,none⟩) Aa).trans Ab))
       all_goals
        have An:=fi (W:=w) A0.out (by assumption);go_wp2;have A5:=HM.out;have Ba:=B1.out;refine⟨⟨m',q5++[10],by omega,congrArg (Value.int .i64) (by omega),rfl,?_,?_,An⟩,by simp[intOf];omega⟩
        ·rw[HO.out,HS.out,Af.out,Ad.out,<- As.out,B3.out];simp
        ·rw[List.length_append];have:=Aq.out;simp;omega
end Go.Proofs.YtmehkneofinmiaaGreatDoor

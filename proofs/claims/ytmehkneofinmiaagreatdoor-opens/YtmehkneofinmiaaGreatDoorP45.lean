/-part 45-/
import Derived.Test.YtmehkneofinmiaaGreatDoorP44
set_option maxRecDepth 100000
set_option maxHeartbeats 4000000
namespace Go.Proofs.YtmehkneofinmiaaGreatDoor
open Go.RowKit
theorem nt {P:Program}(w:World)(g i:Nat)(t ty:TypeId)(rc cs:Array Value)(fr:Nat×Nat)(d:TypeDesc)(hg:w.heap[g]?=some (.cells rc t fr))(hc:∀ j v,cs[j]?=some v->rc[i+j]?=some v)
 (hu:P.underlying ty=some d)(hd:(match d with|.struct _|.array _ _=>true|_=>false)=true)(hi:(P.info? ty).map (·.size)=some cs.size) :
 (loadVar ty ⟨g,i,none⟩).run P w=.ok (.agg cs) w:=by
 have hl:(loadCells ⟨g,i,none⟩ cs.toList.length).run P w=.ok cs.toList.toArray w :=
  run_loadCells_list (P:=P) w ⟨g,i,none⟩ cs.toList (λ j v hv=>by
   (have A0:(⟨g,i,none⟩:Addr).add j=⟨g,i+j,none⟩:=by unfold Addr.add;split<;>simp_all);rw[A0,cell_of_row w g (i+j) rc t fr hg]
   exact hc j v (by simpa using hv))
 cases hq:P.info? ty with
 | none=>simp[hq] at hi
 | some inf =>(have hs:inf.size=cs.size:=by simpa [hq] using hi);(have A1:(isAgg ty).run P w=.ok true w:=by unfold isAgg;rw[Sem.run_bind,run_underlying hu w];cases d<;>simp_all);simp only[Array.length_toList,Array.toArray_toList] at hl;simp[loadVar,Sem.run_bind,A1,sizeOf,typeInfo,hq,hs,hl]
theorem cz {P:Program}{ops:Array Oper}{rest:List Oper}{o:Oper}{a:Act}{w:World}{Q:Exit->Act->World->Prop}(hgd:o.guard=none)(ty:TypeId)(x:Operand)(ho:o.op=.load ty x)
 (g i:Nat)(hx:a.eval x=.pointer (some ⟨g,i,none⟩))(t:TypeId)(rc cs:Array Value)(fr:Nat×Nat)(d:TypeDesc)(hg:w.heap[g]?=some (.cells rc t fr))(hc:∀ j v,cs[j]?=some v->rc[i+j]?=some v)
 (hu:P.underlying ty=some d)(hd:(match d with|.struct _|.array _ _=>true|_=>false)=true)(hi:(P.info? ty).map (·.size)=some cs.size)
 (h:wpList P ops Q rest (a.put o.dst (.agg cs)) w):wpList P ops Q (o::rest) a w :=
 wpList_plain hgd λ _ hK=>by
  unfold Oper.wp execOp
  simp only[ho,hx,Instr.loadAt,Instr.sureAddr,Sem.run_bind,Sem.run_pure,Result.andThen_ok,nt w g i t ty rc cs fr d hg hc hu hd hi]
  exact hK _ _ h
theorem pQ (n:Nat)(w:World)(hn:n<=253402300799)(hT:Tab w):Calls Tryz.prog 119 #[.int .i64 n] w λ e w'=>e=.returned (.string ⟨(bn n).toArray⟩)/\Below w.heap.size w w':=by
 refine (iW n w (by omega) (by omega) hT).mono ?_;rintro e w' ⟨⟨l,hl,rfl⟩,hb⟩;have hx:Cal.IsStamp (n:Int) (Classical.epsilon (Cal.IsStamp (n:Int))):=Classical.epsilon_spec ⟨l,hl⟩;have hs:bn n=l:=by unfold bn;rw[hx.uniq hl];exact List.take_of_length_le (ot hl)
 rw[hs];exact⟨rfl,hb⟩
theorem ku (wt:Bool)(c:Cst)(k:Cnd)(g:Nat)(w:World)(hR:Rq w g c k) :
 Calls Tryz.prog 116 #[.agg (eH wt c)] w λ e w'=>e=.returned (.int .i64 (bB wt k none:Nat))/\Below w.heap.size w w':=by
 obtain⟨m1,m2,m3,m4⟩:=hR.m.list;obtain⟨n1,n2,n3,n4⟩:=hR.n.list;obtain⟨s1,s2⟩:=hR.s.val;obtain⟨u1,u2⟩:=hR.u.val;refine (Jd.ref_l wt c.hm c.am c.hn c.an c.hs c.hu false c.si c.ul 0 ⟨#[]⟩ c.lm c.ln _ _ _ _ _ _ w m3 n3).mono ?_;rintro e w' ⟨rfl,hb⟩;refine⟨?_,hb⟩;simp only[bB,oX,Jd.mB,Option.isSome_none,Bool.false_and,mM,m1,n1,s1,s2,u1,u2];rfl
theorem mZ (wt:Bool)(c:Cst)(k:Cnd)(g:Nat)(v:Ver)(tg:List UInt8)(w:World)(hR:Rq w g c k)(ht:bQ 16 (fnv v.body)=tg) :
 Calls Tryz.prog 116 #[.agg #[.bool wt,.bool c.hm,.bool c.am,c.lm,.bool c.hn,.bool c.an,c.ln,.bool c.hs,.int .i64 c.si,.bool c.hu,.int .i64 c.ul,.bool true,.string ⟨tg.toArray⟩,.int .i64 (v.time:Nat)]] w λ e w'=>e=.returned (.int .i64 (bB wt k (some v):Nat))/\Below w.heap.size w w':=by
 obtain⟨m1,m2,m3,m4⟩:=hR.m.list;obtain⟨n1,n2,n3,n4⟩:=hR.n.list;obtain⟨s1,s2⟩:=hR.s.val;obtain⟨u1,u2⟩:=hR.u.val;refine (Jd.ref_l wt c.hm c.am c.hn c.an c.hs c.hu true c.si c.ul v.time ⟨tg.toArray⟩ c.lm c.ln _ _ _ _ _ _ w m3 n3).mono ?_;rintro e w' ⟨rfl,hb⟩;refine⟨?_,hb⟩;rw[<- ht];simp only[bB,oX,Jd.mB,Option.isSome_some,Bool.true_and,mM,uN,qj,m1,m2,n1,n2,s1,s2,u1,u2]
structure o8 (w:World)(p t:Nat)(l:List Itm)(J:List UInt8)(vs:Value)(tg:TgR)(c:Cst)(k:Cnd)(body:List UInt8)(g v:Nat):Prop where
 ref:aC w p t l J vs
 tbl:Tbl w
 high:∀ k,(k=p\/vs.ownBlock=some k)->ju k
 few:l.length+1<1000000000000
 log:J.length<=900000000000000
 time:t<4611686018427387904
 last:aH tg.key l<1000000000000
 klen:tg.key.length<=1000
 blen:body.length<=1000
 v0:tg.v=(v:Int)
 v1:v<1000000000000
 its:∀ it∈l,it.num<1000000000000/\it.time<=253402300799/\it.body.length<=400/\it.key.length<=1000
 rq:Rq w g c k
 g1:g<=w.heap.size
theorem o8.below {w x:World}{p t:Nat}{l:List Itm}{J:List UInt8}{vs:Value}{tg:TgR}{c:Cst}{k:Cnd}{body:List UInt8}{g v:Nat}(h:o8 w p t l J vs tg c k body g v)(hb:Below w.heap.size w x):o8 x p t l J vs tg c k body g v :=
 ⟨h.ref.below hb,h.tbl.below hb,h.high,h.few,h.log,h.time,h.last,h.klen,h.blen,h.v0,h.v1,h.its,h.rq.below h.g1 hb,Nat.le_trans h.g1 hb.size⟩
theorem ew (m:Nat)(tg:TgR)(c:Cst)(body:List UInt8):(aj (cG m tg c body)).size=21/\(aj (cG m tg c body))[1]?=some (.int .i64 (m:Int))/\(aj (cG m tg c body))[2]?=some (.int .i64 (tg.tg:Int))/\(aj (cG m tg c body))[3]?=some (.string ⟨tg.key.toArray⟩)/\(aj (cG m tg c body))[5]?=some (.int .i64 tg.v)/\∀ j u,(eH (m==3||m==4) c)[j]?=some u->(aj (cG m tg c body))[6+j]?=some u:=by
 refine⟨rfl,rfl,rfl,rfl,rfl,λ j u h=>?_⟩;by_cases hj:j<14
 ·rw[<- h];rcases (by omega:j=0\/j=1\/j=2\/j=3\/j=4\/j=5\/j=6\/j=7\/j=8\/j=9\/j=10\/j=11\/j=12\/j=13) with rfl|rfl|rfl|rfl|rfl|rfl|rfl|rfl|rfl|rfl|rfl|rfl|rfl|rfl<;>rfl
 ·rw[Array.getElem?_eq_none (by show 14<=j;omega)] at h;cases h
theorem bk {w x:World}{p t:Nat}{l:List Itm}{J:List UInt8}{vs:Value}{out:List UInt8}{r:List UInt8×Rst}(hr:r=(out,⟨l,J⟩))(h:aC w p t l J vs)(hb:Below w.heap.size w x):eS w p t vs r (.returned (.string ⟨out.toArray⟩)) x:=by
 rw[hr];exact⟨rfl,vs,h.below hb,λ g hg=>Or.inl hg,Off.of_below hb⟩
theorem bD {w x y:World}{p t:Nat}{vs:Value}{r:List UInt8×Rst}{e:Ending}(hb:Below w.heap.size w x)(h:eS x p t vs r e y):eS w p t vs r e y:=by
 obtain⟨he,A0,h1,h2,h3⟩:=h;exact⟨he,A0,h1,λ g hg=>(h2 g hg).imp id (λ h=>Nat.le_trans hb.size h),(Off.of_below hb).trans h3⟩
theorem mH (wt:Bool)(c:Cst)(h1:c.lm.oneCell'=true)(h2:c.ln.oneCell'=true):(eH wt c).all (·.oneCell')=true:=by
 rw[Array.all_eq_true];intro i hi;have hs:(eH wt c).size=14:=rfl;rcases (by omega:i=3\/i=6\/i=0\/i=1\/i=2\/i=4\/i=5\/i=7\/i=8\/i=9\/i=10\/i=11\/i=12\/i=13) with h|h|h|h|h|h|h|h|h|h|h|h|h|h<;>subst h
 ·exact h1
 ·exact h2
 all_goals rfl
theorem kf0 {t:Nat}{s:Rst}{m:Nat}{tg:TgR}{k:Cnd}{body:List UInt8}{wt:Bool}{o:Option Ver}{F:List UInt8×Rst}(hw:(m==3||m==4)=wt)(ho:atV s.l tg.tg tg.key tg.v=o)(hF:aQ t s m tg k body=F)(h:bB wt k o≠0):F=(ap (bB wt k o) [] [],s):=by
 rw[<- hF];unfold aQ;rw[hw,ho,if_pos h]
theorem kf3 {t:Nat}{s:Rst}{m:Nat}{tg:TgR}{k:Cnd}{body:List UInt8}{wt:Bool}{o:Option Ver}{F:List UInt8×Rst}{A W:Option Nat}(hw:(m==3||m==4)=wt)(ho:atV s.l tg.tg tg.key tg.v=o)(ha:atR s.l tg.tg tg.key tg.v=(A,W))(hF:aQ t s m tg k body=F)(h:bB wt k o=0)(hm:m=3):F=eR t s tg.key body A.isSome:=by
 rw[<- hF];unfold aQ;rw[hw,ho,if_neg (by rw[h];simp),if_pos hm,ha]
theorem kf4 {t:Nat}{s:Rst}{m:Nat}{tg:TgR}{k:Cnd}{body:List UInt8}{wt:Bool}{o:Option Ver}{F:List UInt8×Rst}{A W:Option Nat}(hw:(m==3||m==4)=wt)(ho:atV s.l tg.tg tg.key tg.v=o)(ha:atR s.l tg.tg tg.key tg.v=(A,W))(hF:aQ t s m tg k body=F)(h:bB wt k o=0)(hm:m=4):F=dF t s (decide (tg.tg=4)) tg.key tg.v.toNat A.isSome W:=by
 rw[<- hF];unfold aQ;rw[hw,ho,if_neg (by rw[h];simp),if_neg (by omega),if_pos hm,ha]
theorem kfn {t:Nat}{s:Rst}{m:Nat}{tg:TgR}{k:Cnd}{body:List UInt8}{wt:Bool}{F:List UInt8×Rst}(hw:(m==3||m==4)=wt)(ho:atV s.l tg.tg tg.key tg.v=none)(hF:aQ t s m tg k body=F)(h:bB wt k none=0)(h3:¬ m=3)(h4:¬ m=4):F=(ap 404 [] [],s):=by
 rw[<- hF];unfold aQ;rw[hw,ho,if_neg (by rw[h];simp),if_neg h3,if_neg h4]
theorem kfs {t:Nat}{s:Rst}{m:Nat}{tg:TgR}{k:Cnd}{body:List UInt8}{wt:Bool}{v:Ver}{F:List UInt8×Rst}(hw:(m==3||m==4)=wt)(ho:atV s.l tg.tg tg.key tg.v=some v)(hF:aQ t s m tg k body=F)(h:bB wt k (some v)=0)(h3:¬ m=3)(h4:¬ m=4):F=(ap 200 (bI v (bn v.time)) (if m=2 then [] else v.body),s):=by
 rw[<- hF];unfold aQ;rw[hw,ho,if_neg (by rw[h];simp),if_neg h3,if_neg h4]
theorem zw (p t:Nat)(l:List Itm)(J:List UInt8)(vs:Value)(m:Nat)(tg:TgR)(c:Cst)(k:Cnd)(body:List UInt8)(g v:Nat)(w:World)(h:o8 w p t l J vs tg c k body g v)(h4:¬ tg.tg=4)(hs:bg tg.key l=none) :
 Calls Tryz.prog 58 #[.pointer (some ⟨p,0,none⟩),.agg (aj (cG m tg c body))] w (eS w p t vs (aQ t ⟨l,J⟩ m tg k body)):=by
 have Ai:atR l tg.tg tg.key tg.v=(none,none):=by unfold atR;rw[if_neg h4,hs]
 have Ab:Hid (atV l tg.tg tg.key tg.v=none):=by show _=_;unfold atV;rw[Ai];rfl
 have Au:Hid _:=Ai;clear Ai;have HH:Hid _:=h;have Bk:=h.ref.lt;have HC:Hid _:=ew m tg c body;obtain⟨F,hF⟩:∃ F,aQ t ⟨l,J⟩ m tg k body=F:=⟨_,rfl⟩;have HF:Hid _:=hF;rw[hF];clear hF;obtain⟨wt,Af⟩:∃ b,(m==3||m==4)=b:=⟨_,rfl⟩;rw[Af] at HC;have A9:Hid _:=Af;obtain⟨r,hr⟩:∃ r,cG m tg c body=r:=⟨_,rfl⟩;have A2:Hid _:=hr;rw[hr] at HC ⊢;obtain⟨RC,Am⟩:∃ r',aj r=r':=⟨_,rfl⟩;have B2:Hid _:=Am;rw[Am] at HC ⊢;obtain⟨key,A1⟩:∃ x,tg.key=x:=⟨_,rfl⟩;have A6:Hid _:=A1;obtain⟨tn,Aa⟩:∃ x,tg.tg=x:=⟨_,rfl⟩;have As:Hid _:=Aa;obtain⟨tv,Ac⟩:∃ x,tg.v=x:=⟨_,rfl⟩;have Az:Hid _:=Ac;have Aq:=h.v0;rw[Ac] at Aq;have Ax:Hid _:=Aq;rw[A1,Aa,Ac] at HC;rw[A1] at hs;rw[Aa] at h4;have Ba:=HC.out.1;have q1:=HC.out.2.1;have q2:=HC.out.2.2.1;have q3:=HC.out.2.2.2.1;have q5:=HC.out.2.2.2.2.1;have B7:Hid _:=HC.out.2.2.2.2.2;have k3:RC[3]'(by omega)=.string ⟨key.toArray⟩:=(Array.getElem?_eq_some_iff.1 q3).2;have B5:Hid (c.lm.oneCell'=true/\c.ln.oneCell'=true):=⟨h.rq.m.one,h.rq.n.one⟩;clear h Af hr Am A1 Aa Ac Aq HC;have Bi:¬ (tn:Int)=4:=by omega
 have Bh:Hid _:=hs;clear hs h4;go_enter Tryz.func58,Tryz.ntmps58;go_wp2_with fail;obtain⟨x,hx⟩:∃ x,w.alloc (.cells RC 130)=x:=⟨_,rfl⟩;have Al:Below w.heap.size w x:=by rw[<- hx];exact (Below.refl _ _).alloc (Nat.le_refl _) _
 have A4:Hid (x.heap[w.heap.size]?=some (.cells RC 130 (0,0))):=by rw[<- hx];exact heap_alloc_new w _
 have B0:w.heap.size<x.heap.size:=by rw[<- hx];simp
 have HX:Hid _:=HH.out.below Al;have Ag:Hid _:=Al;rw[hx];clear hx Al k3;have d1:x.cell? ⟨w.heap.size,1,none⟩=some (.int .i64 (m:Int)):=by simp only[World.cell?,A4.out];exact q1
 have d2:x.cell? ⟨w.heap.size,2,none⟩=some (.int .i64 (tn:Int)):=by simp only[World.cell?,A4.out];exact q2
 have d3:x.cell? ⟨w.heap.size,3,none⟩=some (.string ⟨key.toArray⟩):=by simp only[World.cell?,A4.out];exact q3
 have d5:x.cell? ⟨w.heap.size,5,none⟩=some (.int .i64 tv):=by simp only[World.cell?,A4.out];exact q5
 refine Calls.mono (bl p t l J vs key x HX.out.ref) ?_;rintro e w' ⟨rfl,B6⟩;rw[B6];clear B6;rw[Bh.out];simp only[dR];have HJ:Hid _:=ku wt c k g (x.alloc (.cells (eH wt c) 93)) ((HX.out.below ((Below.refl _ _).alloc (Nat.le_refl _) _)).rq);go_wp2_with (first
  | (refine cz rfl 93 (.tmp 38) rfl w.heap.size 6 rfl 130 RC (eH wt c) (0,0) _ A4.out B7.out Tryz.underlying93 rfl eT ?_)
  | (refine wpList_store_row rfl 93 (.tmp 7) (.tmp 39) rfl x.heap.size (eH wt c) rfl rfl 93 #[.bool false,.bool false,.bool false,.slice none 0 0,.bool false,.bool false,.slice none 0 0,.bool false,.int .i64 0,.bool false,.int .i64 0,.bool false,.string ⟨#[]⟩,.int .i64 0] (heap_alloc_last _ _) eT rfl (mH wt c B5.out.1 B5.out.2) ?_;rw[World.setRow_alloc_new])
  | (refine wpList_load_row rfl 93 (.tmp 7) rfl x.heap.size rfl 93 (eH wt c) (0,0) _ (heap_alloc_last _ _) Tryz.underlying93 rfl eT ?_))
 refine Calls.mono HJ.out ?_;rintro e y2 ⟨rfl,At⟩;have Ad:Hid (Below x.heap.size x y2):=((Below.refl x.heap.size x).alloc (Nat.le_refl _) _).trans (At.mono (by simp));have A5:Hid (Below w.heap.size w y2):=Ag.out.trans (Ad.out.mono Ag.out.size);clear At;obtain⟨cd,A8⟩:∃ n,bB wt k none=n:=⟨_,rfl⟩;have B8:cd<1000:=by rw[<- A8];exact gc _ _ _
 have An:Hid _:=A8;rw[A8];clear A8;have HY:Hid _:=HH.out.below A5.out;have Ao:Hid (y2.heap[w.heap.size]?=some (.cells RC 130 (0,0))):=(Ad.out.block _ B0).trans A4.out;have m1:y2.cell? ⟨w.heap.size,1,none⟩=some (.int .i64 (m:Int)):=by simp only[World.cell?,Ao.out];exact q1
 have Bj:w.heap.size<y2.heap.size:=Nat.lt_of_lt_of_le B0 Ad.out.size;have Aw:r.key=key:=by rw[<- A2.out];exact A6.out
 have B1:r.body=body:=by rw[<- A2.out];rfl
 have Ar:r.target=tn:=by rw[<- A2.out];exact As.out
 have B3:r.v=(v:Int):=by rw[<- A2.out];exact Az.out.trans Ax.out
 have B4:Hid _:=Aw;have Bb:Hid _:=B1;have B9:Hid _:=Ar;have Bc:Hid _:=B3;clear d1 d2 d3 d5 Aw B1 Ar B3 HX A4 Ag;by_cases h0:cd=0
 ·(have Bf:(cd:Int)=0:=by omega);have Aj:Hid (bB wt k none=0):=An.out.trans h0;clear h0;(have Ay:(Tryz.prog.info? 130).map (·.size)=some RC.size:=by rw[Ba];exact du);by_cases m3:m=3
  ·(have Bg:(m:Int)=3:=by omega);have A3:Hid (F=eR t ⟨l,J⟩ tg.key body none.isSome):=kf3 A9.out Ab.out Au.out HF.out Aj.out m3;have Av:Hid _:=eK p t l J vs r (-1) y2 HY.out.ref HY.out.tbl HY.out.high HY.out.few HY.out.log HY.out.time (by rw[<- A2.out];exact HY.out.last) (by rw[<- A2.out];exact HY.out.klen) (by rw[<- A2.out];exact HY.out.blen);rw[B2.out] at Av;clear m3;go_wp2_with (refine wpList_load_row rfl 130 (.tmp 3) rfl w.heap.size rfl 130 RC (0,0) _ Ao.out Tryz.underlying130 rfl Ay ?_);refine Calls.mono Av.out ?_;rintro e w5 ⟨rfl,A0⟩;have Ae:Hid _:=A0;clear A0;go_wp2;go_ret;(have hd:decide ((0:Int)<=(-1))=(none:Option Nat).isSome:=by decide);rw[A3.out,<- hd,A6.out,<- B4.out,<- Bb.out];exact bD A5.out ⟨rfl,Ae.out⟩
  ·(have Bg:¬ (m:Int)=3:=by omega);by_cases m4:m=4
   ·(have Bd:(m:Int)=4:=by omega);have A3:Hid (F=dF t ⟨l,J⟩ (decide (tg.tg=4)) tg.key tg.v.toNat none.isSome none):=kf4 A9.out Ab.out Au.out HF.out Aj.out m4;have Ah:Hid _:=cY p t l J vs r v (-1) none y2 HY.out.ref HY.out.tbl HY.out.high HY.out.few HY.out.log HY.out.time (by rw[<- A2.out];exact HY.out.last) (by rw[<- A2.out];exact HY.out.klen) Bc.out HY.out.v1 (by intro i hi;cases hi);rw[B2.out] at Ah;simp only[dR] at Ah;clear m3 m4;go_wp2_with (refine wpList_load_row rfl 130 (.tmp 3) rfl w.heap.size rfl 130 RC (0,0) _ Ao.out Tryz.underlying130 rfl Ay ?_);refine Calls.mono Ah.out ?_;rintro e w5 ⟨rfl,A0⟩;have Ae:Hid _:=A0;clear A0;go_wp2;go_ret;(have hd:decide ((0:Int)<=(-1))=(none:Option Nat).isSome:=by decide);(have Be:tg.v.toNat=v:=by rw[Az.out,Ax.out];rfl);(have e4:decide (tg.tg=4)=decide (r.target=4):=by rw[As.out,B9.out]);rw[A3.out,<- hd,Be,e4,A6.out,<- B4.out];exact bD A5.out ⟨rfl,Ae.out⟩
   ·(have Bd:¬ (m:Int)=4:=by omega);have A3:Hid (F=(ap 404 [] [],⟨l,J⟩)):=kfn A9.out Ab.out HF.out Aj.out m3 m4;have Ak:Hid _:=ay 404 [] [] y2 HY.out.tbl.b (by omega) (by simp) (by simp);clear m3 m4;go_wp2_with fail;refine Calls.mono Ak.out ?_;rintro e w5 ⟨rfl,A7⟩;have Ap:Hid _:=A7;clear A7;go_wp2;go_ret;exact bk (by rw[A3.out];simp[ap]) HH.out.ref (A5.out.trans (Ap.out.mono A5.out.size))
 ·(have Bf:¬ (cd:Int)=0:=by omega);(have A3:Hid (F=(ap cd [] [],⟨l,J⟩)):=by show _=_;rw[<- An.out];exact kf0 A9.out Ab.out HF.out (by rw[An.out];exact h0));have Ak:Hid _:=ay cd [] [] y2 HY.out.tbl.b (by omega) (by simp) (by simp);clear h0;go_wp2_with fail;refine Calls.mono Ak.out ?_;rintro e w5 ⟨rfl,A7⟩;have Ap:Hid _:=A7;clear A7;go_wp2;go_ret;exact bk (by rw[A3.out];simp[ap]) HH.out.ref (A5.out.trans (Ap.out.mono A5.out.size))
theorem zF (p t:Nat)(l:List Itm)(J:List UInt8)(vs:Value)(m:Nat)(tg:TgR)(c:Cst)(k:Cnd)(body:List UInt8)(g v:Nat)(w:World)(h:o8 w p t l J vs tg c k body g v)(h4:tg.tg=4)(hf:bH tg.key tg.v l=none) :
 Calls Tryz.prog 58 #[.pointer (some ⟨p,0,none⟩),.agg (aj (cG m tg c body))] w (eS w p t vs (aQ t ⟨l,J⟩ m tg k body)):=by
 have Aj:atR l tg.tg tg.key tg.v=(none,none):=by unfold atR;rw[if_pos h4,hf]
 have Ad:Hid (atV l tg.tg tg.key tg.v=none):=by show _=_;unfold atV;rw[Aj];rfl
 have Av:Hid _:=Aj;clear Aj;have HH:Hid _:=h;have Bl:=h.ref.lt;have HC:Hid _:=ew m tg c body;obtain⟨F,hF⟩:∃ F,aQ t ⟨l,J⟩ m tg k body=F:=⟨_,rfl⟩;have HF:Hid _:=hF;rw[hF];clear hF;obtain⟨wt,Ag⟩:∃ b,(m==3||m==4)=b:=⟨_,rfl⟩;rw[Ag] at HC;have Ab:Hid _:=Ag;obtain⟨r,hr⟩:∃ r,cG m tg c body=r:=⟨_,rfl⟩;have A2:Hid _:=hr;rw[hr] at HC ⊢;obtain⟨RC,An⟩:∃ r',aj r=r':=⟨_,rfl⟩;have B4:Hid _:=An;rw[An] at HC ⊢;obtain⟨key,A1⟩:∃ x,tg.key=x:=⟨_,rfl⟩;have A6:Hid _:=A1;obtain⟨tn,Ac⟩:∃ x,tg.tg=x:=⟨_,rfl⟩;have At:Hid _:=Ac;obtain⟨tv,A8⟩:∃ x,tg.v=x:=⟨_,rfl⟩;have B0:Hid _:=A8;have Ar:=h.v0;rw[A8] at Ar;have Ay:Hid _:=Ar;rw[A1,Ac,A8] at HC;rw[A1] at hf;rw[A8] at hf;rw[Ac] at h4;have Bb:=HC.out.1;have q1:=HC.out.2.1;have q2:=HC.out.2.2.1;have q3:=HC.out.2.2.2.1;have q5:=HC.out.2.2.2.2.1;have B8:Hid _:=HC.out.2.2.2.2.2;have k3:RC[3]'(by omega)=.string ⟨key.toArray⟩:=(Array.getElem?_eq_some_iff.1 q3).2;have B7:Hid (c.lm.oneCell'=true/\c.ln.oneCell'=true):=⟨h.rq.m.one,h.rq.n.one⟩;clear h Ag hr An A1 Ac A8 Ar HC;have Bj:(tn:Int)=4:=by omega
 have Bi:Hid _:=hf;clear hf h4;go_enter Tryz.func58,Tryz.ntmps58;go_wp2_with fail;obtain⟨x,hx⟩:∃ x,w.alloc (.cells RC 130)=x:=⟨_,rfl⟩;have Am:Below w.heap.size w x:=by rw[<- hx];exact (Below.refl _ _).alloc (Nat.le_refl _) _
 have A4:Hid (x.heap[w.heap.size]?=some (.cells RC 130 (0,0))):=by rw[<- hx];exact heap_alloc_new w _
 have B1:w.heap.size<x.heap.size:=by rw[<- hx];simp
 have HX:Hid _:=HH.out.below Am;have Ah:Hid _:=Am;rw[hx];clear hx Am k3;have d1:x.cell? ⟨w.heap.size,1,none⟩=some (.int .i64 (m:Int)):=by simp only[World.cell?,A4.out];exact q1
 have d2:x.cell? ⟨w.heap.size,2,none⟩=some (.int .i64 (tn:Int)):=by simp only[World.cell?,A4.out];exact q2
 have d3:x.cell? ⟨w.heap.size,3,none⟩=some (.string ⟨key.toArray⟩):=by simp only[World.cell?,A4.out];exact q3
 have d5:x.cell? ⟨w.heap.size,5,none⟩=some (.int .i64 tv):=by simp only[World.cell?,A4.out];exact q5
 refine Calls.mono (bl p t l J vs key x HX.out.ref) ?_;rintro e w' ⟨rfl,A9⟩;rw[A9];clear A9;obtain⟨z0,B2⟩:∃ z,dR (bg key l)=z:=⟨_,rfl⟩;rw[B2];clear B2;go_wp2_with fail;refine Calls.mono (db p t l J vs key tv x HX.out.ref) ?_;rintro e w' ⟨rfl,A9⟩;rw[A9];clear A9;rw[Bi.out];simp only[dR];have HJ:Hid _:=ku wt c k g (x.alloc (.cells (eH wt c) 93)) ((HX.out.below ((Below.refl _ _).alloc (Nat.le_refl _) _)).rq);go_wp2_with (first
  | (refine cz rfl 93 (.tmp 38) rfl w.heap.size 6 rfl 130 RC (eH wt c) (0,0) _ A4.out B8.out Tryz.underlying93 rfl eT ?_)
  | (refine wpList_store_row rfl 93 (.tmp 7) (.tmp 39) rfl x.heap.size (eH wt c) rfl rfl 93 #[.bool false,.bool false,.bool false,.slice none 0 0,.bool false,.bool false,.slice none 0 0,.bool false,.int .i64 0,.bool false,.int .i64 0,.bool false,.string ⟨#[]⟩,.int .i64 0] (heap_alloc_last _ _) eT rfl (mH wt c B7.out.1 B7.out.2) ?_;rw[World.setRow_alloc_new])
  | (refine wpList_load_row rfl 93 (.tmp 7) rfl x.heap.size rfl 93 (eH wt c) (0,0) _ (heap_alloc_last _ _) Tryz.underlying93 rfl eT ?_))
 refine Calls.mono HJ.out ?_;rintro e y2 ⟨rfl,Au⟩;have Ae:Hid (Below x.heap.size x y2):=((Below.refl x.heap.size x).alloc (Nat.le_refl _) _).trans (Au.mono (by simp));have A5:Hid (Below w.heap.size w y2):=Ah.out.trans (Ae.out.mono Ah.out.size);clear Au;obtain⟨cd,Aa⟩:∃ n,bB wt k none=n:=⟨_,rfl⟩;have B9:cd<1000:=by rw[<- Aa];exact gc _ _ _
 have Ao:Hid _:=Aa;rw[Aa];clear Aa;have HY:Hid _:=HH.out.below A5.out;have Ap:Hid (y2.heap[w.heap.size]?=some (.cells RC 130 (0,0))):=(Ae.out.block _ B1).trans A4.out;have m1:y2.cell? ⟨w.heap.size,1,none⟩=some (.int .i64 (m:Int)):=by simp only[World.cell?,Ap.out];exact q1
 have Bk:w.heap.size<y2.heap.size:=Nat.lt_of_lt_of_le B1 Ae.out.size;have Ax:r.key=key:=by rw[<- A2.out];exact A6.out
 have B3:r.body=body:=by rw[<- A2.out];rfl
 have As:r.target=tn:=by rw[<- A2.out];exact At.out
 have B5:r.v=(v:Int):=by rw[<- A2.out];exact B0.out.trans Ay.out
 have B6:Hid _:=Ax;have Bc:Hid _:=B3;have Ba:Hid _:=As;have Bd:Hid _:=B5;clear d1 d2 d3 d5 Ax B3 As B5 HX A4 Ah;by_cases h0:cd=0
 ·(have Bg:(cd:Int)=0:=by omega);have Ak:Hid (bB wt k none=0):=Ao.out.trans h0;clear h0;(have Az:(Tryz.prog.info? 130).map (·.size)=some RC.size:=by rw[Bb];exact du);by_cases m3:m=3
  ·(have Bh:(m:Int)=3:=by omega);have A3:Hid (F=eR t ⟨l,J⟩ tg.key body none.isSome):=kf3 Ab.out Ad.out Av.out HF.out Ak.out m3;have Aw:Hid _:=eK p t l J vs r (-1) y2 HY.out.ref HY.out.tbl HY.out.high HY.out.few HY.out.log HY.out.time (by rw[<- A2.out];exact HY.out.last) (by rw[<- A2.out];exact HY.out.klen) (by rw[<- A2.out];exact HY.out.blen);rw[B4.out] at Aw;clear m3;go_wp2_with (refine wpList_load_row rfl 130 (.tmp 3) rfl w.heap.size rfl 130 RC (0,0) _ Ap.out Tryz.underlying130 rfl Az ?_);refine Calls.mono Aw.out ?_;rintro e w5 ⟨rfl,A0⟩;have Af:Hid _:=A0;clear A0;go_wp2;go_ret;(have hd:decide ((0:Int)<=(-1))=(none:Option Nat).isSome:=by decide);rw[A3.out,<- hd,A6.out,<- B6.out,<- Bc.out];exact bD A5.out ⟨rfl,Af.out⟩
  ·(have Bh:¬ (m:Int)=3:=by omega);by_cases m4:m=4
   ·(have Be:(m:Int)=4:=by omega);have A3:Hid (F=dF t ⟨l,J⟩ (decide (tg.tg=4)) tg.key tg.v.toNat none.isSome none):=kf4 Ab.out Ad.out Av.out HF.out Ak.out m4;have Ai:Hid _:=cY p t l J vs r v (-1) none y2 HY.out.ref HY.out.tbl HY.out.high HY.out.few HY.out.log HY.out.time (by rw[<- A2.out];exact HY.out.last) (by rw[<- A2.out];exact HY.out.klen) Bd.out HY.out.v1 (by intro i hi;cases hi);rw[B4.out] at Ai;simp only[dR] at Ai;clear m3 m4;go_wp2_with (refine wpList_load_row rfl 130 (.tmp 3) rfl w.heap.size rfl 130 RC (0,0) _ Ap.out Tryz.underlying130 rfl Az ?_);refine Calls.mono Ai.out ?_;rintro e w5 ⟨rfl,A0⟩;have Af:Hid _:=A0;clear A0;go_wp2;go_ret;(have hd:decide ((0:Int)<=(-1))=(none:Option Nat).isSome:=by decide);(have Bf:tg.v.toNat=v:=by rw[B0.out,Ay.out];rfl);(have e4:decide (tg.tg=4)=decide (r.target=4):=by rw[At.out,Ba.out]);rw[A3.out,<- hd,Bf,e4,A6.out,<- B6.out];exact bD A5.out ⟨rfl,Af.out⟩
   ·(have Be:¬ (m:Int)=4:=by omega);have A3:Hid (F=(ap 404 [] [],⟨l,J⟩)):=kfn Ab.out Ad.out HF.out Ak.out m3 m4;have Al:Hid _:=ay 404 [] [] y2 HY.out.tbl.b (by omega) (by simp) (by simp);clear m3 m4;go_wp2_with fail;refine Calls.mono Al.out ?_;rintro e w5 ⟨rfl,A7⟩;have Aq:Hid _:=A7;clear A7;go_wp2;go_ret;exact bk (by rw[A3.out];simp[ap]) HH.out.ref (A5.out.trans (Aq.out.mono A5.out.size))
 ·(have Bg:¬ (cd:Int)=0:=by omega);(have A3:Hid (F=(ap cd [] [],⟨l,J⟩)):=by show _=_;rw[<- Ao.out];exact kf0 Ab.out Ad.out HF.out (by rw[Ao.out];exact h0));have Al:Hid _:=ay cd [] [] y2 HY.out.tbl.b (by omega) (by simp) (by simp);clear h0;go_wp2_with fail;refine Calls.mono Al.out ?_;rintro e w5 ⟨rfl,A7⟩;have Aq:Hid _:=A7;clear A7;go_wp2;go_ret;exact bk (by rw[A3.out];simp[ap]) HH.out.ref (A5.out.trans (Aq.out.mono A5.out.size))
theorem zP (p t:Nat)(l:List Itm)(J:List UInt8)(vs:Value)(m:Nat)(tg:TgR)(c:Cst)(k:Cnd)(body:List UInt8)(g v:Nat)(w:World)(h:o8 w p t l J vs tg c k body g v)(h4:tg.tg=4)(i:Nat)(it:Itm)(hf:bH tg.key tg.v l=some i)(hi:l[i]?=some it)(hm:it.mark=true) :
 Calls Tryz.prog 58 #[.pointer (some ⟨p,0,none⟩),.agg (aj (cG m tg c body))] w (eS w p t vs (aQ t ⟨l,J⟩ m tg k body)):=by
 have Ak:atR l tg.tg tg.key tg.v=(none,some i):=by unfold atR;rw[if_pos h4,hf];simp only[hi,hm,if_true]
 have Ad:Hid (atV l tg.tg tg.key tg.v=none):=by show _=_;unfold atV;rw[Ak];rfl
 have Ax:Hid _:=Ak;clear Ak;have HH:Hid _:=h;have Bs:=h.ref.lt;have HC:Hid _:=ew m tg c body;obtain⟨F,hF⟩:∃ F,aQ t ⟨l,J⟩ m tg k body=F:=⟨_,rfl⟩;have HF:Hid _:=hF;rw[hF];clear hF;obtain⟨wt,Ag⟩:∃ b,(m==3||m==4)=b:=⟨_,rfl⟩;rw[Ag] at HC;have Ab:Hid _:=Ag;obtain⟨r,hr⟩:∃ r,cG m tg c body=r:=⟨_,rfl⟩;have A2:Hid _:=hr;rw[hr] at HC ⊢;obtain⟨RC,Ap⟩:∃ r',aj r=r':=⟨_,rfl⟩;have B6:Hid _:=Ap;rw[Ap] at HC ⊢;obtain⟨key,A1⟩:∃ x,tg.key=x:=⟨_,rfl⟩;have A6:Hid _:=A1;obtain⟨tn,Ac⟩:∃ x,tg.tg=x:=⟨_,rfl⟩;have Av:Hid _:=Ac;obtain⟨tv,A8⟩:∃ x,tg.v=x:=⟨_,rfl⟩;have B2:Hid _:=A8;have At:=h.v0;rw[A8] at At;have B0:Hid _:=At;rw[A1,Ac,A8] at HC;rw[A1] at hf;rw[A8] at hf;rw[Ac] at h4;have Be:=HC.out.1;have q1:=HC.out.2.1;have q2:=HC.out.2.2.1;have q3:=HC.out.2.2.2.1;have q5:=HC.out.2.2.2.2.1;have Ba:Hid _:=HC.out.2.2.2.2.2;have k3:RC[3]'(by omega)=.string ⟨key.toArray⟩:=(Array.getElem?_eq_some_iff.1 q3).2;have B9:Hid (c.lm.oneCell'=true/\c.ln.oneCell'=true):=⟨h.rq.m.one,h.rq.n.one⟩;clear h Ag hr Ap A1 Ac A8 At HC;have Bn:(tn:Int)=4:=by omega
 have Bm:Hid _:=hf;clear hf h4;go_enter Tryz.func58,Tryz.ntmps58;go_wp2_with fail;obtain⟨x,hx⟩:∃ x,w.alloc (.cells RC 130)=x:=⟨_,rfl⟩;have Ao:Below w.heap.size w x:=by rw[<- hx];exact (Below.refl _ _).alloc (Nat.le_refl _) _
 have A4:Hid (x.heap[w.heap.size]?=some (.cells RC 130 (0,0))):=by rw[<- hx];exact heap_alloc_new w _
 have B3:w.heap.size<x.heap.size:=by rw[<- hx];simp
 have HX:Hid _:=HH.out.below Ao;have Ah:Hid _:=Ao;rw[hx];clear hx Ao k3;have d1:x.cell? ⟨w.heap.size,1,none⟩=some (.int .i64 (m:Int)):=by simp only[World.cell?,A4.out];exact q1
 have d2:x.cell? ⟨w.heap.size,2,none⟩=some (.int .i64 (tn:Int)):=by simp only[World.cell?,A4.out];exact q2
 have d3:x.cell? ⟨w.heap.size,3,none⟩=some (.string ⟨key.toArray⟩):=by simp only[World.cell?,A4.out];exact q3
 have d5:x.cell? ⟨w.heap.size,5,none⟩=some (.int .i64 tv):=by simp only[World.cell?,A4.out];exact q5
 refine Calls.mono (bl p t l J vs key x HX.out.ref) ?_;rintro e w' ⟨rfl,A9⟩;rw[A9];clear A9;obtain⟨z0,B4⟩:∃ z,dR (bg key l)=z:=⟨_,rfl⟩;rw[B4];clear B4;go_wp2_with fail;refine Calls.mono (db p t l J vs key tv x HX.out.ref) ?_;rintro e w' ⟨rfl,A9⟩;rw[A9];clear A9;rw[Bm.out];simp only[dR];have c1:=HX.out.ref.c1;obtain⟨av,cv,Ai,hI⟩:=HX.out.ref.itms;have Bb:=HX.out.ref.few;have Bt:i<l.length:=(List.getElem?_eq_some_iff.1 hi).1;have Bo:=HX.out.its it (List.mem_of_getElem? hi);obtain⟨gv,An,Bp,i0,i1,i2,i3,i4,i5⟩:=hI i it hi;have Bu:(i:Int)<(l.length:Int):=by omega
 have HI:Hid _:=hi;clear hI hi;rw[Ai,An] at c1;have Bq:Hid (vs=.slice (some ⟨gv,0,none⟩) l.length cv):=by show _=_;rw[Ai,An]
 clear Ai An;rw[hm] at i3;have HJ:Hid _:=ku wt c k g (x.alloc (.cells (eH wt c) 93)) ((HX.out.below ((Below.refl _ _).alloc (Nat.le_refl _) _)).rq);go_wp2_with (first
  | (refine cz rfl 93 (.tmp 38) rfl w.heap.size 6 rfl 130 RC (eH wt c) (0,0) _ A4.out Ba.out Tryz.underlying93 rfl eT ?_)
  | (refine wpList_store_row rfl 93 (.tmp 7) (.tmp 39) rfl x.heap.size (eH wt c) rfl rfl 93 #[.bool false,.bool false,.bool false,.slice none 0 0,.bool false,.bool false,.slice none 0 0,.bool false,.int .i64 0,.bool false,.int .i64 0,.bool false,.string ⟨#[]⟩,.int .i64 0] (heap_alloc_last _ _) eT rfl (mH wt c B9.out.1 B9.out.2) ?_;rw[World.setRow_alloc_new])
  | (refine wpList_load_row rfl 93 (.tmp 7) rfl x.heap.size rfl 93 (eH wt c) (0,0) _ (heap_alloc_last _ _) Tryz.underlying93 rfl eT ?_))
 refine Calls.mono HJ.out ?_;rintro e y2 ⟨rfl,Aw⟩;have Ae:Hid (Below x.heap.size x y2):=((Below.refl x.heap.size x).alloc (Nat.le_refl _) _).trans (Aw.mono (by simp));have A5:Hid (Below w.heap.size w y2):=Ah.out.trans (Ae.out.mono Ah.out.size);clear Aw;obtain⟨cd,Aa⟩:∃ n,bB wt k none=n:=⟨_,rfl⟩;have Bc:cd<1000:=by rw[<- Aa];exact gc _ _ _
 have Aq:Hid _:=Aa;rw[Aa];clear Aa;have HY:Hid _:=HH.out.below A5.out;have Ar:Hid (y2.heap[w.heap.size]?=some (.cells RC 130 (0,0))):=(Ae.out.block _ B3).trans A4.out;have m1:y2.cell? ⟨w.heap.size,1,none⟩=some (.int .i64 (m:Int)):=by simp only[World.cell?,Ar.out];exact q1
 have Br:w.heap.size<y2.heap.size:=Nat.lt_of_lt_of_le B3 Ae.out.size;have Az:r.key=key:=by rw[<- A2.out];exact A6.out
 have B5:r.body=body:=by rw[<- A2.out];rfl
 have Au:r.target=tn:=by rw[<- A2.out];exact Av.out
 have B7:r.v=(v:Int):=by rw[<- A2.out];exact B2.out.trans B0.out
 have B8:Hid _:=Az;have Bf:Hid _:=B5;have Bd:Hid _:=Au;have Bg:Hid _:=B7;clear d1 d2 d3 d5 Az B5 Au B7 HX A4 Ah;by_cases h0:cd=0
 ·(have Bk:(cd:Int)=0:=by omega);have Al:Hid (bB wt k none=0):=Aq.out.trans h0;clear h0;(have B1:(Tryz.prog.info? 130).map (·.size)=some RC.size:=by rw[Be];exact du);by_cases m3:m=3
  ·(have Bl:(m:Int)=3:=by omega);have A3:Hid (F=eR t ⟨l,J⟩ tg.key body none.isSome):=kf3 Ab.out Ad.out Ax.out HF.out Al.out m3;have Ay:Hid _:=eK p t l J vs r (-1) y2 HY.out.ref HY.out.tbl HY.out.high HY.out.few HY.out.log HY.out.time (by rw[<- A2.out];exact HY.out.last) (by rw[<- A2.out];exact HY.out.klen) (by rw[<- A2.out];exact HY.out.blen);rw[B6.out] at Ay;clear m3;go_wp2_with (refine wpList_load_row rfl 130 (.tmp 3) rfl w.heap.size rfl 130 RC (0,0) _ Ar.out Tryz.underlying130 rfl B1 ?_);refine Calls.mono Ay.out ?_;rintro e w5 ⟨rfl,A0⟩;have Af:Hid _:=A0;clear A0;go_wp2;go_ret;(have hd:decide ((0:Int)<=(-1))=(none:Option Nat).isSome:=by decide);rw[A3.out,<- hd,A6.out,<- B8.out,<- Bf.out];exact bD A5.out ⟨rfl,Af.out⟩
  ·(have Bl:¬ (m:Int)=3:=by omega);by_cases m4:m=4
   ·(have Bh:(m:Int)=4:=by omega);have A3:Hid (F=dF t ⟨l,J⟩ (decide (tg.tg=4)) tg.key tg.v.toNat none.isSome (some i)):=kf4 Ab.out Ad.out Ax.out HF.out Al.out m4;have Aj:Hid _:=cY p t l J vs r v (-1) (some i) y2 HY.out.ref HY.out.tbl HY.out.high HY.out.few HY.out.log HY.out.time (by rw[<- A2.out];exact HY.out.last) (by rw[<- A2.out];exact HY.out.klen) Bg.out HY.out.v1 (by intro i' Bi;cases Bi;exact⟨it,HI.out,by omega,by omega⟩);rw[B6.out] at Aj;simp only[dR] at Aj;clear m3 m4;go_wp2_with (refine wpList_load_row rfl 130 (.tmp 3) rfl w.heap.size rfl 130 RC (0,0) _ Ar.out Tryz.underlying130 rfl B1 ?_);refine Calls.mono Aj.out ?_;rintro e w5 ⟨rfl,A0⟩;have Af:Hid _:=A0;clear A0;go_wp2;go_ret;(have hd:decide ((0:Int)<=(-1))=(none:Option Nat).isSome:=by decide);(have Bj:tg.v.toNat=v:=by rw[B2.out,B0.out];rfl);(have e4:decide (tg.tg=4)=decide (r.target=4):=by rw[Av.out,Bd.out]);rw[A3.out,<- hd,Bj,e4,A6.out,<- B8.out];exact bD A5.out ⟨rfl,Af.out⟩
   ·(have Bh:¬ (m:Int)=4:=by omega);have A3:Hid (F=(ap 404 [] [],⟨l,J⟩)):=kfn Ab.out Ad.out HF.out Al.out m3 m4;have Am:Hid _:=ay 404 [] [] y2 HY.out.tbl.b (by omega) (by simp) (by simp);clear m3 m4;go_wp2_with fail;refine Calls.mono Am.out ?_;rintro e w5 ⟨rfl,A7⟩;have As:Hid _:=A7;clear A7;go_wp2;go_ret;exact bk (by rw[A3.out];simp[ap]) HH.out.ref (A5.out.trans (As.out.mono A5.out.size))
 ·(have Bk:¬ (cd:Int)=0:=by omega);(have A3:Hid (F=(ap cd [] [],⟨l,J⟩)):=by show _=_;rw[<- Aq.out];exact kf0 Ab.out Ad.out HF.out (by rw[Aq.out];exact h0));have Am:Hid _:=ay cd [] [] y2 HY.out.tbl.b (by omega) (by simp) (by simp);clear h0;go_wp2_with fail;refine Calls.mono Am.out ?_;rintro e w5 ⟨rfl,A7⟩;have As:Hid _:=A7;clear A7;go_wp2;go_ret;exact bk (by rw[A3.out];simp[ap]) HH.out.ref (A5.out.trans (As.out.mono A5.out.size))
end Go.Proofs.YtmehkneofinmiaaGreatDoor

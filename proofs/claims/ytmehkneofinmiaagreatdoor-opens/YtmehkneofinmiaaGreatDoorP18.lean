/-part 18-/
import Derived.Test.YtmehkneofinmiaaGreatDoorP17
set_option maxRecDepth 100000
set_option maxHeartbeats 4000000
namespace Go.Proofs.YtmehkneofinmiaaGreatDoor
open Go.RowKit
theorem s9 {w:World}{a:Addr}{v:Value}(h:w.cell? a=some v):w.setCell a v=w:=by
 cases w with|mk heap tape drawn os output =>
 simp only[World.setCell,World.mk.injEq,and_true];apply Array.ext
 ·simp
 ·intro i h1 h2;simp only[Array.getElem_modify];split
  ·rename_i e;subst e;simp only[World.cell?] at h;rw[Array.getElem?_eq_getElem h2] at h;revert h;cases heap[a.block] with
   | cells c t f =>
     intro h;simp only at h;cases hs:a.spot with
     | some _=>rw[hs] at h;simp at h
     | none =>
       rw[hs] at h;simp only[Option.isSome_none,Bool.false_eq_true,if_false] at h ⊢;have A0:a.off<c.size:=(gL h);have hv:c[a.off]=v:=(Array.getElem?_eq_some_iff.1 h).2;congr 1;apply Array.ext
       ·simp
       ·intro j j1 j2;by_cases hj:a.off=j
        ·subst hj;simp[hv]
        ·exact Array.getElem_setIfInBounds_ne (by simpa using j1) hj
   | _=>intro _;rfl
  ·rfl
theorem oN {ps:List Nat}{v:Value}(h:v∈fM ps):v.oneCell'=true:=by
 simp only[fM,List.mem_map] at h;obtain⟨p,_,rfl⟩:=h;rfl
theorem xA (ps:List Nat)(i p:Nat):(fM ps).take i++.pointer (some ⟨p,0,none⟩)::(fM ps).drop i=fM (ps.take i++p::ps.drop i):=by
 simp[fM,List.map_take,List.map_drop]
theorem ri (b o p:Nat)(cs:Array Value)(T:TypeId)(es:Value)(ps:List Nat)(K:List (List UInt8))(E:Ent)(vs:Value)(i:Nat)(w:World)
 (hb:w.heap[b]?=some (.cells cs T (0,0)))(hc:cs[o+2]?=some es)(hE:al w p E vs)(hk:gz w es ps K)(hr:dK K)(hl:ps.length<1000000)(hkl:E.key.length<1000000)
 (hi:cX K E.key i)(hbp:b≠p)(hbe:es.ownBlock≠some b)(hpe:es.ownBlock≠some p)(hvb:vs.ownBlock≠some b)(hve:∀ g,vs.ownBlock=some g->es.ownBlock≠some g) :
 Calls Tryz.prog 257 #[.pointer (some ⟨b,o,none⟩),.pointer (some ⟨p,0,none⟩)] w λ e w'=>∃ g cap,(∃ v,e=.returned v) /\
  w'.heap[b]?=some (.cells (cs.setIfInBounds (o+2) (.slice (some ⟨g,0,none⟩) (ps.length+1) cap)) T (0,0)) /\
  w'.ownsRow 0 170 1 (.slice (some ⟨g,0,none⟩) (ps.length+1) cap) (ps.length+1) (fM (ps.take i++p::ps.drop i))/\(es.ownBlock=some g\/w.heap.size<=g) /\
  al w' p E vs/\Off (λ k=>k=b\/k=p\/es.ownBlock=some k) w w':=by
 have HB:Hid _:=hb;have HC:Hid _:=hc;have HE:Hid _:=hE;have HK:Hid _:=hk;have HI:Hid _:=hi;clear hb hc hE hk hi;have c0:=HE.out.c0;have f0:=HE.out.fz 0;have As:=HE.out.lt;have A7:b<w.heap.size:=(gL HB.out);go_enter Tryz.func257,Tryz.ntmps257;go_wp2_with fail;refine (iM ⟨E.key.toArray⟩ _ (by rw[Lib.size_eq];simp;omega)).mono ?_;rintro e w1 ⟨rfl,A4⟩;have c1:=(A4.cell (p:=⟨p,0,none⟩) As).trans c0;have f1:w1.frozen? ⟨p,0,none⟩=false:=(HE.out.below A4).fz 0;have Ar:=s9 c1;have Aa:Hid (Below w.heap.size w w1):=A4;have Aj:w1.cell? ⟨b,o+2,none⟩=some es:=by have:=(A4.block b A7).trans HB.out;simp[World.cell?,this,HC.out]
 have Ad:p<w1.heap.size:=(HE.out.below A4).lt;clear A4 c0 f0;go_wp2_with fail;refine (gG b o es ps K E.key _ Aj (HK.out.below Aa.out) hr hl).mono ?_;rintro e w2 ⟨⟨j,hj,rfl⟩,Ag⟩;obtain rfl:=hj.uniq HI.out;obtain⟨fd,Ah⟩:∃ fd,(K[j]?==some E.key)=fd:=⟨_,rfl⟩;rw[Ah];have A3:Hid (Below w.heap.size w w2):=Aa.out.trans (Ag.mono Aa.out.size);have A1:w2.heap[b]?=some (.cells cs T (0,0)):=(A3.out.block b A7).trans HB.out;have Ak:w2.cell? ⟨b,o+2,none⟩=some es:=by simp[World.cell?,A1,HC.out]
 have Ap:p<w2.heap.size:=Nat.lt_of_lt_of_le Ad Ag.size;have A8:b<w2.heap.size:=(gL A1);have At:j<=ps.length:=by have:=HI.out.le;rw[HK.out.len] at this;exact this
 have Aq:Hid _:=A1;clear A1 Ag hj Ah Aa Aj c1 f1 Ar;go_wp2_with fail;have Ae:Below w2.heap.size w2 (w2.alloc (.cells #[.pointer (some ⟨p,0,none⟩)] 170)):=(Below.refl _ _).alloc (Nat.le_refl _) _;have Ai:=HK.out.below A3.out;have An:es.ownBlock≠some w2.heap.size:=by
  intro e;rcases HK.out.row.2 with ⟨rfl,_⟩|⟨g,cap,A5,rfl,_,hg,_⟩
  ·cases e
  ·have h1:g<w.heap.size:=(gL hg);have h2:=A3.out.size;simp only[Value.ownBlock,Option.some.injEq] at e;omega
 refine (tC es ps.length j (fM ps) w2.heap.size (.pointer (some ⟨p,0,none⟩)) _ (bT Ai.row Ae) (λ v hv=>oN hv) rfl (heap_alloc_new _ _) At An hl).mono ?_;rintro e w3 ⟨g,cap,rfl,A6,hg,A0⟩;have Ab:w3.heap[b]?=some (.cells cs T (0,0)):=by rw[A0.block b (by simp;omega) hbe,heap_alloc_old _ _ A8];exact Aq.out
 have c3:w3.cell? ⟨b,o+2,none⟩=some es:=by simp[World.cell?,Ab,HC.out]
 have f3:w3.frozen? ⟨b,o+2,none⟩=false:=by simp[World.frozen?,Ab]
 have HO:Hid (Off (λ k=>k=b\/k=p\/es.ownBlock=some k) w w3):=((Off.of_below A3.out).alloc _).trans' A0 (λ k _ hk=>Or.inr (Or.inr hk));have HR:Hid _:=A6;have HG:Hid _:=hg;have Al:Hid _:=Ab;have Af:Hid (al w3 p E vs):=by
  have Ac:=(HE.out.below A3.out).below Ae;refine⟨(A0.block p (by simp;omega) hpe).trans Ac.blk,Ac.row.1,?_⟩;rcases Ac.row.2 with h0|⟨g',A2,A5,hv,h1,A9,h2⟩
  ·exact Or.inl h0
  ·refine Or.inr ⟨g',A2,A5,hv,h1,?_,h2⟩;exact (A0.block g' (gL A9) (hve g' (by rw[hv];rfl))).trans A9
 clear A6 hg Ab A0 Ae Ai;go_wp2;have Am:g≠b:=by
  intro e;rcases HG.out with h|h
  ·exact hbe (e ▸ h)
  ·have h1:w.heap.size<=w2.heap.size:=A3.out.size;simp at h;omega
 have Au:g≠p:=by
  intro e;rcases HG.out with h|h
  ·exact hpe (e ▸ h)
  ·simp at h;omega
 refine bodyPost_end (results_none Tryz.results257 _ _ _) rfl ⟨g,cap,⟨_,rfl⟩,ah Al.out,?_,?_,?_,HO.out.set b _ _ (Or.inl (Or.inl rfl))⟩
 ·have h0:=HR.out;rw[xA] at h0;refine⟨h0.1,?_⟩;rcases h0.2 with ⟨hc,_⟩|⟨g',A2,A5,hv,h1,hg,h2⟩
  ·cases hc
  ·cases hv;refine Or.inr ⟨g,cap,A5,rfl,h1,?_,h2⟩;rw[<- hg];simp[World.setCell,Array.getElem?_modify,Ne.symm Am]
 ·rcases HG.out with h|h
  ·exact Or.inl h
  ·have:=A3.out.size;simp at h;exact Or.inr (by omega)
 ·refine⟨?_,Af.out.row.1,?_⟩
  ·rw[<- Af.out.blk];simp[World.setCell,Array.getElem?_modify,hbp]
  ·rcases Af.out.row.2 with h0|⟨g',A2,A5,hv,h1,A9,h2⟩
   ·exact Or.inl h0
   ·refine Or.inr ⟨g',A2,A5,hv,h1,?_,h2⟩;(have Ao:b≠g':=λ e=>by subst e;apply hvb;rw[hv];rfl);rw[<- A9];simp[World.setCell,Array.getElem?_modify,Ao]
theorem al.off {w x:World}{p:Nat}{E:Ent}{vs:Value}{S:Nat->Prop}(h:al w p E vs)(ho:Off S w x)(hp:¬ S p)(hv:∀ g,vs.ownBlock=some g->¬ S g):al x p E vs:=by
 refine⟨(ho.block p h.lt hp).trans h.blk,h.row.1,?_⟩;rcases h.row.2 with h0|⟨g,A2,A1,A0,h1,hg,h2⟩
 ·exact Or.inl h0
 ·exact Or.inr ⟨g,A2,A1,A0,h1,(ho.block g (gL hg) (hv g (by rw[A0];rfl))).trans hg,h2⟩
theorem qk (b o p:Nat)(E:Ent)(vs:Value)(t n:Nat)(key body:List UInt8)(w:World)(h:al w p E vs)(hp:vs.ownBlock≠some p)(hl:E.vers.length<1000000)(i:Nat)(hn:cV E.vers n=some i) :
 Calls Tryz.prog 207 #[.pointer (some ⟨b,o,none⟩),.pointer (some ⟨p,0,none⟩),bt 3 t key n body] w λ e w'=>(∃ v,e=.returned v)/\∃ vs',al w' p ⟨E.key,E.last,E.vers.eraseIdx i⟩ vs'/\vs'.ownBlock=vs.ownBlock/\Off (λ k=>k=p\/vs.ownBlock=some k) w w':=by
 have A0:Below w.heap.size w (w.alloc (.cells #[.int .u8 3,.int .i64 t,.string ⟨key.toArray⟩,.int .i64 n,.string ⟨body.toArray⟩] 181)):=(Below.refl _ _).alloc (Nat.le_refl _) _;have HE:Hid _:=h.below A0;have HA:Hid _:=A0;clear h A0;go_enter Tryz.func207,Tryz.ntmps207;go_wp2_with fail;refine (sG p E vs n _ HE.out hp hl i hn).mono ?_;rintro e w1 ⟨⟨v,rfl⟩,vs',A1,A3,A2⟩;have H1:Hid _:=A1;have H2:Hid _:=A2;clear A1 A2;go_wp2;exact bodyPost_ret (results_none Tryz.results207 _ _ _) rfl ⟨⟨_,rfl⟩,vs',H1.out,A3,(Off.of_below HA.out).trans H2.out⟩
theorem kV (b o p:Nat)(E:Ent)(vs:Value)(k t n:Nat)(key body:List UInt8)(w:World)(h:al w p E vs)(hp:vs.ownBlock≠some p)(hl:E.vers.length<1000000)(hb:body.length<1000000)(hk:k≠3)(hla:0<E.last) :
 Calls Tryz.prog 207 #[.pointer (some ⟨b,o,none⟩),.pointer (some ⟨p,0,none⟩),bt k t key n body] w λ e w'=>(∃ v,e=.returned v)/\∃ g cap,al w' p ⟨E.key,n,E.vers++[⟨n,t,k==2,body⟩]⟩ (.slice (some ⟨g,0,none⟩) (E.vers.length+1) cap)/\(vs.ownBlock=some g\/w.heap.size<=g)/\Off (λ k=>k=p\/vs.ownBlock=some k) w w':=by
 have A0:Below w.heap.size w (w.alloc (.cells #[.int .u8 k,.int .i64 t,.string ⟨key.toArray⟩,.int .i64 n,.string ⟨body.toArray⟩] 181)):=(Below.refl _ _).alloc (Nat.le_refl _) _;have HE:Hid _:=h.below A0;have HA:Hid _:=A0;clear h A0;have A5:((k:Int)==3)=false:=beq_eq_false_iff_ne.2 (by omega);have A3:decide (0<E.last)=true:=by simpa using hla
 go_enter Tryz.func207,Tryz.ntmps207;go_wp2_with fail;refine (bO p E vs _ HE.out).mono ?_;rintro e w1 ⟨rfl,rfl⟩;rw[A3];go_wp2_with fail;refine (qg p E vs k t n key body _ HE.out hp hl hb).mono ?_;rintro e w2 ⟨g,cap,⟨v,rfl⟩,A1,A4,A2⟩;have H1:Hid _:=A1;have H2:Hid _:=A2;clear A1 A2;go_wp2;exact bodyPost_end (results_none Tryz.results207 _ _ _) rfl ⟨⟨_,rfl⟩,g,cap,H1.out,A4.imp_right (λ h=>by simp at h;omega),(Off.of_below HA.out).trans H2.out⟩
theorem nO (b o p:Nat)(cs:Array Value)(T:TypeId)(es:Value)(ps:List Nat)(K:List (List UInt8))(E:Ent)(vs:Value)(i:Nat)(k t n:Nat)(key body:List UInt8)(w:World)
 (hbk:w.heap[b]?=some (.cells cs T (0,0)))(hc:cs[o+2]?=some es)(hE:al w p E vs)(hky:gz w es ps K)(hr:dK K)(hl:ps.length<1000000)(hkl:E.key.length<1000000)
 (hi:cX K E.key i)(hbp:b≠p)(hbe:es.ownBlock≠some b)(hpe:es.ownBlock≠some p)(hvb:vs.ownBlock≠some b)(hve:∀ g,vs.ownBlock=some g->es.ownBlock≠some g)
 (hp:vs.ownBlock≠some p)(hl2:E.vers.length<1000000)(hbl:body.length<1000000)(hk:k≠3)(hla:E.last=0) :
 Calls Tryz.prog 207 #[.pointer (some ⟨b,o,none⟩),.pointer (some ⟨p,0,none⟩),bt k t key n body] w λ e w'=>(∃ v,e=.returned v)/\∃ g cap g2 cap2,
  w'.heap[b]?=some (.cells (cs.setIfInBounds (o+2) (.slice (some ⟨g,0,none⟩) (ps.length+1) cap)) T (0,0)) /\
  w'.ownsRow 0 170 1 (.slice (some ⟨g,0,none⟩) (ps.length+1) cap) (ps.length+1) (fM (ps.take i++p::ps.drop i))/\(es.ownBlock=some g\/w.heap.size<=g) /\
  al w' p ⟨E.key,n,E.vers++[⟨n,t,k==2,body⟩]⟩ (.slice (some ⟨g2,0,none⟩) (E.vers.length+1) cap2)/\(vs.ownBlock=some g2\/w.heap.size<=g2) /\
  Off (λ k=>k=b\/k=p\/es.ownBlock=some k\/vs.ownBlock=some k) w w':=by
 have A3:Below w.heap.size w (w.alloc (.cells #[.int .u8 k,.int .i64 t,.string ⟨key.toArray⟩,.int .i64 n,.string ⟨body.toArray⟩] 181)):=(Below.refl _ _).alloc (Nat.le_refl _) _;have HE:Hid _:=hE.below A3;have HK:Hid _:=hky.below A3;have A9:b<w.heap.size:=(gL hbk);have Ak:Hid _:=(A3.block b A9).trans hbk;have HA:Hid _:=A3;have HI:Hid _:=hi;have HR:Hid _:=hr;have A5:∀ g,vs.ownBlock=some g->g<w.heap.size:=λ g h=>(hE.row.lt g h).2;have Al:Hid _:=A5;have Af:p<w.heap.size:=hE.lt;have Ag:Hid (es.ownBlock≠some w.heap.size):=λ e=>absurd (hky.row.lt _ e).2 (Nat.lt_irrefl _);clear hE A3 hky hbk hi hr A5;have Ao:((k:Int)==3)=false:=beq_eq_false_iff_ne.2 (by omega);have Ah:decide (0<E.last)=false:=by simp[hla]
 go_enter Tryz.func207,Tryz.ntmps207;go_wp2_with fail;refine (bO p E vs _ HE.out).mono ?_;rintro e w1 ⟨rfl,rfl⟩;rw[Ah];go_wp2_with fail;refine (ri b o p cs T es ps K E vs i _ Ak.out hc HE.out HK.out HR.out hl hkl HI.out hbp hbe hpe hvb hve).mono ?_;rintro e w2 ⟨g,cap,⟨v,rfl⟩,Ae,A1,A7,Ab,Aa⟩;have A2:w2.heap[w.heap.size]?=some (.cells #[.int .u8 k,.int .i64 t,.string ⟨key.toArray⟩,.int .i64 n,.string ⟨body.toArray⟩] 181 (0,0)) :=
  (Aa.block w.heap.size (by simp) (by rintro (h|h|h);omega;omega;exact Ag.out h)).trans (heap_alloc_new _ _)
 have r0:w2.cell? ⟨w.heap.size,0,none⟩=some (.int .u8 k):=by simp[World.cell?,A2]
 have r1:w2.cell? ⟨w.heap.size,1,none⟩=some (.int .i64 t):=by simp[World.cell?,A2]
 have r2:w2.cell? ⟨w.heap.size,2,none⟩=some (.string ⟨key.toArray⟩):=by simp[World.cell?,A2]
 have r3:w2.cell? ⟨w.heap.size,3,none⟩=some (.int .i64 n):=by simp[World.cell?,A2]
 have r4:w2.cell? ⟨w.heap.size,4,none⟩=some (.string ⟨body.toArray⟩):=by simp[World.cell?,A2]
 have H1:Hid _:=Ae;have H2:Hid _:=A1;have H3:Hid _:=Ab;have H4:Hid _:=Aa;clear Ae A1 Ab Aa A2;go_wp2_with fail;refine (qg p E vs k t n key body _ H3.out hp hl2 hbl).mono ?_;rintro e w3 ⟨g3,A8,⟨v3,rfl⟩,Ad,Ai,A6⟩;have A4:b<w2.heap.size:=(gL H1.out);have Ac:=(A6.block b A4 (by rintro (h|h);exact hbp h;exact hvb h)).trans H1.out;have Aj:g≠p:=by
  intro e;rcases A7 with h|h
  ·exact hpe (e ▸ h)
  ·simp at h;omega
 have A0:w3.ownsRow 0 170 1 (.slice (some ⟨g,0,none⟩) (ps.length+1) cap) (ps.length+1) (fM (ps.take i++p::ps.drop i)):=by
  refine⟨H2.out.1,?_⟩;rcases H2.out.2 with h0|⟨g',An,Am,hv,h1,hg,h2⟩
  ·exact Or.inl h0
  ·cases hv;refine Or.inr ⟨g,cap,Am,rfl,h1,?_,h2⟩;refine (A6.block g (gL hg) ?_).trans hg;rintro (h|h)
   ·exact Aj h
   ·rcases A7 with h'|h'
    ·exact hve g h h'
    ·have:=Al.out g h;simp at h';omega
 have H5:Hid _:=Ad;have H6:Hid _:=Ac;have H7:Hid _:=A0;have H8:Hid _:=A6;clear Ad Ac A0 A6;go_wp2;refine bodyPost_end (results_none Tryz.results207 _ _ _) rfl ⟨⟨_,rfl⟩,g,cap,g3,A8,H6.out,H7.out,A7.imp_right (λ h=>by simp at h;omega),H5.out,Ai.imp_right (λ h=>?_),?_⟩
 ·have h5:=H4.out.size;simp at h5;omega
 ·refine ((Off.of_below HA.out).trans' H4.out (λ k _ h=>?_)).trans' H8.out (λ k _ h=>?_)
  ·rcases h with h|h|h
   ·exact Or.inl h
   ·exact Or.inr (Or.inl h)
   ·exact Or.inr (Or.inr (Or.inl h))
  ·rcases h with h|h
   ·exact Or.inr (Or.inl h)
   ·exact Or.inr (Or.inr (Or.inr h))
open Go.RowKit Go.MuLone
noncomputable def jz (P:Program)(ts:Array TypeId)(ty:TypeId)(w:World)(args:Array Value):Value×World :=
 match (Builtin.append_ ts ty args).run P w with
 | .ok v w'=>(v,w')
 | _=>(undef,w)
def su (P:Program)(ts:Array TypeId)(ty:TypeId)(w:World)(args:Array Value):Prop:=∃ v w',(Builtin.append_ ts ty args).run P w=.ok v w'
theorem wM {P:Program}{ts:Array TypeId}{ty:TypeId}{w:World}{args:Array Value}(h:su P ts ty w args) :
 (xC ts ty args).run P w=.ok (jz P ts ty w args).1 (jz P ts ty w args).2:=by
 obtain⟨v,w',h⟩:=h;simp only[jz,xC,h]
theorem za {P:Program}{ts:Array TypeId}{ty:TypeId}{w w':World}{args:Array Value}{v:Value}(h:(Builtin.append_ ts ty args).run P w=.ok v w') :
 su P ts ty w args/\(jz P ts ty w args).1=v/\(jz P ts ty w args).2=w':=⟨⟨v,w',h⟩,by simp only[jz,h],by simp only[jz,h]⟩
theorem sg {P:Program}(w:World)(t u ty e:TypeId)(i:TypeInfo)(ht:P.underlying t=some (.slice e))(hu:P.underlying u=some .string)(hi:P.info? e=some i)(hz:i.zero=some (.int .u8 0))(hsize:i.size=1)(hby:i.bytes=1)
 (v:Value)(n:Nat)(xs:List Value)(hown:w.ownsRow 0 e 1 v n xs)(s:ByteArray)(hs:0<s.size)(hb:n+s.size<=140737488355328)(v':Value)(w':World)(hr:(Builtin.append_ #[t,u] ty #[v,.string s]).run P w=.ok v' w') :
 v'.ownBlock=v.ownBlock\/v'.ownBlock=some w.heap.size:=by
 rcases hown.2 with ⟨rfl,rfl⟩|⟨g,A0,A1,rfl,_,hg,hn,hm,hc,A2⟩
 ·have h:=run_append_nil_string (P:=P) w t u ty e i (.int .u8 0) ht hu hi hz s (by omega) (by omega) (by rw[hby];omega);rw[h] at hr;injection hr with h1;rw[<- h1];exact Or.inr rfl
 ·by_cases hroom:n+s.size<=A0
  ·have h:=Lib.run_append_room_string (P:=P) w t u ty e i ht hu hi hsize g n A0 A1 hg s hroom (by omega);rw[h] at hr;injection hr with h1;rw[<- h1];exact Or.inl rfl
  ·have h:=Lib.run_append_grow_string (P:=P) w t u ty e i (.int .u8 0) ht hu hi hz ⟨g,0,none⟩ n A0 xs (by rw[hsize];exact hown.1) (hown.cells (g:=g) rfl) s (by omega) (by omega) (by rw[hby];exact growslice_fits (by omega) (by omega));rw[h] at hr;injection hr with h1;rw[<- h1];exact Or.inr rfl
attribute [local go_sem ↓] jU
attribute [local go_sem] wM
theorem j3 {u:World}{b off:Nat}{cs:Array Value}{T:TypeId}{jr:Value}(h:u.heap[b]?=some (.cells ((cs.setIfInBounds off (.int .i32 1)).setIfInBounds (off+4) jr) T (0,0)))(h0:cs[off]?=some (.int .i32 0)) :
 (u.setCell ⟨b,off,none⟩ (.int .i32 0)).heap[b]?=some (.cells (cs.setIfInBounds (off+4) jr) T (0,0)):=by
 rw[ah h];congr 2;apply Array.ext_getElem?;intro i;have A0:=(gL h0);simp only[Array.getElem?_setIfInBounds,Array.size_setIfInBounds];by_cases e:off=i
 ·subst e;simp[A0];exact (Array.getElem?_eq_some_iff.1 h0).2.symm
 ·by_cases e4:off+4=i
  ·simp[e,e4]
  ·simp[e,e4]
theorem Byt.set_far {w:World}{base:Nat}{v:Value}{l:List UInt8}(h:Byt w base v l){b i:Nat}{x:Value}(hb:v.ownBlock≠some b):Byt (w.setCell ⟨b,i,none⟩ x) base v l:=by
 refine⟨h.1,?_⟩;rcases h.2 with h0|⟨g,A1,A0,hv,h1,hg,h2⟩
 ·exact Or.inl h0
 ·refine Or.inr ⟨g,A1,A0,hv,h1,?_,h2⟩;(have A2:b≠g:=λ e=>by subst e;apply hb;rw[hv];rfl);rw[<- hg];simp[World.setCell,Array.getElem?_modify,A2]
theorem Bk {g b n:Nat}{o:Option Nat}(h:some g=o\/n<=g)(ho:o≠some b)(hb:b<n):g≠b:=by
 intro e;subst e;rcases h with h|h
 ·exact ho h.symm
 ·omega
theorem iL (b off:Nat)(cs:Array Value)(T:TypeId)(t kd t0 n:Nat)(key body:List UInt8)(jr:Value)(J:List UInt8)(w:World)
 (hb:w.heap[b]?=some (.cells cs T (0,0)))(h0:cs[off]?=some (.int .i32 0))(h2:cs[off+2]?=some (.int .i64 t))(h4:cs[off+4]?=some jr)(hj:Byt w 0 jr J)(hjb:jr.ownBlock≠some b)
 (hk:kd<256)(ht:t<9223372036854775807)(hn:n<9223372036854775807)(hkl:key.length<100000)(hbl:body.length<100000)(hJ:J.length<140000000000000) :
 Calls Tryz.prog 234 #[.pointer (some ⟨b,off,none⟩),.agg #[.int .u8 kd,.int .i64 t0,.string ⟨key.toArray⟩,.int .i64 n,.string ⟨body.toArray⟩]] w λ e w'=>e=.returned (.int .i64 t) /\
  ∃ jr',w'.heap[b]?=some (.cells (cs.setIfInBounds (off+4) jr') T (0,0))/\Byt w' 0 jr' (J++aF kd t key n body)/\(jr'.ownBlock=jr.ownBlock\/∃ g,jr'.ownBlock=some g/\w.heap.size<=g)/\Off (λ k=>k=b\/jr.ownBlock=some k) w w':=by
 obtain⟨i0,Ao,Av,Aq,Ar⟩:=info_parts pw;have c0:w.cell? ⟨b,off,none⟩=some (.int .i32 0):=by simp[World.cell?,hb,h0]
 have c2:w.cell? ⟨b,off+2,none⟩=some (.int .i64 t):=by simp[World.cell?,hb,h2]
 have c4:w.cell? ⟨b,off+4,none⟩=some jr:=by simp[World.cell?,hb,h4]
 have f0:w.frozen? ⟨b,off,none⟩=false:=by simp[World.frozen?,hb]
 have Ad:b<w.heap.size:=(gL hb);go_enter_defers Tryz.func234,Tryz.ntmps234;have a0:(w.alloc (.cells #[.int .u8 kd,.int .i64 t0,.string ⟨key.toArray⟩,.int .i64 n,.string ⟨body.toArray⟩] 181)).cell? ⟨b,off,none⟩=some (.int .i32 0):=by simp[World.cell?,heap_alloc_old _ _ Ad,hb,h0]
 have z0:(w.alloc (.cells #[.int .u8 kd,.int .i64 t0,.string ⟨key.toArray⟩,.int .i64 n,.string ⟨body.toArray⟩] 181)).frozen? ⟨b,off,none⟩=false:=by simp[World.frozen?,heap_alloc_old _ _ Ad,hb]
 go_wp2_with (go_at_call 83;refine (lock_free Tryz.muLib ⟨b,off,none⟩ _ a0 z0).mono ?_;rintro e w' ⟨rfl,rfl⟩);obtain⟨x,hx⟩:∃ x,x=(w.setCell ⟨b,off,none⟩ (.int .i32 1)).alloc (.cells #[.int .u8 kd,.int .i64 t,.string ⟨key.toArray⟩,.int .i64 n,.string ⟨body.toArray⟩] 181):=⟨_,rfl⟩;rw[<- hx];have Am:x.heap.size=w.heap.size+1:=by rw[hx];simp
 have hO:Off (λ k=>k=b\/jr.ownBlock=some k) w x:=by rw[hx];exact ((Off.refl _ _).set b off _ (Or.inl (Or.inl rfl))).alloc _
 have hB:x.heap[b]?=some (.cells (cs.setIfInBounds off (.int .i32 1)) T (0,0)):=by rw[hx,heap_alloc_old _ _ (by simpa using Ad)];exact ah hb
 have hR:Byt x 0 jr J:=by
  refine⟨hj.1,?_⟩;rcases hj.2 with h0|⟨g,A0,Ah,hv,h1,hg,h2⟩
  ·exact Or.inl h0
  ·refine Or.inr ⟨g,A0,Ah,hv,h1,?_,h2⟩;(have B4:b≠g:=λ e=>by subst e;apply hjb;rw[hv];rfl);rw[hx,heap_alloc_old _ _ (by simpa using (gL hg)),<- hg];simp[World.setCell,Array.getElem?_modify,B4]
 have hC:x.heap[w.heap.size]?=some (.cells #[.int .u8 kd,.int .i64 t,.string ⟨key.toArray⟩,.int .i64 n,.string ⟨body.toArray⟩] 181 (0,0)):=by rw[hx];have:=heap_alloc_new (w.setCell ⟨b,off,none⟩ (.int .i32 1)) (.cells #[.int .u8 kd,.int .i64 t,.string ⟨key.toArray⟩,.int .i64 n,.string ⟨body.toArray⟩] 181);simpa using this
 have B3:jr.ownBlock≠some w.heap.size:=λ e=>absurd (hj.lt _ e).2 (Nat.lt_irrefl _);have Az:b≠w.heap.size:=by omega
 clear hx c2 c4 a0 z0;have HB:Hid _:=hB;have HC:Hid _:=hC;have HR:Hid _:=hR;have HO:Hid _:=hO;have B7:Hid _:=Am;have HW:Hid _:=hb;have H0:Hid _:=h0;have H2:Hid _:=h2;have H4:Hid _:=h4;have B8:Hid _:=hj;have A9:b<x.heap.size:=by omega
 have At:w.heap.size<x.heap.size:=by omega
 have c4:x.cell? ⟨b,off+4,none⟩=some jr:=by simp[World.cell?,hB,h4]
 have c2:x.cell? ⟨b,off+2,none⟩=some (.int .i64 t):=by simp[World.cell?,hB,h2]
 have f4:x.frozen? ⟨b,off+4,none⟩=false:=by simp[World.frozen?,hB]
 have b0:x.cell? ⟨w.heap.size,0,none⟩=some (.int .u8 (kd:Int)):=by simp[World.cell?,hC]
 have b1:x.cell? ⟨w.heap.size,1,none⟩=some (.int .i64 (t:Int)):=by simp[World.cell?,hC]
 have b2:x.cell? ⟨w.heap.size,2,none⟩=some (.string ⟨key.toArray⟩):=by simp[World.cell?,hC]
 have b3:x.cell? ⟨w.heap.size,3,none⟩=some (.int .i64 (n:Int)):=by simp[World.cell?,hC]
 have b4:x.cell? ⟨w.heap.size,4,none⟩=some (.string ⟨body.toArray⟩):=by simp[World.cell?,hC]
 have Ac:off<cs.size:=(gL h0);have Au:off+4<cs.size:=(gL h4);clear hB hC hR hO Am hb h0 h2 h4 hj
 have HT:Hid (∀ w1,Below x.drew.heap.size x.drew w1->∃ g A0 w2,w1.cell? ⟨b,off+4,none⟩=some jr /\
  su Tryz.prog #[115,9] 115 w1 #[jr,.string ⟨(aF kd t key n body).toArray⟩]/\(jz Tryz.prog #[115,9] 115 w1 #[jr,.string ⟨(aF kd t key n body).toArray⟩]).1=(.slice (some ⟨g,0,none⟩) (J.length+(aF kd t key n body).length) A0)/\(jz Tryz.prog #[115,9] 115 w1 #[jr,.string ⟨(aF kd t key n body).toArray⟩]).2=w2/\w2.cell? ⟨b,off+4,none⟩=some jr/\w2.frozen? ⟨b,off+4,none⟩=false /\
  (w1.cell? ⟨w.heap.size,0,none⟩=some (.int .u8 (kd:Int))/\w1.cell? ⟨w.heap.size,1,none⟩=some (.int .i64 (t:Int))/\w1.cell? ⟨w.heap.size,2,none⟩=some (.string ⟨key.toArray⟩)/\w1.cell? ⟨w.heap.size,3,none⟩=some (.int .i64 (n:Int))/\w1.cell? ⟨w.heap.size,4,none⟩=some (.string ⟨body.toArray⟩))/\(w2.cell? ⟨w.heap.size,0,none⟩=some (.int .u8 (kd:Int))/\w2.cell? ⟨w.heap.size,1,none⟩=some (.int .i64 (t:Int))/\w2.cell? ⟨w.heap.size,2,none⟩=some (.string ⟨key.toArray⟩)/\w2.cell? ⟨w.heap.size,3,none⟩=some (.int .i64 (n:Int))/\w2.cell? ⟨w.heap.size,4,none⟩=some (.string ⟨body.toArray⟩))/\((w2.setCell ⟨b,off+4,none⟩ (.slice (some ⟨g,0,none⟩) (J.length+(aF kd t key n body).length) A0)).cell? ⟨w.heap.size,0,none⟩=some (.int .u8 (kd:Int))/\(w2.setCell ⟨b,off+4,none⟩ (.slice (some ⟨g,0,none⟩) (J.length+(aF kd t key n body).length) A0)).cell? ⟨w.heap.size,1,none⟩=some (.int .i64 (t:Int))/\(w2.setCell ⟨b,off+4,none⟩ (.slice (some ⟨g,0,none⟩) (J.length+(aF kd t key n body).length) A0)).cell? ⟨w.heap.size,2,none⟩=some (.string ⟨key.toArray⟩)/\(w2.setCell ⟨b,off+4,none⟩ (.slice (some ⟨g,0,none⟩) (J.length+(aF kd t key n body).length) A0)).cell? ⟨w.heap.size,3,none⟩=some (.int .i64 (n:Int))/\(w2.setCell ⟨b,off+4,none⟩ (.slice (some ⟨g,0,none⟩) (J.length+(aF kd t key n body).length) A0)).cell? ⟨w.heap.size,4,none⟩=some (.string ⟨body.toArray⟩)) /\
  ((w2.setCell ⟨b,off+4,none⟩ (.slice (some ⟨g,0,none⟩) (J.length+(aF kd t key n body).length) A0)).heap[b]?=some (.cells ((cs.setIfInBounds off (.int .i32 1)).setIfInBounds (off+4) (.slice (some ⟨g,0,none⟩) (J.length+(aF kd t key n body).length) A0)) T (0,0))/\Byt (w2.setCell ⟨b,off+4,none⟩ (.slice (some ⟨g,0,none⟩) (J.length+(aF kd t key n body).length) A0)) 0 (.slice (some ⟨g,0,none⟩) (J.length+(aF kd t key n body).length) A0) (J++aF kd t key n body)/\(some g=jr.ownBlock\/w.heap.size<=g)/\Off (λ k=>k=b\/jr.ownBlock=some k) w (w2.setCell ⟨b,off+4,none⟩ (.slice (some ⟨g,0,none⟩) (J.length+(aF kd t key n body).length) A0)))):=by
  intro w1 A1;have A1:Below x.heap.size x w1:=⟨A1.os,A1.tape,A1.output,A1.size,A1.block⟩;have Aw:w1.heap[b]?=_:=(A1.block b A9).trans HB.out;have As:w1.heap[w.heap.size]?=_:=(A1.block _ At).trans HC.out;have Ap:=Byt.below (base:=0) (l:=J) HR.out A1;have Aj:b<w1.heap.size:=Nat.lt_of_lt_of_le A9 A1.size;have Ay:w.heap.size<w1.heap.size:=Nat.lt_of_lt_of_le At A1.size;have Ak:=de kd t key n body;(have B9:(⟨(aF kd t key n body).toArray⟩:ByteArray).size=20+key.length+body.length:=by rw[Lib.size_eq];exact Ak);obtain⟨v',w2,A8,Ag,A3,B5⟩:=Lib.run_append_own_string (P:=Tryz.prog) w1 0 115 9 115 5 i0 Tryz.underlying115 Tryz.underlying9 Ao Av Aq Ar jr J.length (u8s J) Ap ⟨(aF kd t key n body).toArray⟩ (by unfold maxLen;omega) (by omega) (by omega);(have A4:Byt w2 0 v' (J++aF kd t key n body):=by rw[Lib.size_eq,j5,<- uC] at Ag;unfold Byt;rw[List.length_append];exact Ag);have B0:=sg (P:=Tryz.prog) w1 115 9 115 5 i0 Tryz.underlying115 Tryz.underlying9 Ao Av Aq Ar jr J.length (u8s J) Ap ⟨(aF kd t key n body).toArray⟩ (by omega) (by omega) v' w2 A8;obtain⟨g,A0,rfl⟩:∃ g A0,v'=(.slice (some ⟨g,0,none⟩) (J.length+(aF kd t key n body).length) A0):=by
   rcases A4.2 with ⟨_,h0⟩|⟨g,A0,Ah,hv,_⟩
   ·rw[List.length_append,Ak] at h0;omega
   ·rw[List.length_append] at hv;exact⟨g,A0,hv⟩
  have An:some g=jr.ownBlock\/w1.heap.size<=g:=by
   rcases B0 with h|h
   ·exact Or.inl h
   ·right;injection h with h;simp only at h;omega
  have B1:b≠g:=by
   intro e;rcases An with h|h
   ·exact hjb (h ▸ e ▸ rfl)
   ·omega
  have Ai:w2.heap[b]?=_:=(A3.block b Aj (Ne.symm hjb)).trans Aw;have Al:w2.heap[w.heap.size]?=_:=(A3.block _ Ay (Ne.symm B3)).trans As;(have Ax:(w2.setCell ⟨b,off+4,none⟩ (.slice (some ⟨g,0,none⟩) (J.length+(aF kd t key n body).length) A0)).heap[w.heap.size]?=some (.cells #[.int .u8 kd,.int .i64 t,.string ⟨key.toArray⟩,.int .i64 n,.string ⟨body.toArray⟩] 181 (0,0)):=by rw[<- Al];simp[World.setCell,Array.getElem?_modify,Az]);obtain⟨Ab,Ae,Af⟩:=za A8
  refine⟨g,A0,w2,by simp[World.cell?,Aw,H4.out],Ab,Ae,Af,by simp[World.cell?,Ai,H4.out],by simp[World.frozen?,Ai],by simp[World.cell?,As],by simp[World.cell?,Al],by simp only[World.cell?,Ax];simp,
   ah Ai,?_,An.imp_right (λ h=>by omega),?_⟩
  ·refine⟨A4.1,?_⟩;rcases A4.2 with ⟨hc,_⟩|⟨g',B2,Ah,hv,h1,hg,h2⟩
   ·cases hc
   ·injection hv with e1 e2 e3;injection e1 with e1;injection e1 with e1;subst e1;subst e3;refine Or.inr ⟨g,A0,Ah,by rw[List.length_append],h1,?_,h2⟩;rw[<- hg];simp[World.setCell,Array.getElem?_modify,B1]
  ·exact ((HO.out.trans (Off.of_below A1)).grown A3 (λ k hk=>Or.inl (Or.inr hk))).set b _ _ (Or.inl (Or.inl rfl))
 refine wp_region_noPanic ?_;refine wp_region_held_drew (S:=λ y=>(y.cell? ⟨w.heap.size,0,none⟩=some (.int .u8 (kd:Int))/\y.cell? ⟨w.heap.size,1,none⟩=some (.int .i64 (t:Int))/\y.cell? ⟨w.heap.size,2,none⟩=some (.string ⟨key.toArray⟩)/\y.cell? ⟨w.heap.size,3,none⟩=some (.int .i64 (n:Int))/\y.cell? ⟨w.heap.size,4,none⟩=some (.string ⟨body.toArray⟩))) (by kernel_rfl) ⟨b0,b1,b2,b3,b4⟩ (λ hHeld=>?_);refine tkI 0 hHeld ?_;try simp only[Act.put]
 refine tkI 1 hHeld ?_;try simp only[Act.put]
 refine tkI 2 hHeld ?_;try simp only[Act.put]
 refine tkI 3 hHeld ?_;try simp only[Act.put]
 refine tkI 5 hHeld ?_;try simp only[Act.put]
 refine wpAnyH_ready (rs:=[4,6]) (by kernel_rfl) (by simp) ?_;refine AllReadyH.cons rfl (λ K hK=>?_) (AllReadyH.cons rfl (λ K hK=>?_) AllReadyH.nil)
 ·go_simp;refine hK.out _ _ hHeld (λ _=>?_);clear hK K;(try simp only[Act.put]);refine rdI 6 (λ K hK=>?_);go_simp;refine (qW kd t n key body _ hk ht hn hkl hbl).mono ?_;rintro e w1 ⟨rfl,A1⟩;obtain⟨g,A0,w2,g2,Ab,Ae,Af,d4,z4,A7,Aa,A6,A2⟩:=HT.out w1 A1;have HF:Hid _:=A2;clear A2;(try go_wp2_with fail);refine hK.out _ _ A7 (λ hHeld1=>?_);clear hK K;(try simp only[Act.put]);refine rdI 7 (λ K hK=>?_);go_simp;refine hK.out _ _ Aa (λ hHeld3=>?_);clear hK K;(try simp only[Act.put]);refine tkI 8 hHeld3 ?_;(try simp only[Act.put]);refine tkI 9 hHeld3 ?_;(try simp only[Act.put]);refine rdI 10 (λ K hK=>?_);go_simp;refine hK.out _ _ A6 (λ hHeld4=>?_);clear hK K;(try simp only[Act.put]);refine wpAnyH_done (by kernel_rfl) ?_ _;refine NoPanic.normal ?_;obtain⟨u,hu⟩:∃ u,u=w2.setCell ⟨b,off+4,none⟩ (.slice (some ⟨g,0,none⟩) (J.length+(aF kd t key n body).length) A0):=⟨_,rfl⟩;rw[<- hu];rw[<- hu] at HF;have A5:=HF.out.1;(have u0:u.cell? ⟨b,off,none⟩=some (.int .i32 1):=by simp only[World.cell?,A5];simp[Ac]);(have u2:u.cell? ⟨b,off+2,none⟩=some (.int .i64 t):=by simp only[World.cell?,A5];simp[H2.out]);(have uf:u.frozen? ⟨b,off,none⟩=false:=by simp[World.frozen?,A5]);clear hHeld4 hHeld3 hHeld1 A7 Aa A6 hu Ae Af Ab d4 z4 g2;go_wp2;refine leaves_cons (f:=84) (args:=#[.pointer (some ⟨b,off,none⟩)]) (by simp) (by simp[go_sem]) ?_;refine (unlock_deferred Tryz.muLib ⟨b,off,none⟩ .returning _ u0 uf).mono ?_;rintro e u' B6 ⟨rfl,rfl,rfl⟩;exact⟨_,results_tmp rfl _ _ _,rfl,_,j3 A5 H0.out,Byt.set_far HF.out.2.1 (λ e=>(Bk HF.out.2.2.1 hjb Ad) (by injection e)),HF.out.2.2.1.elim Or.inl (λ h=>Or.inr ⟨_,rfl,h⟩),HF.out.2.2.2.set b off _ (Or.inl (Or.inl rfl))⟩
 ·go_simp;refine (qW kd t n key body _ hk ht hn hkl hbl).mono ?_;rintro e w1 ⟨rfl,A1⟩;obtain⟨g,A0,w2,g2,Ab,Ae,Af,d4,z4,A7,Aa,A6,A2⟩:=HT.out w1 A1;have HF:Hid _:=A2;clear A2;(try go_wp2_with fail);refine hK.out _ _ A7 (λ hHeld1=>?_);clear hK K;(try simp only[Act.put]);refine rdI 4 (λ K hK=>?_);go_simp;refine hK.out _ _ hHeld1 (λ _=>?_);clear hK K;(try simp only[Act.put]);refine rdI 7 (λ K hK=>?_);go_simp;refine hK.out _ _ Aa (λ hHeld3=>?_);clear hK K;(try simp only[Act.put]);refine tkI 8 hHeld3 ?_;(try simp only[Act.put]);refine tkI 9 hHeld3 ?_;(try simp only[Act.put]);refine rdI 10 (λ K hK=>?_);go_simp;refine hK.out _ _ A6 (λ hHeld4=>?_);clear hK K;(try simp only[Act.put]);refine wpAnyH_done (by kernel_rfl) ?_ _;refine NoPanic.normal ?_;obtain⟨u,hu⟩:∃ u,u=w2.setCell ⟨b,off+4,none⟩ (.slice (some ⟨g,0,none⟩) (J.length+(aF kd t key n body).length) A0):=⟨_,rfl⟩;rw[<- hu];rw[<- hu] at HF;have A5:=HF.out.1;(have u0:u.cell? ⟨b,off,none⟩=some (.int .i32 1):=by simp only[World.cell?,A5];simp[Ac]);(have u2:u.cell? ⟨b,off+2,none⟩=some (.int .i64 t):=by simp only[World.cell?,A5];simp[H2.out]);(have uf:u.frozen? ⟨b,off,none⟩=false:=by simp[World.frozen?,A5]);clear hHeld4 hHeld3 hHeld1 A7 Aa A6 hu Ae Af Ab d4 z4 g2;go_wp2;refine leaves_cons (f:=84) (args:=#[.pointer (some ⟨b,off,none⟩)]) (by simp) (by simp[go_sem]) ?_;refine (unlock_deferred Tryz.muLib ⟨b,off,none⟩ .returning _ u0 uf).mono ?_;rintro e u' B6 ⟨rfl,rfl,rfl⟩;exact⟨_,results_tmp rfl _ _ _,rfl,_,j3 A5 H0.out,Byt.set_far HF.out.2.1 (λ e=>(Bk HF.out.2.2.1 hjb Ad) (by injection e)),HF.out.2.2.1.elim Or.inl (λ h=>Or.inr ⟨_,rfl,h⟩),HF.out.2.2.2.set b off _ (Or.inl (Or.inl rfl))⟩
theorem zA (b off:Nat)(cs:Array Value)(T:TypeId)(jr:Value)(J:List UInt8)(w:World)
 (hb:w.heap[b]?=some (.cells cs T (0,0)))(h0:cs[off]?=some (.int .i32 0))(h4:cs[off+4]?=some jr)(hj:Byt w 0 jr J)(hjb:jr.ownBlock≠some b) :
 Calls Tryz.prog 65 #[.pointer (some ⟨b,off,none⟩)] w λ e w'=>e=.returned (.string ⟨J.toArray⟩)/\w'=w:=by
 have c0:w.cell? ⟨b,off,none⟩=some (.int .i32 0):=by simp[World.cell?,hb,h0]
 have f0:w.frozen? ⟨b,off,none⟩=false:=by simp[World.frozen?,hb]
 have c4:w.cell? ⟨b,off+4,none⟩=some jr:=by simp[World.cell?,hb,h4]
 have cv:=(Byt.set_far (i:=off) (x:=.int .i32 1) hj hjb).conv;clear hb h0 h4 hj hjb;go_enter_defers Tryz.func65,Tryz.ntmps65;go_wp2_with (go_at_call 83;refine (lock_free Tryz.muLib ⟨b,off,none⟩ _ c0 f0).mono ?_;rintro e w' ⟨rfl,rfl⟩);refine leaves_cons (f:=84) (args:=#[.pointer (some ⟨b,off,none⟩)]) (by simp) (by simp[go_sem]) ?_;refine (unlock_deferred Tryz.muLib ⟨b,off,none⟩ .returning _ ?_ ?_).mono ?_
 ·exact World.cell?_setCell_same w ⟨b,off,none⟩ (.int .i32 1) c0
 ·simp[f0]
 rintro e u' A0 ⟨rfl,rfl,rfl⟩;exact⟨_,results_tmp rfl _ _ _,rfl,dT c0 _⟩
end Go.Proofs.YtmehkneofinmiaaGreatDoor

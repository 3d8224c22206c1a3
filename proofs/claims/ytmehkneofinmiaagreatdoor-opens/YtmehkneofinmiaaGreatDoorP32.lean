/-part 32-/
import Derived.Test.YtmehkneofinmiaaGreatDoorP31
set_option maxRecDepth 100000
set_option maxHeartbeats 4000000
namespace Go.Proofs.YtmehkneofinmiaaGreatDoor
open Go.RowKit
theorem pD {w:World}{base:Nat}{e:TypeId}{size:Nat}{v:Value}{n:Nat}{xs:List Value}(h:w.ownsRow base e size v n xs){g j:Nat}(hg:v.ownBlock=some g)(u:Value):(w.setCell ⟨g,j,none⟩ u).ownsRow base e size v n (xs.set j u):=by
 refine⟨by rw[List.length_set];exact h.1,?_⟩;rcases h.2 with ⟨h0,_⟩|⟨g',A1,A0,hv,h1,A2,h2,h3,h4,h5⟩
 ·rw[h0] at hg;cases hg
 ·(obtain rfl:g'=g:=by rw[hv] at hg;simpa [Value.ownBlock] using hg);refine Or.inr ⟨g',A1,A0.setIfInBounds j u,hv,h1,ah A2,h2,h3,by simpa using h4,?_⟩;rw[Array.toList_setIfInBounds,List.take_set,h5]
theorem qb (l:List Itm)(i:Nat)(v:Itm)(h:l[i]?=some v):eA (l.set i ⟨v.key,v.num,v.time,v.mark,v.body,true⟩)=(eA l).set (i*6+5) (.bool true):=by
 induction l generalizing i with
 | nil=>simp at h
 | cons a l ih =>
   cases i with
   | zero =>simp at h;subst h;simp[eA,cW]
   | succ i =>(have h':l[i]?=some v:=by simpa using h);have:=ih i h';simp only[eA,List.set_cons_succ,List.flatMap_cons] at this ⊢;rw[this,show (i+1)*6+5=(cW a).length+(i*6+5) by simp[cW];omega,List.set_append_right _ _ (by omega)];congr 2;omega
theorem aC.apart {w:World}{p t:Nat}{l:List Itm}{J:List UInt8}{vs:Value}(h:aC w p t l J vs):vs.ownBlock≠some p:=λ e=>by
 rcases h.row.2 with ⟨h0,_⟩|⟨g,cap,cur,hv,_,hg,_⟩
 ·rw[h0] at e
  cases e
 ·rw[hv] at e
  cases e
  have:=h.blk.symm.trans hg
  injection this with h1
  injection h1 with _ h2
  exact absurd h2 (by decide)
theorem jT (p t:Nat)(l:List Itm)(J:List UInt8)(vs:Value)(i:Nat)(v:Itm)(w:World)(h:aC w p t l J vs)(hi:l[i]?=some v)(hJ:J.length<=900000000000000)(ht:t<4611686018427387904)(hn:v.num<4611686018427387904)(hk:v.key.length<=1000) :
 Calls Tryz.prog 166 #[.pointer (some ⟨p,0,none⟩),.int .i64 i] w λ e w'=>(∃ u,e=.returned u)/\aC w' p t (l.set i ⟨v.key,v.num,v.time,v.mark,v.body,true⟩) (J++aF 3 t v.key v.num []) vs/\Off (λ k=>k=p\/vs.ownBlock=some k) w w':=by
 have HA:Hid _:=h.apart;have HR:Hid _:=h;have Ak:i<l.length:=(List.getElem?_eq_some_iff.1 hi).1;have Ag:=h.few;obtain⟨a,c,Af,hI⟩:=h.itms;obtain⟨g,rfl,hg,i0,i1,i2,i3,i4,i5⟩:=hI i v hi;have c1:=h.c1;subst Af;have A3:g≠p:=λ e=>HA.out (by rw[e];rfl);have Aj:=h.lt;have Ai:(i:Int)<(l.length:Int):=by omega
 have Ae:w.frozen? ⟨g,i*6+5,none⟩=false:=by
  rcases h.row.2 with ⟨h0,_⟩|⟨g',Ad,Ac,hv,_,A8,_⟩
  ·cases h0
  ·cases hv;simp[World.frozen?,A8]
 have HX:Hid (aC (w.setCell ⟨g,i*6+5,none⟩ (.bool true)) p t (l.set i ⟨v.key,v.num,v.time,v.mark,v.body,true⟩) J (.slice (some ⟨g,0,none⟩) l.length c)):=by
  refine⟨?_,?_,by rw[List.length_set];exact h.few⟩
  ·rw[<- h.blk];simp[World.setCell,Array.getElem?_modify,A3]
  ·rw[List.length_set,qb l i v hi];exact pD h.row rfl _
 have HO:Hid (Off (λ k=>k=p\/(Value.slice (some ⟨g,0,none⟩) l.length c).ownBlock=some k) w (w.setCell ⟨g,i*6+5,none⟩ (.bool true))):=(Off.refl _ _).set g _ _ (Or.inl (Or.inr rfl));have A7:Hid _:=λ y=>iY 3 t v.num v.key [] y (by omega) ht hn hk (by simp);have Aa:=de 3 t v.key v.num [];obtain⟨R,hR⟩:∃ R,aF 3 t v.key v.num []=R:=⟨_,rfl⟩;rw[hR] at Aa A7 ⊢;have ha:=fj J R (by rw[Aa];simp;omega);clear hI h hR Aa hJ hn hk;go_enter Tryz.func166,Tryz.ntmps166;go_wp2_with fail;obtain⟨x,hx⟩:∃ x,w.setCell ⟨g,i*6+5,none⟩ (.bool true)=x:=⟨_,rfl⟩;rw[hx] at HX HO ⊢;have d0:=HX.out.c0;have d1:=HX.out.c1;have d2:=HX.out.c2;have A5:=HX.out.lt;have Ah:x.frozen? ⟨p,2,none⟩=false:=by simp[World.frozen?,HX.out.blk]
 have dk:x.cell? ⟨g,i*6,none⟩=some (.string ⟨v.key.toArray⟩):=by rw[<- hx,World.cell?_setCell_other _ _ _ _ (by intro q;injection q;omega)];exact i0
 have dn:x.cell? ⟨g,i*6+1,none⟩=some (.int .i64 v.num):=by rw[<- hx,World.cell?_setCell_other _ _ _ _ (by intro q;injection q;omega)];exact i1
 have A6:g<x.heap.size:=by rw[<- hx];simpa using hg
 have A4:Hid (∀ y,Below x.heap.size x y->aC (y.setCell ⟨p,2,none⟩ (.string ⟨(J++R).toArray⟩)) p t (l.set i ⟨v.key,v.num,v.time,v.mark,v.body,true⟩) (J++R) (.slice (some ⟨g,0,none⟩) l.length c)/\Off (λ k=>k=p\/(Value.slice (some ⟨g,0,none⟩) l.length c).ownBlock=some k) w (y.setCell ⟨p,2,none⟩ (.string ⟨(J++R).toArray⟩))/\y.cell? ⟨p,2,none⟩=some (.string ⟨J.toArray⟩)/\y.frozen? ⟨p,2,none⟩=false):=λ y hy=>by
  have hr:=HX.out.below hy;refine⟨⟨ah hr.blk,?_,hr.few⟩,(HO.out.trans (Off.of_below hy)).set p _ _ (Or.inl (Or.inl rfl)),hr.c2,by simp[World.frozen?,hr.blk]⟩;have A2:=hr.row;rw[List.length_set] at A2 ⊢;refine⟨A2.1,?_⟩;rcases A2.2 with h0|⟨g',Ad,Ac,hv,h1,A8,h2⟩
  ·exact Or.inl h0
  ·refine Or.inr ⟨g',Ad,Ac,hv,h1,?_,h2⟩;cases hv;rw[<- A8];simp[World.setCell,Array.getElem?_modify,A3.symm]
 clear hx i0 i1 i2 i3 i4 i5 c1 Ae HX HO HR;refine wp_region_held_drew (S:=(λ y=>y.cell? ⟨p,0,none⟩=some (.int .i64 t)/\y.cell? ⟨p,1,none⟩=some (.slice (some ⟨g,0,none⟩) l.length c)/\y.cell? ⟨g,i*6,none⟩=some (.string ⟨v.key.toArray⟩)/\y.cell? ⟨g,i*6+1,none⟩=some (.int .i64 v.num))) (by kernel_rfl) ⟨d0,d1,dk,dn⟩ (λ hHeld=>?_);refine tkI 0 hHeld ?_;try simp only[Act.put]
 refine tkI 1 hHeld ?_;try simp only[Act.put]
 refine tkI 2 hHeld ?_;try simp only[Act.put]
 refine tkI 3 hHeld ?_;try simp only[Act.put]
 refine tkI 5 hHeld ?_;try simp only[Act.put]
 refine tkI 6 hHeld ?_;try simp only[Act.put]
 refine tkI 7 hHeld ?_;try simp only[Act.put]
 refine tkI 8 hHeld ?_;try simp only[Act.put]
 refine tkI 9 hHeld ?_;try simp only[Act.put]
 refine tkI 10 hHeld ?_;try simp only[Act.put]
 refine tkI 11 hHeld ?_;try simp only[Act.put]
 refine tkI 12 hHeld ?_;try simp only[Act.put]
 refine tkI 13 hHeld ?_;try simp only[Act.put]
 refine tkI 14 hHeld ?_;try simp only[Act.put]
 refine tkI 15 hHeld ?_;try simp only[Act.put]
 refine tkI 16 hHeld ?_;try simp only[Act.put]
 refine tkI 17 hHeld ?_;try simp only[Act.put]
 refine tkI 18 hHeld ?_;try simp only[Act.put]
 refine tkI 19 hHeld ?_;try simp only[Act.put]
 refine tkI 20 hHeld ?_;try simp only[Act.put]
 refine tkI 21 hHeld ?_;try simp only[Act.put]
 refine tkI 22 hHeld ?_;try simp only[Act.put]
 refine tkI 23 hHeld ?_;try simp only[Act.put]
 refine tkI 24 hHeld ?_;try simp only[Act.put]
 refine wpAnyH_ready (rs:=[4,25]) (by kernel_rfl) (by simp) ?_;refine AllReadyH.cons rfl (λ K hK=>?_) (AllReadyH.cons rfl (λ K hK=>?_) AllReadyH.nil)
 ·go_simp;refine hK.out _ _ hHeld (λ _=>?_);clear hK K;(try simp only[Act.put]);refine rdI 25 (λ K hK=>?_);go_simp;refine Calls.mono (A7.out _) ?_;rintro e w1 ⟨rfl,Ab⟩;have A0:Below x.heap.size x w1:=(Below.refl _ _).drew.trans Ab;have A1:w1.cell? ⟨p,0,none⟩=some (.int .i64 t)/\w1.cell? ⟨p,1,none⟩=some (.slice (some ⟨g,0,none⟩) l.length c)/\w1.cell? ⟨g,i*6,none⟩=some (.string ⟨v.key.toArray⟩)/\w1.cell? ⟨g,i*6+1,none⟩=some (.int .i64 v.num):=⟨(A0.cell (p:=⟨p,0,none⟩) A5).trans d0,(A0.cell (p:=⟨p,1,none⟩) A5).trans d1,(A0.cell (p:=⟨g,i*6,none⟩) A6).trans dk,(A0.cell (p:=⟨g,i*6+1,none⟩) A6).trans dn⟩;have HF:Hid _:=A4.out w1 A0;have y2:=HF.out.2.2.1;have yf:=HF.out.2.2.2;(try go_wp2_with fail);refine hK.out _ _ A1 (λ hHeld1=>?_);clear hK K;(try simp only[Act.put]);refine rdI 26 (λ K hK=>?_);go_simp;refine hK.out _ _ hHeld1 (λ _=>?_);clear hK K;(try simp only[Act.put]);refine tkI 27 hHeld1 ?_;(try simp only[Act.put]);refine tkI 28 hHeld1 ?_;(try simp only[Act.put]);refine rdI 29 (λ K hK=>?_);go_simp;have A9:(w1.setCell ⟨p,2,none⟩ (.string ⟨(J++R).toArray⟩)).cell? ⟨p,0,none⟩=some (.int .i64 t)/\(w1.setCell ⟨p,2,none⟩ (.string ⟨(J++R).toArray⟩)).cell? ⟨p,1,none⟩=some (.slice (some ⟨g,0,none⟩) l.length c)/\(w1.setCell ⟨p,2,none⟩ (.string ⟨(J++R).toArray⟩)).cell? ⟨g,i*6,none⟩=some (.string ⟨v.key.toArray⟩)/\(w1.setCell ⟨p,2,none⟩ (.string ⟨(J++R).toArray⟩)).cell? ⟨g,i*6+1,none⟩=some (.int .i64 v.num):=by
   refine⟨?_,?_,?_,?_⟩
   ·rw[World.cell?_setCell_other _ _ _ _ (by intro q;injection q;omega)];exact A1.1
   ·rw[World.cell?_setCell_other _ _ _ _ (by intro q;injection q;omega)];exact A1.2.1
   ·rw[World.cell?_setCell_other _ _ _ _ (by intro q;injection q with q1;exact A3 q1.symm)];exact A1.2.2.1
   ·rw[World.cell?_setCell_other _ _ _ _ (by intro q;injection q with q1;exact A3 q1.symm)];exact A1.2.2.2
  refine hK.out _ _ A9 (λ _=>?_);clear hK K;refine wpAnyH_done (by kernel_rfl) ?_ _;go_wp2;exact bodyPost_end (results_none Tryz.results166 _ _ _) rfl ⟨⟨_,rfl⟩,HF.out.1,HF.out.2.1⟩
 ·go_simp;refine Calls.mono (A7.out _) ?_;rintro e w1 ⟨rfl,Ab⟩;have A0:Below x.heap.size x w1:=(Below.refl _ _).drew.trans Ab;have A1:w1.cell? ⟨p,0,none⟩=some (.int .i64 t)/\w1.cell? ⟨p,1,none⟩=some (.slice (some ⟨g,0,none⟩) l.length c)/\w1.cell? ⟨g,i*6,none⟩=some (.string ⟨v.key.toArray⟩)/\w1.cell? ⟨g,i*6+1,none⟩=some (.int .i64 v.num):=⟨(A0.cell (p:=⟨p,0,none⟩) A5).trans d0,(A0.cell (p:=⟨p,1,none⟩) A5).trans d1,(A0.cell (p:=⟨g,i*6,none⟩) A6).trans dk,(A0.cell (p:=⟨g,i*6+1,none⟩) A6).trans dn⟩;have HF:Hid _:=A4.out w1 A0;have y2:=HF.out.2.2.1;have yf:=HF.out.2.2.2;(try go_wp2_with fail);refine hK.out _ _ A1 (λ hHeld1=>?_);clear hK K;(try simp only[Act.put]);refine rdI 4 (λ K hK=>?_);go_simp;refine hK.out _ _ hHeld1 (λ _=>?_);clear hK K;(try simp only[Act.put]);refine rdI 26 (λ K hK=>?_);go_simp;refine hK.out _ _ hHeld1 (λ _=>?_);clear hK K;(try simp only[Act.put]);refine tkI 27 hHeld1 ?_;(try simp only[Act.put]);refine tkI 28 hHeld1 ?_;(try simp only[Act.put]);refine rdI 29 (λ K hK=>?_);go_simp;have A9:(w1.setCell ⟨p,2,none⟩ (.string ⟨(J++R).toArray⟩)).cell? ⟨p,0,none⟩=some (.int .i64 t)/\(w1.setCell ⟨p,2,none⟩ (.string ⟨(J++R).toArray⟩)).cell? ⟨p,1,none⟩=some (.slice (some ⟨g,0,none⟩) l.length c)/\(w1.setCell ⟨p,2,none⟩ (.string ⟨(J++R).toArray⟩)).cell? ⟨g,i*6,none⟩=some (.string ⟨v.key.toArray⟩)/\(w1.setCell ⟨p,2,none⟩ (.string ⟨(J++R).toArray⟩)).cell? ⟨g,i*6+1,none⟩=some (.int .i64 v.num):=by
   refine⟨?_,?_,?_,?_⟩
   ·rw[World.cell?_setCell_other _ _ _ _ (by intro q;injection q;omega)];exact A1.1
   ·rw[World.cell?_setCell_other _ _ _ _ (by intro q;injection q;omega)];exact A1.2.1
   ·rw[World.cell?_setCell_other _ _ _ _ (by intro q;injection q with q1;exact A3 q1.symm)];exact A1.2.2.1
   ·rw[World.cell?_setCell_other _ _ _ _ (by intro q;injection q with q1;exact A3 q1.symm)];exact A1.2.2.2
  refine hK.out _ _ A9 (λ _=>?_);clear hK K;refine wpAnyH_done (by kernel_rfl) ?_ _;go_wp2;exact bodyPost_end (results_none Tryz.results166 _ _ _) rfl ⟨⟨_,rfl⟩,HF.out.1,HF.out.2.1⟩
open Go.RowKit
attribute [local go_sem ↓] jU
attribute [local go_sem] lK
theorem zV:(Tryz.prog.info? 199).map (λ i=>(i.zero,i.size,i.bytes))=some (some (.agg #[.string ⟨#[]⟩,.int .i64 0,.int .i64 0,.bool false,.string ⟨#[]⟩,.bool false]),6,64):=by kernel_rfl
theorem wD (Y:World)(v:Value)(l:List Itm)(key body:List UInt8)(nn t:Nat)(mark:Bool)(hr:Y.ownsRow 0 199 6 v l.length (eA l))(hl:l.length<1000000000000) :
 ∃ gg cap w2,uy Tryz.prog 76 76 (Y.alloc (.cells #[.string ⟨key.toArray⟩,.int .i64 ((nn:Nat):Int),.int .i64 (t:Int),.bool mark,.string ⟨body.toArray⟩,.bool false] 199)) v (.slice (some ⟨Y.heap.size,0,none⟩) 1 1) /\
  (mW Tryz.prog 76 76 (Y.alloc (.cells #[.string ⟨key.toArray⟩,.int .i64 ((nn:Nat):Int),.int .i64 (t:Int),.bool mark,.string ⟨body.toArray⟩,.bool false] 199)) v (.slice (some ⟨Y.heap.size,0,none⟩) 1 1)).1=.slice (some ⟨gg,0,none⟩) (l.length+1) cap /\
  (mW Tryz.prog 76 76 (Y.alloc (.cells #[.string ⟨key.toArray⟩,.int .i64 ((nn:Nat):Int),.int .i64 (t:Int),.bool mark,.string ⟨body.toArray⟩,.bool false] 199)) v (.slice (some ⟨Y.heap.size,0,none⟩) 1 1)).2=w2 /\
  w2.ownsRow 0 199 6 (.slice (some ⟨gg,0,none⟩) (l.length+1) cap) (l.length+1) (eA (l++[⟨key,nn,t,mark,body,false⟩]))/\(v.ownBlock=some gg\/Y.heap.size<=gg)/\Off (λ k=>v.ownBlock=some k) Y w2:=by
 obtain⟨i0,A3,Ab,A5,A6⟩:=info_parts zV;obtain⟨gg,cap,w2,A2,A0,A1,A4,A8⟩:=run_append_lies (P:=Tryz.prog) (Y.alloc (.cells #[.string ⟨key.toArray⟩,.int .i64 ((nn:Nat):Int),.int .i64 (t:Int),.bool mark,.string ⟨body.toArray⟩,.bool false] 199)) 76 76 0 199 i0 _ 6 64 Tryz.underlying76 A3 Ab A5 A6 rfl (by omega) v l.length (eA l) (World.ownsRow.alloc hr _)
  ⟨Y.heap.size,0,none⟩ 1 1 [.string ⟨key.toArray⟩,.int .i64 ((nn:Nat):Int),.int .i64 (t:Int),.bool mark,.string ⟨body.toArray⟩,.bool false] (by rfl) (World.news_of_block (cs:=#[.string ⟨key.toArray⟩,.int .i64 ((nn:Nat):Int),.int .i64 (t:Int),.bool mark,.string ⟨body.toArray⟩,.bool false]) (t:=199) (fr:=(0,0)) (heap_alloc_new Y _)) (by simp[Value.oneCell'])
  (by omega) (by simp only[maxLen];omega) (by omega) (by simp) _ rfl
 obtain⟨A7,Aa,A9⟩:=tF A2;refine⟨gg,cap,w2,A7,Aa,A9,?_,?_,((Off.refl _ _).alloc _).grown A1 (λ k hk=>Or.inl hk)⟩
 ·(have e1:eA l++[.string ⟨key.toArray⟩,.int .i64 ((nn:Nat):Int),.int .i64 (t:Int),.bool mark,.string ⟨body.toArray⟩,.bool false]=eA (l++[⟨key,nn,t,mark,body,false⟩]):=by simp[eA,cW]);rw[<- e1];exact A0
 ·rcases A4 with h1|h1
  ·exact Or.inl h1
  ·right;(have h2:gg=Y.heap.size+1:=by rw[h1];simp);omega
theorem fC (p t:Nat)(l:List Itm)(J:List UInt8)(vs:Value)(key:List UInt8)(mark:Bool)(body:List UInt8)(w:World)(h:aC w p t l J vs)(hl:l.length+1<1000000000000)(hJ:J.length<=900000000000000)(ht:t<4611686018427387904)(hn:aH key l<1000000000000)(hk:key.length<=1000)(hb:body.length<=1000) :
 Calls Tryz.prog 165 #[.pointer (some ⟨p,0,none⟩),.string ⟨key.toArray⟩,.bool mark,.string ⟨body.toArray⟩] w λ e w'=>e=.returned (.int .i64 ((aH key l+1:Nat):Int))/\∃ vs',aC w' p t (l++[⟨key,aH key l+1,t,mark,body,false⟩]) (J++aF (if mark then 2 else 1) t key (aH key l+1) body) vs'/\(∀ g,vs'.ownBlock=some g->vs.ownBlock=some g\/w.heap.size<=g)/\Off (λ k=>k=p\/vs.ownBlock=some k) w w':=by
 have HA:Hid _:=h.apart;have HR:Hid _:=h;have At:Hid _:=fG p t l J vs key w h;have Ao:=bT h.row (Below.refl w.heap.size w).drew;obtain⟨nn,Au⟩:∃ n,aH key l+1=n:=⟨_,rfl⟩;have Av:((aH key l:Nat):Int)+1=(nn:Int):=by omega
 have Az:aH key l<1000000000000:=hn;rw[Au] at ⊢;obtain⟨gg,A2,w2,Ak,Aq,Ap,A1,A8,Ai⟩:=wD w.drew vs l key body nn t mark Ao (by omega);rw[show w.drew.heap.size=w.heap.size from rfl,show w.drew.alloc (.cells #[.string ⟨key.toArray⟩,.int .i64 ((nn:Nat):Int),.int .i64 (t:Int),.bool mark,.string ⟨body.toArray⟩,.bool false] 199)=(w.alloc (.cells #[.string ⟨key.toArray⟩,.int .i64 ((nn:Nat):Int),.int .i64 (t:Int),.bool mark,.string ⟨body.toArray⟩,.bool false] 199)).drew from rfl] at Ak Aq Ap;have Ab:=h.lt;have d0:=h.c0;have d1:=h.c1;have Al:gg≠p:=λ e=>by
  rcases A8 with h1|h1
  ·exact HA.out (by rw[<- e];exact h1)
  ·have:w.heap.size<=gg:=h1;omega
 have A5:w2.heap[p]?=_:=(Ai.block p Ab HA.out).trans h.blk;have e0:w2.cell? ⟨p,0,none⟩=some (.int .i64 t):=by simp[World.cell?,A5]
 have e1:w2.cell? ⟨p,1,none⟩=some vs:=by simp[World.cell?,A5]
 have ef:w2.frozen? ⟨p,1,none⟩=false:=by simp[World.frozen?,A5]
 have aD:(w.drew.alloc (.cells #[.string ⟨key.toArray⟩,.int .i64 ((nn:Nat):Int),.int .i64 (t:Int),.bool mark,.string ⟨body.toArray⟩,.bool false] 199)).cell? ⟨p,0,none⟩=some (.int .i64 t):=((((Below.refl w.heap.size w).drew).alloc (Nat.le_refl _) (.cells #[.string ⟨key.toArray⟩,.int .i64 ((nn:Nat):Int),.int .i64 (t:Int),.bool mark,.string ⟨body.toArray⟩,.bool false] 199)).cell (p:=⟨p,0,none⟩) Ab).trans d0;have Ax:(w.drew.alloc (.cells #[.string ⟨key.toArray⟩,.int .i64 ((nn:Nat):Int),.int .i64 (t:Int),.bool mark,.string ⟨body.toArray⟩,.bool false] 199)).cell? ⟨p,1,none⟩=some vs:=((((Below.refl w.heap.size w).drew).alloc (Nat.le_refl _) (.cells #[.string ⟨key.toArray⟩,.int .i64 ((nn:Nat):Int),.int .i64 (t:Int),.bool mark,.string ⟨body.toArray⟩,.bool false] 199)).cell (p:=⟨p,1,none⟩) Ab).trans d1;have HX:Hid (aC (w2.setCell ⟨p,1,none⟩ (.slice (some ⟨gg,0,none⟩) (l.length+1) A2)) p t (l++[⟨key,nn,t,mark,body,false⟩]) J (.slice (some ⟨gg,0,none⟩) (l.length+1) A2)):=by
  refine⟨ah A5,?_,by simp;omega⟩;rw[List.length_append];refine⟨A1.1,?_⟩;rcases A1.2 with ⟨h0,_⟩|⟨g',A0,Ag,hv,h1,Aa,h2⟩
  ·cases h0
  ·refine Or.inr ⟨g',A0,Ag,hv,h1,?_,h2⟩;cases hv;rw[<- Aa];simp[World.setCell,Array.getElem?_modify,Al.symm]
 have HO:Hid (Off (λ k=>k=p\/vs.ownBlock=some k) w (w2.setCell ⟨p,1,none⟩ (.slice (some ⟨gg,0,none⟩) (l.length+1) A2))) :=
  (((Off.refl (λ k=>k=p\/vs.ownBlock=some k) w).drew).trans (Ai.mono (λ k hk=>Or.inr hk))).set p _ _ (Or.inl (Or.inl rfl))
 have An:Hid (vs.ownBlock=some gg\/w.heap.size<=gg):=A8;have Ac:(w2.setCell ⟨p,1,none⟩ (.slice (some ⟨gg,0,none⟩) (l.length+1) A2)).cell? ⟨p,0,none⟩=some (.int .i64 t):=HX.out.c0;obtain⟨kd,A7⟩:∃ k:Nat,(if mark then 2 else 1)=k:=⟨_,rfl⟩;have Aw:kd<=2:=by rw[<- A7];split<;>omega
 have Ay:Hid _:=A7;have A9:Hid _:=λ y=>iY kd t nn key body y (by omega) ht (by omega) hk hb;have Ad:=de kd t key nn body;rw[A7];obtain⟨R,hR⟩:∃ R,aF kd t key nn body=R:=⟨_,rfl⟩;rw[hR] at Ad A9 ⊢;have ha:=fj J R (by rw[Ad];omega);clear h hR Ad hJ hk hb A1 A8 Ai Ao hn A7 Aw;go_enter Tryz.func165,Tryz.ntmps165;go_wp2_with fail;refine Calls.mono At.out ?_;rintro e w' ⟨rfl,As⟩;rw[As];clear As;go_wp2_with fail;rename_i K2 hK2;have Ah:Hid _:=hK2;clear hK2;refine wp_region_held_drew (S:=λ y=>y.cell? ⟨p,0,none⟩=some (.int .i64 t)) (by kernel_rfl) d0 (λ hHeld=>?_);refine tkI 0 hHeld ?_;try simp only[Act.put]
 refine tkI 1 hHeld ?_;try simp only[Act.put]
 refine tkI 2 hHeld ?_;try simp only[Act.put]
 refine tkI 3 hHeld ?_;try simp only[Act.put]
 refine tkI 5 hHeld ?_;try simp only[Act.put]
 refine tkI 6 hHeld ?_;try simp only[Act.put]
 refine tkI 7 hHeld ?_;try simp only[Act.put]
 refine tkI 8 hHeld ?_;try simp only[Act.put]
 refine tkI 9 hHeld ?_;try simp only[Act.put]
 refine tkI 10 hHeld ?_;try simp only[Act.put]
 refine tkI 11 hHeld ?_;try simp only[Act.put]
 refine tkI 12 hHeld ?_;try simp only[Act.put]
 refine tkI 13 hHeld ?_;try simp only[Act.put]
 refine wpAnyH_ready (rs:=[4,14]) (by kernel_rfl) (by simp) ?_;refine AllReadyH.cons rfl (λ K hK=>?_) (AllReadyH.cons rfl (λ K hK=>?_) AllReadyH.nil);go_simp;refine hK.out _ _ hHeld (λ _=>?_);clear hK K;try simp only[Act.put]
 refine rdI 14 (λ K hK=>?_);go_simp;refine hK.out _ _ aD (λ hH1=>?_);clear hK K;try simp only[Act.put]
 refine rdI 15 (λ K hK=>?_);go_simp;refine hK.out _ _ e0 (λ hH2=>?_);clear hK K;try simp only[Act.put]
 refine tkI 16 hH2 ?_;try simp only[Act.put]
 refine tkI 17 hH2 ?_;try simp only[Act.put]
 refine rdI 18 (λ K hK=>?_);go_simp;refine hK.out _ _ Ac (λ _=>?_);clear hK K;try simp only[Act.put]
 refine wpAnyH_done (by kernel_rfl) ?_ _;refine Ah.out _ _ ?_
 rotate_left
 go_simp;refine hK.out _ _ aD (λ hH1=>?_);clear hK K;try simp only[Act.put]
 refine rdI 4 (λ K hK=>?_);go_simp;refine hK.out _ _ aD (λ _=>?_);clear hK K;try simp only[Act.put]
 refine rdI 15 (λ K hK=>?_);go_simp;refine hK.out _ _ e0 (λ hH2=>?_);clear hK K;try simp only[Act.put]
 refine tkI 16 hH2 ?_;try simp only[Act.put]
 refine tkI 17 hH2 ?_;try simp only[Act.put]
 refine rdI 18 (λ K hK=>?_);go_simp;refine hK.out _ _ Ac (λ _=>?_);clear hK K;try simp only[Act.put]
 refine wpAnyH_done (by kernel_rfl) ?_ _;refine Ah.out _ _ ?_;all_goals
  obtain⟨x,hx⟩:∃ x,w2.setCell ⟨p,1,none⟩ (.slice (some ⟨gg,0,none⟩) (l.length+1) A2)=x:=⟨_,rfl⟩;rw[hx] at HX HO ⊢;have y0:=HX.out.c0;have y2:=HX.out.c2;have Am:=HX.out.lt;have A6:Hid (∀ y,Below x.heap.size x y->aC (y.setCell ⟨p,2,none⟩ (.string ⟨(J++R).toArray⟩)) p t (l++[⟨key,nn,t,mark,body,false⟩]) (J++R) (.slice (some ⟨gg,0,none⟩) (l.length+1) A2)/\Off (λ k=>k=p\/vs.ownBlock=some k) w (y.setCell ⟨p,2,none⟩ (.string ⟨(J++R).toArray⟩))/\y.cell? ⟨p,2,none⟩=some (.string ⟨J.toArray⟩)/\y.frozen? ⟨p,2,none⟩=false):=λ y hy=>by
   have hr:=HX.out.below hy;refine⟨⟨ah hr.blk,?_,hr.few⟩,(HO.out.trans (Off.of_below hy)).set p _ _ (Or.inl (Or.inl rfl)),hr.c2,by simp[World.frozen?,hr.blk]⟩;have A4:=hr.row;refine⟨A4.1,?_⟩;rcases A4.2 with h0|⟨g',A0,Ag,hv,h1,Aa,h2⟩
   ·exact Or.inl h0
   ·refine Or.inr ⟨g',A0,Ag,hv,h1,?_,h2⟩;(have e:g'=gg:=by injection hv with q1;injection q1 with q2;injection q2 with q3;exact q3.symm);rw[<- Aa,e];simp[World.setCell,Array.getElem?_modify,Al.symm]
  clear hx HX HO Aq Ap Ak e0 e1 ef aD Ax Ac d0 d1 A5 Ah Av;cases mark;all_goals
   have Aj:=Ay.out;simp only[Bool.false_eq_true,if_false,if_true] at Aj;subst Aj;go_wp2_with fail;rename_i K6 hK6;have Ar:Hid _:=hK6;clear hK6;refine wp_region_held_drew (S:=λ y=>y.cell? ⟨p,0,none⟩=some (.int .i64 t)) (by kernel_rfl) y0 (λ hHeld=>?_);refine tkI 0 hHeld ?_;(try simp only[Act.put]);refine tkI 1 hHeld ?_;(try simp only[Act.put]);refine tkI 2 hHeld ?_;(try simp only[Act.put]);refine tkI 3 hHeld ?_;(try simp only[Act.put]);refine tkI 5 hHeld ?_;(try simp only[Act.put]);refine tkI 6 hHeld ?_;(try simp only[Act.put]);refine tkI 7 hHeld ?_;(try simp only[Act.put]);refine tkI 8 hHeld ?_;(try simp only[Act.put]);refine tkI 9 hHeld ?_;(try simp only[Act.put]);refine tkI 10 hHeld ?_;(try simp only[Act.put]);refine tkI 11 hHeld ?_;(try simp only[Act.put]);refine tkI 12 hHeld ?_;(try simp only[Act.put]);refine wpAnyH_ready (rs:=[4,13]) (by kernel_rfl) (by simp) ?_;refine AllReadyH.cons rfl (λ K hK=>?_) (AllReadyH.cons rfl (λ K hK=>?_) AllReadyH.nil)
   ·go_simp;refine hK.out _ _ hHeld (λ _=>?_);clear hK K;(try simp only[Act.put]);refine rdI 13 (λ K hK=>?_);go_simp;refine Calls.mono (A9.out _) ?_;rintro e w1 ⟨rfl,Af⟩;have A3:Below x.heap.size x w1:=(Below.refl _ _).drew.trans Af;have Ae:w1.cell? ⟨p,0,none⟩=some (.int .i64 t):=(A3.cell (p:=⟨p,0,none⟩) Am).trans y0;have HF:Hid _:=A6.out w1 A3;have z2:=HF.out.2.2.1;have zf:=HF.out.2.2.2;(try go_wp2_with fail);refine hK.out _ _ Ae (λ hH1=>?_);clear hK K;(try simp only[Act.put]);refine rdI 14 (λ K hK=>?_);go_simp;refine hK.out _ _ hH1 (λ _=>?_);clear hK K;(try simp only[Act.put]);refine tkI 15 hH1 ?_;(try simp only[Act.put]);refine tkI 16 hH1 ?_;(try simp only[Act.put]);refine rdI 17 (λ K hK=>?_);go_simp;refine hK.out _ _ HF.out.1.c0 (λ _=>?_);clear hK K;refine wpAnyH_done (by kernel_rfl) ?_ _;refine Ar.out _ _ ?_;go_wp2;go_ret;exact⟨rfl,_,HF.out.1,λ g hg=>by cases hg;exact An.out,HF.out.2.1⟩
   ·go_simp;refine Calls.mono (A9.out _) ?_;rintro e w1 ⟨rfl,Af⟩;have A3:Below x.heap.size x w1:=(Below.refl _ _).drew.trans Af;have Ae:w1.cell? ⟨p,0,none⟩=some (.int .i64 t):=(A3.cell (p:=⟨p,0,none⟩) Am).trans y0;have HF:Hid _:=A6.out w1 A3;have z2:=HF.out.2.2.1;have zf:=HF.out.2.2.2;(try go_wp2_with fail);refine hK.out _ _ Ae (λ hH1=>?_);clear hK K;(try simp only[Act.put]);refine rdI 4 (λ K hK=>?_);go_simp;refine hK.out _ _ hH1 (λ _=>?_);clear hK K;(try simp only[Act.put]);refine rdI 14 (λ K hK=>?_);go_simp;refine hK.out _ _ hH1 (λ _=>?_);clear hK K;(try simp only[Act.put]);refine tkI 15 hH1 ?_;(try simp only[Act.put]);refine tkI 16 hH1 ?_;(try simp only[Act.put]);refine rdI 17 (λ K hK=>?_);go_simp;refine hK.out _ _ HF.out.1.c0 (λ _=>?_);clear hK K;refine wpAnyH_done (by kernel_rfl) ?_ _;refine Ar.out _ _ ?_;go_wp2;go_ret;exact⟨rfl,_,HF.out.1,λ g hg=>by cases hg;exact An.out,HF.out.2.1⟩
end Go.Proofs.YtmehkneofinmiaaGreatDoor

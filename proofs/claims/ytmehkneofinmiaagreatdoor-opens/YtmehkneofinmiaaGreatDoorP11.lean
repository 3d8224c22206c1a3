/-part 11-/
import Derived.Test.YtmehkneofinmiaaGreatDoorP10
import Derived.Lib.ConvBytes
set_option maxRecDepth 100000
set_option maxHeartbeats 4000000
namespace Go.Proofs.YtmehkneofinmiaaGreatDoor
open Go.RowKit
theorem sG (p:Nat)(E:Ent)(vs:Value)(n:Int)(w:World)(h:al w p E vs)(hp:vs.ownBlock≠some p)(hl:E.vers.length<1000000)(i:Nat)(hn:cV E.vers n=some i) :
 Calls Tryz.prog 256 #[.pointer (some ⟨p,0,none⟩),.int .i64 n] w λ e w'=>(∃ v,e=.returned v)/\∃ vs',al w' p ⟨E.key,E.last,E.vers.eraseIdx i⟩ vs'/\vs'.ownBlock=vs.ownBlock/\Off (λ k=>k=p\/vs.ownBlock=some k) w w':=by
 obtain⟨v,hv,_⟩:=fg hn;have hi:i<E.vers.length:=(List.getElem?_eq_some_iff.1 hv).1;go_enter Tryz.func256,Tryz.ntmps256;go_wp2_with fail;refine (iH p E vs n _ h hl).mono ?_;rintro e w2 ⟨rfl,A3⟩;rw[gq hn];have h2:=h.below A3;obtain⟨g,cap,rfl⟩:∃ g cap,vs=.slice (some ⟨g,0,none⟩) E.vers.length cap:=by obtain⟨g,cap,e,_⟩:=gi h2.row i v hv;exact⟨g,cap,e⟩
 have c2:=h2.c2;have A7:=h2.lt;have HH:Hid (al w2 p E (.slice (some ⟨g,0,none⟩) E.vers.length cap)):=h2;have HB:Hid (Below w.heap.size w w2):=A3;have HP:Hid ((Value.slice (some ⟨g,0,none⟩) E.vers.length cap).ownBlock≠some p):=hp;clear h2 A3 h hp;go_wp2_with fail;refine (rT E.vers g cap i _ HH.out.row hi hl).mono ?_;rintro e w3 ⟨rfl,A0,A2⟩;have A4:g≠p:=λ e=>HP.out (by rw[e];rfl);have A1:w3.heap[p]?=some (.cells #[.string ⟨E.key.toArray⟩,.int .i64 E.last,.slice (some ⟨g,0,none⟩) E.vers.length cap] 230 (0,0)):=(A2.block p A7 (Ne.symm A4)).trans HH.out.blk;have c3:w3.cell? ⟨p,2,none⟩=some (.slice (some ⟨g,0,none⟩) E.vers.length cap):=by simp[World.cell?,A1]
 have f3:w3.frozen? ⟨p,2,none⟩=false:=by simp[World.frozen?,A1]
 have H1:Hid _:=A0;have H2:Hid _:=A2;have H3:Hid _:=A1;clear A0 A2 A1;go_wp2;refine bodyPost_end (results_none Tryz.results256 _ _ _) rfl ⟨⟨_,rfl⟩,_,⟨ah (i:=2) H3.out,?_⟩,rfl,?_⟩
 ·have h0:=H1.out;rw[List.length_eraseIdx_of_lt hi];refine⟨h0.1,?_⟩;rcases h0.2 with ⟨hc,_⟩|⟨g',A6,A5,hv,h1,hg,h2⟩
  ·cases hc
  ·cases hv;refine Or.inr ⟨g,cap,A5,rfl,h1,?_,h2⟩;rw[<- hg];simp[World.setCell,Array.getElem?_modify,Ne.symm A4]
 ·refine (((Off.of_below HB.out).trans' H2.out (λ k _ e=>?_)).set p 2 _ (Or.inl (Or.inl rfl)));right;rw[e];rfl
open Go.RowKit
attribute [local go_sem ↓] jU
attribute [local go_sem] lK
def Be (k t:Nat)(key:List UInt8)(n:Nat)(body:List UInt8):Value:=.agg #[.int .u8 k,.int .i64 t,.string ⟨key.toArray⟩,.int .i64 n,.string ⟨body.toArray⟩]
theorem qg (p:Nat)(E:Ent)(vs:Value)(k t n:Nat)(key body:List UInt8)(w:World)(h:al w p E vs)(hp:vs.ownBlock≠some p)(hl:E.vers.length<1000000)(hb:body.length<1000000) :
 Calls Tryz.prog 258 #[.pointer (some ⟨p,0,none⟩),Be k t key n body] w λ e w'=>∃ g cap,(∃ v,e=.returned v) /\
  al w' p ⟨E.key,n,E.vers++[⟨n,t,k==2,body⟩]⟩ (.slice (some ⟨g,0,none⟩) (E.vers.length+1) cap)/\(vs.ownBlock=some g\/w.heap.size<=g)/\Off (λ k=>k=p\/vs.ownBlock=some k) w w':=by
 obtain⟨i0,At,B3,Ay,Az⟩:=info_parts rz;have e1:=h.c1;have e2:=h.c2;have B1:=h.lt;have f1:=h.fz 1;have f2:=h.fz 2;have HE:Hid (al w p E vs):=h;clear h;unfold Be;go_enter Tryz.func258,Tryz.ntmps258;go_wp2_with fail;obtain⟨x,hx⟩:∃ x,x=((w.setCell ⟨p,1,none⟩ (.int .i64 (n:Int))).alloc (.cells #[.int .u8 (k:Int),.int .i64 (t:Int),.string ⟨key.toArray⟩,.int .i64 (n:Int),.string ⟨body.toArray⟩] 181)):=⟨_,rfl⟩;rw[<- hx];have Am:x.heap.size=w.heap.size+1:=by rw[hx];simp
 have hO:Off (λ k=>k=p\/vs.ownBlock=some k) w x:=by rw[hx];exact ((Off.refl _ _).set p 1 _ (Or.inl (Or.inl rfl))).alloc _
 have hB:x.heap[p]?=some (.cells #[.string ⟨E.key.toArray⟩,.int .i64 (n:Int),vs] 230 (0,0)):=by rw[hx];rw[heap_alloc_old _ _ (by simpa using B1)];exact ah (i:=1) HE.out.blk
 have hR:x.ownsRow 0 174 4 vs E.vers.length (aS E.vers):=by
  have h0:=HE.out.row;refine⟨h0.1,?_⟩;rcases h0.2 with h0|⟨g,cap,Ac,hv,h1,hg,h2⟩
  ·exact Or.inl h0
  ·refine Or.inr ⟨g,cap,Ac,hv,h1,?_,h2⟩;(have Ah:p≠g:=λ e=>by subst e;apply hp;rw[hv];rfl);rw[hx,heap_alloc_old _ _ (by simpa using (gL hg)),<- hg];simp[World.setCell,Array.getElem?_modify,Ah]
 have hC:x.heap[w.heap.size]?=some (.cells #[.int .u8 (k:Int),.int .i64 (t:Int),.string ⟨key.toArray⟩,.int .i64 (n:Int),.string ⟨body.toArray⟩] 181 (0,0)):=by rw[hx];have:=heap_alloc_new (w.setCell ⟨p,1,none⟩ (.int .i64 (n:Int))) (.cells #[.int .u8 (k:Int),.int .i64 (t:Int),.string ⟨key.toArray⟩,.int .i64 (n:Int),.string ⟨body.toArray⟩] 181);simpa using this
 have B0:vs.ownBlock≠some w.heap.size:=by
  intro e;rcases HE.out.row.2 with ⟨rfl,_⟩|⟨g,cap,Ac,rfl,_,hg,_⟩
  ·cases e
  ·cases e;exact absurd (gL hg) (Nat.lt_irrefl _)
 clear hx e1 e2 f1 f2;have Av:p≠w.heap.size:=by omega
 have HB:Hid _:=hB;have HC:Hid _:=hC;have HR:Hid _:=hR;have HO:Hid _:=hO;clear hB hC hR hO;have B6:Hid (x.heap.size=w.heap.size+1):=Am;have A7:p<x.heap.size:=by omega
 have A4:w.heap.size<x.heap.size:=by omega
 clear Am;have e2:x.cell? ⟨p,2,none⟩=some vs:=by simp[World.cell?,HB.out]
 have f2:x.frozen? ⟨p,2,none⟩=false:=by simp[World.frozen?,HB.out]
 have b0:x.cell? ⟨w.heap.size,0,none⟩=some (.int .u8 (k:Int)):=by simp[World.cell?,HC.out]
 have b1:x.cell? ⟨w.heap.size,1,none⟩=some (.int .i64 (t:Int)):=by simp[World.cell?,HC.out]
 have b3:x.cell? ⟨w.heap.size,3,none⟩=some (.int .i64 (n:Int)):=by simp[World.cell?,HC.out]
 have b4:x.cell? ⟨w.heap.size,4,none⟩=some (.string ⟨body.toArray⟩):=by simp[World.cell?,HC.out]
 have Ap:(⟨body.toArray⟩:ByteArray).size<=281474976710656:=by simp only[ByteArray.size,List.size_toArray];omega
 have HT:Hid (∀ w1,Below x.drew.heap.size x.drew w1->∃ gg cap w2,(w1.cell? ⟨p,2,none⟩=some vs/\(w1.alloc (.cells #[.int .i64 (n:Int),.int .i64 (t:Int),.bool ((k:Int)==2),.string ⟨body.toArray⟩] 174)).cell? ⟨p,2,none⟩=some vs) /\
  uy Tryz.prog 228 228 (w1.alloc (.cells #[.int .i64 (n:Int),.int .i64 (t:Int),.bool ((k:Int)==2),.string ⟨body.toArray⟩] 174)) vs (.slice (some ⟨w1.heap.size,0,none⟩) 1 1) /\
  (mW Tryz.prog 228 228 (w1.alloc (.cells #[.int .i64 (n:Int),.int .i64 (t:Int),.bool ((k:Int)==2),.string ⟨body.toArray⟩] 174)) vs (.slice (some ⟨w1.heap.size,0,none⟩) 1 1)).1=.slice (some ⟨gg,0,none⟩) (E.vers.length+1) cap /\
  (mW Tryz.prog 228 228 (w1.alloc (.cells #[.int .i64 (n:Int),.int .i64 (t:Int),.bool ((k:Int)==2),.string ⟨body.toArray⟩] 174)) vs (.slice (some ⟨w1.heap.size,0,none⟩) 1 1)).2=w2 /\
  ((w1.alloc (.cells #[.int .i64 (n:Int),.int .i64 (t:Int),.bool ((k:Int)==2),.string ⟨body.toArray⟩] 174)).cell? ⟨w.heap.size,0,none⟩=some (.int .u8 (k:Int))/\(w1.alloc (.cells #[.int .i64 (n:Int),.int .i64 (t:Int),.bool ((k:Int)==2),.string ⟨body.toArray⟩] 174)).cell? ⟨w.heap.size,1,none⟩=some (.int .i64 (t:Int))/\(w1.alloc (.cells #[.int .i64 (n:Int),.int .i64 (t:Int),.bool ((k:Int)==2),.string ⟨body.toArray⟩] 174)).cell? ⟨w.heap.size,3,none⟩=some (.int .i64 (n:Int))/\(w1.alloc (.cells #[.int .i64 (n:Int),.int .i64 (t:Int),.bool ((k:Int)==2),.string ⟨body.toArray⟩] 174)).cell? ⟨w.heap.size,4,none⟩=some (.string ⟨body.toArray⟩))/\w2.cell? ⟨p,2,none⟩=some vs/\w2.frozen? ⟨p,2,none⟩=false /\
  ((w2.cell? ⟨w.heap.size,0,none⟩=some (.int .u8 (k:Int))/\w2.cell? ⟨w.heap.size,1,none⟩=some (.int .i64 (t:Int))/\w2.cell? ⟨w.heap.size,3,none⟩=some (.int .i64 (n:Int))/\w2.cell? ⟨w.heap.size,4,none⟩=some (.string ⟨body.toArray⟩))/\((w2.setCell ⟨p,2,none⟩ (.slice (some ⟨gg,0,none⟩) (E.vers.length+1) cap)).cell? ⟨w.heap.size,0,none⟩=some (.int .u8 (k:Int))/\(w2.setCell ⟨p,2,none⟩ (.slice (some ⟨gg,0,none⟩) (E.vers.length+1) cap)).cell? ⟨w.heap.size,1,none⟩=some (.int .i64 (t:Int))/\(w2.setCell ⟨p,2,none⟩ (.slice (some ⟨gg,0,none⟩) (E.vers.length+1) cap)).cell? ⟨w.heap.size,3,none⟩=some (.int .i64 (n:Int))/\(w2.setCell ⟨p,2,none⟩ (.slice (some ⟨gg,0,none⟩) (E.vers.length+1) cap)).cell? ⟨w.heap.size,4,none⟩=some (.string ⟨body.toArray⟩))) /\
  (al (w2.setCell ⟨p,2,none⟩ (.slice (some ⟨gg,0,none⟩) (E.vers.length+1) cap)) p ⟨E.key,n,E.vers++[⟨n,t,k==2,body⟩]⟩ (.slice (some ⟨gg,0,none⟩) (E.vers.length+1) cap)/\(vs.ownBlock=some gg\/w.heap.size<=gg)/\Off (λ k=>k=p\/vs.ownBlock=some k) w (w2.setCell ⟨p,2,none⟩ (.slice (some ⟨gg,0,none⟩) (E.vers.length+1) cap)))):=by
  intro w1 A0;have A0:Below x.heap.size x w1:=⟨A0.os,A0.tape,A0.output,A0.size,A0.block⟩;have A8:x.heap.size<=w1.heap.size:=A0.size;have Aj:w1.heap[p]?=_:=(A0.block p A7).trans HB.out;have Aq:w1.heap[w.heap.size]?=_:=(A0.block _ A4).trans HC.out;have Ax:=bT HR.out A0;have Ao:p<w1.heap.size:=Nat.lt_of_lt_of_le A7 A8;have Al:w.heap.size<w1.heap.size:=Nat.lt_of_lt_of_le A4 A8;obtain⟨gg,cap,w2,Ae,A2,A3,Au,B4⟩:=run_append_lies (P:=Tryz.prog) (w1.alloc (.cells #[.int .i64 (n:Int),.int .i64 (t:Int),.bool ((k:Int)==2),.string ⟨body.toArray⟩] 174)) 228 228 0 174 i0 _ 4 40 Tryz.underlying228 At B3 Ay Az rfl (by omega) vs E.vers.length (aS E.vers) (World.ownsRow.alloc Ax _)
   ⟨w1.heap.size,0,none⟩ 1 1 [.int .i64 (n:Int),.int .i64 (t:Int),.bool ((k:Int)==2),.string ⟨body.toArray⟩] (by rfl) (World.news_of_block (cs:=#[.int .i64 (n:Int),.int .i64 (t:Int),.bool ((k:Int)==2),.string ⟨body.toArray⟩]) (t:=174) (fr:=(0,0)) (heap_alloc_new w1 _)) (by simp[Value.oneCell'])
   (by omega) (by simp only[maxLen];omega) (by omega) (by simp) _ rfl
  (have As:p<(w1.alloc (.cells #[.int .i64 (n:Int),.int .i64 (t:Int),.bool ((k:Int)==2),.string ⟨body.toArray⟩] 174)).heap.size:=by simp;omega);(have B2:w.heap.size<(w1.alloc (.cells #[.int .i64 (n:Int),.int .i64 (t:Int),.bool ((k:Int)==2),.string ⟨body.toArray⟩] 174)).heap.size:=by simp;omega);have Af:w2.heap[p]?=_:=((A3.block p As (Ne.symm hp)).trans (heap_alloc_old _ _ Ao)).trans Aj;have A6:w2.heap[w.heap.size]?=_:=((A3.block _ B2 (Ne.symm B0)).trans (heap_alloc_old _ _ Al)).trans Aq;have Ab:(w1.alloc (.cells #[.int .i64 (n:Int),.int .i64 (t:Int),.bool ((k:Int)==2),.string ⟨body.toArray⟩] 174)).heap[w.heap.size]?=_:=(heap_alloc_old _ _ Al).trans Aq;have Ar:(w1.alloc (.cells #[.int .i64 (n:Int),.int .i64 (t:Int),.bool ((k:Int)==2),.string ⟨body.toArray⟩] 174)).heap[p]?=_:=(heap_alloc_old _ _ Ao).trans Aj;(have A9:(w2.setCell ⟨p,2,none⟩ (.slice (some ⟨gg,0,none⟩) (E.vers.length+1) cap)).heap[w.heap.size]?=some (.cells #[.int .u8 (k:Int),.int .i64 (t:Int),.string ⟨key.toArray⟩,.int .i64 (n:Int),.string ⟨body.toArray⟩] 181 (0,0)):=by rw[<- A6];simp[World.setCell,Array.getElem?_modify,Av]);obtain⟨Ag,Ai,Ak⟩:=tF Ae;have An:vs.ownBlock=some gg\/w.heap.size<=gg:=by
   rcases Au with h1|h1
   ·exact Or.inl h1
   ·right;(have h2:gg=w1.heap.size+1:=by rw[h1];simp);omega
  have Ah:p≠gg:=by
   intro e;rcases An with h1|h1
   ·exact hp (e ▸ h1)
   ·omega
  refine⟨gg,cap,w2,⟨by simp[World.cell?,Aj],by simp[World.cell?,Ar]⟩,Ag,Ai,Ak,⟨by simp[World.cell?,Ab],by simp[World.cell?,Ab],by simp[World.cell?,Ab],by simp[World.cell?,Ab]⟩,by simp[World.cell?,Af],by simp[World.frozen?,Af],
   ⟨⟨by simp[World.cell?,A6],by simp[World.cell?,A6],by simp[World.cell?,A6],by simp[World.cell?,A6]⟩,⟨by simp only[World.cell?,A9];simp,by simp only[World.cell?,A9];simp,by simp only[World.cell?,A9];simp,by simp only[World.cell?,A9];simp⟩⟩,⟨ah (i:=2) Af,?_⟩,An,?_⟩
  ·(have e1:aS E.vers++[.int .i64 (n:Int),.int .i64 (t:Int),.bool ((k:Int)==2),.string ⟨body.toArray⟩]=aS (E.vers++[⟨n,t,k==2,body⟩]):=by (have B5:((k:Int)==2)=(k==2):=by rw[Bool.eq_iff_iff];simp only[beq_iff_eq];omega);simp[aS,dC,B5]);rw[e1] at A2;simp only[List.length_append,List.length_singleton];refine⟨A2.1,?_⟩;rcases A2.2 with ⟨hc,_⟩|⟨g,Aw,Ac,hv,h1,hg,h2⟩
   ·cases hc
   ·cases hv;refine Or.inr ⟨gg,cap,Ac,rfl,h1,?_,h2⟩;rw[<- hg];simp[World.setCell,Array.getElem?_modify,Ah]
  ·exact (((HO.out.trans (Off.of_below A0)).alloc _).grown A3 (λ k hk=>Or.inl (Or.inr hk))).set p 2 _ (Or.inl (Or.inl rfl))
 refine wp_region_held_drew (S:=(λ y=>y.cell? ⟨w.heap.size,0,none⟩=some (.int .u8 (k:Int))/\y.cell? ⟨w.heap.size,1,none⟩=some (.int .i64 (t:Int))/\y.cell? ⟨w.heap.size,3,none⟩=some (.int .i64 (n:Int))/\y.cell? ⟨w.heap.size,4,none⟩=some (.string ⟨body.toArray⟩))) (by kernel_rfl) ⟨b0,b1,b3,b4⟩ (λ hHeld=>?_);refine tkI 0 hHeld ?_;try simp only[Act.put]
 refine tkI 1 hHeld ?_;try simp only[Act.put]
 refine tkI 2 hHeld ?_;try simp only[Act.put]
 refine tkI 3 hHeld ?_;try simp only[Act.put]
 refine tkI 5 hHeld ?_;try simp only[Act.put]
 refine tkI 6 hHeld ?_;try simp only[Act.put]
 refine tkI 7 hHeld ?_;try simp only[Act.put]
 refine tkI 8 hHeld ?_;try simp only[Act.put]
 refine tkI 9 hHeld ?_;try simp only[Act.put]
 refine tkI 10 hHeld ?_;try simp only[Act.put]
 refine tkI 11 hHeld ?_;try simp only[Act.put]
 refine tkI 12 hHeld ?_;try simp only[Act.put]
 refine tkI 13 hHeld ?_;try simp only[Act.put]
 refine wpAnyH_ready (rs:=[4,14]) (by kernel_rfl) (by simp) ?_;refine AllReadyH.cons rfl (λ K hK=>?_) (AllReadyH.cons rfl (λ K hK=>?_) AllReadyH.nil)
 ·go_simp;refine hK.out _ _ hHeld (λ _=>?_);clear hK K;(try simp only[Act.put]);refine rdI 14 (λ K hK=>?_);go_simp;refine (iM ⟨body.toArray⟩ _ Ap).mono ?_;rintro e w1 ⟨rfl,A0⟩;have Ad:w1.cell? ⟨w.heap.size,0,none⟩=some (.int .u8 (k:Int))/\w1.cell? ⟨w.heap.size,1,none⟩=some (.int .i64 (t:Int))/\w1.cell? ⟨w.heap.size,3,none⟩=some (.int .i64 (n:Int))/\w1.cell? ⟨w.heap.size,4,none⟩=some (.string ⟨body.toArray⟩) :=
   ⟨(A0.cell (p:=⟨w.heap.size,0,none⟩) A4).trans b0,(A0.cell (p:=⟨w.heap.size,1,none⟩) A4).trans b1,(A0.cell (p:=⟨w.heap.size,3,none⟩) A4).trans b3,(A0.cell (p:=⟨w.heap.size,4,none⟩) A4).trans b4⟩
  obtain⟨gg,cap,w2,hP⟩:=HT.out w1 A0;obtain⟨⟨g2,g3⟩,Ag,Ai,Ak,Aa,c4,f4,A5,A1⟩:=hP;have HF:Hid _:=A1;clear A1;(try go_wp2_with fail);refine hK.out _ _ Ad (λ hHeld1=>?_);clear hK K;(try simp only[Act.put]);refine tkI 15 hHeld1 ?_;(try simp only[Act.put]);refine rdI 16 (λ K hK=>?_);go_simp;refine hK.out _ _ Aa (λ hHeld2=>?_);clear hK K;(try simp only[Act.put]);refine rdI 17 (λ K hK=>?_);go_simp;refine hK.out _ _ A5.1 (λ hHeld3=>?_);clear hK K;(try simp only[Act.put]);refine tkI 18 hHeld3 ?_;(try simp only[Act.put]);refine tkI 19 hHeld3 ?_;(try simp only[Act.put]);refine rdI 20 (λ K hK=>?_);go_simp;refine hK.out _ _ A5.2 (λ hHeld4=>?_);clear hK K;(try simp only[Act.put]);refine wpAnyH_done (by kernel_rfl) ?_ _;go_wp2;exact bodyPost_end (results_none Tryz.results258 _ _ _) rfl ⟨gg,cap,⟨_,rfl⟩,HF.out⟩
 ·go_simp;refine (iM ⟨body.toArray⟩ _ Ap).mono ?_;rintro e w1 ⟨rfl,A0⟩;have Ad:w1.cell? ⟨w.heap.size,0,none⟩=some (.int .u8 (k:Int))/\w1.cell? ⟨w.heap.size,1,none⟩=some (.int .i64 (t:Int))/\w1.cell? ⟨w.heap.size,3,none⟩=some (.int .i64 (n:Int))/\w1.cell? ⟨w.heap.size,4,none⟩=some (.string ⟨body.toArray⟩) :=
   ⟨(A0.cell (p:=⟨w.heap.size,0,none⟩) A4).trans b0,(A0.cell (p:=⟨w.heap.size,1,none⟩) A4).trans b1,(A0.cell (p:=⟨w.heap.size,3,none⟩) A4).trans b3,(A0.cell (p:=⟨w.heap.size,4,none⟩) A4).trans b4⟩
  obtain⟨gg,cap,w2,hP⟩:=HT.out w1 A0;obtain⟨⟨g2,g3⟩,Ag,Ai,Ak,Aa,c4,f4,A5,A1⟩:=hP;have HF:Hid _:=A1;clear A1;(try go_wp2_with fail);refine hK.out _ _ Ad (λ hHeld1=>?_);clear hK K;(try simp only[Act.put]);refine tkI 15 hHeld1 ?_;(try simp only[Act.put]);refine wpAnyH_ready (rs:=[4,16]) (by kernel_rfl) (by simp) ?_;refine AllReadyH.cons rfl (λ K hK=>?_) (AllReadyH.cons rfl (λ K hK=>?_) AllReadyH.nil)
  ·go_simp;refine hK.out _ _ hHeld1 (λ _=>?_);clear hK K;(try simp only[Act.put]);refine rdI 16 (λ K hK=>?_);go_simp;refine hK.out _ _ Aa (λ hHeld2=>?_);clear hK K;(try simp only[Act.put]);refine rdI 17 (λ K hK=>?_);go_simp;refine hK.out _ _ A5.1 (λ hHeld3=>?_);clear hK K;(try simp only[Act.put]);refine tkI 18 hHeld3 ?_;(try simp only[Act.put]);refine tkI 19 hHeld3 ?_;(try simp only[Act.put]);refine rdI 20 (λ K hK=>?_);go_simp;refine hK.out _ _ A5.2 (λ hHeld4=>?_);clear hK K;(try simp only[Act.put]);refine wpAnyH_done (by kernel_rfl) ?_ _;go_wp2;exact bodyPost_end (results_none Tryz.results258 _ _ _) rfl ⟨gg,cap,⟨_,rfl⟩,HF.out⟩
  ·go_simp;refine hK.out _ _ Aa (λ hHeld2=>?_);clear hK K;(try simp only[Act.put]);refine rdI 4 (λ K hK=>?_);go_simp;refine hK.out _ _ hHeld2 (λ _=>?_);clear hK K;(try simp only[Act.put]);refine rdI 17 (λ K hK=>?_);go_simp;refine hK.out _ _ A5.1 (λ hHeld3=>?_);clear hK K;(try simp only[Act.put]);refine tkI 18 hHeld3 ?_;(try simp only[Act.put]);refine tkI 19 hHeld3 ?_;(try simp only[Act.put]);refine rdI 20 (λ K hK=>?_);go_simp;refine hK.out _ _ A5.2 (λ hHeld4=>?_);clear hK K;(try simp only[Act.put]);refine wpAnyH_done (by kernel_rfl) ?_ _;go_wp2;exact bodyPost_end (results_none Tryz.results258 _ _ _) rfl ⟨gg,cap,⟨_,rfl⟩,HF.out⟩
def dw (n:Nat):UInt8:=UInt8.ofNat (if n<10 then 48+n else 87+n)
def bQ:Nat->Nat->List UInt8
 | 0,_=>[]
 | k+1,u=>bQ k (u/16)++[dw (u%16)]
def fy:Nat->Nat->List UInt8
 | 0,_=>[]
 | k+1,u=>if u<16 then [dw u] else fy k (u/16)++[dw (u%16)]
theorem fZ (k u:Nat):(bQ k u).length=k:=by
 induction k generalizing u with
 | zero=>rfl
 | succ k ih=>simp[bQ,ih]
theorem yl (k u:Nat):(fy k u).length<=k:=by
 induction k generalizing u with
 | zero=>exact Nat.le_refl _
 | succ k ih =>
   unfold fy;split
   ·simp
   ·have:=ih (u/16);simp;omega
theorem vh (k:Nat):bQ k 0=List.replicate k 48:=by
 induction k with
 | zero=>rfl
 | succ k ih =>rw[bQ,Nat.zero_div,ih,List.replicate_succ'];rfl
theorem xo (k u:Nat):0<k->0<(fy k u).length:=by
 cases k with
 | zero=>omega
 | succ k =>intro _;unfold fy;split<;>simp
theorem y8 (k u:Nat)(h:u<16 ^ (k+1)):List.replicate (k+1-(fy (k+1) u).length) 48++fy (k+1) u=bQ (k+1) u:=by
 induction k generalizing u with
 | zero =>(have h':u<16:=by simpa using h);simp[fy,bQ,h',Nat.mod_eq_of_lt h']
 | succ k ih =>
   by_cases hu:u<16
   ·(have e:fy (k+1+1) u=[dw u]:=by rw[fy,if_pos hu]);rw[e,bQ,Nat.div_eq_of_lt hu,vh,Nat.mod_eq_of_lt hu];rfl
   ·(have e:fy (k+1+1) u=fy (k+1) (u/16)++[dw (u%16)]:=by rw[fy,if_neg hu]);(have h2:u/16<16 ^ (k+1):=by rw[Nat.div_lt_iff_lt_mul (by decide),<- Nat.pow_succ];exact h);rw[e,bQ,<- ih (u/16) h2,List.length_append,List.length_singleton,<- List.append_assoc];congr 3;omega
theorem gE (k u:Nat):bQ (k+4) u=bQ k (u/65536)++bQ 4 (u%65536):=by
 show ((((bQ k (u/16/16/16/16)++[dw (u/16/16/16%16)])++[dw (u/16/16%16)])++[dw (u/16%16)])++[dw (u%16)])=bQ k (u/65536)++(((([]++[dw (u%65536/16/16/16%16)])++[dw (u%65536/16/16%16)])++[dw (u%65536/16%16)])++[dw (u%65536%16)]);rw[show u/16/16/16/16=u/65536 by omega,show u%65536/16/16/16%16=u/16/16/16%16 by omega,show u%65536/16/16%16=u/16/16%16 by omega,show u%65536/16%16=u/16%16 by omega,show u%65536%16=u%16 by omega];simp
def pg (h:Nat)(c:UInt8):Nat:=(h ^^^ c.toNat)*1099511628211%18446744073709551616
def fnv (l:List UInt8):Nat:=l.foldl pg 14695981039346656037
theorem pM (l:List UInt8)(c:UInt8):fnv (l++[c])=pg (fnv l) c:=by
 unfold fnv;rw[List.foldl_append,List.foldl_cons,List.foldl_nil]
theorem zi (h:Nat)(c:UInt8):pg h c<18446744073709551616:=by
 unfold pg;omega
theorem yM (l:List UInt8):fnv l<18446744073709551616:=by
 suffices h:∀ (l:List UInt8) (x:Nat),x<18446744073709551616->l.foldl pg x<18446744073709551616 from h l _ (by omega)
 intro l;induction l with
 | nil=>exact λ x hx=>hx
 | cons c l ih=>exact λ x _=>ih _ (zi x c)
theorem wI (H:Nat)(c:UInt8)(hH:H<18446744073709551616):IntKind.u64.wrap (bits .xor .u64 (H:Int) (c.toNat:Int)*1099511628211)=((pg H c:Nat):Int):=by
 rw[u64_xor_nat H c.toNat hH (by have:=c.toNat_lt;omega),IntKind.wrap_u64];unfold pg;omega
open Go.RowKit
def Tz (w:World):Prop:=w.cell? ⟨3,15,none⟩=some (.int .u8 4)
theorem Tz.below {w w':World}(h:Tz w)(hb:Below w.heap.size w w'):Tz w':=(hb.cell (p:=⟨3,15,none⟩) (World.block_lt_of_cell? _ _ h)).trans h
theorem zg (w:World):Calls Tryz.prog 211 #[.int .i64 16] w λ e w'=>e=.returned (.bool true)/\w'=w:=by
 go_enter Tryz.func211,Tryz.ntmps211;go_wp2;go_ret;exact⟨rfl,rfl⟩
theorem zt (w:World)(h:Tz w):Calls Tryz.prog 260 #[.int .u64 16] w λ e w'=>e=.returned (.int .i64 4)/\w'=w:=by
 unfold Tz at h;have e4:IntKind.u64.wrap (bits .and .u64 16 (IntKind.u64.wrap (-16))*285870213051353865)/288230376151711744=15:=by decide +kernel
 go_enter Tryz.func260,Tryz.ntmps260;go_wp2;go_ret;exact⟨rfl,rfl⟩
theorem BB (w:World)(h:Tz w):Calls Tryz.prog 212 #[.int .u64 16] w λ e w'=>e=.returned (.int .i64 4)/\w'=w:=by
 go_enter Tryz.func212,Tryz.ntmps212;go_wp2_with fail;refine (zt _ h).mono ?_;rintro e w1 ⟨rfl,rfl⟩;go_wp2;go_ret;exact⟨rfl,rfl⟩
def nD:ByteArray:=⟨#[48,49,50,51,52,53,54,55,56,57,97,98,99,100,101,102,103,104,105,106,107,108,109,110,111,112,113,114,115,116,117,118,119,120,121,122]⟩
theorem tU:∀ k:Fin 16,nD[k.val]'(by have:nD.size=36:=rfl;omega)=dw k.val:=by decide
theorem qC (k:Nat)(h:k<16)(w:World):(Instr.index 9 (.string nD) (.int .u64 (k:Int))).run Tryz.prog w=.ok (.int .u8 ((dw k).toNat:Int)) w:=by
 have hd:nD.size=36:=rfl;rw[run_index_string _ 9 nD .u64 k Tryz.underlying9,dif_pos ⟨by omega,by rw[hd];omega⟩];exact congrArg (λ z:UInt8=>Result.ok (Value.int .u8 (z.toNat:Int)) w) (tU ⟨k,h⟩)
structure Ar (w x:World)(D:List UInt8):Prop where
 b:Below w.heap.size w x
 c:∀ j,j<65->∃ v:UInt8,x.cell? ⟨w.heap.size,j,none⟩=some (.int .u8 (v.toNat:Int))
 d:∀ j,j<D.length->x.cell? ⟨w.heap.size,65-D.length+j,none⟩=some (.int .u8 ((D.getD j 0).toNat:Int))
 f:∀ j,j<65->x.frozen? ⟨w.heap.size,j,none⟩=false
 lt:w.heap.size<x.heap.size
theorem Ar.push {w x:World}{D:List UInt8}(h:Ar w x D)(c:UInt8)(hD:D.length<65):Ar w (x.setCell ⟨w.heap.size,64-D.length,none⟩ (.int .u8 (c.toNat:Int))) (c::D):=by
 obtain⟨v,hv⟩:=h.c (64-D.length) (by omega);have A1:=World.cell?_setCell_same x ⟨w.heap.size,64-D.length,none⟩ (.int .u8 (c.toNat:Int)) hv;have A0:∀ j,j≠64-D.length->(x.setCell ⟨w.heap.size,64-D.length,none⟩ (.int .u8 (c.toNat:Int))).cell? ⟨w.heap.size,j,none⟩=x.cell? ⟨w.heap.size,j,none⟩:=λ j hj =>
  World.cell?_setCell_other _ _ _ _ (by intro e;injection e;omega)
 refine⟨h.b.setCell (Nat.le_refl _) _,λ j hj=>?_,λ j hj=>?_,λ j hj=>?_,?_⟩
 ·by_cases e:j=64-D.length
  ·rw[e];exact⟨c,A1⟩
  ·rw[A0 j e];exact h.c j hj
 ·cases j with
  | zero =>rw[show 65-(c::D).length+0=64-D.length by simp];exact A1
  | succ j =>(have A2:j<D.length:=by simpa using hj);rw[show 65-(c::D).length+(j+1)=65-D.length+j by simp;omega,A0 _ (by omega),h.d j A2];simp
 ·rw[World.frozen?_setCell];exact h.f j hj
 ·simpa [World.setCell] using h.lt
theorem Ar.text {w x:World}{D:List UInt8}(h:Ar w x D)(n cp:Nat)(hn:n=D.length):(convert 115 9 (.slice (some ⟨w.heap.size,65-D.length,none⟩) n cp)).run Tryz.prog x=.ok (.string ⟨D.toArray⟩) x:=by
 subst hn;exact run_convert_bytes_back (P:=Tryz.prog) x 115 9 5 ⟨w.heap.size,65-D.length,none⟩ cp D Tryz.underlying115 Tryz.underlying5 Tryz.underlying9 (λ j hj=>by
  rw[Go.WideShapes.add_plain,h.d j hj];rw[List.getD,List.getElem?_eq_getElem hj]
  rfl)
theorem uu:Tryz.zeroCells294=Array.replicate 65 (.int .u8 0):=by kernel_rfl
theorem Ar.made (w:World):Ar w (w.alloc (.cells Tryz.zeroCells294 294)) []:=by
 refine⟨(Below.refl _ _).alloc (Nat.le_refl _) _,λ j hj=>⟨0,?_⟩,λ j hj=>absurd hj (by simp),λ j hj=>?_,by simp⟩
 ·rw[uu];simp[hj]
 ·rw[uu];simp
theorem zv (W:World)(g j:Nat)(h:j<65):(Instr.sliceAt 294 (.pointer (some ⟨g,0,none⟩)) (some (.int .i64 (j:Int))) none none).run Tryz.prog W=.ok (.slice (some ⟨g,j,none⟩) (65-j) (65-j)) W:=by
 have hu:Tryz.prog.underlying 294=some (.array (Tryz.prog.arrayLen 294) (Tryz.prog.elem 294)):=by kernel_rfl
 have hl:Tryz.prog.arrayLen 294=65:=by kernel_rfl
 have he:Tryz.prog.elem 294=5:=by kernel_rfl
 rw[run_sliceAt_array_l W 294 ⟨g,0,none⟩ hu .i64 (j:Int) (by omega) (by rw[hl];omega),hl,he,Tryz.sizeOf5];simp only[Result.andThen,slicedAt,Int.toNat_natCast,Nat.mul_one];rw[if_neg (by omega),Go.WideShapes.add_plain,Nat.zero_add]
theorem BE (u:Nat)(h:u<18446744073709551616):bits .and .u64 (u:Int) 15=((u%16:Nat):Int):=by
 have:=u64_and_nat u 15 h (by omega);rw[show (u &&& 15:Nat)=u%16 from Nat.and_two_pow_sub_one_eq_mod u 4] at this;exact this
theorem nu (U:Nat)(w:World)(hU:U<18446744073709551616)(h:Tz w):Calls Tryz.prog 151 #[.slice none 0 0,.int .u64 (U:Int),.int .i64 16,.bool false,.bool false] w λ e w'=>e=.returned (.tuple #[.slice none 0 0,.string ⟨(fy 16 U).toArray⟩])/\Below w.heap.size w w':=by
 go_enter Tryz.func151,Tryz.ntmps151;go_wp2_with fail;refine (zg _).mono ?_;rintro e w1 ⟨rfl,A3⟩;have A4:Ar w w1 []:=by rw[A3];exact Ar.made w
 clear A3;go_wp2_with fail;refine (BB _ (h.below A4.b)).mono ?_;rintro e w2 ⟨rfl,rfl⟩;go_wp2;go_loopw [1,13] (λ u i wr=>∃ (n k:Nat) (D:List UInt8),u=.int .u64 (n:Int)/\i=.int .i64 ((65-D.length:Nat):Int)/\D.length+k=16/\0<k/\n<16 ^ k/\Hid (fy 16 U=fy k n++D)/\Ar w wr D) (λ u _ _=>(intOf u).toNat);case atStart=>exact⟨U,16,[],rfl,rfl,rfl,by omega,by omega,(List.append_nil _).symm,A4⟩
 case round =>
  obtain⟨n,k,D,rfl,rfl,hk,A8,hn,hx,ar⟩:=hrel;(have A2:n<18446744073709551616:=by have:16 ^ k<=16 ^ 16:=Nat.pow_le_pow_right (by decide) (by omega);omega);obtain⟨j,hj⟩:∃ j,64-D.length=j:=⟨_,rfl⟩;(have A6:((65-D.length:Nat):Int)=(j:Int)+1:=by omega);(have A0:j<65:=by omega);obtain⟨v0,Ab⟩:=ar.c j A0;have Aa:=ar.f j A0;rw[A6];by_cases hge:16<=n
  ·have ha:=BE n A2;have hd:=qC (n%16) (by omega);unfold nD at hd;have HE:Hid (nD[n%16]'(by have:nD.size=36:=rfl;omega)=dw (n%16)):=tU ⟨n%16,by omega⟩;have HA:Hid _:=ar.push (dw (n%16)) (by omega);clear hd;go_wp2;refine⟨⟨n/16,k-1,dw (n%16)::D,by go_num,by simp;omega,by simp;omega,?_,?_,?_,?_⟩,by simp[intOf];omega⟩
   ·apply Classical.byContradiction;intro hc;(obtain rfl:k=1:=by omega);omega
   ·obtain⟨k',rfl⟩:∃ k',k=k'+1:=⟨k-1,by omega⟩;rw[Nat.add_sub_cancel,Nat.div_lt_iff_lt_mul (by decide),<- Nat.pow_succ];exact hn
   ·show _=_;obtain⟨k',rfl⟩:∃ k',k=k'+1:=⟨k-1,by omega⟩;rw[hx.out,Nat.add_sub_cancel,fy,if_neg (by omega)];simp
   ·have:=HA.out;rw[hj] at this;have e:=HE.out;unfold nD at e;rw[e];exact this
  ·have hd:=qC n (by omega);unfold nD at hd;have HA:Hid _:=ar.push (dw n) (by omega);have A9:=λ W=>zv W w.heap.size j A0;have A1:=(ar.push (dw n) (by omega));rw[hj] at A1;have A5:=A1.text (65-j) (65-j) (by simp;omega);rw[show 65-(dw n::D).length=j by simp;omega] at A5;(have HR:Hid (fy 16 U=dw n::D):=by show _=_;obtain⟨k',rfl⟩:∃ k',k=k'+1:=⟨k-1,by omega⟩;rw[hx.out,fy,if_pos (by omega)];rfl);have A7:=A1.b;clear HA;go_wp2;rw[HR.out];go_ret2;exact⟨rfl,A7⟩
theorem nE (U:Nat)(w:World)(hU:U<18446744073709551616)(h:Tz w):Calls Tryz.prog 254 #[.int .u64 (U:Int),.int .i64 16] w λ e w'=>e=.returned (.string ⟨(fy 16 U).toArray⟩)/\Below w.heap.size w w':=by
 go_enter Tryz.func254,Tryz.ntmps254;go_wp2_with fail;refine (nu U _ hU h).mono ?_;rintro e w1 ⟨rfl,hb⟩;go_wp2;go_ret;exact⟨rfl,hb⟩
theorem sr (U:Nat)(w:World)(hU:U<18446744073709551616)(h:Tz w):Calls Tryz.prog 201 #[.int .u64 (U:Int),.int .i64 16] w λ e w'=>e=.returned (.string ⟨(fy 16 U).toArray⟩)/\Below w.heap.size w w':=by
 go_enter Tryz.func201,Tryz.ntmps201;go_wp2_with fail;refine (nE U _ hU h).mono ?_;rintro e w1 ⟨rfl,hb⟩;go_wp2;go_ret;exact⟨rfl,hb⟩
theorem zy (c:Nat):Lib.repeatL [48] c=List.replicate c 48:=by
 induction c with
 | zero=>rfl
 | succ c ih =>simp[Lib.repeatL,List.replicate_succ] at ih ⊢;exact ih
theorem uc (s:ByteArray)(w:World)(hs:s.size<=9223372036854775807)(h:Tz w):Calls Tryz.prog 141 #[.string s] w λ e w'=>e=.returned (.string ⟨(bQ 16 (fnv s.data.toList)).toArray⟩)/\Below w.heap.size w w':=by
 go_enter Tryz.func141,Tryz.ntmps141;go_wp2;go_loop [3,8] (λ hh i=>∃ k:Nat,k<=s.size/\i=.int .i64 k/\hh=.int .u64 ((fnv (s.data.toList.take k):Nat):Int)) (λ _ i=>s.size-(intOf i).toNat);case atStart=>exact⟨0,Nat.zero_le _,rfl,rfl⟩
 case round =>
  obtain⟨k,hk,rfl,rfl⟩:=hrel;by_cases hlt:k<s.size
  ·have A0:=yM (s.data.toList.take k);(have HX:Hid (fnv (s.data.toList.take (k+1))=pg (fnv (s.data.toList.take k)) s[k]):=by show _=_;rw[aV s k hlt,pM]);obtain⟨F,hF⟩:∃ F,fnv (s.data.toList.take k)=F:=⟨_,rfl⟩;rw[hF] at A0 HX ⊢;have A1:=wI F s[k] A0;(have A3:IntKind.u64.wrap (s[k].toNat:Int)=(s[k].toNat:Int):=by rw[IntKind.wrap_u64];have:=s[k].toNat_lt;omega);rw[<- A3] at A1;obtain⟨F2,A5⟩:∃ F2,pg F s[k]=F2:=⟨_,rfl⟩;rw[A5] at HX A1;have HS:Hid _:=A1;clear A1 A3;go_wp2;exact⟨⟨k+1,by omega,by go_num,by rw[HS.out,HX.out]⟩,by simp[intOf];omega⟩
  ·(obtain rfl:k=s.size:=by omega);rw[List.take_of_length_le (by rw[Lib.size_eq];exact Nat.le_refl _)];have hl:=yM s.data.toList;obtain⟨F,hF⟩:∃ F,fnv s.data.toList=F:=⟨_,rfl⟩;rw[hF] at hl ⊢;have hp:=y8 15 F (by omega);have hm:=yl 16 F;have hq:=xo 16 F (by omega);have HP:Hid _:=hp;clear hp;go_wp2_with fail;refine (sr F _ hl h).mono ?_;rintro e w1 ⟨rfl,A4⟩;obtain⟨M,hM⟩:∃ M,fy 16 F=M:=⟨_,rfl⟩;rw[hM] at hm hq HP ⊢;go_wp2_with fail;rw[show (16:Int)-(M.length:Int)=((16-M.length:Nat):Int) by omega];have A2:=Tryz.strings_Repeat ⟨#[48]⟩ (16-M.length) w1 (by omega) (by show 1*_<=_;omega);rw[show (⟨#[48]⟩:ByteArray).data.toList=[48] from rfl,zy] at A2;refine A2.mono ?_;rintro e w2 ⟨rfl,A7⟩;clear A2;obtain⟨Z,hZ⟩:∃ Z,List.replicate (16-M.length) (48:UInt8)=Z:=⟨_,rfl⟩;(have A8:Z.length<=16:=by rw[<- hZ];simp);(have A6:Hid (Z++M=bQ 16 F):=by have:=HP.out;rw[show 15+1-M.length=16-M.length by omega,hZ] at this;exact this);rw[hZ];clear hZ HP;go_wp2;go_ret;refine⟨aM ?_,A4.trans (A7.mono A4.size)⟩;rw[hF,<- A6.out];apply ByteArray.ext;simp[ByteArray.data_append]
end Go.Proofs.YtmehkneofinmiaaGreatDoor

/-
 Texts of this proof, part 22.
-/
import Derived.Test.YtmehkneofinmiaaGreatDoorP20
import Derived.Test.YtmehkneofinmiaaGreatDoorP21
set_option maxRecDepth 100000
set_option maxHeartbeats 8000000
namespace Go.Proofs.YtmehkneofinmiaaGreatDoor
open Go.RowKit
abbrev bookC (s:Nat):Value:=.iface 122 (.pointer (some ⟨s,7,none⟩))
theorem cmn_of {w:World}{s:Nat}{cs:Array Value}{T:TypeId}{t k:Int}(h:w.heap[s]?=some (.cells cs T (0,0)))(h0:cs[7]?=some (.int .i32 0))(h2:cs[9]?=some (.int .i64 t))(h3:cs[10]?=some (.int .i64 k)):Cmn w s 7 t k :=
 ⟨by simp[World.cell?,h,h0],by simp[World.cell?,h,h2],by simp[World.cell?,h,h3],fun j=>by simp[World.frozen?,h]⟩
theorem change_no1 (g o p s:Nat)(E:Ent)(vs:Value)(k t n:Nat)(key body:List UInt8)(w:World)(h:EntAt w p E vs)(hl:E.vers.length<1000)(ho:obstF E k n≠0) :
 Calls Tryz.prog 143 #[.pointer (some ⟨g,o,none⟩),.pointer (some ⟨p,0,none⟩),recA k t key n body,bookC s] w fun e w'=>e=.returned (.tuple #[.int .i64 (obstF E k n:Nat),.bool false])/\Below w.heap.size w w':=by
 have hal:Below w.heap.size w (w.alloc (.cells #[.int .u8 k,.int .i64 t,.string ⟨key.toArray⟩,.int .i64 n,.string ⟨body.toArray⟩] 181)):=(Below.refl _ _).alloc (Nat.le_refl _) _
 have HE:Hid _:=h.below hal
 have HA:Hid _:=hal
 clear h hal
 obtain⟨o',ho'⟩:∃ x,obstF E k n=x:=⟨_,rfl⟩
 go_enter Tryz.func143,Tryz.ntmps143
 go_wp2_with fail
 refine (obstacle_any p E vs k t n key body _ HE.out hl).mono ?_
 rintro e w1 ⟨rfl,hb1⟩
 rw[ho'] at ho ⊢
 have HB:Hid (Below w.heap.size w w1):=HA.out.trans (hb1.mono (by simp))
 have ho2:((o':Int)==0)=false:=beq_eq_false_iff_ne.2 (by omega)
 clear hb1
 go_wp2
 refine bodyPost_ret (results_tmp2 rfl _ _ _) rfl ?_
 exact⟨by rw[ho'];rfl,HB.out⟩
theorem change_no2 (g o p s:Nat)(cs:Array Value)(T:TypeId)(tm:Int)(E:Ent)(vs:Value)(k t n:Nat)(key body:List UInt8)(w:World)(h:EntAt w p E vs)(hl:E.vers.length<1000)(ho:obstF E k n=0)(hla:E.last=0)
 (hb:w.heap[s]?=some (.cells cs T (0,0)))(h0:cs[7]?=some (.int .i32 0))(h2:cs[9]?=some (.int .i64 tm))(h3:cs[10]?=some (.int .i64 60)) :
 Calls Tryz.prog 143 #[.pointer (some ⟨g,o,none⟩),.pointer (some ⟨p,0,none⟩),recA k t key n body,bookC s] w fun e w'=>e=.returned (.tuple #[.int .i64 507,.bool false])/\Below w.heap.size w w':=by
 have hal:Below w.heap.size w (w.alloc (.cells #[.int .u8 k,.int .i64 t,.string ⟨key.toArray⟩,.int .i64 n,.string ⟨body.toArray⟩] 181)):=(Below.refl _ _).alloc (Nat.le_refl _) _
 have HE:Hid _:=h.below hal
 have HA:Hid _:=hal
 have hlt:s<w.heap.size:=(Array.getElem?_eq_some_iff.1 hb).1
 have HS:Hid _:=(hal.block s hlt).trans hb
 have hsl:s<(w.alloc (.cells #[.int .u8 k,.int .i64 t,.string ⟨key.toArray⟩,.int .i64 n,.string ⟨body.toArray⟩] 181)).heap.size:=by simp;omega
 clear h hal hb
 go_enter Tryz.func143,Tryz.ntmps143
 go_wp2_with fail
 refine (obstacle_any p E vs k t n key body _ HE.out hl).mono ?_
 rintro e w1 ⟨rfl,hb1⟩
 rw[ho]
 have HB:Hid (Below w.heap.size w w1):=HA.out.trans (hb1.mono (by simp))
 have HE1:Hid _:=HE.out.below hb1
 have HC:Hid (Cmn w1 s 7 tm 60):=cmn_of ((hb1.block s hsl).trans HS.out) h0 h2 h3
 have hkn:decide (0<E.last)=false:=by simp[hla]
 clear hb1
 go_wp2_with fail
 refine (isKnown_any p E vs _ HE1.out).mono ?_
 rintro e w2 ⟨rfl,rfl⟩
 rw[hkn]
 go_wp2_with fail
 refine (admit_no s 7 tm _ HC.out).mono ?_
 rintro e w3 ⟨rfl,rfl⟩
 go_wp2
 refine bodyPost_ret (results_tmp2 rfl _ _ _) rfl ?_
 exact⟨rfl,HB.out⟩
theorem ne_of_types {w:World}{a b:Nat}{c1 c2:Array Value}{T1 T2:TypeId}{f1 f2:Nat×Nat}(h1:w.heap[a]?=some (.cells c1 T1 f1))(h2:w.heap[b]?=some (.cells c2 T2 f2))(h:T1≠T2):a≠b:=by
 intro e
 subst e
 rw[h1] at h2
 injection h2 with h2
 injection h2 with _ h3
 exact h h3
theorem own_block {w:World}{base:Nat}{e:TypeId}{size:Nat}{v:Value}{n:Nat}{xs:List Value}(h:w.ownsRow base e size v n xs){g:Nat}(hg:v.ownBlock=some g):∃ cur,w.heap[g]?=some (.cells cur e (0,0)):=by
 rcases h.2 with ⟨rfl,_⟩|⟨g',cap,cur,rfl,_,hh,_⟩
 ·cases hg
 ·injection hg with hg
  subst hg
  exact⟨cur,hh⟩
theorem own_far {w:World}{base:Nat}{e:TypeId}{size:Nat}{v:Value}{n:Nat}{xs:List Value}(h:w.ownsRow base e size v n xs){b:Nat}{cs:Array Value}{T:TypeId}{f:Nat×Nat}(hb:w.heap[b]?=some (.cells cs T f))(hT:e≠T):v.ownBlock≠some b:=by
 intro hg
 obtain⟨cur,hc⟩:=own_block h hg
 exact ne_of_types hc hb hT rfl
theorem own_apart {w:World}{b1 b2:Nat}{e1 e2:TypeId}{s1 s2:Nat}{v1 v2:Value}{n1 n2:Nat}{x1 x2:List Value}(h1:w.ownsRow b1 e1 s1 v1 n1 x1)(h2:w.ownsRow b2 e2 s2 v2 n2 x2)(hT:e1≠e2):∀ g,v1.ownBlock=some g->v2.ownBlock≠some g:=by
 intro g hg hg2
 obtain⟨c,hc⟩:=own_block h1 hg
 exact own_far h2 hc (Ne.symm hT) hg2
theorem Byt.off {w x:World}{base:Nat}{v:Value}{l:List UInt8}{S:Nat->Prop}(h:Byt w base v l)(ho:Off S w x)(hv:∀ g,v.ownBlock=some g->¬ S g):Byt x base v l:=by
 refine⟨h.1,?_⟩
 rcases h.2 with h0|⟨g,cap,cur,hv',h1,hg,h2⟩
 ·exact Or.inl h0
 ·exact Or.inr ⟨g,cap,cur,hv',h1,(ho.block g (Array.getElem?_eq_some_iff.1 hg).1 (hv g (by rw[hv'];rfl))).trans hg,h2⟩
structure Kt (w:World)(es:Value)(ps:List Nat)(K:List (List UInt8)):Prop where
 k:Keys w es ps K
 t:∀ q∈ps,∃ cq,w.heap[q]?=some (.cells cq 230 (0,0))
theorem Kt.off {w x:World}{es:Value}{ps:List Nat}{K:List (List UInt8)}{S:Nat->Prop}(h:Kt w es ps K)(ho:Off S w x)(he:∀ g,es.ownBlock=some g->¬ S g)(hq:∀ q∈ps,¬ S q):Kt x es ps K:=by
 refine⟨⟨⟨h.k.row.1,?_⟩,h.k.len,fun i p k hp hk=>?_,fun p hp=>Nat.lt_of_lt_of_le (h.k.lt p hp) ho.size⟩,fun q hq'=>?_⟩
 ·rcases h.k.row.2 with h0|⟨g,cap,cur,hv',h1,hg,h2⟩
  ·exact Or.inl h0
  ·exact Or.inr ⟨g,cap,cur,hv',h1,(ho.block g (Array.getElem?_eq_some_iff.1 hg).1 (he g (by rw[hv'];rfl))).trans hg,h2⟩
 ·have hm:=List.mem_of_getElem? hp
  have:=h.k.key i p k hp hk
  simp only[World.cell?] at this ⊢
  rw[ho.block p (h.k.lt p hm) (hq p hm)]
  exact this
 ·obtain⟨cq,hc⟩:=h.t q hq'
  exact⟨cq,(ho.block q (h.k.lt q hq') (hq q hq')).trans hc⟩
theorem Kt.below {w x:World}{es:Value}{ps:List Nat}{K:List (List UInt8)}(h:Kt w es ps K)(hb:Below w.heap.size w x):Kt x es ps K :=
 h.off (Off.of_below (S:=fun _=>False) hb) (fun _ _ h=>h) (fun _ _ h=>h)
structure Jrn (w':World)(s:Nat)(cs:Array Value)(jr jr':Value)(J:List UInt8)(N:Nat):Prop where
 blk:w'.heap[s]?=some (.cells cs 119 (0,0))
 byt:Byt w' 0 jr' J
 at':jr'.ownBlock=jr.ownBlock\/∃ g,jr'.ownBlock=some g/\N<=g
theorem change_rm (g o p s:Nat)(cs:Array Value)(tm:Nat)(jr:Value)(J:List UInt8)(E:Ent)(vs:Value)(t n i:Nat)(key body:List UInt8)(w:World)(h:EntAt w p E vs)(hl:E.vers.length<1000)(hn:vidx E.vers n=some i)(hla:0<E.last)
 (hb:w.heap[s]?=some (.cells cs 119 (0,0)))(h0:cs[7]?=some (.int .i32 0))(h2:cs[9]?=some (.int .i64 tm))(h4:cs[11]?=some jr)(hj:Byt w 0 jr J)
 (ht:tm<9223372036854775807)(hnn:n<9223372036854775807)(hkl:key.length<100000)(hbl:body.length<100000)(hJ:J.length<140000000000000) :
 Calls Tryz.prog 143 #[.pointer (some ⟨g,o,none⟩),.pointer (some ⟨p,0,none⟩),recA 3 t key n body,bookC s] w fun e w'=>e=.returned (.tuple #[.int .i64 204,.bool true]) /\
  ∃ jr' vs',Jrn w' s (cs.setIfInBounds 11 jr') jr jr' (J++recF 3 tm key n body) w.heap.size/\EntAt w' p ⟨E.key,E.last,E.vers.eraseIdx i⟩ vs'/\vs'.ownBlock=vs.ownBlock/\Off (fun k=>k=s\/jr.ownBlock=some k\/k=p\/vs.ownBlock=some k) w w':=by
 have hal:Below w.heap.size w (w.alloc (.cells #[.int .u8 3,.int .i64 t,.string ⟨key.toArray⟩,.int .i64 n,.string ⟨body.toArray⟩] 181)):=(Below.refl _ _).alloc (Nat.le_refl _) _
 have HE:Hid _:=h.below hal
 have HA:Hid _:=hal
 have hlt:s<w.heap.size:=(Array.getElem?_eq_some_iff.1 hb).1
 have HS:Hid _:=(hal.block s hlt).trans hb
 have HJ:Hid (Byt (w.alloc (.cells #[.int .u8 3,.int .i64 t,.string ⟨key.toArray⟩,.int .i64 n,.string ⟨body.toArray⟩] 181)) 0 jr J):=hj.below hal
 have hsl:s<(w.alloc (.cells #[.int .u8 3,.int .i64 t,.string ⟨key.toArray⟩,.int .i64 n,.string ⟨body.toArray⟩] 181)).heap.size:=by simp;omega
 have ho:obstF E 3 n=0:=by simp[obstF,hn]
 clear h hal hb hj
 go_enter Tryz.func143,Tryz.ntmps143
 go_wp2_with fail
 refine (obstacle_any p E vs 3 t n key body _ HE.out hl).mono ?_
 rintro e w1 ⟨rfl,hb1⟩
 rw[ho]
 have hr1:w1.heap[w.heap.size]?=some (.cells #[.int .u8 3,.int .i64 t,.string ⟨key.toArray⟩,.int .i64 n,.string ⟨body.toArray⟩] 181 (0,0)):=(hb1.block _ (by simp)).trans (heap_alloc_new _ _)
 have HB:Hid (Below w.heap.size w w1):=HA.out.trans (hb1.mono (by simp))
 have HE1:Hid _:=HE.out.below hb1
 have HS1:Hid (w1.heap[s]?=some (.cells cs 119 (0,0))):=(hb1.block s hsl).trans HS.out
 have HJ1:Hid (Byt w1 0 jr J):=Byt.below (base:=0) (l:=J) HJ.out hb1
 have hkn:decide (0<E.last)=true:=by simpa using hla
 have r0:w1.cell? ⟨w.heap.size,0,none⟩=some (.int .u8 3):=by simp[World.cell?,hr1]
 have HR1:Hid _:=hr1
 clear hb1 hr1 HJ HS HE HA
 go_wp2_with fail
 refine (isKnown_any p E vs _ HE1.out).mono ?_
 rintro e w2 ⟨rfl,rfl⟩
 rw[hkn]
 go_wp2_with fail
 refine (success_any p E vs 3 _ HE1.out hl).mono ?_
 rintro e w2 ⟨rfl,hb2⟩
 rw[show succF E 3=204 from by simp[succF]]
 have hr2:w2.heap[w.heap.size]?=some (.cells #[.int .u8 3,.int .i64 t,.string ⟨key.toArray⟩,.int .i64 n,.string ⟨body.toArray⟩] 181 (0,0)):=(hb2.block _ (Array.getElem?_eq_some_iff.1 HR1.out).1).trans HR1.out
 have hs2:w2.heap[s]?=some (.cells cs 119 (0,0)):=(hb2.block s (Array.getElem?_eq_some_iff.1 HS1.out).1).trans HS1.out
 have hj2:Byt w2 0 jr J:=Byt.below (base:=0) (l:=J) HJ1.out hb2
 have HE2:Hid _:=HE1.out.below hb2
 have HB2:Hid (Below w.heap.size w w2):=HB.out.trans (hb2.mono HB.out.size)
 have q0:w2.cell? ⟨w.heap.size,0,none⟩=some (.int .u8 3):=by simp[World.cell?,hr2]
 have q1:w2.cell? ⟨w.heap.size,1,none⟩=some (.int .i64 t):=by simp[World.cell?,hr2]
 have q2:w2.cell? ⟨w.heap.size,2,none⟩=some (.string ⟨key.toArray⟩):=by simp[World.cell?,hr2]
 have q3:w2.cell? ⟨w.heap.size,3,none⟩=some (.int .i64 n):=by simp[World.cell?,hr2]
 have q4:w2.cell? ⟨w.heap.size,4,none⟩=some (.string ⟨body.toArray⟩):=by simp[World.cell?,hr2]
 have HR2:Hid _:=hr2
 have HS2:Hid _:=hs2
 have HJ2:Hid (Byt w2 0 jr J):=hj2
 clear hr2 hs2 hj2 hb2 HR1 HS1 HJ1 HE1 r0
 go_wp2_with fail
 refine (enter_any s 7 cs 119 tm 3 t n key body jr J _ HS2.out h0 h2 h4 HJ2.out (own_far HJ2.out HS2.out (by decide)) (by omega) ht hnn hkl hbl hJ).mono ?_
 rintro e w3 ⟨rfl,jr',hs3,hj3,ha3,ho3⟩
 have hwl:w.heap.size<w2.heap.size:=(Array.getElem?_eq_some_iff.1 HR2.out).1
 have hr3:w3.heap[w.heap.size]?=some (.cells #[.int .u8 3,.int .i64 t,.string ⟨key.toArray⟩,.int .i64 n,.string ⟨body.toArray⟩] 181 (0,0)):=(ho3.block _ hwl (by rintro (h|h);exact ne_of_types HR2.out HS2.out (by decide) h;exact own_far HJ2.out HR2.out (by decide) h)).trans HR2.out
 have HE3:Hid (EntAt w3 p E vs):=HE2.out.off ho3 (by rintro (h|h);exact ne_of_types HE2.out.blk HS2.out (by decide) h;exact own_far HJ2.out HE2.out.blk (by decide) h) (by intro g hg;rintro (h|h);exact own_far HE2.out.row HS2.out (by decide) (h ▸ hg);exact own_apart HE2.out.row HJ2.out (by decide) g hg h)
 have s1:w3.cell? ⟨w.heap.size,1,none⟩=some (.int .i64 t):=by simp[World.cell?,hr3]
 have sf:w3.frozen? ⟨w.heap.size,1,none⟩=false:=by simp[World.frozen?,hr3]
 have HR3:Hid _:=hr3
 have HS3:Hid _:=hs3
 have HJ3:Hid (Byt w3 0 jr' (J++recF 3 tm key n body)):=hj3
 have HO3:Hid _:=ho3
 have HA3:Hid _:=ha3
 have s0:w3.cell? ⟨w.heap.size,0,none⟩=some (.int .u8 3):=by simp[World.cell?,hr3]
 have s2:w3.cell? ⟨w.heap.size,2,none⟩=some (.string ⟨key.toArray⟩):=by simp[World.cell?,hr3]
 have s3:w3.cell? ⟨w.heap.size,3,none⟩=some (.int .i64 n):=by simp[World.cell?,hr3]
 have s4:w3.cell? ⟨w.heap.size,4,none⟩=some (.string ⟨body.toArray⟩):=by simp[World.cell?,hr3]
 clear hr3 hs3 hj3 ho3 ha3
 go_wp2_with fail
 obtain⟨x3,hx3⟩:∃ x,x=w3.setCell ⟨w.heap.size,1,none⟩ (.int .i64 tm):=⟨_,rfl⟩
 rw[<- hx3]
 have hx:Off (fun k=>k=w.heap.size) w3 x3:=by rw[hx3];exact (Off.refl _ _).set _ 1 _ (Or.inl rfl)
 have hs3l:s<w3.heap.size:=(Array.getElem?_eq_some_iff.1 HS3.out).1
 have hsx:x3.heap[s]?=_:=(hx.block s hs3l (ne_of_types HS3.out HR3.out (by decide))).trans HS3.out
 have hjx:Byt x3 0 jr' _:=Byt.off (base:=0) HJ3.out hx (fun g hg h=>own_far HJ3.out HR3.out (by decide) (h ▸ hg))
 have hEx:EntAt x3 p E vs:=HE3.out.off hx (fun h=>ne_of_types HE3.out.blk HR3.out (by decide) h) (fun g hg h=>own_far HE3.out.row HR3.out (by decide) (h ▸ hg))
 have HOX:Hid (Off (fun k=>k=s\/jr.ownBlock=some k\/k=p\/vs.ownBlock=some k) w x3):=by
  rw[hx3]
  exact ((Off.of_below HB2.out).trans' HO3.out (fun k _ h=>h.elim Or.inl (fun h=>Or.inr (Or.inl h)))).set _ 1 _ (Or.inr (Nat.le_refl _))
 have HSX:Hid _:=hsx
 have HJX:Hid (Byt x3 0 jr' (J++recF 3 tm key n body)):=hjx
 have HEX:Hid _:=hEx
 clear hx3 hx hsx hjx hEx s0 s1 s2 s3 s4 sf HR3 HS3 HJ3 HE3 HO3
 refine (apply_rm g o p E vs tm n key body _ HEX.out (own_far HEX.out.row HEX.out.blk (by decide)) (by omega) i hn).mono ?_
 rintro e w4 ⟨⟨v,rfl⟩,vs',hE4,hv4,ho4⟩
 have H1:Hid _:=hE4
 have H2:Hid _:=ho4
 clear hE4 ho4
 go_wp2
 refine bodyPost_ret (results_tmp2 rfl _ _ _) rfl ⟨rfl,jr',vs',⟨?_,?_,?_⟩,H1.out,hv4,?_⟩
 ·exact (H2.out.block s (Array.getElem?_eq_some_iff.1 HSX.out).1 (by rintro (h|h);exact ne_of_types HSX.out HEX.out.blk (by decide) h;exact own_far HEX.out.row HSX.out (by decide) h)).trans HSX.out
 ·exact Byt.off (base:=0) HJX.out H2.out (by intro g hg;rintro (h|h);exact own_far HJX.out HEX.out.blk (by decide) (h ▸ hg);exact own_apart HJX.out HEX.out.row (by decide) g hg h)
 ·exact HA3.out.imp_right (fun ⟨g,h1,h2⟩=>⟨g,h1,Nat.le_trans HB2.out.size h2⟩)
 ·exact HOX.out.trans' H2.out (fun k _ h=>Or.inr (Or.inr h))
theorem change_known (g o p s:Nat)(cs:Array Value)(tm:Nat)(jr:Value)(J:List UInt8)(E:Ent)(vs:Value)(k t n:Nat)(key body:List UInt8)(w:World)(h:EntAt w p E vs)(hl:E.vers.length<1000)(ho:obstF E k n=0)(hk:k≠3)(hk8:k<256)(hla:0<E.last)
 (hb:w.heap[s]?=some (.cells cs 119 (0,0)))(h0:cs[7]?=some (.int .i32 0))(h2:cs[9]?=some (.int .i64 tm))(h4:cs[11]?=some jr)(hj:Byt w 0 jr J)
 (ht:tm<9223372036854775807)(hnn:n<9223372036854775807)(hkl:key.length<100000)(hbl:body.length<100000)(hJ:J.length<140000000000000) :
 Calls Tryz.prog 143 #[.pointer (some ⟨g,o,none⟩),.pointer (some ⟨p,0,none⟩),recA k t key n body,bookC s] w fun e w'=>e=.returned (.tuple #[.int .i64 (succF E k:Nat),.bool true]) /\
  ∃ jr' g2 cap2,Jrn w' s (cs.setIfInBounds 11 jr') jr jr' (J++recF k tm key n body) w.heap.size/\EntAt w' p ⟨E.key,n,E.vers++[⟨n,tm,k==2,body⟩]⟩ (.slice (some ⟨g2,0,none⟩) (E.vers.length+1) cap2)/\(vs.ownBlock=some g2\/w.heap.size<=g2)/\Off (fun k=>k=s\/jr.ownBlock=some k\/k=p\/vs.ownBlock=some k) w w':=by
 have hal:Below w.heap.size w (w.alloc (.cells #[.int .u8 k,.int .i64 t,.string ⟨key.toArray⟩,.int .i64 n,.string ⟨body.toArray⟩] 181)):=(Below.refl _ _).alloc (Nat.le_refl _) _
 have HE:Hid _:=h.below hal
 have HA:Hid _:=hal
 have hlt:s<w.heap.size:=(Array.getElem?_eq_some_iff.1 hb).1
 have HS:Hid _:=(hal.block s hlt).trans hb
 have HJ:Hid (Byt (w.alloc (.cells #[.int .u8 k,.int .i64 t,.string ⟨key.toArray⟩,.int .i64 n,.string ⟨body.toArray⟩] 181)) 0 jr J):=hj.below hal
 have hsl:s<(w.alloc (.cells #[.int .u8 k,.int .i64 t,.string ⟨key.toArray⟩,.int .i64 n,.string ⟨body.toArray⟩] 181)).heap.size:=by simp;omega
 clear h hal hb hj
 go_enter Tryz.func143,Tryz.ntmps143
 go_wp2_with fail
 refine (obstacle_any p E vs k t n key body _ HE.out hl).mono ?_
 rintro e w1 ⟨rfl,hb1⟩
 rw[ho]
 have hr1:w1.heap[w.heap.size]?=some (.cells #[.int .u8 k,.int .i64 t,.string ⟨key.toArray⟩,.int .i64 n,.string ⟨body.toArray⟩] 181 (0,0)):=(hb1.block _ (by simp)).trans (heap_alloc_new _ _)
 have HB:Hid (Below w.heap.size w w1):=HA.out.trans (hb1.mono (by simp))
 have HE1:Hid _:=HE.out.below hb1
 have HS1:Hid (w1.heap[s]?=some (.cells cs 119 (0,0))):=(hb1.block s hsl).trans HS.out
 have HJ1:Hid (Byt w1 0 jr J):=Byt.below (base:=0) (l:=J) HJ.out hb1
 have hkn:decide (0<E.last)=true:=by simpa using hla
 have r0:w1.cell? ⟨w.heap.size,0,none⟩=some (.int .u8 k):=by simp[World.cell?,hr1]
 have HR1:Hid _:=hr1
 clear hb1 hr1 HJ HS HE HA
 go_wp2_with fail
 refine (isKnown_any p E vs _ HE1.out).mono ?_
 rintro e w2 ⟨rfl,rfl⟩
 rw[hkn]
 go_wp2_with fail
 refine (success_any p E vs k _ HE1.out hl).mono ?_
 rintro e w2 ⟨rfl,hb2⟩
 obtain⟨sc,hsc⟩:∃ x,succF E k=x:=⟨_,rfl⟩
 rw[hsc]
 have HSC:Hid _:=hsc
 clear hsc
 have hr2:w2.heap[w.heap.size]?=some (.cells #[.int .u8 k,.int .i64 t,.string ⟨key.toArray⟩,.int .i64 n,.string ⟨body.toArray⟩] 181 (0,0)):=(hb2.block _ (Array.getElem?_eq_some_iff.1 HR1.out).1).trans HR1.out
 have hs2:w2.heap[s]?=some (.cells cs 119 (0,0)):=(hb2.block s (Array.getElem?_eq_some_iff.1 HS1.out).1).trans HS1.out
 have hj2:Byt w2 0 jr J:=Byt.below (base:=0) (l:=J) HJ1.out hb2
 have HE2:Hid _:=HE1.out.below hb2
 have HB2:Hid (Below w.heap.size w w2):=HB.out.trans (hb2.mono HB.out.size)
 have q0:w2.cell? ⟨w.heap.size,0,none⟩=some (.int .u8 k):=by simp[World.cell?,hr2]
 have q1:w2.cell? ⟨w.heap.size,1,none⟩=some (.int .i64 t):=by simp[World.cell?,hr2]
 have q2:w2.cell? ⟨w.heap.size,2,none⟩=some (.string ⟨key.toArray⟩):=by simp[World.cell?,hr2]
 have q3:w2.cell? ⟨w.heap.size,3,none⟩=some (.int .i64 n):=by simp[World.cell?,hr2]
 have q4:w2.cell? ⟨w.heap.size,4,none⟩=some (.string ⟨body.toArray⟩):=by simp[World.cell?,hr2]
 have HR2:Hid _:=hr2
 have HS2:Hid _:=hs2
 have HJ2:Hid (Byt w2 0 jr J):=hj2
 clear hr2 hs2 hj2 hb2 HR1 HS1 HJ1 HE1 r0
 go_wp2_with fail
 refine (enter_any s 7 cs 119 tm k t n key body jr J _ HS2.out h0 h2 h4 HJ2.out (own_far HJ2.out HS2.out (by decide)) (by omega) ht hnn hkl hbl hJ).mono ?_
 rintro e w3 ⟨rfl,jr',hs3,hj3,ha3,ho3⟩
 have hwl:w.heap.size<w2.heap.size:=(Array.getElem?_eq_some_iff.1 HR2.out).1
 have hr3:w3.heap[w.heap.size]?=some (.cells #[.int .u8 k,.int .i64 t,.string ⟨key.toArray⟩,.int .i64 n,.string ⟨body.toArray⟩] 181 (0,0)):=(ho3.block _ hwl (by rintro (h|h);exact ne_of_types HR2.out HS2.out (by decide) h;exact own_far HJ2.out HR2.out (by decide) h)).trans HR2.out
 have HE3:Hid (EntAt w3 p E vs):=HE2.out.off ho3 (by rintro (h|h);exact ne_of_types HE2.out.blk HS2.out (by decide) h;exact own_far HJ2.out HE2.out.blk (by decide) h) (by intro g hg;rintro (h|h);exact own_far HE2.out.row HS2.out (by decide) (h ▸ hg);exact own_apart HE2.out.row HJ2.out (by decide) g hg h)
 have s1:w3.cell? ⟨w.heap.size,1,none⟩=some (.int .i64 t):=by simp[World.cell?,hr3]
 have sf:w3.frozen? ⟨w.heap.size,1,none⟩=false:=by simp[World.frozen?,hr3]
 have HR3:Hid _:=hr3
 have HS3:Hid _:=hs3
 have HJ3:Hid (Byt w3 0 jr' (J++recF k tm key n body)):=hj3
 have HO3:Hid _:=ho3
 have HA3:Hid _:=ha3
 have s0:w3.cell? ⟨w.heap.size,0,none⟩=some (.int .u8 k):=by simp[World.cell?,hr3]
 have s2:w3.cell? ⟨w.heap.size,2,none⟩=some (.string ⟨key.toArray⟩):=by simp[World.cell?,hr3]
 have s3:w3.cell? ⟨w.heap.size,3,none⟩=some (.int .i64 n):=by simp[World.cell?,hr3]
 have s4:w3.cell? ⟨w.heap.size,4,none⟩=some (.string ⟨body.toArray⟩):=by simp[World.cell?,hr3]
 clear hr3 hs3 hj3 ho3 ha3
 go_wp2_with fail
 obtain⟨x3,hx3⟩:∃ x,x=w3.setCell ⟨w.heap.size,1,none⟩ (.int .i64 tm):=⟨_,rfl⟩
 rw[<- hx3]
 have hx:Off (fun k=>k=w.heap.size) w3 x3:=by rw[hx3];exact (Off.refl _ _).set _ 1 _ (Or.inl rfl)
 have hs3l:s<w3.heap.size:=(Array.getElem?_eq_some_iff.1 HS3.out).1
 have hsx:x3.heap[s]?=_:=(hx.block s hs3l (ne_of_types HS3.out HR3.out (by decide))).trans HS3.out
 have hjx:Byt x3 0 jr' _:=Byt.off (base:=0) HJ3.out hx (fun g hg h=>own_far HJ3.out HR3.out (by decide) (h ▸ hg))
 have hEx:EntAt x3 p E vs:=HE3.out.off hx (fun h=>ne_of_types HE3.out.blk HR3.out (by decide) h) (fun g hg h=>own_far HE3.out.row HR3.out (by decide) (h ▸ hg))
 have HOX:Hid (Off (fun k=>k=s\/jr.ownBlock=some k\/k=p\/vs.ownBlock=some k) w x3):=by
  rw[hx3]
  exact ((Off.of_below HB2.out).trans' HO3.out (fun k _ h=>h.elim Or.inl (fun h=>Or.inr (Or.inl h)))).set _ 1 _ (Or.inr (Nat.le_refl _))
 have HSX:Hid _:=hsx
 have HJX:Hid (Byt x3 0 jr' (J++recF k tm key n body)):=hjx
 have HEX:Hid _:=hEx
 clear hx3 hx hsx hjx hEx s0 s1 s2 s3 s4 sf HR3 HS3 HJ3 HE3 HO3
 refine (apply_known g o p E vs k tm n key body _ HEX.out (own_far HEX.out.row HEX.out.blk (by decide)) (by omega) (by omega) hk hla).mono ?_
 rintro e w4 ⟨⟨v,rfl⟩,g2,cap2,hE4,hv4,ho4⟩
 have H1:Hid _:=hE4
 have H2:Hid _:=ho4
 clear hE4 ho4
 go_wp2
 refine bodyPost_ret (results_tmp2 rfl _ _ _) rfl ⟨by rw[HSC.out];rfl,jr',g2,cap2,⟨?_,?_,?_⟩,H1.out,hv4.imp_right (fun h=>Nat.le_trans HOX.out.size h),?_⟩
 ·exact (H2.out.block s (Array.getElem?_eq_some_iff.1 HSX.out).1 (by rintro (h|h);exact ne_of_types HSX.out HEX.out.blk (by decide) h;exact own_far HEX.out.row HSX.out (by decide) h)).trans HSX.out
 ·exact Byt.off (base:=0) HJX.out H2.out (by intro g hg;rintro (h|h);exact own_far HJX.out HEX.out.blk (by decide) (h ▸ hg);exact own_apart HJX.out HEX.out.row (by decide) g hg h)
 ·exact HA3.out.imp_right (fun ⟨g,h1,h2⟩=>⟨g,h1,Nat.le_trans HB2.out.size h2⟩)
 ·exact HOX.out.trans' H2.out (fun k _ h=>Or.inr (Or.inr h))
theorem change_new (g o p s:Nat)(gs cs:Array Value)(es:Value)(ps:List Nat)(K:List (List UInt8))(i tm:Nat)(kc:Int)(jr:Value)(J:List UInt8)(E:Ent)(vs:Value)(k t n:Nat)(key body:List UInt8)(w:World)(h:EntAt w p E vs)(hl:E.vers.length<1000)(ho:obstF E k n=0)(hk:k≠3)(hk8:k<256)(hla:E.last=0)
 (hg:w.heap[g]?=some (.cells gs 164 (0,0)))(hge:gs[o+2]?=some es)(hky:Kt w es ps K)(hri:Rising K)(hpl:ps.length<1000000)(hekl:E.key.length<1000000)(hi:IsPos K E.key i)(hve:∀ g,vs.ownBlock=some g->es.ownBlock≠some g)
 (hb:w.heap[s]?=some (.cells cs 119 (0,0)))(h0:cs[7]?=some (.int .i32 0))(h2:cs[9]?=some (.int .i64 tm))(h3:cs[10]?=some (.int .i64 kc))(hkc0:0<=kc)(hkc:kc<60)(h4:cs[11]?=some jr)(hj:Byt w 0 jr J)
 (ht:tm<9223372036854775807)(hnn:n<9223372036854775807)(hkl:key.length<100000)(hbl:body.length<100000)(hJ:J.length<140000000000000) :
 Calls Tryz.prog 143 #[.pointer (some ⟨g,o,none⟩),.pointer (some ⟨p,0,none⟩),recA k t key n body,bookC s] w fun e w'=>e=.returned (.tuple #[.int .i64 (succF E k:Nat),.bool true]) /\
  ∃ jr' g1 cap1 g2 cap2,Jrn w' s ((cs.setIfInBounds 10 (.int .i64 (kc+1))).setIfInBounds 11 jr') jr jr' (J++recF k tm key n body) w.heap.size /\
  w'.heap[g]?=some (.cells (gs.setIfInBounds (o+2) (.slice (some ⟨g1,0,none⟩) (ps.length+1) cap1)) 164 (0,0)) /\
  w'.ownsRow 0 170 1 (.slice (some ⟨g1,0,none⟩) (ps.length+1) cap1) (ps.length+1) (ptrs (ps.take i++p::ps.drop i))/\(es.ownBlock=some g1\/w.heap.size<=g1) /\
  EntAt w' p ⟨E.key,n,E.vers++[⟨n,tm,k==2,body⟩]⟩ (.slice (some ⟨g2,0,none⟩) (E.vers.length+1) cap2)/\(vs.ownBlock=some g2\/w.heap.size<=g2) /\
  Off (fun k=>k=s\/jr.ownBlock=some k\/k=g\/k=p\/es.ownBlock=some k\/vs.ownBlock=some k) w w':=by
 have hal:Below w.heap.size w (w.alloc (.cells #[.int .u8 k,.int .i64 t,.string ⟨key.toArray⟩,.int .i64 n,.string ⟨body.toArray⟩] 181)):=(Below.refl _ _).alloc (Nat.le_refl _) _
 have HE:Hid _:=h.below hal
 have HA:Hid _:=hal
 have hlt:s<w.heap.size:=(Array.getElem?_eq_some_iff.1 hb).1
 have hlg:g<w.heap.size:=(Array.getElem?_eq_some_iff.1 hg).1
 have HS:Hid _:=(hal.block s hlt).trans hb
 have HG:Hid _:=(hal.block g hlg).trans hg
 have HK:Hid _:=hky.below hal
 have HJ:Hid (Byt (w.alloc (.cells #[.int .u8 k,.int .i64 t,.string ⟨key.toArray⟩,.int .i64 n,.string ⟨body.toArray⟩] 181)) 0 jr J):=hj.below hal
 have hsl:s<(w.alloc (.cells #[.int .u8 k,.int .i64 t,.string ⟨key.toArray⟩,.int .i64 n,.string ⟨body.toArray⟩] 181)).heap.size:=by simp;omega
 have hgl:g<(w.alloc (.cells #[.int .u8 k,.int .i64 t,.string ⟨key.toArray⟩,.int .i64 n,.string ⟨body.toArray⟩] 181)).heap.size:=by simp;omega
 have HVE:Hid _:=hve
 have HRI:Hid _:=hri
 have HI:Hid _:=hi
 clear h hal hb hj hg hky hve hri hi
 go_enter Tryz.func143,Tryz.ntmps143
 go_wp2_with fail
 refine (obstacle_any p E vs k t n key body _ HE.out hl).mono ?_
 rintro e w1 ⟨rfl,hb1⟩
 rw[ho]
 have hr1:w1.heap[w.heap.size]?=some (.cells #[.int .u8 k,.int .i64 t,.string ⟨key.toArray⟩,.int .i64 n,.string ⟨body.toArray⟩] 181 (0,0)):=(hb1.block _ (by simp)).trans (heap_alloc_new _ _)
 have HB:Hid (Below w.heap.size w w1):=HA.out.trans (hb1.mono (by simp))
 have HE1:Hid _:=HE.out.below hb1
 have HK1:Hid _:=HK.out.below hb1
 have HS1:Hid (w1.heap[s]?=some (.cells cs 119 (0,0))):=(hb1.block s hsl).trans HS.out
 have HG1:Hid (w1.heap[g]?=some (.cells gs 164 (0,0))):=(hb1.block g hgl).trans HG.out
 have HJ1:Hid (Byt w1 0 jr J):=Byt.below (base:=0) (l:=J) HJ.out hb1
 have hkn:decide (0<E.last)=false:=by simp[hla]
 have HR1:Hid _:=hr1
 clear hb1 hr1 HJ HS HE HA HK HG
 go_wp2_with fail
 refine (isKnown_any p E vs _ HE1.out).mono ?_
 rintro e w1' ⟨rfl,hw1⟩
 rw[hw1,hkn]
 clear hw1 w1'
 go_wp2_with fail
 refine (admit_yes s 7 tm kc _ (cmn_of HS1.out h0 h2 h3) hkc0 hkc).mono ?_
 rintro e wa ⟨rfl,hwa⟩
 have hoa:Off (fun k=>k=s) w1 wa:=by rw[hwa];exact (Off.refl _ _).set s 10 _ (Or.inl rfl)
 have hsa:wa.heap[s]?=some (.cells (cs.setIfInBounds 10 (.int .i64 (kc+1))) 119 (0,0)):=by rw[hwa];exact heap_set HS1.out
 have hra:wa.heap[w.heap.size]?=_:=(hoa.block _ (Array.getElem?_eq_some_iff.1 HR1.out).1 (ne_of_types HR1.out HS1.out (by decide))).trans HR1.out
 have hga:wa.heap[g]?=_:=(hoa.block _ (Array.getElem?_eq_some_iff.1 HG1.out).1 (ne_of_types HG1.out HS1.out (by decide))).trans HG1.out
 have hEa:EntAt wa p E vs:=HE1.out.off hoa (ne_of_types HE1.out.blk HS1.out (by decide)) (fun g hg h=>own_far HE1.out.row HS1.out (by decide) (h ▸ hg))
 have hja:Byt wa 0 jr J:=Byt.off (base:=0) HJ1.out hoa (fun g hg h=>own_far HJ1.out HS1.out (by decide) (h ▸ hg))
 have hka:Kt wa es ps K:=HK1.out.off hoa (fun g hg h=>own_far HK1.out.k.row HS1.out (by decide) (h ▸ hg)) (fun q hq h=>by obtain⟨cq,hc⟩:=HK1.out.t q hq;exact ne_of_types hc HS1.out (by decide) h)
 have r0:wa.cell? ⟨w.heap.size,0,none⟩=some (.int .u8 k):=by simp[World.cell?,hra]
 have HRA:Hid (wa.heap[w.heap.size]?=some (.cells #[.int .u8 k,.int .i64 t,.string ⟨key.toArray⟩,.int .i64 n,.string ⟨body.toArray⟩] 181 (0,0))):=hra
 have HSA:Hid _:=hsa
 have HGA:Hid (wa.heap[g]?=some (.cells gs 164 (0,0))):=hga
 have HEA:Hid _:=hEa
 have HJA:Hid (Byt wa 0 jr J):=hja
 have HKA:Hid _:=hka
 have HOA:Hid (Off (fun k=>k=s\/jr.ownBlock=some k\/k=g\/k=p\/es.ownBlock=some k\/vs.ownBlock=some k) w wa):=(Off.of_below HB.out).trans' hoa (fun k _ h=>Or.inl h)
 clear hra hsa hga hEa hja hka hoa hwa HR1 HS1 HG1 HE1 HJ1 HK1 HB
 go_wp2_with fail
 refine (success_any p E vs k _ HEA.out hl).mono ?_
 rintro e w2 ⟨rfl,hb2⟩
 obtain⟨sc,hsc⟩:∃ x,succF E k=x:=⟨_,rfl⟩
 rw[hsc]
 have HSC:Hid _:=hsc
 have hr2:w2.heap[w.heap.size]?=some (.cells #[.int .u8 k,.int .i64 t,.string ⟨key.toArray⟩,.int .i64 n,.string ⟨body.toArray⟩] 181 (0,0)):=(hb2.block _ (Array.getElem?_eq_some_iff.1 HRA.out).1).trans HRA.out
 have hs2:w2.heap[s]?=some (.cells (cs.setIfInBounds 10 (.int .i64 (kc+1))) 119 (0,0)):=(hb2.block s (Array.getElem?_eq_some_iff.1 HSA.out).1).trans HSA.out
 have hg2:w2.heap[g]?=some (.cells gs 164 (0,0)):=(hb2.block g (Array.getElem?_eq_some_iff.1 HGA.out).1).trans HGA.out
 have hj2:Byt w2 0 jr J:=Byt.below (base:=0) (l:=J) HJA.out hb2
 have HE2:Hid _:=HEA.out.below hb2
 have HK2:Hid _:=HKA.out.below hb2
 have HO2:Hid (Off (fun k=>k=s\/jr.ownBlock=some k\/k=g\/k=p\/es.ownBlock=some k\/vs.ownBlock=some k) w w2):=HOA.out.trans (Off.of_below hb2)
 have q0:w2.cell? ⟨w.heap.size,0,none⟩=some (.int .u8 k):=by simp[World.cell?,hr2]
 have q1:w2.cell? ⟨w.heap.size,1,none⟩=some (.int .i64 t):=by simp[World.cell?,hr2]
 have q2:w2.cell? ⟨w.heap.size,2,none⟩=some (.string ⟨key.toArray⟩):=by simp[World.cell?,hr2]
 have q3:w2.cell? ⟨w.heap.size,3,none⟩=some (.int .i64 n):=by simp[World.cell?,hr2]
 have q4:w2.cell? ⟨w.heap.size,4,none⟩=some (.string ⟨body.toArray⟩):=by simp[World.cell?,hr2]
 have HR2:Hid _:=hr2
 have HS2:Hid _:=hs2
 have HG2:Hid _:=hg2
 have HJ2:Hid (Byt w2 0 jr J):=hj2
 have c0:(cs.setIfInBounds 10 (.int .i64 (kc+1)))[7]?=some (.int .i32 0):=by simp[h0]
 have c2:(cs.setIfInBounds 10 (.int .i64 (kc+1)))[9]?=some (.int .i64 tm):=by simp[h2]
 have c4:(cs.setIfInBounds 10 (.int .i64 (kc+1)))[11]?=some jr:=by simp[h4]
 have HC0:Hid _:=c0
 have HC2:Hid _:=c2
 have HC4:Hid _:=c4
 clear hr2 hs2 hg2 hj2 hb2 HRA HSA HGA HJA HEA HKA HOA r0 hsc c0 c2 c4
 go_wp2_with fail
 refine (enter_any s 7 (cs.setIfInBounds 10 (.int .i64 (kc+1))) 119 tm k t n key body jr J _ HS2.out HC0.out HC2.out HC4.out HJ2.out (own_far HJ2.out HS2.out (by decide)) hk8 ht hnn hkl hbl hJ).mono ?_
 rintro e w3 ⟨rfl,jr',hs3,hj3,ha3,ho3⟩
 have hwl:w.heap.size<w2.heap.size:=(Array.getElem?_eq_some_iff.1 HR2.out).1
 have hr3:w3.heap[w.heap.size]?=some (.cells #[.int .u8 k,.int .i64 t,.string ⟨key.toArray⟩,.int .i64 n,.string ⟨body.toArray⟩] 181 (0,0)):=(ho3.block _ hwl (by rintro (h|h);exact ne_of_types HR2.out HS2.out (by decide) h;exact own_far HJ2.out HR2.out (by decide) h)).trans HR2.out
 have hg3:w3.heap[g]?=some (.cells gs 164 (0,0)):=(ho3.block _ (Array.getElem?_eq_some_iff.1 HG2.out).1 (by rintro (h|h);exact ne_of_types HG2.out HS2.out (by decide) h;exact own_far HJ2.out HG2.out (by decide) h)).trans HG2.out
 have HE3:Hid (EntAt w3 p E vs):=HE2.out.off ho3 (by rintro (h|h);exact ne_of_types HE2.out.blk HS2.out (by decide) h;exact own_far HJ2.out HE2.out.blk (by decide) h) (by intro g hg;rintro (h|h);exact own_far HE2.out.row HS2.out (by decide) (h ▸ hg);exact own_apart HE2.out.row HJ2.out (by decide) g hg h)
 have HK3:Hid (Kt w3 es ps K):=HK2.out.off ho3 (by intro g hg;rintro (h|h);exact own_far HK2.out.k.row HS2.out (by decide) (h ▸ hg);exact own_apart HK2.out.k.row HJ2.out (by decide) g hg h) (by intro q hq;obtain⟨cq,hc⟩:=HK2.out.t q hq;rintro (h|h);exact ne_of_types hc HS2.out (by decide) h;exact own_far HJ2.out hc (by decide) h)
 have s0:w3.cell? ⟨w.heap.size,0,none⟩=some (.int .u8 k):=by simp[World.cell?,hr3]
 have s1:w3.cell? ⟨w.heap.size,1,none⟩=some (.int .i64 t):=by simp[World.cell?,hr3]
 have sf:w3.frozen? ⟨w.heap.size,1,none⟩=false:=by simp[World.frozen?,hr3]
 have s2:w3.cell? ⟨w.heap.size,2,none⟩=some (.string ⟨key.toArray⟩):=by simp[World.cell?,hr3]
 have s3:w3.cell? ⟨w.heap.size,3,none⟩=some (.int .i64 n):=by simp[World.cell?,hr3]
 have s4:w3.cell? ⟨w.heap.size,4,none⟩=some (.string ⟨body.toArray⟩):=by simp[World.cell?,hr3]
 have HR3:Hid _:=hr3
 have HS3:Hid _:=hs3
 have HG3:Hid _:=hg3
 have HJ3:Hid (Byt w3 0 jr' (J++recF k tm key n body)):=hj3
 have HO3:Hid _:=ho3
 have HA3:Hid _:=ha3
 clear hr3 hs3 hg3 hj3 ho3 ha3
 go_wp2_with fail
 obtain⟨x3,hx3⟩:∃ x,x=w3.setCell ⟨w.heap.size,1,none⟩ (.int .i64 tm):=⟨_,rfl⟩
 rw[<- hx3]
 have hx:Off (fun k=>k=w.heap.size) w3 x3:=by rw[hx3];exact (Off.refl _ _).set _ 1 _ (Or.inl rfl)
 have hsx:x3.heap[s]?=_:=(hx.block s (Array.getElem?_eq_some_iff.1 HS3.out).1 (ne_of_types HS3.out HR3.out (by decide))).trans HS3.out
 have hgx:x3.heap[g]?=_:=(hx.block g (Array.getElem?_eq_some_iff.1 HG3.out).1 (ne_of_types HG3.out HR3.out (by decide))).trans HG3.out
 have hjx:Byt x3 0 jr' _:=Byt.off (base:=0) HJ3.out hx (fun g hg h=>own_far HJ3.out HR3.out (by decide) (h ▸ hg))
 have hEx:EntAt x3 p E vs:=HE3.out.off hx (fun h=>ne_of_types HE3.out.blk HR3.out (by decide) h) (fun g hg h=>own_far HE3.out.row HR3.out (by decide) (h ▸ hg))
 have hKx:Kt x3 es ps K:=HK3.out.off hx (fun g hg h=>own_far HK3.out.k.row HR3.out (by decide) (h ▸ hg)) (fun q hq h=>by obtain⟨cq,hc⟩:=HK3.out.t q hq;exact ne_of_types hc HR3.out (by decide) h)
 have HOX:Hid (Off (fun k=>k=s\/jr.ownBlock=some k\/k=g\/k=p\/es.ownBlock=some k\/vs.ownBlock=some k) w x3):=by
  rw[hx3]
  exact (HO2.out.trans' HO3.out (fun k _ h=>h.elim Or.inl (fun h=>Or.inr (Or.inl h)))).set _ 1 _ (Or.inr (Nat.le_refl _))
 have HSX:Hid _:=hsx
 have HGX:Hid _:=hgx
 have HJX:Hid (Byt x3 0 jr' (J++recF k tm key n body)):=hjx
 have HEX:Hid _:=hEx
 have HKX:Hid _:=hKx
 clear hx3 hx hsx hgx hjx hEx hKx s0 s1 s2 s3 s4 sf HR3 HS3 HG3 HJ3 HE3 HK3 HO3
 refine (apply_new g o p gs 164 es ps K E vs i k tm n key body _ HGX.out hge HEX.out HKX.out.k HRI.out hpl hekl HI.out (ne_of_types HGX.out HEX.out.blk (by decide)) (own_far HKX.out.k.row HGX.out (by decide)) (own_far HKX.out.k.row HEX.out.blk (by decide)) (own_far HEX.out.row HGX.out (by decide)) HVE.out (own_far HEX.out.row HEX.out.blk (by decide)) (by omega) (by omega) hk hla).mono ?_
 rintro e w4 ⟨⟨v,rfl⟩,g1,cap1,g2,cap2,hg4,hrow4,hg1,hE4,hv4,ho4⟩
 have H1:Hid _:=hE4
 have H2:Hid _:=ho4
 have H3:Hid _:=hg4
 have H4:Hid _:=hrow4
 clear hE4 ho4 hg4 hrow4
 go_wp2
 refine bodyPost_ret (results_tmp2 rfl _ _ _) rfl ⟨by rw[HSC.out];rfl,jr',g1,cap1,g2,cap2,⟨?_,?_,?_⟩,H3.out,H4.out,hg1.imp_right (fun h=>Nat.le_trans HOX.out.size h),H1.out,hv4.imp_right (fun h=>Nat.le_trans HOX.out.size h),?_⟩
 ·refine (H2.out.block s (Array.getElem?_eq_some_iff.1 HSX.out).1 ?_).trans HSX.out
  rintro (h|h|h|h)
  ·exact ne_of_types HSX.out HGX.out (by decide) h
  ·exact ne_of_types HSX.out HEX.out.blk (by decide) h
  ·exact own_far HKX.out.k.row HSX.out (by decide) h
  ·exact own_far HEX.out.row HSX.out (by decide) h
 ·refine Byt.off (base:=0) HJX.out H2.out ?_
  intro g' hg'
  rintro (h|h|h|h)
  ·exact own_far HJX.out HGX.out (by decide) (h ▸ hg')
  ·exact own_far HJX.out HEX.out.blk (by decide) (h ▸ hg')
  ·exact own_apart HJX.out HKX.out.k.row (by decide) g' hg' h
  ·exact own_apart HJX.out HEX.out.row (by decide) g' hg' h
 ·exact HA3.out.imp_right (fun ⟨g,h1,h2⟩=>⟨g,h1,Nat.le_trans HO2.out.size h2⟩)
 ·exact HOX.out.trans' H2.out (fun k _ h=>Or.inr (Or.inr h))
end Go.Proofs.YtmehkneofinmiaaGreatDoor

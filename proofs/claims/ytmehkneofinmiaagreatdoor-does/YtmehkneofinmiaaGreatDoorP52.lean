/-
 Texts of this proof, part 52.
-/
import Derived.Test.YtmehkneofinmiaaGreatDoorP51
set_option maxRecDepth 100000
set_option maxHeartbeats 4000000
namespace Go.Proofs.YtmehkneofinmiaaGreatDoor
open Go.RowKit
theorem chg_time {σ σ':St}{key body:List UInt8}{k n told:Nat}(h:chgF σ key k n body=(told,some σ')):σ'.time=σ.time:=by
 unfold chgF at h
 split at h
 ·cases h
 ·split at h
  ·cases h
  ·cases h
   rfl
theorem do_time (σ:St)(l:List UInt8):(doF σ l).2.time=σ.time:=by
 unfold doF ansF
 cases hr:readF l with
 | error n=>rfl
 | ok x =>
   obtain⟨m,t,k,body⟩:=x
   simp only
   split
   ·rfl
   ·unfold askF
    split
    ·rfl
    ·split
     ·rfl
     ·split
      ·cases hc:chgF σ t.key (wantF (findE σ.ents t.key) m t body).1 (wantF (findE σ.ents t.key) m t body).2.1 (wantF (findE σ.ents t.key) m t body).2.2 with
       | mk told o =>
         cases o with
         | none=>rfl
         | some σ'=>exact chg_time hc
      ·cases aimF (findE σ.ents t.key) t<;>rfl
structure SideP where
 s:Nat
 n:Nat
 σ:St
 M:Mem
 p:Nat
 l:List Itm
 J:List UInt8
 vs:Value
def SideP.own (a:SideP)(k:Nat):Prop:=a.M.own a.s a.n k\/(k=a.p\/a.vs.ownBlock=some k)
structure SideP.At (a:SideP)(N:Nat)(B:Nat->Prop)(w:World):Prop where
 st:StoreAt w a.s a.n 0 (fun _=>0) a.σ a.M
 ref:RefAt w a.p a.σ.time a.l a.J a.vs
 twin:Twin N a.σ ⟨a.l,a.J⟩
 two:∀ k,a.M.own a.s a.n k->¬ (k=a.p\/a.vs.ownBlock=some k)
 high:∀ k,a.own k->B k
theorem ref_off {w x:World}{p t:Nat}{l:List Itm}{J:List UInt8}{vs:Value}{S:Nat->Prop}(h:RefAt w p t l J vs)(ho:Off S w x)(hp:¬ S p)(hv:∀ k,vs.ownBlock=some k->¬ S k):RefAt x p t l J vs:=by
 refine⟨(ho.block p h.lt hp).trans h.blk,⟨h.row.1,h.row.2.imp id ?_⟩,h.few⟩
 rintro ⟨g,cap,cur,hvs,hg,hh,r⟩
 exact⟨g,cap,cur,hvs,hg,(ho.block g (Array.getElem?_eq_some_iff.1 hh).1 (hv g (by rw[hvs];rfl))).trans hh,r⟩
theorem SideP.At.off {a:SideP}{N:Nat}{B:Nat->Prop}{w x:World}{S:Nat->Prop}(h:a.At N B w)(ho:Off S w x)(hS:∀ k,a.own k->¬ S k):a.At N B x :=
 ⟨h.st.off ho (fun k hk=>hS k (Or.inl hk)),ref_off h.ref ho (hS _ (Or.inr (Or.inl rfl))) (fun k hk=>hS k (Or.inr (Or.inr hk))),h.twin,h.two,h.high⟩
theorem SideP.At.below {a:SideP}{N:Nat}{B:Nat->Prop}{w x:World}(h:a.At N B w)(hb:Below w.heap.size w x):a.At N B x :=
 h.off (Off.of_below (S:=fun _=>False) hb) (fun _ _ h=>h)
theorem SideP.At.lt {a:SideP}{N:Nat}{B:Nat->Prop}{w:World}(h:a.At N B w){k:Nat}(hk:a.own k):k<w.heap.size:=by
 rcases hk with hk|rfl|hk
 ·exact own_lt h.st hk
 ·exact h.ref.lt
 ·exact h.ref.vlt k hk
theorem stOK {w:World}{s n:Nat}{rd:Int}{lk:Nat->Int}{σ:St}{M:Mem}(h:StoreAt w s n rd lk σ M):StOK σ:=⟨h.rise,h.ok,h.time⟩
def Mid (a:SideP)(σ':St)(w w1:World):Prop:=∃ M',StoreAt w1 a.s a.n 0 (fun _=>0) σ' M'/\Off (a.M.own a.s a.n) w w1/\∀ k,M'.own a.s a.n k->a.M.own a.s a.n k\/w.heap.size<=k
def Fin (a:SideP)(N:Nat)(B:Nat->Prop)(w w2:World):Prop:=∃ a':SideP,a'.s=a.s/\a'.p=a.p/\a'.At N B w2/\Off a.own w w2/\∀ k,a'.own k->a.own k\/w.heap.size<=k
theorem fin_of {a:SideP}{N:Nat}{B:Nat->Prop}{w w1 w2:World}{σ':St}{l':List Itm}{J':List UInt8}{vs':Value}(h:a.At N B w)(hz:∀ k,w.heap.size<=k->B k)(hm:Mid a σ' w w1)(hr:RefAt w2 a.p σ'.time l' J' vs')(hv:∀ g,vs'.ownBlock=some g->a.vs.ownBlock=some g\/w1.heap.size<=g)(ho:Off (fun k=>k=a.p\/a.vs.ownBlock=some k) w1 w2)(ht:Twin N σ' ⟨l',J'⟩):Fin a N B w w2:=by
 obtain⟨M',hs,h1,h2⟩:=hm
 have hpl:=h.ref.lt
 have hvl:=h.ref.vlt
 have hsz:=h1.size
 have hown:∀ k,M'.own a.s a.n k->k<w1.heap.size:=fun k hk=>own_lt hs hk
 have hlt:∀ k,a.M.own a.s a.n k->k<w.heap.size:=fun k hk=>own_lt h.st hk
 refine⟨⟨a.s,a.n,σ',M',a.p,l',J',vs'⟩,rfl,rfl,⟨?_,hr,ht,?_,?_⟩,?_,?_⟩
 ·refine hs.off ho (fun k hk hh=>?_)
  rcases h2 k hk with hk|hk
  ·exact h.two k hk hh
  ·rcases hh with rfl|hh
   ·omega
   ·have:=hvl k hh
    omega
 ·intro k hk hh
  show False
  have hk':M'.own a.s a.n k:=hk
  have hkl:=hown k hk'
  rcases h2 k hk' with hk|hk
  ·rcases hh with hh|hh
   ·exact h.two k hk (Or.inl hh)
   ·rcases hv k hh with hh|hh
    ·exact h.two k hk (Or.inr hh)
    ·omega
  ·rcases hh with hh|hh
   ·have hh':k=a.p:=hh
    omega
   ·rcases hv k hh with hh|hh
    ·have:=hvl k hh
     omega
    ·omega
 ·intro k hk
  rcases hk with hk|hk|hk
  ·rcases h2 k hk with hk|hk
   ·exact h.high k (Or.inl hk)
   ·exact hz k hk
  ·exact h.high k (Or.inr (Or.inl hk))
  ·rcases hv k hk with hk|hk
   ·exact h.high k (Or.inr (Or.inr hk))
   ·exact hz k (by omega)
 ·exact Off.trans (h1.mono (fun k hk=>Or.inl hk)) (ho.mono (fun k hk=>Or.inr hk))
 ·intro k hk
  rcases hk with hk|hk|hk
  ·exact (h2 k hk).imp Or.inl id
  ·exact Or.inl (Or.inr (Or.inl hk))
  ·rcases hv k hk with hk|hk
   ·exact Or.inl (Or.inr (Or.inr hk))
   ·exact Or.inr (by omega)
theorem Mid.env {a:SideP}{N:Nat}{B:Nat->Prop}{w w1:World}{σ':St}(h:a.At N B w)(he:Env B w)(hm:Mid a σ' w w1):Env B w1:=by
 obtain⟨_,_,h1,_⟩:=hm
 exact he.off (h1.mono (fun k hk=>h.high k (Or.inl hk)))
theorem Mid.ref {a:SideP}{N:Nat}{B:Nat->Prop}{w w1:World}{σ':St}(h:a.At N B w)(hm:Mid a σ' w w1):RefAt w1 a.p a.σ.time a.l a.J a.vs:=by
 obtain⟨_,_,h1,_⟩:=hm
 exact ref_off h.ref h1 (fun hh=>h.two _ hh (Or.inl rfl)) (fun k hk hh=>h.two k hh (Or.inr hk))
theorem log_same {N:Nat}{σ:St}{s:Rst}(h:Twin N σ s):σ.log.length=s.J.length:=by rw[h.same.log]
theorem side_do {a:SideP}{N:Nat}{B:Nat->Prop}{w:World}(hN:N<=4294967296)(h:a.At N B w)(he:Env B w)(req:List UInt8)(hl:req.length<=9223372036854775807) :
 Calls Tryz.prog 15 #[.pointer (some ⟨a.s,0,none⟩),.string ⟨req.toArray⟩] w fun e w1=>e=.returned (.string ⟨(doF a.σ req).1.toArray⟩)/\Mid a (doF a.σ req).2 w w1:=by
 have hz:=h.twin.sizes (stOK h.st) h.st.many
 exact (do_store req w h.st he.mx he.tb (fun k hk=>he.hi k (h.high k (Or.inl hk))) (by rw[log_same h.twin];have:=hz.2.1;simp only at this;omega) hl).mono (fun e w1 hh=>⟨hh.1,hh.2⟩)
theorem ref_do {a:SideP}{N:Nat}{B:Nat->Prop}{w w1:World}(hN:N<=4294967296)(hN2:1000000000<=N)(h:a.At N B w)(he:Env B w)(req:List UInt8)(hl:req.length<=9223372036854775807)(hm:Mid a (doF a.σ req).2 w w1) :
 Calls Tryz.prog 32 #[.pointer (some ⟨a.p,0,none⟩),.string ⟨req.toArray⟩] w1 fun e w2=>e=.returned (.string ⟨(doF a.σ req).1.toArray⟩)/\Fin a N B w w2:=by
 have hz:=h.twin.sizes (stOK h.st) h.st.many
 simp only at hz
 have hE:=hm.env h he
 have hds:=do_same h.twin (stOK h.st) hN2 req
 have hk:∀ key:List UInt8,keyOK key=true->key.length<=40:=fun key hh=>by
  unfold keyOK at hh
  simp at hh
  exact hh.2.1
 refine (refDo_any a.p a.σ.time a.l a.J a.vs req w1 ⟨hm.ref h,hE.tb,fun k hk=>hE.hi k (h.high k (Or.inr hk)),by omega,by omega,h.st.time,fun key=>by have:=hz.2.2 key;omega,fun it hit=>⟨?_,h.twin.time it hit,h.twin.body it hit,hk _ (h.twin.key it hit)⟩⟩ hl).mono ?_
 ·have h1:it.num<=lastF it.key a.l:=h.twin.num it hit
  have h2:=hz.2.2 it.key
  omega
 ·rintro e w2 ⟨rfl,vs',h1,h2,h3⟩
  refine⟨by rw[hds.1],fin_of h he.sz hm ?_ h2 h3 hds.2⟩
  rw[do_time]
  exact h1
theorem side_clock {a:SideP}{N:Nat}{B:Nat->Prop}{w:World}(h:a.At N B w) :
 Calls Tryz.prog 35 #[.pointer (some ⟨a.s,0,none⟩)] w fun e w'=>e=.returned (.int .i64 a.σ.time)/\w'=w:=clock_any w h.st
def tickF (t:Nat)(d:Int):Nat:=if d<0\/253402300799-(t:Int)<d then t else (t+d).toNat
def tickE (t:Nat)(d:Int):Int:=if d<0\/253402300799-(t:Int)<d then 1 else 0
theorem Twin.timed {N:Nat}{σ:St}{s:Rst}(h:Twin N σ s)(t:Nat):Twin N ⟨t,σ.ents,σ.log⟩ s :=
 ⟨⟨h.same.log,h.same.last,h.same.vers,h.same.known,h.same.rise⟩,h.pos,h.time,h.body,h.key,h.num,h.hold,h.len,h.log⟩
theorem side_tick {a:SideP}{N:Nat}{B:Nat->Prop}{w:World}(h:a.At N B w)(d:Int) :
 Calls Tryz.prog 33 #[.pointer (some ⟨a.s,0,none⟩),.int .i64 d] w fun e w1=>e=.returned (.int .i64 (tickE a.σ.time d))/\Mid a ⟨tickF a.σ.time d,a.σ.ents,a.σ.log⟩ w w1:=by
 unfold tickE tickF
 by_cases hd:d<0\/253402300799-(a.σ.time:Int)<d
 ·rw[if_pos hd,if_pos hd]
  exact (tick_no d w h.st hd).mono (fun e w1 hh=>⟨hh.1,a.M,hh.2.1,hh.2.2.mono (fun k hk=>Or.inl hk),fun k hk=>Or.inl hk⟩)
 ·rw[if_neg hd,if_neg hd]
  obtain⟨n,rfl⟩:∃ n:Nat,d=(n:Int):=⟨d.toNat,by omega⟩
  have e:((a.σ.time:Int)+(n:Int)).toNat=a.σ.time+n:=by omega
  rw[e]
  exact (tick_yes n w h.st (by omega)).mono (fun e w1 hh=>⟨hh.1,a.M,hh.2.1,hh.2.2.mono (fun k hk=>Or.inl hk),fun k hk=>Or.inl hk⟩)
theorem ref_tick {a:SideP}{N:Nat}{B:Nat->Prop}{w w1:World}(h:a.At N B w)(he:Env B w)(d:Int)(hm:Mid a ⟨tickF a.σ.time d,a.σ.ents,a.σ.log⟩ w w1) :
 Calls Tryz.prog 34 #[.pointer (some ⟨a.p,0,none⟩),.int .i64 d] w1 fun e w2=>e=.returned (.int .i64 (tickE a.σ.time d))/\Fin a N B w w2:=by
 have hr:=hm.ref h
 unfold tickE
 by_cases hd:d<0\/253402300799-(a.σ.time:Int)<d
 ·have ht:tickF a.σ.time d=a.σ.time:=by unfold tickF;rw[if_pos hd]
  rw[if_pos hd]
  refine (refTick_no a.p a.σ.time a.l a.J a.vs d w1 hr h.st.time hd).mono ?_
  rintro e w2 ⟨rfl,rfl⟩
  exact⟨rfl,fin_of h he.sz hm (by rw[ht];exact hr) (fun g hg=>Or.inl hg) (Off.refl _ _) (h.twin.timed _)⟩
 ·have ht:tickF a.σ.time d=a.σ.time+d.toNat:=by unfold tickF;rw[if_neg hd];omega
  rw[if_neg hd]
  obtain⟨n,rfl⟩:∃ n:Nat,d=(n:Int):=⟨d.toNat,by omega⟩
  rw[Int.toNat_natCast] at ht
  refine (refTick_yes a.p a.σ.time a.l a.J a.vs n w1 hr (by omega)).mono ?_
  rintro e w2 ⟨rfl,rfl⟩
  refine⟨rfl,fin_of h he.sz hm ?_ (fun g hg=>Or.inl hg) ((Off.refl (fun k=>k=a.p\/a.vs.ownBlock=some k) w1).set a.p 0 _ (Or.inl (Or.inl rfl))) (h.twin.timed _)⟩
  rw[ht]
  refine⟨heap_set hr.blk,?_,hr.few⟩
  have hap:=hr.apart
  refine⟨hr.row.1,hr.row.2.imp id ?_⟩
  rintro ⟨g,cap,cur,hvs,hg,hh,r⟩
  refine⟨g,cap,cur,hvs,hg,?_,r⟩
  rw[<- hh]
  refine Deep.blk_setCell_other w1 ⟨a.p,0,none⟩ _ g (fun e=>?_)
  have e':g=a.p:=e
  rw[e'] at hvs
  exact hap (by rw[hvs];rfl)
structure Duo (N:Nat)(B:Nat->Prop)(w:World)(g:Nat)(a b:SideP):Prop where
 env:Env B w
 fa:a.At N B w
 fb:b.At N B w
 dis:∀ k,a.own k->¬ b.own k
 blk:w.heap[g]?=some (.cells #[.pointer (some ⟨a.s,0,none⟩),.pointer (some ⟨a.p,0,none⟩),.pointer (some ⟨b.s,0,none⟩),.pointer (some ⟨b.p,0,none⟩),.slice none 0 0,.slice none 0 0] 34 (0,0))
 ga:¬ a.own g
 gb:¬ b.own g
theorem Duo.lt {N:Nat}{B:Nat->Prop}{w:World}{g:Nat}{a b:SideP}(h:Duo N B w g a b):g<w.heap.size:=(Array.getElem?_eq_some_iff.1 h.blk).1
theorem Duo.below {N:Nat}{B:Nat->Prop}{w x:World}{g:Nat}{a b:SideP}(h:Duo N B w g a b)(hb:Below w.heap.size w x):Duo N B x g a b :=
 ⟨h.env.below hb,h.fa.below hb,h.fb.below hb,h.dis,(hb.block g h.lt).trans h.blk,h.ga,h.gb⟩
theorem Duo.doneA {N:Nat}{B:Nat->Prop}{w w2:World}{g:Nat}{a b:SideP}(h:Duo N B w g a b)(hf:Fin a N B w w2):∃ a' b',Duo N B w2 g a' b'/\Off B w w2:=by
 obtain⟨a',e1,e2,hA,ho,hn⟩:=hf
 have hoB:Off B w w2:=ho.mono (fun k hk=>h.fa.high k hk)
 refine⟨a',b,⟨h.env.off hoB,hA,h.fb.off ho (fun k hk hh=>h.dis k hh hk),fun k hk hb=>?_,?_,fun hk=>?_,h.gb⟩,hoB⟩
 ·rcases hn k hk with hh|hh
  ·exact h.dis k hh hb
  ·have:=h.fb.lt hb
   omega
 ·rw[e1,e2]
  exact (ho.block g h.lt h.ga).trans h.blk
 ·rcases hn g hk with hh|hh
  ·exact h.ga hh
  ·have:=h.lt
   omega
theorem Duo.doneB {N:Nat}{B:Nat->Prop}{w w2:World}{g:Nat}{a b:SideP}(h:Duo N B w g a b)(hf:Fin b N B w w2):∃ a' b',Duo N B w2 g a' b'/\Off B w w2:=by
 obtain⟨b',e1,e2,hA,ho,hn⟩:=hf
 have hoB:Off B w w2:=ho.mono (fun k hk=>h.fb.high k hk)
 refine⟨a,b',⟨h.env.off hoB,h.fa.off ho (fun k hk hh=>h.dis k hk hh),hA,fun k hk hb=>?_,?_,h.ga,fun hk=>?_⟩,hoB⟩
 ·rcases hn k hb with hh|hh
  ·exact h.dis k hk hh
  ·have:=h.fa.lt hk
   omega
 ·rw[e1,e2]
  exact (ho.block g h.lt h.gb).trans h.blk
 ·rcases hn g hk with hh|hh
  ·exact h.gb hh
  ·have:=h.lt
   omega
def OpPost (N:Nat)(B:Nat->Prop)(g:Nat)(w:World)(e:Ending)(w':World):Prop:=e=.returned (.bool true)/\∃ a' b',Duo N B w' g a' b'/\Off B w w'
theorem step_end {N:Nat}{B:Nat->Prop}{w x w2:World}{g:Nat}(hb:Below w.heap.size w x)(h:∃ a' b',Duo N B w2 g a' b'/\Off B x w2):∃ a' b',Duo N B w2 g a' b'/\Off B w w2:=by
 obtain⟨a',b',h1,h2⟩:=h
 exact⟨a',b',h1,(Off.of_below hb).trans h2⟩
theorem mid_cell {a:SideP}{N:Nat}{B:Nat->Prop}{σ':St}{w x w1:World}{k i:Nat}{v:Value}(h:a.At N B w)(hm:Mid a σ' x w1)(hk:w.heap.size<=k)(hc:x.cell? ⟨k,i,none⟩=some v):w1.cell? ⟨k,i,none⟩=some v:=by
 obtain⟨_,_,ho,_⟩:=hm
 have hlt:=World.block_lt_of_cell? _ _ hc
 simp only[World.cell?] at hc ⊢
 rw[ho.block k hlt (fun hh=>by have:=h.lt (Or.inl hh);omega)]
 exact hc
theorem step_doA (N:Nat)(B:Nat->Prop)(g:Nat)(a b:SideP)(A Bn:Int)(S:List UInt8)(T:Value)(w:World)(hN:N<=4294967296)(hN2:1000000000<=N)(h:Duo N B w g a b)(hl:S.length<=9223372036854775807) :
 Calls Tryz.prog 13 #[.pointer (some ⟨g,0,none⟩),.agg #[.int .i64 1,.bool false,.int .i64 A,.int .i64 Bn,.string ⟨S.toArray⟩,T]] w (OpPost N B g w):=by
 have c0:w.cell? ⟨g,0,none⟩=some (.pointer (some ⟨a.s,0,none⟩)):=by simp[World.cell?,h.blk]
 have c1:w.cell? ⟨g,1,none⟩=some (.pointer (some ⟨a.p,0,none⟩)):=by simp[World.cell?,h.blk]
 have hg:=h.lt
 have HH:Hid _:=h
 have HN:Hid _:=hN
 have HN2:Hid _:=hN2
 have HL:Hid _:=hl
 clear h hN hN2 hl
 go_enter Tryz.func13,Tryz.ntmps13
 go_wp2_with fail
 obtain⟨x,hx⟩:∃ x,(w.alloc (.cells #[.int .i64 1,.bool false,.int .i64 A,.int .i64 Bn,.string ⟨S.toArray⟩,T] 40)).alloc (.cells #[.pointer (some ⟨a.s,0,none⟩),.pointer (some ⟨a.p,0,none⟩)] 30)=x:=⟨_,rfl⟩
 have HBX:Hid (Below w.heap.size w x):=by rw[<- hx];exact ((Below.refl _ _).alloc (Nat.le_refl _) _).alloc (by rw[World.size_alloc];omega) _
 have x4:x.cell? ⟨w.heap.size,4,none⟩=some (.string ⟨S.toArray⟩):=by rw[<- hx];simp
 have x2:x.cell? ⟨w.heap.size,2,none⟩=some (.int .i64 A):=by rw[<- hx];simp
 have y1:x.cell? ⟨w.heap.size+1,1,none⟩=some (.pointer (some ⟨a.p,0,none⟩)):=by rw[<- hx];simp
 rw[hx]
 clear hx
 have HX:Hid _:=HH.out.below HBX.out
 have HFW:Hid _:=HH.out.fa
 have HPD:Hid _:=side_do HN.out HX.out.fa HX.out.env S HL.out
 have HRD:Hid _:=fun w1 hm=>ref_do (w1:=w1) HN.out HN2.out HX.out.fa HX.out.env S HL.out hm
 obtain⟨R,hR⟩:∃ r,doF a.σ S=r:=⟨_,rfl⟩
 rw[hR] at HPD HRD
 clear hR
 refine Calls.mono HPD.out ?_
 rintro e w1 ⟨rfl,hm⟩
 have z4:=mid_cell HFW.out hm (Nat.le_refl _) x4
 have z1:=mid_cell HFW.out hm (Nat.le_succ _) y1
 have HM:Hid _:=hm
 clear hm x4 x2 y1
 go_wp2_with fail
 refine Calls.mono (HRD.out w1 HM.out) ?_
 rintro e w2 ⟨rfl,hf⟩
 have HF:Hid _:=hf
 clear hf
 go_wp2
 go_ret
 exact⟨ret_bool (by simp),step_end HBX.out (HX.out.doneA HF.out)⟩
theorem step_doB (N:Nat)(B:Nat->Prop)(g:Nat)(a b:SideP)(A Bn:Int)(S:List UInt8)(T:Value)(w:World)(hN:N<=4294967296)(hN2:1000000000<=N)(h:Duo N B w g a b)(hl:S.length<=9223372036854775807) :
 Calls Tryz.prog 13 #[.pointer (some ⟨g,0,none⟩),.agg #[.int .i64 1,.bool true,.int .i64 A,.int .i64 Bn,.string ⟨S.toArray⟩,T]] w (OpPost N B g w):=by
 have c0:w.cell? ⟨g,2,none⟩=some (.pointer (some ⟨b.s,0,none⟩)):=by simp[World.cell?,h.blk]
 have c1:w.cell? ⟨g,3,none⟩=some (.pointer (some ⟨b.p,0,none⟩)):=by simp[World.cell?,h.blk]
 have hg:=h.lt
 have HH:Hid _:=h
 have HN:Hid _:=hN
 have HN2:Hid _:=hN2
 have HL:Hid _:=hl
 clear h hN hN2 hl
 go_enter Tryz.func13,Tryz.ntmps13
 go_wp2_with fail
 obtain⟨x,hx⟩:∃ x,(w.alloc (.cells #[.int .i64 1,.bool true,.int .i64 A,.int .i64 Bn,.string ⟨S.toArray⟩,T] 40)).alloc (.cells #[.pointer (some ⟨b.s,0,none⟩),.pointer (some ⟨b.p,0,none⟩)] 30)=x:=⟨_,rfl⟩
 have HBX:Hid (Below w.heap.size w x):=by rw[<- hx];exact ((Below.refl _ _).alloc (Nat.le_refl _) _).alloc (by rw[World.size_alloc];omega) _
 have x4:x.cell? ⟨w.heap.size,4,none⟩=some (.string ⟨S.toArray⟩):=by rw[<- hx];simp
 have x2:x.cell? ⟨w.heap.size,2,none⟩=some (.int .i64 A):=by rw[<- hx];simp
 have y1:x.cell? ⟨w.heap.size+1,1,none⟩=some (.pointer (some ⟨b.p,0,none⟩)):=by rw[<- hx];simp
 rw[hx]
 clear hx
 have HX:Hid _:=HH.out.below HBX.out
 have HFW:Hid _:=HH.out.fb
 have HPD:Hid _:=side_do HN.out HX.out.fb HX.out.env S HL.out
 have HRD:Hid _:=fun w1 hm=>ref_do (w1:=w1) HN.out HN2.out HX.out.fb HX.out.env S HL.out hm
 obtain⟨R,hR⟩:∃ r,doF b.σ S=r:=⟨_,rfl⟩
 rw[hR] at HPD HRD
 clear hR
 refine Calls.mono HPD.out ?_
 rintro e w1 ⟨rfl,hm⟩
 have z4:=mid_cell HFW.out hm (Nat.le_refl _) x4
 have z1:=mid_cell HFW.out hm (Nat.le_succ _) y1
 have HM:Hid _:=hm
 clear hm x4 x2 y1
 go_wp2_with fail
 refine Calls.mono (HRD.out w1 HM.out) ?_
 rintro e w2 ⟨rfl,hf⟩
 have HF:Hid _:=hf
 clear hf
 go_wp2
 go_ret
 exact⟨ret_bool (by simp),step_end HBX.out (HX.out.doneB HF.out)⟩
theorem step_tickA (N:Nat)(B:Nat->Prop)(g:Nat)(a b:SideP)(A Bn:Int)(S:List UInt8)(T:Value)(w:World)(hN:N<=4294967296)(hN2:1000000000<=N)(h:Duo N B w g a b)(hl:S.length<=9223372036854775807) :
 Calls Tryz.prog 13 #[.pointer (some ⟨g,0,none⟩),.agg #[.int .i64 2,.bool false,.int .i64 A,.int .i64 Bn,.string ⟨S.toArray⟩,T]] w (OpPost N B g w):=by
 have c0:w.cell? ⟨g,0,none⟩=some (.pointer (some ⟨a.s,0,none⟩)):=by simp[World.cell?,h.blk]
 have c1:w.cell? ⟨g,1,none⟩=some (.pointer (some ⟨a.p,0,none⟩)):=by simp[World.cell?,h.blk]
 have hg:=h.lt
 have HH:Hid _:=h
 have HN:Hid _:=hN
 have HN2:Hid _:=hN2
 have HL:Hid _:=hl
 clear h hN hN2 hl
 go_enter Tryz.func13,Tryz.ntmps13
 go_wp2_with fail
 obtain⟨x,hx⟩:∃ x,(w.alloc (.cells #[.int .i64 2,.bool false,.int .i64 A,.int .i64 Bn,.string ⟨S.toArray⟩,T] 40)).alloc (.cells #[.pointer (some ⟨a.s,0,none⟩),.pointer (some ⟨a.p,0,none⟩)] 30)=x:=⟨_,rfl⟩
 have HBX:Hid (Below w.heap.size w x):=by rw[<- hx];exact ((Below.refl _ _).alloc (Nat.le_refl _) _).alloc (by rw[World.size_alloc];omega) _
 have x4:x.cell? ⟨w.heap.size,4,none⟩=some (.string ⟨S.toArray⟩):=by rw[<- hx];simp
 have x2:x.cell? ⟨w.heap.size,2,none⟩=some (.int .i64 A):=by rw[<- hx];simp
 have y1:x.cell? ⟨w.heap.size+1,1,none⟩=some (.pointer (some ⟨a.p,0,none⟩)):=by rw[<- hx];simp
 rw[hx]
 clear hx
 have HX:Hid _:=HH.out.below HBX.out
 have HFW:Hid _:=HH.out.fa
 have HPD:Hid _:=side_tick HX.out.fa A
 have HRD:Hid _:=fun w1 hm=>ref_tick (w1:=w1) HX.out.fa HX.out.env A hm
 obtain⟨E,hE⟩:∃ r,tickE a.σ.time A=r:=⟨_,rfl⟩
 rw[hE] at HPD HRD
 clear hE
 refine Calls.mono HPD.out ?_
 rintro e w1 ⟨rfl,hm⟩
 have z2:=mid_cell HFW.out hm (Nat.le_refl _) x2
 have z1:=mid_cell HFW.out hm (Nat.le_succ _) y1
 have HM:Hid _:=hm
 clear hm x4 x2 y1
 go_wp2_with fail
 refine Calls.mono (HRD.out w1 HM.out) ?_
 rintro e w2 ⟨rfl,hf⟩
 have HF:Hid _:=hf
 clear hf
 go_wp2
 go_ret
 exact⟨ret_bool (by simp),step_end HBX.out (HX.out.doneA HF.out)⟩
theorem step_tickB (N:Nat)(B:Nat->Prop)(g:Nat)(a b:SideP)(A Bn:Int)(S:List UInt8)(T:Value)(w:World)(hN:N<=4294967296)(hN2:1000000000<=N)(h:Duo N B w g a b)(hl:S.length<=9223372036854775807) :
 Calls Tryz.prog 13 #[.pointer (some ⟨g,0,none⟩),.agg #[.int .i64 2,.bool true,.int .i64 A,.int .i64 Bn,.string ⟨S.toArray⟩,T]] w (OpPost N B g w):=by
 have c0:w.cell? ⟨g,2,none⟩=some (.pointer (some ⟨b.s,0,none⟩)):=by simp[World.cell?,h.blk]
 have c1:w.cell? ⟨g,3,none⟩=some (.pointer (some ⟨b.p,0,none⟩)):=by simp[World.cell?,h.blk]
 have hg:=h.lt
 have HH:Hid _:=h
 have HN:Hid _:=hN
 have HN2:Hid _:=hN2
 have HL:Hid _:=hl
 clear h hN hN2 hl
 go_enter Tryz.func13,Tryz.ntmps13
 go_wp2_with fail
 obtain⟨x,hx⟩:∃ x,(w.alloc (.cells #[.int .i64 2,.bool true,.int .i64 A,.int .i64 Bn,.string ⟨S.toArray⟩,T] 40)).alloc (.cells #[.pointer (some ⟨b.s,0,none⟩),.pointer (some ⟨b.p,0,none⟩)] 30)=x:=⟨_,rfl⟩
 have HBX:Hid (Below w.heap.size w x):=by rw[<- hx];exact ((Below.refl _ _).alloc (Nat.le_refl _) _).alloc (by rw[World.size_alloc];omega) _
 have x4:x.cell? ⟨w.heap.size,4,none⟩=some (.string ⟨S.toArray⟩):=by rw[<- hx];simp
 have x2:x.cell? ⟨w.heap.size,2,none⟩=some (.int .i64 A):=by rw[<- hx];simp
 have y1:x.cell? ⟨w.heap.size+1,1,none⟩=some (.pointer (some ⟨b.p,0,none⟩)):=by rw[<- hx];simp
 rw[hx]
 clear hx
 have HX:Hid _:=HH.out.below HBX.out
 have HFW:Hid _:=HH.out.fb
 have HPD:Hid _:=side_tick HX.out.fb A
 have HRD:Hid _:=fun w1 hm=>ref_tick (w1:=w1) HX.out.fb HX.out.env A hm
 obtain⟨E,hE⟩:∃ r,tickE b.σ.time A=r:=⟨_,rfl⟩
 rw[hE] at HPD HRD
 clear hE
 refine Calls.mono HPD.out ?_
 rintro e w1 ⟨rfl,hm⟩
 have z2:=mid_cell HFW.out hm (Nat.le_refl _) x2
 have z1:=mid_cell HFW.out hm (Nat.le_succ _) y1
 have HM:Hid _:=hm
 clear hm x4 x2 y1
 go_wp2_with fail
 refine Calls.mono (HRD.out w1 HM.out) ?_
 rintro e w2 ⟨rfl,hf⟩
 have HF:Hid _:=hf
 clear hf
 go_wp2
 go_ret
 exact⟨ret_bool (by simp),step_end HBX.out (HX.out.doneB HF.out)⟩
theorem step_clockA (N:Nat)(B:Nat->Prop)(g:Nat)(a b:SideP)(A Bn:Int)(S:List UInt8)(T:Value)(w:World)(hN:N<=4294967296)(hN2:1000000000<=N)(h:Duo N B w g a b)(hl:S.length<=9223372036854775807) :
 Calls Tryz.prog 13 #[.pointer (some ⟨g,0,none⟩),.agg #[.int .i64 3,.bool false,.int .i64 A,.int .i64 Bn,.string ⟨S.toArray⟩,T]] w (OpPost N B g w):=by
 have c0:w.cell? ⟨g,0,none⟩=some (.pointer (some ⟨a.s,0,none⟩)):=by simp[World.cell?,h.blk]
 have c1:w.cell? ⟨g,1,none⟩=some (.pointer (some ⟨a.p,0,none⟩)):=by simp[World.cell?,h.blk]
 have hg:=h.lt
 have HH:Hid _:=h
 have HN:Hid _:=hN
 have HN2:Hid _:=hN2
 have HL:Hid _:=hl
 clear h hN hN2 hl
 go_enter Tryz.func13,Tryz.ntmps13
 go_wp2_with fail
 obtain⟨x,hx⟩:∃ x,(w.alloc (.cells #[.int .i64 3,.bool false,.int .i64 A,.int .i64 Bn,.string ⟨S.toArray⟩,T] 40)).alloc (.cells #[.pointer (some ⟨a.s,0,none⟩),.pointer (some ⟨a.p,0,none⟩)] 30)=x:=⟨_,rfl⟩
 have HBX:Hid (Below w.heap.size w x):=by rw[<- hx];exact ((Below.refl _ _).alloc (Nat.le_refl _) _).alloc (by rw[World.size_alloc];omega) _
 have x4:x.cell? ⟨w.heap.size,4,none⟩=some (.string ⟨S.toArray⟩):=by rw[<- hx];simp
 have x2:x.cell? ⟨w.heap.size,2,none⟩=some (.int .i64 A):=by rw[<- hx];simp
 have y1:x.cell? ⟨w.heap.size+1,1,none⟩=some (.pointer (some ⟨a.p,0,none⟩)):=by rw[<- hx];simp
 rw[hx]
 clear hx
 have HX:Hid _:=HH.out.below HBX.out
 have HFW:Hid _:=HH.out.fa
 have HPD:Hid _:=side_clock HX.out.fa
 have p0:=HX.out.fa.ref.c0
 obtain⟨tm,hE⟩:∃ r,a.σ.time=r:=⟨_,rfl⟩
 rw[hE] at HPD p0
 clear hE
 refine Calls.mono HPD.out ?_
 rintro e w1 ⟨rfl,hw1⟩
 rw[hw1]
 clear hw1
 go_wp2
 go_ret
 exact⟨ret_bool (by simp),a,b,HX.out,Off.of_below HBX.out⟩
theorem step_clockB (N:Nat)(B:Nat->Prop)(g:Nat)(a b:SideP)(A Bn:Int)(S:List UInt8)(T:Value)(w:World)(hN:N<=4294967296)(hN2:1000000000<=N)(h:Duo N B w g a b)(hl:S.length<=9223372036854775807) :
 Calls Tryz.prog 13 #[.pointer (some ⟨g,0,none⟩),.agg #[.int .i64 3,.bool true,.int .i64 A,.int .i64 Bn,.string ⟨S.toArray⟩,T]] w (OpPost N B g w):=by
 have c0:w.cell? ⟨g,2,none⟩=some (.pointer (some ⟨b.s,0,none⟩)):=by simp[World.cell?,h.blk]
 have c1:w.cell? ⟨g,3,none⟩=some (.pointer (some ⟨b.p,0,none⟩)):=by simp[World.cell?,h.blk]
 have hg:=h.lt
 have HH:Hid _:=h
 have HN:Hid _:=hN
 have HN2:Hid _:=hN2
 have HL:Hid _:=hl
 clear h hN hN2 hl
 go_enter Tryz.func13,Tryz.ntmps13
 go_wp2_with fail
 obtain⟨x,hx⟩:∃ x,(w.alloc (.cells #[.int .i64 3,.bool true,.int .i64 A,.int .i64 Bn,.string ⟨S.toArray⟩,T] 40)).alloc (.cells #[.pointer (some ⟨b.s,0,none⟩),.pointer (some ⟨b.p,0,none⟩)] 30)=x:=⟨_,rfl⟩
 have HBX:Hid (Below w.heap.size w x):=by rw[<- hx];exact ((Below.refl _ _).alloc (Nat.le_refl _) _).alloc (by rw[World.size_alloc];omega) _
 have x4:x.cell? ⟨w.heap.size,4,none⟩=some (.string ⟨S.toArray⟩):=by rw[<- hx];simp
 have x2:x.cell? ⟨w.heap.size,2,none⟩=some (.int .i64 A):=by rw[<- hx];simp
 have y1:x.cell? ⟨w.heap.size+1,1,none⟩=some (.pointer (some ⟨b.p,0,none⟩)):=by rw[<- hx];simp
 rw[hx]
 clear hx
 have HX:Hid _:=HH.out.below HBX.out
 have HFW:Hid _:=HH.out.fb
 have HPD:Hid _:=side_clock HX.out.fb
 have p0:=HX.out.fb.ref.c0
 obtain⟨tm,hE⟩:∃ r,b.σ.time=r:=⟨_,rfl⟩
 rw[hE] at HPD p0
 clear hE
 refine Calls.mono HPD.out ?_
 rintro e w1 ⟨rfl,hw1⟩
 rw[hw1]
 clear hw1
 go_wp2
 go_ret
 exact⟨ret_bool (by simp),a,b,HX.out,Off.of_below HBX.out⟩
theorem step_noneA (N:Nat)(B:Nat->Prop)(g:Nat)(a b:SideP)(kd:Int)(hkd:kd<1)(A Bn:Int)(S:List UInt8)(T:Value)(w:World)(hN:N<=4294967296)(hN2:1000000000<=N)(h:Duo N B w g a b)(hl:S.length<=9223372036854775807) :
 Calls Tryz.prog 13 #[.pointer (some ⟨g,0,none⟩),.agg #[.int .i64 kd,.bool false,.int .i64 A,.int .i64 Bn,.string ⟨S.toArray⟩,T]] w (OpPost N B g w):=by
 have c0:w.cell? ⟨g,0,none⟩=some (.pointer (some ⟨a.s,0,none⟩)):=by simp[World.cell?,h.blk]
 have c1:w.cell? ⟨g,1,none⟩=some (.pointer (some ⟨a.p,0,none⟩)):=by simp[World.cell?,h.blk]
 have hg:=h.lt
 have HH:Hid _:=h
 have HN:Hid _:=hN
 have HN2:Hid _:=hN2
 have HL:Hid _:=hl
 clear h hN hN2 hl
 have k1:¬ kd=1:=by omega
 have k2:¬ kd=2:=by omega
 have k3:¬ kd=3:=by omega
 have k4:¬ kd=4:=by omega
 have k5:¬ kd=5:=by omega
 have k6:¬ kd=6:=by omega
 have k7:¬ kd=7:=by omega
 have k8:¬ kd=8:=by omega
 clear hkd
 go_enter Tryz.func13,Tryz.ntmps13
 go_wp2
 go_ret
 have hb:Below w.heap.size w ((w.alloc (.cells #[.int .i64 kd,.bool false,.int .i64 A,.int .i64 Bn,.string ⟨S.toArray⟩,T] 40)).alloc (.cells #[.pointer (some ⟨a.s,0,none⟩),.pointer (some ⟨a.p,0,none⟩)] 30)):=((Below.refl _ _).alloc (Nat.le_refl _) _).alloc (by rw[World.size_alloc];omega) _
 exact⟨rfl,a,b,HH.out.below hb,Off.of_below hb⟩
theorem step_noneB (N:Nat)(B:Nat->Prop)(g:Nat)(a b:SideP)(kd:Int)(hkd:kd<1)(A Bn:Int)(S:List UInt8)(T:Value)(w:World)(hN:N<=4294967296)(hN2:1000000000<=N)(h:Duo N B w g a b)(hl:S.length<=9223372036854775807) :
 Calls Tryz.prog 13 #[.pointer (some ⟨g,0,none⟩),.agg #[.int .i64 kd,.bool true,.int .i64 A,.int .i64 Bn,.string ⟨S.toArray⟩,T]] w (OpPost N B g w):=by
 have c0:w.cell? ⟨g,2,none⟩=some (.pointer (some ⟨b.s,0,none⟩)):=by simp[World.cell?,h.blk]
 have c1:w.cell? ⟨g,3,none⟩=some (.pointer (some ⟨b.p,0,none⟩)):=by simp[World.cell?,h.blk]
 have hg:=h.lt
 have HH:Hid _:=h
 have HN:Hid _:=hN
 have HN2:Hid _:=hN2
 have HL:Hid _:=hl
 clear h hN hN2 hl
 have k1:¬ kd=1:=by omega
 have k2:¬ kd=2:=by omega
 have k3:¬ kd=3:=by omega
 have k4:¬ kd=4:=by omega
 have k5:¬ kd=5:=by omega
 have k6:¬ kd=6:=by omega
 have k7:¬ kd=7:=by omega
 have k8:¬ kd=8:=by omega
 clear hkd
 go_enter Tryz.func13,Tryz.ntmps13
 go_wp2
 go_ret
 have hb:Below w.heap.size w ((w.alloc (.cells #[.int .i64 kd,.bool true,.int .i64 A,.int .i64 Bn,.string ⟨S.toArray⟩,T] 40)).alloc (.cells #[.pointer (some ⟨b.s,0,none⟩),.pointer (some ⟨b.p,0,none⟩)] 30)):=((Below.refl _ _).alloc (Nat.le_refl _) _).alloc (by rw[World.size_alloc];omega) _
 exact⟨rfl,a,b,HH.out.below hb,Off.of_below hb⟩
structure OpV where
 k:Int
 o:Bool
 a:Int
 b:Int
 s:List UInt8
 t:Value
def opCells (o:OpV):Array Value:=#[.int .i64 o.k,.bool o.o,.int .i64 o.a,.int .i64 o.b,.string ⟨o.s.toArray⟩,o.t]
theorem opStep_any (N:Nat)(B:Nat->Prop)(g:Nat)(a b:SideP)(o:OpV)(w:World)(hN:N<=4294967296)(hN2:1000000000<=N)(h:Duo N B w g a b)(hk:o.k<=3)(hl:o.s.length<=9223372036854775807) :
 Calls Tryz.prog 13 #[.pointer (some ⟨g,0,none⟩),.agg (opCells o)] w (OpPost N B g w):=by
 obtain⟨k,oo,A,Bn,S,T⟩:=o
 simp only at hk hl
 unfold opCells
 by_cases h1:k=1
 ·subst h1
  cases oo
  ·exact step_doA N B g a b A Bn S T w hN hN2 h hl
  ·exact step_doB N B g a b A Bn S T w hN hN2 h hl
 ·by_cases h2:k=2
  ·subst h2
   cases oo
   ·exact step_tickA N B g a b A Bn S T w hN hN2 h hl
   ·exact step_tickB N B g a b A Bn S T w hN hN2 h hl
  ·by_cases h3:k=3
   ·subst h3
    cases oo
    ·exact step_clockA N B g a b A Bn S T w hN hN2 h hl
    ·exact step_clockB N B g a b A Bn S T w hN hN2 h hl
   ·cases oo
    ·exact step_noneA N B g a b k (by omega) A Bn S T w hN hN2 h hl
    ·exact step_noneB N B g a b k (by omega) A Bn S T w hN hN2 h hl
theorem looks_any (N:Nat)(B:Nat->Prop)(g:Nat)(a b:SideP)(w:World)(h:Duo N B w g a b) :
 Calls Tryz.prog 27 #[.pointer (some ⟨g,0,none⟩)] w fun e w'=>e=.returned (.bool true)/\w'=w:=by
 have c4:w.cell? ⟨g,4,none⟩=some (.slice none 0 0):=by simp[World.cell?,h.blk]
 have c5:w.cell? ⟨g,5,none⟩=some (.slice none 0 0):=by simp[World.cell?,h.blk]
 clear h
 go_enter Tryz.func27,Tryz.ntmps27
 go_wp2_with fail
 go_loop [3] (fun iv=>iv=.int .i64 0) (fun _=>0)
 case atStart=>rfl
 case round =>
  subst hrel
  go_wp2_with fail
  go_loop [5] (fun iv=>iv=.int .i64 0) (fun _=>0)
  case atStart=>rfl
  case round =>
   subst hrel
   go_wp2
   go_ret
   exact⟨rfl,rfl⟩
end Go.Proofs.YtmehkneofinmiaaGreatDoor

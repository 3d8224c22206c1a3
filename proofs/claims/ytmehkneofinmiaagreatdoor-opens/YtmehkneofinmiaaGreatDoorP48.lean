/-part 48-/
import Derived.Test.YtmehkneofinmiaaGreatDoorP47
import Derived.Test.YtmehkneofinmiaaGreatDoorP40
set_option maxRecDepth 100000
set_option maxHeartbeats 4000000
namespace Go.Proofs.YtmehkneofinmiaaGreatDoor
open Go.RowKit
theorem xN {σ σ':St}{key body:List UInt8}{k n told:Nat}(h:ca σ key k n body=(told,some σ')):σ'.time=σ.time:=by
 unfold ca at h;split at h
 ·cases h
 ·split at h
  ·cases h
  ·cases h;rfl
theorem zU (σ:St)(l:List UInt8):(doF σ l).2.time=σ.time:=by
 unfold doF gQ;cases hr:bM l with
 | error n=>rfl
 | ok x =>
   obtain⟨m,t,k,body⟩:=x;simp only;split
   ·rfl
   ·unfold eP;split
    ·rfl
    ·split
     ·rfl
     ·split
      ·cases hc:ca σ t.key (bu (aa σ.ents t.key) m t body).1 (bu (aa σ.ents t.key) m t body).2.1 (bu (aa σ.ents t.key) m t body).2.2 with
       | mk told o =>
         cases o with
         | none=>rfl
         | some σ'=>exact xN hc
      ·cases d9 (aa σ.ents t.key) t<;>rfl
structure bZ where
 s:Nat
 n:Nat
 σ:St
 M:Mem
 p:Nat
 l:List Itm
 J:List UInt8
 vs:Value
def bZ.own (a:bZ)(k:Nat):Prop:=a.M.own a.s a.n k\/(k=a.p\/a.vs.ownBlock=some k)
structure bZ.At (a:bZ)(N:Nat)(B:Nat->Prop)(w:World):Prop where
 st:ak w a.s a.n 0 (λ _=>0) a.σ a.M
 ref:aC w a.p a.σ.time a.l a.J a.vs
 twin:cH N a.σ ⟨a.l,a.J⟩
 two:∀ k,a.M.own a.s a.n k->¬ (k=a.p\/a.vs.ownBlock=some k)
 high:∀ k,a.own k->B k
theorem lF {w x:World}{p t:Nat}{l:List Itm}{J:List UInt8}{vs:Value}{S:Nat->Prop}(h:aC w p t l J vs)(ho:Off S w x)(hp:¬ S p)(hv:∀ k,vs.ownBlock=some k->¬ S k):aC x p t l J vs:=by
 refine⟨(ho.block p h.lt hp).trans h.blk,⟨h.row.1,h.row.2.imp id ?_⟩,h.few⟩;rintro ⟨g,A2,A1,A0,hg,hh,r⟩;exact⟨g,A2,A1,A0,hg,(ho.block g (gL hh) (hv g (by rw[A0];rfl))).trans hh,r⟩
theorem bZ.At.off {a:bZ}{N:Nat}{B:Nat->Prop}{w x:World}{S:Nat->Prop}(h:a.At N B w)(ho:Off S w x)(hS:∀ k,a.own k->¬ S k):a.At N B x :=
 ⟨h.st.off ho (λ k hk=>hS k (Or.inl hk)),lF h.ref ho (hS _ (Or.inr (Or.inl rfl))) (λ k hk=>hS k (Or.inr (Or.inr hk))),h.twin,h.two,h.high⟩
theorem bZ.At.below {a:bZ}{N:Nat}{B:Nat->Prop}{w x:World}(h:a.At N B w)(hb:Below w.heap.size w x):a.At N B x :=
 h.off (Off.of_below (S:=λ _=>False) hb) (λ _ _ h=>h)
theorem bZ.At.lt {a:bZ}{N:Nat}{B:Nat->Prop}{w:World}(h:a.At N B w){k:Nat}(hk:a.own k):k<w.heap.size:=by
 rcases hk with hk|rfl|hk
 ·exact gT h.st hk
 ·exact h.ref.lt
 ·exact h.ref.vlt k hk
theorem A0 {w:World}{s n:Nat}{rd:Int}{lk:Nat->Int}{σ:St}{M:Mem}(h:ak w s n rd lk σ M):fK σ:=⟨h.rise,h.ok,h.time⟩
def Mid (a:bZ)(σ':St)(w w1:World):Prop:=∃ M',ak w1 a.s a.n 0 (λ _=>0) σ' M'/\Off (a.M.own a.s a.n) w w1/\∀ k,M'.own a.s a.n k->a.M.own a.s a.n k\/w.heap.size<=k
def Fin (a:bZ)(N:Nat)(B:Nat->Prop)(w w2:World):Prop:=∃ a':bZ,a'.s=a.s/\a'.p=a.p/\a'.At N B w2/\Off a.own w w2/\∀ k,a'.own k->a.own k\/w.heap.size<=k
theorem yr {a:bZ}{N:Nat}{B:Nat->Prop}{w w1 w2:World}{σ':St}{l':List Itm}{J':List UInt8}{vs':Value}(h:a.At N B w)(hz:∀ k,w.heap.size<=k->B k)(hm:Mid a σ' w w1)(hr:aC w2 a.p σ'.time l' J' vs')(hv:∀ g,vs'.ownBlock=some g->a.vs.ownBlock=some g\/w1.heap.size<=g)(ho:Off (λ k=>k=a.p\/a.vs.ownBlock=some k) w1 w2)(ht:cH N σ' ⟨l',J'⟩):Fin a N B w w2:=by
 obtain⟨M',hs,h1,h2⟩:=hm;have A6:=h.ref.lt;have A1:=h.ref.vlt;have A4:=h1.size;have A0:∀ k,M'.own a.s a.n k->k<w1.heap.size:=λ k hk=>gT hs hk;have A5:∀ k,a.M.own a.s a.n k->k<w.heap.size:=λ k hk=>gT h.st hk;refine⟨⟨a.s,a.n,σ',M',a.p,l',J',vs'⟩,rfl,rfl,⟨?_,hr,ht,?_,?_⟩,?_,?_⟩
 ·refine hs.off ho (λ k hk hh=>?_);rcases h2 k hk with hk|hk
  ·exact h.two k hk hh
  ·rcases hh with rfl|hh
   ·omega
   ·have:=A1 k hh;omega
 ·intro k hk hh;show False;have A2:M'.own a.s a.n k:=hk;have A3:=A0 k A2;rcases h2 k A2 with hk|hk
  ·rcases hh with hh|hh
   ·exact h.two k hk (Or.inl hh)
   ·rcases hv k hh with hh|hh
    ·exact h.two k hk (Or.inr hh)
    ·omega
  ·rcases hh with hh|hh
   ·have A7:k=a.p:=hh;omega
   ·rcases hv k hh with hh|hh
    ·have:=A1 k hh;omega
    ·omega
 ·intro k hk;rcases hk with hk|hk|hk
  ·rcases h2 k hk with hk|hk
   ·exact h.high k (Or.inl hk)
   ·exact hz k hk
  ·exact h.high k (Or.inr (Or.inl hk))
  ·rcases hv k hk with hk|hk
   ·exact h.high k (Or.inr (Or.inr hk))
   ·exact hz k (by omega)
 ·exact Off.trans (h1.mono (λ k hk=>Or.inl hk)) (ho.mono (λ k hk=>Or.inr hk))
 ·intro k hk;rcases hk with hk|hk|hk
  ·exact (h2 k hk).imp Or.inl id
  ·exact Or.inl (Or.inr (Or.inl hk))
  ·rcases hv k hk with hk|hk
   ·exact Or.inl (Or.inr (Or.inr hk))
   ·exact Or.inr (by omega)
theorem Mid.env {a:bZ}{N:Nat}{B:Nat->Prop}{w w1:World}{σ':St}(h:a.At N B w)(he:Env B w)(hm:Mid a σ' w w1):Env B w1:=by
 obtain⟨_,_,h1,_⟩:=hm;exact he.off (h1.mono (λ k hk=>h.high k (Or.inl hk)))
theorem Mid.ref {a:bZ}{N:Nat}{B:Nat->Prop}{w w1:World}{σ':St}(h:a.At N B w)(hm:Mid a σ' w w1):aC w1 a.p a.σ.time a.l a.J a.vs:=by
 obtain⟨_,_,h1,_⟩:=hm;exact lF h.ref h1 (λ hh=>h.two _ hh (Or.inl rfl)) (λ k hk hh=>h.two k hh (Or.inr hk))
theorem yL {N:Nat}{σ:St}{s:Rst}(h:cH N σ s):σ.log.length=s.J.length:=by rw[h.same.log]
theorem yX {a:bZ}{N:Nat}{B:Nat->Prop}{w:World}(hN:N<=4294967296)(h:a.At N B w)(he:Env B w)(req:List UInt8)(hl:req.length<=9223372036854775807) :
 Calls Tryz.prog 15 #[.pointer (some ⟨a.s,0,none⟩),.string ⟨req.toArray⟩] w λ e w1=>e=.returned (.string ⟨(doF a.σ req).1.toArray⟩)/\Mid a (doF a.σ req).2 w w1:=by
 have hz:=h.twin.sizes (A0 h.st) h.st.many;exact (wY req w h.st he.mx he.tb (λ k hk=>he.hi k (h.high k (Or.inl hk))) (by rw[yL h.twin];have:=hz.2.1;simp only at this;omega) hl).mono (λ e w1 hh=>⟨hh.1,hh.2⟩)
theorem AZ {a:bZ}{N:Nat}{B:Nat->Prop}{w w1:World}(hN:N<=4294967296)(hN2:1000000000<=N)(h:a.At N B w)(he:Env B w)(req:List UInt8)(hl:req.length<=9223372036854775807)(hm:Mid a (doF a.σ req).2 w w1) :
 Calls Tryz.prog 32 #[.pointer (some ⟨a.p,0,none⟩),.string ⟨req.toArray⟩] w1 λ e w2=>e=.returned (.string ⟨(doF a.σ req).1.toArray⟩)/\Fin a N B w w2:=by
 have hz:=h.twin.sizes (A0 h.st) h.st.many;simp only at hz;have hE:=hm.env h he;have A1:=zZ h.twin (A0 h.st) hN2 req;have hk:∀ key:List UInt8,aA key=true->key.length<=40:=λ key hh=>by unfold aA at hh;simp at hh;exact hh.2.1
 refine (vr a.p a.σ.time a.l a.J a.vs req w1 ⟨hm.ref h,hE.tb,λ k hk=>hE.hi k (h.high k (Or.inr hk)),by omega,by omega,h.st.time,λ key=>by have:=hz.2.2 key;omega,λ it hit=>⟨?_,h.twin.time it hit,h.twin.body it hit,hk _ (h.twin.key it hit)⟩⟩ hl).mono ?_
 ·have h1:it.num<=aH it.key a.l:=h.twin.num it hit;have h2:=hz.2.2 it.key;omega
 ·rintro e w2 ⟨rfl,A2,h1,h2,h3⟩;refine⟨by rw[A1.1],yr h he.sz hm ?_ h2 h3 A1.2⟩;rw[zU];exact h1
theorem tR {a:bZ}{N:Nat}{B:Nat->Prop}{w:World}(h:a.At N B w) :
 Calls Tryz.prog 35 #[.pointer (some ⟨a.s,0,none⟩)] w λ e w'=>e=.returned (.int .i64 a.σ.time)/\w'=w:=we w h.st
theorem mO {a:bZ}{N:Nat}{B:Nat->Prop}{σ':St}{w x w1:World}{k i:Nat}{v:Value}(h:a.At N B w)(hm:Mid a σ' x w1)(hk:w.heap.size<=k)(hc:x.cell? ⟨k,i,none⟩=some v):w1.cell? ⟨k,i,none⟩=some v:=by
 obtain⟨_,_,ho,_⟩:=hm;have A0:=World.block_lt_of_cell? _ _ hc;simp only[World.cell?] at hc ⊢;rw[ho.block k A0 (λ hh=>by have:=h.lt (Or.inl hh);omega)];exact hc
theorem Ao (N:Nat):cH N st0 ⟨[],[]⟩:=by
 refine⟨⟨rfl,λ _=>rfl,λ _=>rfl,rfl,λ _=>List.Pairwise.nil⟩,?_,?_,?_,?_,?_,?_,rfl,by simp⟩
 ·intro it h;cases h
 ·intro it h;cases h
 ·intro it h;cases h
 ·intro it h;cases h
 ·intro it h;cases h
 ·intro A0 n _ h0 hn;have:n<=0:=hn;omega
theorem oT {fn:Func}(h:fn.results=#[.cell 2 30,.tmp 3])(tmps:Array Value)(x:World)(g:Nat)(p q:Value)(hp:tmps.getD 2 undef=.pointer (some ⟨g,0,none⟩))(hg:x.heap[g]?=some (.cells #[p,q] 30 (0,0))) :
 (results fn tmps).run Tryz.prog x=.ok (.tuple #[.agg #[p,q],tmps.getD 3 undef]) x:=by
 have A0:tmps[2]?.getD undef=.pointer (some ⟨g,0,none⟩):=by simpa using hp
 have hr:=run_loadVar_row (P:=Tryz.prog) x g 30 30 #[p,q] (0,0) _ hg Tryz.underlying30 rfl (by kernel_rfl);simp[results,h,A0,asAddr,hr]
theorem v8 (N:Nat)(B:Nat->Prop)(n:Nat)(w:World)(h1:1<=n)(h8:n<=8)(hB:∀ k,w.heap.size<=k->B k) :
 Calls Tryz.prog 11 #[.int .i64 (n:Int)] w λ e w'=>∃ a:bZ,e=.returned (.tuple #[.agg #[.pointer (some ⟨a.s,0,none⟩),.pointer (some ⟨a.p,0,none⟩)],.bool true])/\a.At N B w'/\Below w.heap.size w w'/\∀ k,a.own k->w.heap.size<=k:=by
 have Af:Hid _:=λ y=>uF n y h1 h8;have Aj:Hid _:=λ y=>mE (n:Int) y (by omega) (by omega);have Ag:Hid _:=hB;clear h1 h8 hB;go_enter Tryz.func11,Tryz.ntmps11;go_wp2_with fail;refine Calls.mono (Af.out _) ?_;rintro e w1 ⟨s,M,rfl,A6,A7,A1⟩;have Ab:Hid _:=A6;have A2:Hid _:=A7;have A8:Hid _:=A1;clear A6 A7 A1;go_wp2_with fail;refine Calls.mono (Aj.out _) ?_;rintro e w2 ⟨p,rfl,A9,Aa,A0⟩;have A5:w.heap.size<w1.heap.size:=by have:=A2.out.size;rw[World.size_alloc] at this;omega
 have Ak:w1.heap.size<=w2.heap.size:=A0.size;have r0:w2.cell? ⟨w.heap.size,0,none⟩=some (.pointer none):=(A0.cell (p:=⟨w.heap.size,0,none⟩) A5).trans ((A2.out.cell (p:=⟨w.heap.size,0,none⟩) (by rw[World.size_alloc];exact Nat.lt_succ_self _)).trans (by simp));have r1:w2.cell? ⟨w.heap.size,1,none⟩=some (.pointer none):=(A0.cell (p:=⟨w.heap.size,1,none⟩) A5).trans ((A2.out.cell (p:=⟨w.heap.size,1,none⟩) (by rw[World.size_alloc];exact Nat.lt_succ_self _)).trans (by simp));have rb:w2.heap[w.heap.size]?=some (.cells #[.pointer none,.pointer none] 30 (0,0)):=(A0.block _ A5).trans ((A2.out.block _ (by rw[World.size_alloc];exact Nat.lt_succ_self _)).trans (heap_alloc_new _ _));have f0:w2.frozen? ⟨w.heap.size,0,none⟩=false:=by simp[World.frozen?,rb]
 have f1:w2.frozen? ⟨w.heap.size,1,none⟩=false:=by simp[World.frozen?,rb]
 have HW:Hid (Below w.heap.size w w2):=(((Below.refl w.heap.size w).alloc (Nat.le_refl _) _).trans (A2.out.mono (by rw[World.size_alloc];omega))).trans (A0.mono (by omega));have Ac:Hid _:=A9;have A4:Hid _:=Aa;have Ae:Hid _:=A0;have Ah:Hid _:=rb;clear A9 Aa A0 rb;go_wp2_with fail;refine bodyPost_ret (v:=.tuple #[.agg #[.pointer (some ⟨s,0,none⟩),.pointer (some ⟨p,0,none⟩)],.bool true]) (oT Tryz.results11 _ _ w.heap.size _ _ rfl (ah (ah Ah.out))) rfl ⟨⟨s,n,st0,M,p,[],[],.slice none 0 0⟩,rfl,?_,?_,?_⟩
 ·have Ai:=Ab.out.below Ae.out;have A1:=A8.out;rw[World.size_alloc] at A1;have A3:Off (λ k=>k=w.heap.size) w2 ((w2.setCell ⟨w.heap.size,0,none⟩ (.pointer (some ⟨s,0,none⟩))).setCell ⟨w.heap.size,1,none⟩ (.pointer (some ⟨p,0,none⟩))):=((Off.refl (λ k=>k=w.heap.size) w2).set w.heap.size 0 _ (Or.inl rfl)).set w.heap.size 1 _ (Or.inl rfl);refine⟨Ai.off A3 (λ k hk=>by have:=A1 k hk;omega),lF Ac.out A3 (by have:=A4.out;show ¬ p=w.heap.size;omega) (λ k hk=>by cases hk),Ao N,λ k hk hh=>?_,λ k hk=>?_⟩
  ·rcases hh with hh|hh
   ·have h3:=gT Ab.out hk;have h4:=A4.out;have Al:k=p:=hh;omega
   ·cases hh
  ·refine Ag.out k ?_;rcases hk with hk|hk|hk
   ·have:=A1 k hk;omega
   ·have h4:=A4.out;have Ad:k=p:=hk;omega
   ·cases hk
 ·exact (HW.out.setCell (Nat.le_refl _) _).setCell (Nat.le_refl _) _
 ·intro k hk;rcases hk with hk|hk|hk
  ·have:=A8.out k hk;rw[World.size_alloc] at this;omega
  ·have h4:=A4.out;have Ad:k=p:=hk;omega
  ·cases hk
abbrev nd (s:Nat):Value:=.iface 257 (.agg #[.pointer (some ⟨s,7,none⟩)])
theorem i7 (b:Nat)(cs:Array Value)(kc:Int)(t0 t kd n:Nat)(key body:List UInt8)(jr:Value)(J:List UInt8)(w:World)
 (hb:w.heap[b]?=some (.cells cs 119 (0,0)))(h0:cs[7]?=some (.int .i32 0))(h2:cs[9]?=some (.int .i64 t0))(h3:cs[10]?=some (.int .i64 kc))(h4:cs[11]?=some jr)(hj:Byt w 0 jr J)(hjb:jr.ownBlock≠some b)
 (hk:kd<256)(ht0:t0<=t)(ht:t<=253402300799)(hn:n<9223372036854775807)(hkl:key.length<100000)(hbl:body.length<100000)(hJ:J.length<140000000000000) :
 Calls Tryz.prog 366 #[.agg #[.pointer (some ⟨b,7,none⟩)],bt kd t key n body] w λ e w'=>e=.returned (.int .i64 t) /\
  ∃ jr',w'.heap[b]?=some (.cells ((cs.setIfInBounds 9 (.int .i64 t)).setIfInBounds 11 jr') 119 (0,0))/\Byt w' 0 jr' (J++aF kd t key n body)/\(jr'.ownBlock=jr.ownBlock\/∃ g,jr'.ownBlock=some g/\w.heap.size<=g)/\Off (λ k=>k=b\/jr.ownBlock=some k) w w':=by
 go_enter Tryz.func366,Tryz.ntmps366;go_wp2_with fail;obtain⟨X,hX⟩:∃ X,X=(w.alloc (.cells #[.pointer (some ⟨b,7,none⟩)] 257)).alloc (.cells #[.int .u8 kd,.int .i64 t,.string ⟨key.toArray⟩,.int .i64 n,.string ⟨body.toArray⟩] 181):=⟨_,rfl⟩;rw[<- hX];have A5:b<w.heap.size:=(gL hb);have A0:Below w.heap.size w X:=by rw[hX];exact ((Below.refl _ _).alloc (Nat.le_refl _) _).alloc (by simp) _
 have A7:X.heap[w.heap.size]?=some (.cells #[.pointer (some ⟨b,7,none⟩)] 257 (0,0)):=by rw[hX];exact (heap_alloc_old _ _ (by simp)).trans (heap_alloc_new _ _)
 have A4:X.heap[w.heap.size+1]?=some (.cells #[.int .u8 kd,.int .i64 t,.string ⟨key.toArray⟩,.int .i64 n,.string ⟨body.toArray⟩] 181 (0,0)):=by rw[hX];have:=heap_alloc_new (w.alloc (.cells #[.pointer (some ⟨b,7,none⟩)] 257)) (.cells #[.int .u8 kd,.int .i64 t,.string ⟨key.toArray⟩,.int .i64 n,.string ⟨body.toArray⟩] 181);simpa using this
 have A8:X.heap[b]?=some (.cells cs 119 (0,0)):=(A0.block b A5).trans hb;have Ah:Hid (Byt X 0 jr J):=Byt.below (base:=0) hj A0;have HC:Hid (Cmn X.drew b 7 t0 kc):=kg A8 h0 h2 h3;have Ac:Hid _:=A8;have Ad:Hid _:=A7;have Ae:Hid _:=A4;have A6:Hid _:=A0;have lX:w.heap.size+1<X.heap.size:=(gL A4);have sX:X.cell? ⟨w.heap.size,0,none⟩=some (.pointer (some ⟨b,7,none⟩))/\X.cell? ⟨w.heap.size+1,1,none⟩=some (.int .i64 t):=⟨by simp[World.cell?,A7],by simp[World.cell?,A4]⟩;clear hX A0 A7 A4 A8 hj hb;have Am:IntKind.i64.wrap ((t:Int)-(t0:Int))=(t:Int)-(t0:Int):=by rw[IntKind.wrap_i64];omega
 have A3:(t0:Int)+((t:Int)-(t0:Int))=(t:Int):=by omega
 go_region_held3 (λ y=>y.cell? ⟨w.heap.size,0,none⟩=some (.pointer (some ⟨b,7,none⟩))/\y.cell? ⟨w.heap.size+1,1,none⟩=some (.int .i64 t)) (first|assumption|go_keep) (first
  | (go_at_call 60
     refine Calls.mono (oI b 7 t0 kc _ HC.out) ?_
     rintro e w2 ⟨rfl,rfl⟩)
  | (go_at_call 59
     refine Calls.mono (xB b 7 t0 kc _ _ HC.out (by omega) (by omega) (by omega) (by omega)) ?_;rintro e w3 ⟨rfl,e3⟩;(have A2:Off (λ k=>k=b) X w3:=by rw[e3];exact (Off.refl (λ k=>k=b) X).drew.set b 9 _ (Or.inl rfl));(have Ai:w3.heap[b]?=some (.cells (cs.setIfInBounds 9 (.int .i64 t)) 119 (0,0)):=by rw[e3,A3];exact ah Ac.out);have Aj:=(A2.block _ (by omega) (by omega)).trans Ad.out;have A1:=(A2.block _ lX (by omega)).trans Ae.out;have s3:w3.cell? ⟨w.heap.size,0,none⟩=some (.pointer (some ⟨b,7,none⟩))/\w3.cell? ⟨w.heap.size+1,1,none⟩=some (.int .i64 t):=⟨by simp[World.cell?,Aj],by simp[World.cell?,A1]⟩
     clear e3))
 have An:Hid (Byt w3 0 jr J):=Byt.off (base:=0) Ah.out A2 (λ g hg e=>hjb (e ▸ hg));have Ak:Hid _:=Ai;have Aq:Hid (Off (λ k=>k=b\/jr.ownBlock=some k) w w3):=(Off.of_below A6.out).trans' A2 (λ k _ h=>Or.inl h);have Al:(cs.setIfInBounds 9 (.int .i64 t))[7]?=some (.int .i32 0):=by rw[Array.getElem?_setIfInBounds_ne (by omega)];exact h0
 have Ap:(cs.setIfInBounds 9 (.int .i64 t))[9]?=some (.int .i64 t):=by have:9<cs.size:=(gL h2);simp[this]
 have A9:(cs.setIfInBounds 9 (.int .i64 t))[11]?=some jr:=by rw[Array.getElem?_setIfInBounds_ne (by omega)];exact h4
 have p0:=s3.1;have r0:w3.cell? ⟨w.heap.size+1,0,none⟩=some (.int .u8 kd):=by simp[World.cell?,A1]
 have r1:=s3.2;have r2:w3.cell? ⟨w.heap.size+1,2,none⟩=some (.string ⟨key.toArray⟩):=by simp[World.cell?,A1]
 have r3:w3.cell? ⟨w.heap.size+1,3,none⟩=some (.int .i64 n):=by simp[World.cell?,A1]
 have r4:w3.cell? ⟨w.heap.size+1,4,none⟩=some (.string ⟨body.toArray⟩):=by simp[World.cell?,A1]
 have Ao:Hid (w.heap.size<=w3.heap.size):=Nat.le_trans A6.out.size A2.size;clear A2 Ai Aj A1 s3 sX HC Ac Ad Ae A6 lX Ah Am A3;go_wp2_with fail;refine (iL b 7 _ 119 t kd t n key body jr J _ Ak.out Al Ap A9 An.out hjb hk (by omega) hn hkl hbl hJ).mono ?_;rintro e w4 ⟨rfl,jr',Aa,Af,Ab,Ag⟩;have H1:Hid _:=Aa;have H2:Hid _:=Af;have H3:Hid (jr'.ownBlock=jr.ownBlock\/∃ g,jr'.ownBlock=some g/\w.heap.size<=g):=Ab.imp_right (λ ⟨g,h1,h2⟩=>⟨g,h1,Nat.le_trans Ao.out h2⟩);have H4:Hid _:=Aq.out.trans Ag;clear Aa Af Ab Ag;go_wp2_with fail;go_ret;exact⟨rfl,jr',H1.out,H2.out,H3.out,H4.out⟩
end Go.Proofs.YtmehkneofinmiaaGreatDoor

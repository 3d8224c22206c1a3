/-part 23-/
import Derived.Test.YtmehkneofinmiaaGreatDoorP22
set_option maxHeartbeats 1000000
namespace Go.Proofs.YtmehkneofinmiaaGreatDoor
open Go.RowKit
structure j8 (w:World)(M:Mem)(n:Nat)(σ:St)(key:List UInt8)(p:Nat)(vs:Value):Prop where
 ent:al w p (aa σ.ents key) vs
 at':(p∈M.ps (ao key%n)/\M.en p=aa σ.ents key/\M.vs p=vs/\(aa σ.ents key).last≠0)\/((∀ j,j<n->p ∉ M.ps j)/\vs=.slice none 0 0/\(aa σ.ents key).last=0)
theorem j8.below {w x:World}{M:Mem}{n:Nat}{σ:St}{key:List UInt8}{p:Nat}{vs:Value}(h:j8 w M n σ key p vs)(hb:Below w.heap.size w x):j8 x M n σ key p vs:=⟨h.ent.below hb,h.at'⟩
theorem ak.found {w:World}{s n:Nat}{rd:Int}{lk:Nat->Int}{σ:St}{M:Mem}{key:List UInt8}{p:Nat}{vs:Value}(h:ak w s n rd lk σ M)(hf:j8 w M n σ key p vs) :
 (∀ v∈(aa σ.ents key).vers,v.num<=(aa σ.ents key).last)/\((aa σ.ents key).vers.Pairwise λ a b=>a.num<b.num)/\(∀ v∈(aa σ.ents key).vers,v.time<=253402300799)/\(∀ v∈(aa σ.ents key).vers,v.body.length<=400)/\(aa σ.ents key).vers.length<=20/\(aa σ.ents key).last<=σ.log.length:=by
 rcases hf.at' with ⟨_,_,_,hl⟩|⟨_,_,hl⟩
 ·have ho:=h.ok _ (cU hl);exact⟨ho.num,ho.rise,ho.time,ho.body,ho.len,h.lastB _ (cU hl)⟩
 ·have:=(df (λ E hE=>(h.ok E hE).last) hl).2;rw[this];simp
structure Chd (w w':World)(s n:Nat)(rd:Int)(lk:Nat->Int)(σ':St)(M M':Mem)(p:Nat):Prop where
 st:ak w' s n rd lk σ' M'
 off:Off (λ k=>M.own s n k\/k=p) w w'
 own:∀ k,M'.own s n k->M.own s n k\/w.heap.size<=k\/k=p
 g:M'.g=M.g
def CRm (w w':World)(s n:Nat)(rd:Int)(σ:St)(M:Mem)(key:List UInt8)(p:Nat)(vs:Value)(num i:Nat)(body:List UInt8):Prop :=
 ∃ jr' vs',Jrn w' s ((az rd M.g n M.cap σ.time σ.ents.length M.jr).setIfInBounds 11 jr') M.jr jr' (σ.log++aF 3 σ.time key num body) w.heap.size/\al w' p ⟨(aa σ.ents key).key,(aa σ.ents key).last,(aa σ.ents key).vers.eraseIdx i⟩ vs'/\vs'.ownBlock=vs.ownBlock/\Off (λ k=>k=s\/M.jr.ownBlock=some k\/k=p\/vs.ownBlock=some k) w w'
def CKn (w w':World)(s n:Nat)(rd:Int)(σ:St)(M:Mem)(key:List UInt8)(p:Nat)(vs:Value)(k num:Nat)(body:List UInt8):Prop :=
 ∃ jr' g2 cap2,Jrn w' s ((az rd M.g n M.cap σ.time σ.ents.length M.jr).setIfInBounds 11 jr') M.jr jr' (σ.log++aF k σ.time key num body) w.heap.size/\al w' p ⟨(aa σ.ents key).key,num,(aa σ.ents key).vers++[⟨num,σ.time,k==2,body⟩]⟩ (.slice (some ⟨g2,0,none⟩) ((aa σ.ents key).vers.length+1) cap2)/\(vs.ownBlock=some g2\/w.heap.size<=g2)/\Off (λ k=>k=s\/M.jr.ownBlock=some k\/k=p\/vs.ownBlock=some k) w w'
def CNw (w w':World)(s n:Nat)(rd:Int)(σ:St)(M:Mem)(key:List UInt8)(p:Nat)(vs:Value)(gs:Array Value)(i k num:Nat)(body:List UInt8):Prop :=
 ∃ jr' g1 cap1 g2 cap2,Jrn w' s (((az rd M.g n M.cap σ.time σ.ents.length M.jr).setIfInBounds 10 (.int .i64 ((σ.ents.length:Int)+1))).setIfInBounds 11 jr') M.jr jr' (σ.log++aF k σ.time key num body) w.heap.size /\
  w'.heap[M.g]?=some (.cells (gs.setIfInBounds (ao key%n*3+2) (.slice (some ⟨g1,0,none⟩) ((M.ps (ao key%n)).length+1) cap1)) 164 (0,0)) /\
  w'.ownsRow 0 170 1 (.slice (some ⟨g1,0,none⟩) ((M.ps (ao key%n)).length+1) cap1) ((M.ps (ao key%n)).length+1) (fM ((M.ps (ao key%n)).take i++p::(M.ps (ao key%n)).drop i))/\((M.es (ao key%n)).ownBlock=some g1\/w.heap.size<=g1) /\
  al w' p ⟨(aa σ.ents key).key,num,(aa σ.ents key).vers++[⟨num,σ.time,k==2,body⟩]⟩ (.slice (some ⟨g2,0,none⟩) ((aa σ.ents key).vers.length+1) cap2)/\(vs.ownBlock=some g2\/w.heap.size<=g2) /\
  Off (λ k=>k=s\/M.jr.ownBlock=some k\/k=M.g\/k=p\/(M.es (ao key%n)).ownBlock=some k\/vs.ownBlock=some k) w w'
theorem rh {s n:Nat}{rd:Int}{lk:Nat->Int}{σ:St}{M:Mem}(C:(Ending->World->Prop)->Prop)(hC:∀ P Q:Ending->World->Prop,C P->(∀ e w',P e w'->Q e w')->C Q)(N:World->Prop)(key:List UInt8)(p:Nat)(vs:Value)(k num:Nat)(body:List UInt8)(w:World)(h:ak w s n rd lk σ M)(hf:j8 w M n σ key p vs)
 (hk:k=1\/k=2\/k=3)(hn:k≠3->num=(aa σ.ents key).last+1)(hkey:aA key=true)(hb:body.length<=400)
 (H1:(aa σ.ents key).vers.length<=20->aJ (aa σ.ents key) k num≠0->C λ e w'=>e=.returned (.tuple #[.int .i64 (aJ (aa σ.ents key) k num:Nat),.bool false])/\N w')
 (H2:(aa σ.ents key).vers.length<=20->aJ (aa σ.ents key) k num=0->(aa σ.ents key).last=0->σ.ents.length=60->C λ e w'=>e=.returned (.tuple #[.int .i64 507,.bool false])/\N w')
 (H3:(aa σ.ents key).vers.length<=20->∀ i,k=3->cV (aa σ.ents key).vers num=some i->0<(aa σ.ents key).last->C λ e w'=>e=.returned (.tuple #[.int .i64 204,.bool true])/\CRm w w' s n rd σ M key p vs num i body)
 (H4:(aa σ.ents key).vers.length<=20->aJ (aa σ.ents key) k num=0->k≠3->0<(aa σ.ents key).last->C λ e w'=>e=.returned (.tuple #[.int .i64 (cK (aa σ.ents key) k:Nat),.bool true])/\CKn w w' s n rd σ M key p vs k num body)
 (H5:(aa σ.ents key).vers.length<=20->aJ (aa σ.ents key) k num=0->k≠3->(aa σ.ents key).last=0->σ.ents.length<60->vs.ownBlock=none->∀ cs j,w.heap[M.g]?=some (.cells cs 164 (0,0))->cs[ao key%n*3+2]?=some (M.es (ao key%n))->dK (M.keys (ao key%n))->(M.ps (ao key%n)).length<1000000->cX (M.keys (ao key%n)) (aa σ.ents key).key j ->
   C λ e w'=>e=.returned (.tuple #[.int .i64 (cK (aa σ.ents key) k:Nat),.bool true])/\CNw w w' s n rd σ M key p vs cs j k num body) :
 C λ e w' =>
  match (ca σ key k num body).2 with
  | none=>e=.returned (.tuple #[.int .i64 ((ca σ key k num body).1:Nat),.bool false])/\N w'
  | some σ'=>e=.returned (.tuple #[.int .i64 ((ca σ key k num body).1:Nat),.bool true])/\∃ M',Chd w w' s n rd lk σ' M M' p:=by
 have hi:ao key%n<n:=Nat.mod_lt _ h.n1;obtain⟨f1,f2,f3,f4,f5,f6⟩:=h.found hf;have B0:key.length<=40:=by unfold aA at hkey;simp at hkey;exact hkey.2.1
 have A0:=cF σ.ents key;obtain⟨cs,hc,hr⟩:=h.row;by_cases ho:aJ (aa σ.ents key) k num=0
 ·by_cases hfull:(aa σ.ents key).last=0/\60<=σ.ents.length
  ·-- no room for one key more
   (have e0:ca σ key k num body=(507,none):=by simp[ca,ho,hfull]);rw[e0];have Av:σ.ents.length=60:=Nat.le_antisymm h.many hfull.2;exact hC _ _ (H2 f5 ho hfull.1 Av) λ e w' hw=>hw
  ·(have e0:ca σ key k num body=(cK (aa σ.ents key) k,some ⟨σ.time,bJ σ.ents (bf (aa σ.ents key) k σ.time num body),σ.log++aF k σ.time key num body⟩):=by simp[ca,ho,hfull]);rw[e0];(have A2:σ.log.length<=(σ.log++aF k σ.time key num body).length:=by simp);(have A1:(bf (aa σ.ents key) k σ.time num body).last<=(σ.log++aF k σ.time key num body).length:=by have:=pZ (E:=aa σ.ents key) (k:=k) (t:=σ.time) (n:=num) (body:=body) hn;rw[List.length_append,de];omega);have Ak:ld (bf (aa σ.ents key) k σ.time num body):=by
    refine uU (by rw[A0];exact hkey) f1 f2 f3 f4 f5 ho (λ h3=>?_) hn h.time hb;obtain⟨i,hv⟩:=(ge ho).1 h3;obtain⟨v,Ab,_⟩:=fg hv;rcases hf.at' with ⟨_,_,_,hl⟩|⟨_,_,hl⟩
    ·omega
    ·rw[(df (λ E hE=>(h.ok E hE).last) hl).2] at Ab;simp at Ab
   have Az:=h.time;rcases hf.at' with ⟨hp,Ay,A6,hl⟩|⟨hp,A6,hl⟩
   ·-- known
    (have As:(bf (aa σ.ents key) k σ.time num body).key=(M.en p).key:=by rw[jl,Ay]);have Ae:∀ {w':World},Off (λ k=>k=s\/M.jr.ownBlock=some k\/k=p\/vs.ownBlock=some k) w w'->Off (λ k=>M.own s n k\/k=p) w w':=λ ho=>ho.mono (by
     rintro b (e|e|e|e)
     ·exact Or.inl (Or.inl e)
     ·exact Or.inl (Or.inr (Or.inr (Or.inr (Or.inr (Or.inr e)))))
     ·exact Or.inr e
     ·exact Or.inl (Or.inr (Or.inr (Or.inr (Or.inr (Or.inl ⟨_,p,hi,hp,by rw[A6];exact e⟩))))))
    have Ah:∀ {A9 A4:Value} {E':Ent},(∀ b,A9.ownBlock=some b->(M.vs p).ownBlock=some b\/w.heap.size<=b)->(A4.ownBlock=M.jr.ownBlock\/∃ g,A4.ownBlock=some g/\w.heap.size<=g) ->
     ∀ b,Mem.own { M with en:=upd M.en p E',vs:=upd M.vs p A9,jr:=A4 } s n b->M.own s n b\/w.heap.size<=b\/b=p:=by
     intro A9 A4 E' hv hj b;rintro (e|e|e|e|⟨i,q,A3,hq,e⟩|e)
     ·exact Or.inl (Or.inl e)
     ·exact Or.inl (Or.inr (Or.inl e))
     ·exact Or.inl (Or.inr (Or.inr (Or.inl e)))
     ·exact Or.inl (Or.inr (Or.inr (Or.inr (Or.inl e))))
     ·change (upd M.vs p A9 q).ownBlock=some b at e;by_cases eq:q=p
      ·subst eq;rw[aY] at e;rcases hv b e with h1|h1
       ·exact Or.inl (Or.inr (Or.inr (Or.inr (Or.inr (Or.inl ⟨i,q,A3,hq,h1⟩)))))
       ·exact Or.inr (Or.inl h1)
      ·rw[aB eq] at e;exact Or.inl (Or.inr (Or.inr (Or.inr (Or.inr (Or.inl ⟨i,q,A3,hq,e⟩)))))
     ·change A4.ownBlock=some b at e;rcases hj with h1|⟨g,h1,h2⟩
      ·exact Or.inl (Or.inr (Or.inr (Or.inr (Or.inr (Or.inr (h1 ▸ e))))))
      ·rw[h1] at e;injection e with e;exact Or.inr (Or.inl (e ▸ h2))
    by_cases Aa:k=3
    ·subst Aa;obtain⟨i,hv⟩:=(ge ho).1 rfl;refine hC _ _ (H3 f5 i rfl hv (by omega)) ?_;rintro e w' ⟨rfl,A4,A9,hJ,hE,Ao,A7⟩;(have Ad:bf (aa σ.ents key) 3 σ.time num body=⟨(aa σ.ents key).key,(aa σ.ents key).last,(aa σ.ents key).vers.eraseIdx i⟩:=by simp[bf,hv]);have Ac:∀ b,A9.ownBlock=some b->(M.vs p).ownBlock=some b\/w.heap.size<=b:=λ b hb=>Or.inl (by rw[A6,<- Ao];exact hb);refine⟨by simp[cK],_,h.chg hi hp As Ak A1 A2 (by rw[Ad];exact hE) Ac hJ (by rw[A6];exact A7),Ae A7,Ah Ac hJ.at',rfl⟩
    ·refine hC _ _ (H4 f5 ho Aa (by omega)) ?_;rintro e w' ⟨rfl,A4,g2,A8,hJ,hE,Ao,A7⟩;(have Ad:bf (aa σ.ents key) k σ.time num body=⟨(aa σ.ents key).key,num,(aa σ.ents key).vers++[⟨num,σ.time,k==2,body⟩]⟩:=by simp[bf,Aa]);(have Ac:∀ b,(Value.slice (some ⟨g2,0,none⟩) ((aa σ.ents key).vers.length+1) A8).ownBlock=some b->(M.vs p).ownBlock=some b\/w.heap.size<=b:=λ b hb=>by injection hb with hb;simp only at hb;rw[A6,<- hb];exact Ao);refine⟨rfl,_,h.chg hi hp As Ak A1 A2 (by rw[Ad];exact hE) Ac hJ (by rw[A6];exact A7),Ae A7,Ah Ac hJ.at',rfl⟩
   ·-- it becomes known
    (have Aa:k≠3:=by intro h3;obtain⟨i,hv⟩:=(ge ho).1 h3;obtain⟨v,Ab,_⟩:=fg hv;rw[(df (λ E hE=>(h.ok E hE).last) hl).2] at Ab;simp at Ab);have A5:σ.ents.length<60:=by
     have:=h.many;rcases Nat.lt_or_ge σ.ents.length 60 with h1|h1
     ·exact h1
     ·exact absurd ⟨hl,h1⟩ hfull
    obtain⟨j,Ag,B1⟩:=h.look_no key hl;(have Af:cX (M.keys (ao key%n)) (aa σ.ents key).key j:=by rw[A0];exact Ag);(have Al:(M.ps (ao key%n)).length<1000000:=by (have h1:((M.ps (ao key%n)).map M.en).length<=σ.ents.length:=by rw[h.lst _ hi];exact List.length_filter_le _ _);rw[List.length_map] at h1;omega);(have Au:dK (M.keys (ao key%n)):=by rw[h.keys_eq hi];exact (h.rise.filter _).rising);(have An:vs.ownBlock=none:=by rw[A6];rfl);refine hC _ _ (H5 f5 ho Aa hl A5 An cs j hc (hr _ hi).2 Au Al Af) ?_;rintro e w' ⟨rfl,A4,g1,Aj,g2,A8,hJ,hg,Am,Aw,hE,At,A7⟩;(have Ad:bf (aa σ.ents key) k σ.time num body=⟨(aa σ.ents key).key,num,(aa σ.ents key).vers++[⟨num,σ.time,k==2,body⟩]⟩:=by simp[bf,Aa]);(have Ap:(bf (aa σ.ents key) k σ.time num body).key=key:=by rw[jl,A0]);have Ai:Off (λ k=>k=s\/M.jr.ownBlock=some k\/k=M.g\/k=p\/(M.es (ao key%n)).ownBlock=some k) w w':=A7.mono (by
     rintro b (e|e|e|e|e|e)
     ·exact Or.inl e
     ·exact Or.inr (Or.inl e)
     ·exact Or.inr (Or.inr (Or.inl e))
     ·exact Or.inr (Or.inr (Or.inr (Or.inl e)))
     ·exact Or.inr (Or.inr (Or.inr (Or.inr e)))
     ·rw[An] at e;cases e)
    have Ar:∀ b,(Value.slice (some ⟨g2,0,none⟩) ((aa σ.ents key).vers.length+1) A8).ownBlock=some b->w.heap.size<=b:=λ b hb=>by
     injection hb with hb;simp only at hb;rw[<- hb];rcases At with h1|h1
     ·rw[An] at h1;cases h1
     ·exact h1
    (have Aq:∀ b,(Value.slice (some ⟨g1,0,none⟩) ((M.ps (ao key%n)).length+1) Aj).ownBlock=some b->(M.es (ao key%n)).ownBlock=some b\/w.heap.size<=b:=λ b hb=>by injection hb with hb;simp only at hb;rw[<- hb];exact Aw);refine⟨rfl,_,h.add (i:=ao key%n) (p:=p) (j:=j) (by rw[Ap]) hp hf.ent.blk (by rw[Ap];exact (df (λ E hE=>(h.ok E hE).last) hl).1) (by rw[Ap];exact Ag) Ak A1 A2 A5 hc hr (by rw[Ad];exact hE) Ar hJ hg Am Aq Ai,?_,?_,rfl⟩
    ·refine Ai.mono ?_;rintro b (e|e|e|e|e)
     ·exact Or.inl (Or.inl e)
     ·exact Or.inl (Or.inr (Or.inr (Or.inr (Or.inr (Or.inr e)))))
     ·exact Or.inl (Or.inr (Or.inl e))
     ·exact Or.inr e
     ·exact Or.inl (Or.inr (Or.inr (Or.inl ⟨_,hi,e⟩)))
    ·intro b;rintro (e|e|⟨i,A3,e⟩|⟨i,A3,e⟩|⟨i,q,A3,hq,e⟩|e)
     ·exact Or.inl (Or.inl e)
     ·exact Or.inl (Or.inr (Or.inl e))
     ·change (upd M.es (ao key%n) _ i).ownBlock=some b at e;by_cases ei:i=ao key%n
      ·subst ei;rw[aY] at e;rcases Aq b e with h1|h1
       ·exact Or.inl (Or.inr (Or.inr (Or.inl ⟨_,A3,h1⟩)))
       ·exact Or.inr (Or.inl h1)
      ·rw[aB ei] at e;exact Or.inl (Or.inr (Or.inr (Or.inl ⟨i,A3,e⟩)))
     ·change b∈upd M.ps (ao key%n) _ i at e;by_cases ei:i=ao key%n
      ·subst ei;rw[aY] at e;rcases oV e with h1|h1
       ·exact Or.inr (Or.inr h1)
       ·exact Or.inl (Or.inr (Or.inr (Or.inr (Or.inl ⟨_,A3,h1⟩))))
      ·rw[aB ei] at e;exact Or.inl (Or.inr (Or.inr (Or.inr (Or.inl ⟨i,A3,e⟩))))
     ·change (upd M.vs p _ q).ownBlock=some b at e;by_cases eq:q=p
      ·subst eq;rw[aY] at e;exact Or.inr (Or.inl (Ar b e))
      ·rw[aB eq] at e;change q∈upd M.ps (ao key%n) _ i at hq;have Ax:q∈M.ps i:=by
        by_cases ei:i=ao key%n
        ·subst ei;rw[aY] at hq;exact (oV hq).resolve_left eq
        ·rw[aB ei] at hq;exact hq
       exact Or.inl (Or.inr (Or.inr (Or.inr (Or.inr (Or.inl ⟨i,q,A3,Ax,e⟩)))))
     ·change A4.ownBlock=some b at e;rcases hJ.at' with h1|⟨g,h1,h2⟩
      ·exact Or.inl (Or.inr (Or.inr (Or.inr (Or.inr (Or.inr (h1 ▸ e))))))
      ·rw[h1] at e;injection e with e;exact Or.inr (Or.inl (e ▸ h2))
 ·(have e0:ca σ key k num body=(aJ (aa σ.ents key) k num,none):=by simp[ca,ho]);rw[e0];exact hC _ _ (H1 f5 ho) λ e w' hw=>hw
theorem pK {s n:Nat}{rd:Int}{lk:Nat->Int}{σ:St}{M:Mem}(key:List UInt8)(p:Nat)(vs:Value)(k t0 num:Nat)(body:List UInt8)(w:World)(h:ak w s n rd lk σ M)(hf:j8 w M n σ key p vs)
 (hk:k=1\/k=2\/k=3)(hn:k≠3->num=(aa σ.ents key).last+1)(hnum:num<1000000000000000)(hkey:aA key=true)(hb:body.length<=400)(hlog:σ.log.length<140000000000000) :
 Calls Tryz.prog 143 #[.pointer (some ⟨M.g,ao key%n*3,none⟩),.pointer (some ⟨p,0,none⟩),bt k t0 key num body,fD s] w λ e w' =>
  match (ca σ key k num body).2 with
  | none=>e=.returned (.tuple #[.int .i64 ((ca σ key k num body).1:Nat),.bool false])/\Below w.heap.size w w'
  | some σ'=>e=.returned (.tuple #[.int .i64 ((ca σ key k num body).1:Nat),.bool true])/\∃ M',Chd w w' s n rd lk σ' M M' p:=by
 have A3:key.length<=40:=by unfold aA at hkey;simp at hkey;exact hkey.2.1
 have A0:=cF σ.ents key;have A2:=h.time;have A4:=(h.found hf).2.2.2.2.2;refine rh (λ P=>Calls Tryz.prog 143 #[.pointer (some ⟨M.g,ao key%n*3,none⟩),.pointer (some ⟨p,0,none⟩),bt k t0 key num body,fD s] w P) (λ P Q hP hPQ=>hP.mono hPQ) (λ w'=>Below w.heap.size w w') key p vs k num body w h hf hk hn hkey hb
  (λ f5 ho=>tz M.g _ p s (aa σ.ents key) vs k t0 num key body w hf.ent (by omega) ho)
  (λ f5 ho hl h60=>by
    have A1:=h.blk;rw[h60] at A1
    exact sO M.g _ p s _ _ σ.time (aa σ.ents key) vs k t0 num key body w hf.ent (by omega) ho hl A1 rfl rfl rfl)
  (λ f5 i hk3 hv hl=>by
    subst hk3
    exact uV M.g _ p s _ σ.time M.jr σ.log (aa σ.ents key) vs t0 num i key body w hf.ent (by omega) hv (by omega) h.blk rfl rfl rfl h.jrn (by omega) (by omega) (by omega) (by omega) (by omega))
  (λ f5 ho hk3 hl=>oG M.g _ p s _ σ.time M.jr σ.log (aa σ.ents key) vs k t0 num key body w hf.ent (by omega) ho hk3 (by omega) (by omega) h.blk rfl rfl rfl h.jrn (by omega) (by omega) (by omega) (by omega) (by omega))
  (λ f5 ho hk3 hl h60 hvn cs j hc hr hri hpsl hpos =>
    sE M.g _ p s cs _ (M.es (ao key%n)) (M.ps (ao key%n)) (M.keys (ao key%n)) j σ.time (σ.ents.length:Int) M.jr σ.log (aa σ.ents key) vs k t0 num key body w hf.ent (by omega) ho hk3 (by omega) hl hc hr (h.kt _ (Nat.mod_lt _ h.n1)) hri hpsl (by rw[A0];omega) hpos (λ g hg=>by rw[hvn] at hg;cases hg) h.blk rfl rfl rfl (by omega) (by omega) rfl h.jrn (by omega) (by omega) (by omega) (by omega) (by omega))
end Go.Proofs.YtmehkneofinmiaaGreatDoor
namespace Go.Proofs.YtmehkneofinmiaaGreatDoor.Jd
open Go.RowKit
def jf (w:World)(b off:Nat)(n:Nat)(W:Nat->Bool)(T:Nat->ByteArray):Prop :=
 (∀ i,i<n->w.cell? ⟨b,off+i*2,none⟩=some (.bool (W i)))/\∀ i,i<n->w.cell? ⟨b,off+i*2+1,none⟩=some (.string (T i))
def hit (W:Nat->Bool)(T:Nat->ByteArray)(t:ByteArray)(strong:Bool)(i:Nat):Bool:=decide ((T i).toList=t.toList)&&!(strong&&W i)
def hits (W:Nat->Bool)(T:Nat->ByteArray)(t:ByteArray)(strong:Bool):Nat->Bool
 | 0=>false
 | n+1=>hits W T t strong n||hit W T t strong n
theorem lQ {W:Nat->Bool}{T:Nat->ByteArray}{t:ByteArray}{s:Bool}{k n:Nat}(hk:k<n)(h:hit W T t s k=true):hits W T t s n=true:=by
 induction n with
 | zero=>omega
 | succ n ih =>
   by_cases e:k=n
   ·subst e;simp[hits,h]
   ·simp[hits,ih (by omega)]
theorem jW {W:Nat->Bool}{T:Nat->ByteArray}{t:ByteArray}{s:Bool}{k:Nat}(hh:hits W T t s k=false)(h:hit W T t s k=false):hits W T t s (k+1)=false:=by
 simp[hits,hh,h]
theorem aw {a b:Bool}(h:a=b):Ending.returned (.bool a)=.returned (.bool b):=by rw[h]
theorem yy (b off n cap:Nat)(W:Nat->Bool)(T:Nat->ByteArray)(t:ByteArray)(strong:Bool)(w:World)(hn:n<=maxLen)(ht:jf w b off n W T) :
 Calls Tryz.prog 174 #[.slice (some ⟨b,off,none⟩) n cap,.string t,.bool strong] w λ e w'=>e=.returned (.bool (hits W T t strong n))/\w'=w:=by
 unfold maxLen at hn;obtain⟨h0,h1⟩:=ht;go_enter Tryz.func174,Tryz.ntmps174;go_wp2;go_loop [7] (λ i=>∃ k:Nat,k<=n/\i=.int .i64 k/\Hid (hits W T t strong k=false)) (λ i=>n-(intOf i).toNat);case atStart=>exact⟨0,Nat.zero_le _,rfl,rfl⟩
 case round =>
  obtain⟨k,hk,rfl,hh⟩:=hrel;by_cases hlt:k<n
  ·have c0:=h0 k hlt;have c1:=h1 k hlt;clear h0 h1;go_wp2
   ·go_ret;exact⟨aw (lQ hlt (by simp_all [hit])).symm,rfl⟩
   ·exact⟨⟨k+1,by omega,by omega,jW (by have:=hh.out;simp_all) (by simp_all [hit])⟩,by simp[intOf];omega⟩
   ·go_ret;exact⟨aw (lQ hlt (by simp_all [hit])).symm,rfl⟩
   ·exact⟨⟨k+1,by omega,by go_num,jW hh.out (by simp_all [hit])⟩,by simp[intOf];omega⟩
  ·go_wp2;go_ret;exact⟨aw (by rw[show n=k by omega,hh.out]),rfl⟩
theorem yt (o:Option Addr)(cap:Nat)(t:ByteArray)(strong:Bool)(w:World) :
 Calls Tryz.prog 174 #[.slice o 0 cap,.string t,.bool strong] w λ e w'=>e=.returned (.bool false)/\w'=w:=by
 go_enter Tryz.func174,Tryz.ntmps174;go_wp2;go_loop [7] (λ i=>i=.int .i64 0) (λ _=>0);case atStart=>rfl
 case round =>subst hrel;go_wp2;go_ret;exact⟨rfl,rfl⟩
end Go.Proofs.YtmehkneofinmiaaGreatDoor.Jd
namespace Go.Proofs.YtmehkneofinmiaaGreatDoor.Jd
open Go.RowKit
theorem xP {B:Nat}{W w1:World}(hb:Below B W w1):(∀ b o,b<B->w1.cell? ⟨b,o,none⟩=W.cell? ⟨b,o,none⟩)/\(∀ b o,b<B->w1.frozen? ⟨b,o,none⟩=W.frozen? ⟨b,o,none⟩) :=
 ⟨λ b o h=>hb.cell (p:=⟨b,o,none⟩) h,λ b o h=>hb.frozen (p:=⟨b,o,none⟩) h⟩
theorem eV {w:World}{b o:Nat}{v:Value}(h:w.cell? ⟨b,o,none⟩=some v):b<w.heap.size:=by
 by_cases hb:b<w.heap.size
 ·exact hb
 ·simp[World.cell?,Array.getElem?_eq_none (by omega:w.heap.size<=b)] at h
theorem kI {w:World}{o:Obj}{n i:Nat}{v:Value}(h:n<w.heap.size)(hc:w.cell? ⟨n,i,none⟩=some v):(w.alloc o).cell? ⟨n,i,none⟩=some v:=by
 rw[World.cell?_alloc_past (hn:=h)];exact hc
theorem qw (wt hm am hn an hs hu th:Bool)(since unl tm:Int)(tag:ByteArray)(ln:Value)(b off n cap:Nat)(W:Nat->Bool)(T:Nat->ByteArray)(w:World)(hn0:n<=maxLen)(ht:jf w b off n W T) :
 Calls Tryz.prog 202 #[.agg #[.bool wt,.bool hm,.bool am,.slice (some ⟨b,off,none⟩) n cap,.bool hn,.bool an,ln,.bool hs,.int .i64 since,.bool hu,.int .i64 unl,.bool th,.string tag,.int .i64 tm]] w
  λ e w'=>e=.returned (.bool (th&&(am||hits W T tag true n)))/\Below w.heap.size w w':=by
 unfold maxLen at hn0;obtain⟨h0,h1⟩:=ht;cases th
 ·go_enter Tryz.func202,Tryz.ntmps202;go_wp2;go_ret;exact⟨rfl,(Below.refl _ _).alloc (Nat.le_refl _) _⟩
 cases am
 rotate_left
 ·go_enter Tryz.func202,Tryz.ntmps202;go_wp2;go_ret;exact⟨rfl,(Below.refl _ _).alloc (Nat.le_refl _) _⟩
 go_enter Tryz.func202,Tryz.ntmps202;go_wp2;go_loopw [15] (λ i wr=>∃ k:Nat,k<=n/\i=.int .i64 k/\Hid (hits W T tag true k=false)/\Below w.heap.size w wr/\wr.cell? ⟨w.heap.size,12,none⟩=some (.string tag)/\w.heap.size<wr.heap.size) (λ i _=>n-(intOf i).toNat);case atStart=>exact⟨0,Nat.zero_le _,rfl,rfl,(Below.refl _ _).alloc (Nat.le_refl _) _,by simp,by simp⟩
 case round =>
  obtain⟨k,hk,rfl,hh,hb,hc,hz⟩:=hrel;by_cases hlt:k<n
  ·have A0:b<w.heap.size:=eV (h0 k hlt);have c0:=(hb.cell (p:=⟨b,off+k*2,none⟩) A0).trans (h0 k hlt);have c1:=(hb.cell (p:=⟨b,off+k*2+1,none⟩) A0).trans (h1 k hlt);clear h0 h1;go_wp2
   ·exact⟨⟨k+1,by omega,by go_num,jW hh.out (by simp_all [hit]),hb.alloc (by omega) _,kI hz hc,by simp;omega⟩,by simp[intOf];omega⟩
   ·go_ret;exact⟨aw (by rw[lQ hlt (by simp_all [hit])];rfl),hb.alloc (by omega) _⟩
   ·exact⟨⟨k+1,by omega,by go_num,jW hh.out (by simp_all [hit]),hb.alloc (by omega) _,kI hz hc,by simp;omega⟩,by simp[intOf];omega⟩
  ·go_wp2;go_ret;exact⟨aw (by rw[show n=k by omega,hh.out];rfl),hb⟩
theorem qO (o:Option Addr)(cap:Nat)(wt hm am hn an hs hu th:Bool)(since unl tm:Int)(tag:ByteArray)(ln:Value)(w:World) :
 Calls Tryz.prog 202 #[.agg #[.bool wt,.bool hm,.bool am,.slice o 0 cap,.bool hn,.bool an,ln,.bool hs,.int .i64 since,.bool hu,.int .i64 unl,.bool th,.string tag,.int .i64 tm]] w
  λ e w'=>e=.returned (.bool (th&&(am||false)))/\Below w.heap.size w w':=by
 cases th
 ·go_enter Tryz.func202,Tryz.ntmps202;go_wp2;go_ret;exact⟨rfl,(Below.refl _ _).alloc (Nat.le_refl _) _⟩
 cases am
 rotate_left
 ·go_enter Tryz.func202,Tryz.ntmps202;go_wp2;go_ret;exact⟨rfl,(Below.refl _ _).alloc (Nat.le_refl _) _⟩
 go_enter Tryz.func202,Tryz.ntmps202;go_wp2;go_loopw [15] (λ i wr=>i=.int .i64 0/\Below w.heap.size w wr) (λ _ _=>0);case atStart=>exact⟨rfl,(Below.refl _ _).alloc (Nat.le_refl _) _⟩
 case round =>obtain⟨rfl,hb⟩:=hrel;go_wp2;go_ret;exact⟨rfl,hb⟩
theorem pE (wt hm am hn an hs hu th:Bool)(since unl tm:Int)(tag:ByteArray)(lm:Value)(b off n cap:Nat)(W:Nat->Bool)(T:Nat->ByteArray)(w:World)(hn0:n<=maxLen)(ht:jf w b off n W T) :
 Calls Tryz.prog 203 #[.agg #[.bool wt,.bool hm,.bool am,lm,.bool hn,.bool an,.slice (some ⟨b,off,none⟩) n cap,.bool hs,.int .i64 since,.bool hu,.int .i64 unl,.bool th,.string tag,.int .i64 tm]] w
  λ e w'=>e=.returned (.bool (th&&(an||hits W T tag false n)))/\Below w.heap.size w w':=by
 unfold maxLen at hn0;obtain⟨h0,h1⟩:=ht;cases th
 ·go_enter Tryz.func203,Tryz.ntmps203;go_wp2;go_ret;exact⟨rfl,(Below.refl _ _).alloc (Nat.le_refl _) _⟩
 cases an
 rotate_left
 ·go_enter Tryz.func203,Tryz.ntmps203;go_wp2;go_ret;exact⟨rfl,(Below.refl _ _).alloc (Nat.le_refl _) _⟩
 go_enter Tryz.func203,Tryz.ntmps203;go_wp2;go_loopw [15] (λ i wr=>∃ k:Nat,k<=n/\i=.int .i64 k/\Hid (hits W T tag false k=false)/\Below w.heap.size w wr/\wr.cell? ⟨w.heap.size,12,none⟩=some (.string tag)/\w.heap.size<wr.heap.size) (λ i _=>n-(intOf i).toNat);case atStart=>exact⟨0,Nat.zero_le _,rfl,rfl,(Below.refl _ _).alloc (Nat.le_refl _) _,by simp,by simp⟩
 case round =>
  obtain⟨k,hk,rfl,hh,hb,hc,hz⟩:=hrel;by_cases hlt:k<n
  ·have A0:b<w.heap.size:=eV (h0 k hlt);have c0:=(hb.cell (p:=⟨b,off+k*2,none⟩) A0).trans (h0 k hlt);have c1:=(hb.cell (p:=⟨b,off+k*2+1,none⟩) A0).trans (h1 k hlt);clear h0 h1;go_wp2
   ·go_ret;exact⟨aw (by rw[lQ hlt (by simp_all [hit])];rfl),hb.alloc (by omega) _⟩
   ·exact⟨⟨k+1,by omega,by go_num,jW hh.out (by simp_all [hit]),hb.alloc (by omega) _,kI hz hc,by simp;omega⟩,by simp[intOf];omega⟩
  ·go_wp2;go_ret;exact⟨aw (by rw[show n=k by omega,hh.out];rfl),hb⟩
theorem pd (o:Option Addr)(cap:Nat)(wt hm am hn an hs hu th:Bool)(since unl tm:Int)(tag:ByteArray)(lm:Value)(w:World) :
 Calls Tryz.prog 203 #[.agg #[.bool wt,.bool hm,.bool am,lm,.bool hn,.bool an,.slice o 0 cap,.bool hs,.int .i64 since,.bool hu,.int .i64 unl,.bool th,.string tag,.int .i64 tm]] w
  λ e w'=>e=.returned (.bool (th&&(an||false)))/\Below w.heap.size w w':=by
 cases th
 ·go_enter Tryz.func203,Tryz.ntmps203;go_wp2;go_ret;exact⟨rfl,(Below.refl _ _).alloc (Nat.le_refl _) _⟩
 cases an
 rotate_left
 ·go_enter Tryz.func203,Tryz.ntmps203;go_wp2;go_ret;exact⟨rfl,(Below.refl _ _).alloc (Nat.le_refl _) _⟩
 go_enter Tryz.func203,Tryz.ntmps203;go_wp2;go_loopw [15] (λ i wr=>i=.int .i64 0/\Below w.heap.size w wr) (λ _ _=>0);case atStart=>exact⟨rfl,(Below.refl _ _).alloc (Nat.le_refl _) _⟩
 case round =>obtain⟨rfl,hb⟩:=hrel;go_wp2;go_ret;exact⟨rfl,hb⟩
def ListAt (w:World)(v:Value)(n:Nat)(W:Nat->Bool)(T:Nat->ByteArray):Prop :=
 n<=maxLen/\((∃ o cap,v=.slice o 0 cap/\n=0)\/∃ b off cap,v=.slice (some ⟨b,off,none⟩) n cap/\jf w b off n W T)
theorem jf.below {w w':World}{b off n:Nat}{W:Nat->Bool}{T:Nat->ByteArray}(h:jf w b off n W T)(hb:Below w.heap.size w w'):jf w' b off n W T :=
 ⟨λ i hi=>(hb.cell (p:=⟨b,off+i*2,none⟩) (eV (h.1 i hi))).trans (h.1 i hi),λ i hi=>(hb.cell (p:=⟨b,off+i*2+1,none⟩) (eV (h.2 i hi))).trans (h.2 i hi)⟩
theorem ListAt.below {w w':World}{v:Value}{n:Nat}{W:Nat->Bool}{T:Nat->ByteArray}(h:ListAt w v n W T)(hb:Below w.heap.size w w'):ListAt w' v n W T:=by
 refine⟨h.1,?_⟩;rcases h.2 with h0|⟨b,A1,A0,e,ht⟩
 ·exact Or.inl h0
 ·exact Or.inr ⟨b,A1,A0,e,ht.below hb⟩
def mB (th am:Bool)(W:Nat->Bool)(T:Nat->ByteArray)(tag:ByteArray)(strong:Bool)(n:Nat):Bool:=th&&(am||hits W T tag strong n)
theorem py (v:Value)(n:Nat)(W:Nat->Bool)(T:Nat->ByteArray)(t:ByteArray)(strong:Bool)(w:World)(h:ListAt w v n W T) :
 Calls Tryz.prog 174 #[v,.string t,.bool strong] w λ e w'=>e=.returned (.bool (hits W T t strong n))/\w'=w:=by
 obtain⟨hn,⟨o,A0,rfl,rfl⟩|⟨b,A1,A0,rfl,ht⟩⟩:=h
 ·exact yt o A0 t strong w
 ·exact yy b A1 n A0 W T t strong w hn ht
theorem vT (wt hm am hn an hs hu th:Bool)(since unl tm:Int)(tag:ByteArray)(lm ln:Value)(n:Nat)(W:Nat->Bool)(T:Nat->ByteArray)(w:World)(h:ListAt w lm n W T) :
 Calls Tryz.prog 202 #[.agg #[.bool wt,.bool hm,.bool am,lm,.bool hn,.bool an,ln,.bool hs,.int .i64 since,.bool hu,.int .i64 unl,.bool th,.string tag,.int .i64 tm]] w
  λ e w'=>e=.returned (.bool (mB th am W T tag true n))/\Below w.heap.size w w':=by
 obtain⟨A1,⟨o,A0,rfl,rfl⟩|⟨b,A2,A0,rfl,ht⟩⟩:=h
 ·exact qO o A0 wt hm am hn an hs hu th since unl tm tag ln w
 ·exact qw wt hm am hn an hs hu th since unl tm tag ln b A2 n A0 W T w A1 ht
theorem mJ (wt hm am hn an hs hu th:Bool)(since unl tm:Int)(tag:ByteArray)(lm ln:Value)(n:Nat)(W:Nat->Bool)(T:Nat->ByteArray)(w:World)(h:ListAt w ln n W T) :
 Calls Tryz.prog 203 #[.agg #[.bool wt,.bool hm,.bool am,lm,.bool hn,.bool an,ln,.bool hs,.int .i64 since,.bool hu,.int .i64 unl,.bool th,.string tag,.int .i64 tm]] w
  λ e w'=>e=.returned (.bool (mB th an W T tag false n))/\Below w.heap.size w w':=by
 obtain⟨A1,⟨o,A0,rfl,rfl⟩|⟨b,A2,A0,rfl,ht⟩⟩:=h
 ·exact pd o A0 wt hm am hn an hs hu th since unl tm tag lm w
 ·exact pE wt hm am hn an hs hu th since unl tm tag lm b A2 n A0 W T w A1 ht
end Go.Proofs.YtmehkneofinmiaaGreatDoor.Jd
namespace Go.Proofs.YtmehkneofinmiaaGreatDoor.Jd
open Go.RowKit
def jd (wt hm m hn x hs:Bool)(since:Int)(hu:Bool)(unl:Int)(th:Bool)(tm:Int):Int :=
 if hm&&!m then 412 else if !hm&&hu&&th&&decide (unl<tm) then 412 else if hn&&x then (if wt then 412 else 304)
 else if !hn&&hs&&!wt&&th&&decide (tm<=since) then 304 else 0
theorem cu {k:IntKind}{a b:Int}(h:a=b):Ending.returned (.int k a)=.returned (.int k b):=by rw[h]
theorem vk (wt am hn an hs hu th:Bool)(since unl tm:Int)(tag:ByteArray)(lm ln:Value)(n1 n2:Nat)(W1 W2:Nat->Bool)(T1 T2:Nat->ByteArray)(w:World)(h2:ListAt w ln n2 W2 T2) :
 Calls Tryz.prog 142 #[.agg #[.bool wt,.bool false,.bool am,lm,.bool hn,.bool an,ln,.bool hs,.int .i64 since,.bool hu,.int .i64 unl,.bool th,.string tag,.int .i64 tm]] w
  λ e w'=>e=.returned (.int .i64 (jd wt false (mB th am W1 T1 tag true n1) hn (mB th an W2 T2 tag false n2) hs since hu unl th tm))/\Below w.heap.size w w':=by
 go_enter Tryz.func142,Tryz.ntmps142;go_wp2_with (first|(go_at_call 203;refine (mJ _ _ _ _ _ _ _ _ _ _ _ _ _ _ n2 W2 T2 _ (h2.below ((Below.refl _ _).alloc (Nat.le_refl _) _))).mono ?_;rintro e w' ⟨rfl,hb⟩;obtain⟨hc,hf⟩:=xP hb));all_goals
  go_ret;refine⟨cu ?_,?_⟩
  ·first|(simp[jd, *];done)|(simp[jd, *];omega)
  ·first|exact (Below.refl _ _).alloc (Nat.le_refl _) _|exact ((Below.refl _ _).alloc (Nat.le_refl _) _).trans (hb.mono (by simp))
theorem tK (wt am hn an hs hu th:Bool)(since unl tm:Int)(tag:ByteArray)(lm ln:Value)(n1 n2:Nat)(W1 W2:Nat->Bool)(T1 T2:Nat->ByteArray)(w:World)(h1:ListAt w lm n1 W1 T1)(h2:ListAt w ln n2 W2 T2) :
 Calls Tryz.prog 142 #[.agg #[.bool wt,.bool true,.bool am,lm,.bool hn,.bool an,ln,.bool hs,.int .i64 since,.bool hu,.int .i64 unl,.bool th,.string tag,.int .i64 tm]] w
  λ e w'=>e=.returned (.int .i64 (jd wt true (mB th am W1 T1 tag true n1) hn (mB th an W2 T2 tag false n2) hs since hu unl th tm))/\Below w.heap.size w w':=by
 go_enter Tryz.func142,Tryz.ntmps142;go_wp2_with fail;refine (vT _ _ _ _ _ _ _ _ _ _ _ _ _ _ n1 W1 T1 _ (h1.below ((Below.refl _ _).alloc (Nat.le_refl _) _))).mono ?_;rintro e w1 ⟨rfl,A1⟩;obtain⟨A4,A3⟩:=xP A1;have A5:w.heap.size<w1.heap.size:=by have:=A1.size;simp at this;omega
 have A0:=((Below.refl _ _).alloc (Nat.le_refl w.heap.size) _).trans (A1.mono (by simp));have A2:=h2.below A0;go_wp2_with (first|(go_at_call 203;refine (mJ _ _ _ _ _ _ _ _ _ _ _ _ _ _ n2 W2 T2 _ A2).mono ?_;rintro e w' ⟨rfl,hb⟩;obtain⟨hc,hf⟩:=xP hb));all_goals
  go_ret;refine⟨cu ?_,?_⟩
  ·first|(simp[jd, *];done)|(clear A4 A3 A1 A0 A2;simp_all [jd];done)|(clear A4 A3 A1 A0 A2;simp_all [jd];omega)
  ·first|exact A0|exact A0.trans (hb.mono (by omega))
end Go.Proofs.YtmehkneofinmiaaGreatDoor.Jd
namespace Go.Proofs.YtmehkneofinmiaaGreatDoor.Jd
open Go.RowKit
theorem vW (wt hm hn hs hu:Bool)(since unl tm:Int)(tag:ByteArray)(lm ln:Value)(n1 n2:Nat)(W1 W2:Nat->Bool)(T1 T2:Nat->ByteArray)(w:World)(h1:ListAt w lm n1 W1 T1)(h2:ListAt w ln n2 W2 T2) :
 Calls Tryz.prog 116 #[.agg #[.bool wt,.bool hm,.bool false,lm,.bool hn,.bool false,ln,.bool hs,.int .i64 since,.bool hu,.int .i64 unl,.bool true,.string tag,.int .i64 tm]] w
  λ e w'=>e=.returned (.int .i64 (jd wt hm (mB true false W1 T1 tag true n1) hn (mB true false W2 T2 tag false n2) hs since hu unl true tm))/\Below w.heap.size w w':=by
 have hA:=(Below.refl w.heap.size w).alloc (Nat.le_refl _);go_enter Tryz.func116,Tryz.ntmps116;go_wp2_with fail;refine (py _ n1 W1 T1 _ _ _ (h1.below (hA _))).mono ?_;rintro e w1 ⟨rfl,rfl⟩;go_wp2_with fail;refine (py _ n2 W2 T2 _ _ _ (h2.below (hA _))).mono ?_;rintro e w1 ⟨rfl,rfl⟩;generalize e1:hits W1 T1 tag true n1=m1;generalize e2:hits W2 T2 tag false n2=m2;have E1:Hid (mB true false W1 T1 tag true n1=m1):=by simp[Hid,mB,e1]
 have E2:Hid (mB true false W2 T2 tag false n2=m2):=by simp[Hid,mB,e2]
 clear e1 e2 h1 h2;go_wp2;all_goals
  go_ret;refine⟨cu ?_,hA _⟩;rw[E1.out,E2.out];clear hA E1 E2;first|(simp[jd, *];done)|(simp_all [jd];done)|(simp_all [jd];omega)
end Go.Proofs.YtmehkneofinmiaaGreatDoor.Jd
namespace Go.Proofs.YtmehkneofinmiaaGreatDoor.Jd
open Go.RowKit
theorem AG (wt hm am hn an hs hu:Bool)(since unl tm:Int)(tag:ByteArray)(lm ln:Value)(n1 n2:Nat)(W1 W2:Nat->Bool)(T1 T2:Nat->ByteArray)(w:World) :
 Calls Tryz.prog 116 #[.agg #[.bool wt,.bool hm,.bool am,lm,.bool hn,.bool an,ln,.bool hs,.int .i64 since,.bool hu,.int .i64 unl,.bool false,.string tag,.int .i64 tm]] w
  λ e w'=>e=.returned (.int .i64 (jd wt hm (mB false am W1 T1 tag true n1) hn (mB false an W2 T2 tag false n2) hs since hu unl false tm))/\Below w.heap.size w w':=by
 have hA:=(Below.refl w.heap.size w).alloc (Nat.le_refl _);go_enter Tryz.func116,Tryz.ntmps116;have E1:Hid (mB false am W1 T1 tag true n1=false):=by simp[Hid,mB]
 have E2:Hid (mB false an W2 T2 tag false n2=false):=by simp[Hid,mB]
 go_wp2;all_goals
  go_ret;refine⟨cu ?_,hA _⟩;rw[E1.out,E2.out];clear hA E1 E2;first|(simp[jd, *];done)|(simp_all [jd];done)|(simp_all [jd];omega)
theorem rI (wt hm hn hs hu:Bool)(since unl tm:Int)(tag:ByteArray)(lm ln:Value)(n1 n2:Nat)(W1 W2:Nat->Bool)(T1 T2:Nat->ByteArray)(w:World) :
 Calls Tryz.prog 116 #[.agg #[.bool wt,.bool hm,.bool true,lm,.bool hn,.bool true,ln,.bool hs,.int .i64 since,.bool hu,.int .i64 unl,.bool true,.string tag,.int .i64 tm]] w
  λ e w'=>e=.returned (.int .i64 (jd wt hm (mB true true W1 T1 tag true n1) hn (mB true true W2 T2 tag false n2) hs since hu unl true tm))/\Below w.heap.size w w':=by
 have hA:=(Below.refl w.heap.size w).alloc (Nat.le_refl _);go_enter Tryz.func116,Tryz.ntmps116;have E1:Hid (mB true true W1 T1 tag true n1=true):=by simp[Hid,mB]
 have E2:Hid (mB true true W2 T2 tag false n2=true):=by simp[Hid,mB]
 go_wp2;all_goals
  go_ret;refine⟨cu ?_,hA _⟩;rw[E1.out,E2.out];clear hA E1 E2;first|(simp[jd, *];done)|(simp_all [jd];done)|(simp_all [jd];omega)
end Go.Proofs.YtmehkneofinmiaaGreatDoor.Jd

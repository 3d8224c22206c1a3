/-
 Texts of this proof, part 26.
-/
import Derived.Test.YtmehkneofinmiaaGreatDoorP25
set_option maxHeartbeats 1000000
namespace Go.Proofs.YtmehkneofinmiaaGreatDoor
open Go.RowKit
structure Found (w:World)(M:Mem)(n:Nat)(σ:St)(key:List UInt8)(p:Nat)(vs:Value):Prop where
 ent:EntAt w p (findE σ.ents key) vs
 at':(p∈M.ps (hashK key%n)/\M.en p=findE σ.ents key/\M.vs p=vs/\(findE σ.ents key).last≠0)\/((∀ j,j<n->p ∉ M.ps j)/\vs=.slice none 0 0/\(findE σ.ents key).last=0)
theorem Found.below {w x:World}{M:Mem}{n:Nat}{σ:St}{key:List UInt8}{p:Nat}{vs:Value}(h:Found w M n σ key p vs)(hb:Below w.heap.size w x):Found x M n σ key p vs:=⟨h.ent.below hb,h.at'⟩
theorem StoreAt.found {w:World}{s n:Nat}{rd:Int}{lk:Nat->Int}{σ:St}{M:Mem}{key:List UInt8}{p:Nat}{vs:Value}(h:StoreAt w s n rd lk σ M)(hf:Found w M n σ key p vs) :
 (∀ v∈(findE σ.ents key).vers,v.num<=(findE σ.ents key).last)/\((findE σ.ents key).vers.Pairwise fun a b=>a.num<b.num)/\(∀ v∈(findE σ.ents key).vers,v.time<=253402300799)/\(∀ v∈(findE σ.ents key).vers,v.body.length<=400)/\(findE σ.ents key).vers.length<=20/\(findE σ.ents key).last<=σ.log.length:=by
 rcases hf.at' with ⟨_,_,_,hl⟩|⟨_,_,hl⟩
 ·have ho:=h.ok _ (findE_mem hl)
  exact⟨ho.num,ho.rise,ho.time,ho.body,ho.len,h.lastB _ (findE_mem hl)⟩
 ·have:=(findE_none (fun E hE=>(h.ok E hE).last) hl).2
  rw[this]
  simp
structure Chd (w w':World)(s n:Nat)(rd:Int)(lk:Nat->Int)(σ':St)(M M':Mem)(p:Nat):Prop where
 st:StoreAt w' s n rd lk σ' M'
 off:Off (fun k=>M.own s n k\/k=p) w w'
 own:∀ k,M'.own s n k->M.own s n k\/w.heap.size<=k\/k=p
 g:M'.g=M.g
def CRm (w w':World)(s n:Nat)(rd:Int)(σ:St)(M:Mem)(key:List UInt8)(p:Nat)(vs:Value)(num i:Nat)(body:List UInt8):Prop :=
 ∃ jr' vs',Jrn w' s ((storeCells rd M.g n M.cap σ.time σ.ents.length M.jr).setIfInBounds 11 jr') M.jr jr' (σ.log++recF 3 σ.time key num body) w.heap.size/\EntAt w' p ⟨(findE σ.ents key).key,(findE σ.ents key).last,(findE σ.ents key).vers.eraseIdx i⟩ vs'/\vs'.ownBlock=vs.ownBlock/\Off (fun k=>k=s\/M.jr.ownBlock=some k\/k=p\/vs.ownBlock=some k) w w'
def CKn (w w':World)(s n:Nat)(rd:Int)(σ:St)(M:Mem)(key:List UInt8)(p:Nat)(vs:Value)(k num:Nat)(body:List UInt8):Prop :=
 ∃ jr' g2 cap2,Jrn w' s ((storeCells rd M.g n M.cap σ.time σ.ents.length M.jr).setIfInBounds 11 jr') M.jr jr' (σ.log++recF k σ.time key num body) w.heap.size/\EntAt w' p ⟨(findE σ.ents key).key,num,(findE σ.ents key).vers++[⟨num,σ.time,k==2,body⟩]⟩ (.slice (some ⟨g2,0,none⟩) ((findE σ.ents key).vers.length+1) cap2)/\(vs.ownBlock=some g2\/w.heap.size<=g2)/\Off (fun k=>k=s\/M.jr.ownBlock=some k\/k=p\/vs.ownBlock=some k) w w'
def CNw (w w':World)(s n:Nat)(rd:Int)(σ:St)(M:Mem)(key:List UInt8)(p:Nat)(vs:Value)(gs:Array Value)(i k num:Nat)(body:List UInt8):Prop :=
 ∃ jr' g1 cap1 g2 cap2,Jrn w' s (((storeCells rd M.g n M.cap σ.time σ.ents.length M.jr).setIfInBounds 10 (.int .i64 ((σ.ents.length:Int)+1))).setIfInBounds 11 jr') M.jr jr' (σ.log++recF k σ.time key num body) w.heap.size /\
  w'.heap[M.g]?=some (.cells (gs.setIfInBounds (hashK key%n*3+2) (.slice (some ⟨g1,0,none⟩) ((M.ps (hashK key%n)).length+1) cap1)) 164 (0,0)) /\
  w'.ownsRow 0 170 1 (.slice (some ⟨g1,0,none⟩) ((M.ps (hashK key%n)).length+1) cap1) ((M.ps (hashK key%n)).length+1) (ptrs ((M.ps (hashK key%n)).take i++p::(M.ps (hashK key%n)).drop i))/\((M.es (hashK key%n)).ownBlock=some g1\/w.heap.size<=g1) /\
  EntAt w' p ⟨(findE σ.ents key).key,num,(findE σ.ents key).vers++[⟨num,σ.time,k==2,body⟩]⟩ (.slice (some ⟨g2,0,none⟩) ((findE σ.ents key).vers.length+1) cap2)/\(vs.ownBlock=some g2\/w.heap.size<=g2) /\
  Off (fun k=>k=s\/M.jr.ownBlock=some k\/k=M.g\/k=p\/(M.es (hashK key%n)).ownBlock=some k\/vs.ownBlock=some k) w w'
theorem chg_core {s n:Nat}{rd:Int}{lk:Nat->Int}{σ:St}{M:Mem}(C:(Ending->World->Prop)->Prop)(hC:∀ P Q:Ending->World->Prop,C P->(∀ e w',P e w'->Q e w')->C Q)(N:World->Prop)(key:List UInt8)(p:Nat)(vs:Value)(k num:Nat)(body:List UInt8)(w:World)(h:StoreAt w s n rd lk σ M)(hf:Found w M n σ key p vs)
 (hk:k=1\/k=2\/k=3)(hn:k≠3->num=(findE σ.ents key).last+1)(hkey:keyOK key=true)(hb:body.length<=400)
 (H1:(findE σ.ents key).vers.length<=20->obstF (findE σ.ents key) k num≠0->C fun e w'=>e=.returned (.tuple #[.int .i64 (obstF (findE σ.ents key) k num:Nat),.bool false])/\N w')
 (H2:(findE σ.ents key).vers.length<=20->obstF (findE σ.ents key) k num=0->(findE σ.ents key).last=0->σ.ents.length=60->C fun e w'=>e=.returned (.tuple #[.int .i64 507,.bool false])/\N w')
 (H3:(findE σ.ents key).vers.length<=20->∀ i,k=3->vidx (findE σ.ents key).vers num=some i->0<(findE σ.ents key).last->C fun e w'=>e=.returned (.tuple #[.int .i64 204,.bool true])/\CRm w w' s n rd σ M key p vs num i body)
 (H4:(findE σ.ents key).vers.length<=20->obstF (findE σ.ents key) k num=0->k≠3->0<(findE σ.ents key).last->C fun e w'=>e=.returned (.tuple #[.int .i64 (succF (findE σ.ents key) k:Nat),.bool true])/\CKn w w' s n rd σ M key p vs k num body)
 (H5:(findE σ.ents key).vers.length<=20->obstF (findE σ.ents key) k num=0->k≠3->(findE σ.ents key).last=0->σ.ents.length<60->vs.ownBlock=none->∀ cs j,w.heap[M.g]?=some (.cells cs 164 (0,0))->cs[hashK key%n*3+2]?=some (M.es (hashK key%n))->Rising (M.keys (hashK key%n))->(M.ps (hashK key%n)).length<1000000->IsPos (M.keys (hashK key%n)) (findE σ.ents key).key j ->
   C fun e w'=>e=.returned (.tuple #[.int .i64 (succF (findE σ.ents key) k:Nat),.bool true])/\CNw w w' s n rd σ M key p vs cs j k num body) :
 C fun e w' =>
  match (chgF σ key k num body).2 with
  | none=>e=.returned (.tuple #[.int .i64 ((chgF σ key k num body).1:Nat),.bool false])/\N w'
  | some σ'=>e=.returned (.tuple #[.int .i64 ((chgF σ key k num body).1:Nat),.bool true])/\∃ M',Chd w w' s n rd lk σ' M M' p:=by
 have hi:hashK key%n<n:=Nat.mod_lt _ h.n1
 obtain⟨f1,f2,f3,f4,f5,f6⟩:=h.found hf
 have hkl:key.length<=40:=by
  unfold keyOK at hkey
  simp at hkey
  exact hkey.2.1
 have hekey:=findE_key σ.ents key
 obtain⟨cs,hc,hr⟩:=h.row
 by_cases ho:obstF (findE σ.ents key) k num=0
 ·by_cases hfull:(findE σ.ents key).last=0/\60<=σ.ents.length
  ·-- no room for one key more
   have e0:chgF σ key k num body=(507,none):=by simp[chgF,ho,hfull]
   rw[e0]
   have h60:σ.ents.length=60:=Nat.le_antisymm h.many hfull.2
   exact hC _ _ (H2 f5 ho hfull.1 h60) fun e w' hw=>hw
  ·have e0:chgF σ key k num body=(succF (findE σ.ents key) k,some ⟨σ.time,putE σ.ents (applyF (findE σ.ents key) k σ.time num body),σ.log++recF k σ.time key num body⟩):=by simp[chgF,ho,hfull]
   rw[e0]
   have hlog1:σ.log.length<=(σ.log++recF k σ.time key num body).length:=by simp
   have hlog2:(applyF (findE σ.ents key) k σ.time num body).last<=(σ.log++recF k σ.time key num body).length:=by
    have:=applyF_last (E:=findE σ.ents key) (k:=k) (t:=σ.time) (n:=num) (body:=body) hn
    rw[List.length_append,recF_len]
    omega
   have hok:EntOK (applyF (findE σ.ents key) k σ.time num body):=by
    refine applyF_ok (by rw[hekey];exact hkey) f1 f2 f3 f4 f5 ho (fun h3=>?_) hn h.time hb
    obtain⟨i,hv⟩:=(obst_zero ho).1 h3
    obtain⟨v,hvm,_⟩:=vidx_get hv
    rcases hf.at' with ⟨_,_,_,hl⟩|⟨_,_,hl⟩
    ·omega
    ·rw[(findE_none (fun E hE=>(h.ok E hE).last) hl).2] at hvm
     simp at hvm
   have htm:=h.time
   rcases hf.at' with ⟨hp,hen,hvs,hl⟩|⟨hp,hvs,hl⟩
   ·-- known
    have hkE:(applyF (findE σ.ents key) k σ.time num body).key=(M.en p).key:=by rw[applyF_key,hen]
    have hoff:∀ {w':World},Off (fun k=>k=s\/M.jr.ownBlock=some k\/k=p\/vs.ownBlock=some k) w w'->Off (fun k=>M.own s n k\/k=p) w w':=fun ho=>ho.mono (by
     rintro b (e|e|e|e)
     ·exact Or.inl (Or.inl e)
     ·exact Or.inl (Or.inr (Or.inr (Or.inr (Or.inr (Or.inr e)))))
     ·exact Or.inr e
     ·exact Or.inl (Or.inr (Or.inr (Or.inr (Or.inr (Or.inl ⟨_,p,hi,hp,by rw[hvs];exact e⟩))))))
    have hown:∀ {vs' jr':Value} {E':Ent},(∀ b,vs'.ownBlock=some b->(M.vs p).ownBlock=some b\/w.heap.size<=b)->(jr'.ownBlock=M.jr.ownBlock\/∃ g,jr'.ownBlock=some g/\w.heap.size<=g) ->
     ∀ b,Mem.own { M with en:=upd M.en p E',vs:=upd M.vs p vs',jr:=jr' } s n b->M.own s n b\/w.heap.size<=b\/b=p:=by
     intro vs' jr' E' hv hj b
     rintro (e|e|e|e|⟨i,q,hi',hq,e⟩|e)
     ·exact Or.inl (Or.inl e)
     ·exact Or.inl (Or.inr (Or.inl e))
     ·exact Or.inl (Or.inr (Or.inr (Or.inl e)))
     ·exact Or.inl (Or.inr (Or.inr (Or.inr (Or.inl e))))
     ·change (upd M.vs p vs' q).ownBlock=some b at e
      by_cases eq:q=p
      ·subst eq
       rw[upd_same] at e
       rcases hv b e with h1|h1
       ·exact Or.inl (Or.inr (Or.inr (Or.inr (Or.inr (Or.inl ⟨i,q,hi',hq,h1⟩)))))
       ·exact Or.inr (Or.inl h1)
      ·rw[upd_other eq] at e
       exact Or.inl (Or.inr (Or.inr (Or.inr (Or.inr (Or.inl ⟨i,q,hi',hq,e⟩)))))
     ·change jr'.ownBlock=some b at e
      rcases hj with h1|⟨g,h1,h2⟩
      ·exact Or.inl (Or.inr (Or.inr (Or.inr (Or.inr (Or.inr (h1 ▸ e))))))
      ·rw[h1] at e
       injection e with e
       exact Or.inr (Or.inl (e ▸ h2))
    by_cases hk3:k=3
    ·subst hk3
     obtain⟨i,hv⟩:=(obst_zero ho).1 rfl
     refine hC _ _ (H3 f5 i rfl hv (by omega)) ?_
     rintro e w' ⟨rfl,jr',vs',hJ,hE,hvo,hof⟩
     have hap:applyF (findE σ.ents key) 3 σ.time num body=⟨(findE σ.ents key).key,(findE σ.ents key).last,(findE σ.ents key).vers.eraseIdx i⟩:=by simp[applyF,hv]
     have hv':∀ b,vs'.ownBlock=some b->(M.vs p).ownBlock=some b\/w.heap.size<=b:=fun b hb=>Or.inl (by rw[hvs,<- hvo];exact hb)
     refine⟨by simp[succF],_,h.chg hi hp hkE hok hlog2 hlog1 (by rw[hap];exact hE) hv' hJ (by rw[hvs];exact hof),hoff hof,hown hv' hJ.at',rfl⟩
    ·refine hC _ _ (H4 f5 ho hk3 (by omega)) ?_
     rintro e w' ⟨rfl,jr',g2,cap2,hJ,hE,hvo,hof⟩
     have hap:applyF (findE σ.ents key) k σ.time num body=⟨(findE σ.ents key).key,num,(findE σ.ents key).vers++[⟨num,σ.time,k==2,body⟩]⟩:=by simp[applyF,hk3]
     have hv':∀ b,(Value.slice (some ⟨g2,0,none⟩) ((findE σ.ents key).vers.length+1) cap2).ownBlock=some b->(M.vs p).ownBlock=some b\/w.heap.size<=b:=fun b hb=>by
      injection hb with hb
      simp only at hb
      rw[hvs,<- hb]
      exact hvo
     refine⟨rfl,_,h.chg hi hp hkE hok hlog2 hlog1 (by rw[hap];exact hE) hv' hJ (by rw[hvs];exact hof),hoff hof,hown hv' hJ.at',rfl⟩
   ·-- it becomes known
    have hk3:k≠3:=by
     intro h3
     obtain⟨i,hv⟩:=(obst_zero ho).1 h3
     obtain⟨v,hvm,_⟩:=vidx_get hv
     rw[(findE_none (fun E hE=>(h.ok E hE).last) hl).2] at hvm
     simp at hvm
    have hlt60:σ.ents.length<60:=by
     have:=h.many
     rcases Nat.lt_or_ge σ.ents.length 60 with h1|h1
     ·exact h1
     ·exact absurd ⟨hl,h1⟩ hfull
    obtain⟨j,hpos,hnk⟩:=h.look_no key hl
    have hpos':IsPos (M.keys (hashK key%n)) (findE σ.ents key).key j:=by rw[hekey];exact hpos
    have hpsl:(M.ps (hashK key%n)).length<1000000:=by
     have h1:((M.ps (hashK key%n)).map M.en).length<=σ.ents.length:=by rw[h.lst _ hi];exact List.length_filter_le _ _
     rw[List.length_map] at h1
     omega
    have hri:Rising (M.keys (hashK key%n)):=by rw[h.keys_eq hi];exact (h.rise.filter _).rising
    have hvn:vs.ownBlock=none:=by rw[hvs];rfl
    refine hC _ _ (H5 f5 ho hk3 hl hlt60 hvn cs j hc (hr _ hi).2 hri hpsl hpos') ?_
    rintro e w' ⟨rfl,jr',g1,cap1,g2,cap2,hJ,hg,hrow,hg1,hE,hg2,hof⟩
    have hap:applyF (findE σ.ents key) k σ.time num body=⟨(findE σ.ents key).key,num,(findE σ.ents key).vers++[⟨num,σ.time,k==2,body⟩]⟩:=by simp[applyF,hk3]
    have hak:(applyF (findE σ.ents key) k σ.time num body).key=key:=by rw[applyF_key,hekey]
    have hof':Off (fun k=>k=s\/M.jr.ownBlock=some k\/k=M.g\/k=p\/(M.es (hashK key%n)).ownBlock=some k) w w':=hof.mono (by
     rintro b (e|e|e|e|e|e)
     ·exact Or.inl e
     ·exact Or.inr (Or.inl e)
     ·exact Or.inr (Or.inr (Or.inl e))
     ·exact Or.inr (Or.inr (Or.inr (Or.inl e)))
     ·exact Or.inr (Or.inr (Or.inr (Or.inr e)))
     ·rw[hvn] at e;cases e)
    have hv2:∀ b,(Value.slice (some ⟨g2,0,none⟩) ((findE σ.ents key).vers.length+1) cap2).ownBlock=some b->w.heap.size<=b:=fun b hb=>by
     injection hb with hb
     simp only at hb
     rw[<- hb]
     rcases hg2 with h1|h1
     ·rw[hvn] at h1;cases h1
     ·exact h1
    have he2:∀ b,(Value.slice (some ⟨g1,0,none⟩) ((M.ps (hashK key%n)).length+1) cap1).ownBlock=some b->(M.es (hashK key%n)).ownBlock=some b\/w.heap.size<=b:=fun b hb=>by
     injection hb with hb
     simp only at hb
     rw[<- hb]
     exact hg1
    refine⟨rfl,_,h.add (i:=hashK key%n) (p:=p) (j:=j) (by rw[hak]) hp hf.ent.blk (by rw[hak];exact (findE_none (fun E hE=>(h.ok E hE).last) hl).1) (by rw[hak];exact hpos) hok hlog2 hlog1 hlt60 hc hr (by rw[hap];exact hE) hv2 hJ hg hrow he2 hof',?_,?_,rfl⟩
    ·refine hof'.mono ?_
     rintro b (e|e|e|e|e)
     ·exact Or.inl (Or.inl e)
     ·exact Or.inl (Or.inr (Or.inr (Or.inr (Or.inr (Or.inr e)))))
     ·exact Or.inl (Or.inr (Or.inl e))
     ·exact Or.inr e
     ·exact Or.inl (Or.inr (Or.inr (Or.inl ⟨_,hi,e⟩)))
    ·intro b
     rintro (e|e|⟨i,hi',e⟩|⟨i,hi',e⟩|⟨i,q,hi',hq,e⟩|e)
     ·exact Or.inl (Or.inl e)
     ·exact Or.inl (Or.inr (Or.inl e))
     ·change (upd M.es (hashK key%n) _ i).ownBlock=some b at e
      by_cases ei:i=hashK key%n
      ·subst ei
       rw[upd_same] at e
       rcases he2 b e with h1|h1
       ·exact Or.inl (Or.inr (Or.inr (Or.inl ⟨_,hi',h1⟩)))
       ·exact Or.inr (Or.inl h1)
      ·rw[upd_other ei] at e
       exact Or.inl (Or.inr (Or.inr (Or.inl ⟨i,hi',e⟩)))
     ·change b∈upd M.ps (hashK key%n) _ i at e
      by_cases ei:i=hashK key%n
      ·subst ei
       rw[upd_same] at e
       rcases mem_put e with h1|h1
       ·exact Or.inr (Or.inr h1)
       ·exact Or.inl (Or.inr (Or.inr (Or.inr (Or.inl ⟨_,hi',h1⟩))))
      ·rw[upd_other ei] at e
       exact Or.inl (Or.inr (Or.inr (Or.inr (Or.inl ⟨i,hi',e⟩))))
     ·change (upd M.vs p _ q).ownBlock=some b at e
      by_cases eq:q=p
      ·subst eq
       rw[upd_same] at e
       exact Or.inr (Or.inl (hv2 b e))
      ·rw[upd_other eq] at e
       change q∈upd M.ps (hashK key%n) _ i at hq
       have hq':q∈M.ps i:=by
        by_cases ei:i=hashK key%n
        ·subst ei
         rw[upd_same] at hq
         exact (mem_put hq).resolve_left eq
        ·rw[upd_other ei] at hq
         exact hq
       exact Or.inl (Or.inr (Or.inr (Or.inr (Or.inr (Or.inl ⟨i,q,hi',hq',e⟩)))))
     ·change jr'.ownBlock=some b at e
      rcases hJ.at' with h1|⟨g,h1,h2⟩
      ·exact Or.inl (Or.inr (Or.inr (Or.inr (Or.inr (Or.inr (h1 ▸ e))))))
      ·rw[h1] at e
       injection e with e
       exact Or.inr (Or.inl (e ▸ h2))
 ·have e0:chgF σ key k num body=(obstF (findE σ.ents key) k num,none):=by simp[chgF,ho]
  rw[e0]
  exact hC _ _ (H1 f5 ho) fun e w' hw=>hw
theorem change_store {s n:Nat}{rd:Int}{lk:Nat->Int}{σ:St}{M:Mem}(key:List UInt8)(p:Nat)(vs:Value)(k t0 num:Nat)(body:List UInt8)(w:World)(h:StoreAt w s n rd lk σ M)(hf:Found w M n σ key p vs)
 (hk:k=1\/k=2\/k=3)(hn:k≠3->num=(findE σ.ents key).last+1)(hnum:num<1000000000000000)(hkey:keyOK key=true)(hb:body.length<=400)(hlog:σ.log.length<140000000000000) :
 Calls Tryz.prog 143 #[.pointer (some ⟨M.g,hashK key%n*3,none⟩),.pointer (some ⟨p,0,none⟩),recA k t0 key num body,bookC s] w fun e w' =>
  match (chgF σ key k num body).2 with
  | none=>e=.returned (.tuple #[.int .i64 ((chgF σ key k num body).1:Nat),.bool false])/\Below w.heap.size w w'
  | some σ'=>e=.returned (.tuple #[.int .i64 ((chgF σ key k num body).1:Nat),.bool true])/\∃ M',Chd w w' s n rd lk σ' M M' p:=by
 have hkl:key.length<=40:=by
  unfold keyOK at hkey
  simp at hkey
  exact hkey.2.1
 have hekey:=findE_key σ.ents key
 have htm:=h.time
 have hll:=(h.found hf).2.2.2.2.2
 refine chg_core (fun P=>Calls Tryz.prog 143 #[.pointer (some ⟨M.g,hashK key%n*3,none⟩),.pointer (some ⟨p,0,none⟩),recA k t0 key num body,bookC s] w P) (fun P Q hP hPQ=>hP.mono hPQ) (fun w'=>Below w.heap.size w w') key p vs k num body w h hf hk hn hkey hb
  (fun f5 ho=>change_no1 M.g _ p s (findE σ.ents key) vs k t0 num key body w hf.ent (by omega) ho)
  (fun f5 ho hl h60=>by
    have hblk:=h.blk
    rw[h60] at hblk
    exact change_no2 M.g _ p s _ _ σ.time (findE σ.ents key) vs k t0 num key body w hf.ent (by omega) ho hl hblk rfl rfl rfl)
  (fun f5 i hk3 hv hl=>by
    subst hk3
    exact change_rm M.g _ p s _ σ.time M.jr σ.log (findE σ.ents key) vs t0 num i key body w hf.ent (by omega) hv (by omega) h.blk rfl rfl rfl h.jrn (by omega) (by omega) (by omega) (by omega) (by omega))
  (fun f5 ho hk3 hl=>change_known M.g _ p s _ σ.time M.jr σ.log (findE σ.ents key) vs k t0 num key body w hf.ent (by omega) ho hk3 (by omega) (by omega) h.blk rfl rfl rfl h.jrn (by omega) (by omega) (by omega) (by omega) (by omega))
  (fun f5 ho hk3 hl h60 hvn cs j hc hr hri hpsl hpos =>
    change_new M.g _ p s cs _ (M.es (hashK key%n)) (M.ps (hashK key%n)) (M.keys (hashK key%n)) j σ.time (σ.ents.length:Int) M.jr σ.log (findE σ.ents key) vs k t0 num key body w hf.ent (by omega) ho hk3 (by omega) hl hc hr (h.kt _ (Nat.mod_lt _ h.n1)) hri hpsl (by rw[hekey];omega) hpos (fun g hg=>by rw[hvn] at hg;cases hg) h.blk rfl rfl rfl (by omega) (by omega) rfl h.jrn (by omega) (by omega) (by omega) (by omega) (by omega))
end Go.Proofs.YtmehkneofinmiaaGreatDoor

namespace Go.Proofs.YtmehkneofinmiaaGreatDoor.Jd
open Go.RowKit
def TagsAt (w:World)(b off:Nat)(n:Nat)(W:Nat->Bool)(T:Nat->ByteArray):Prop :=
 (∀ i,i<n->w.cell? ⟨b,off+i*2,none⟩=some (.bool (W i)))/\∀ i,i<n->w.cell? ⟨b,off+i*2+1,none⟩=some (.string (T i))
def hit (W:Nat->Bool)(T:Nat->ByteArray)(t:ByteArray)(strong:Bool)(i:Nat):Bool:=decide ((T i).toList=t.toList)&&!(strong&&W i)
def hits (W:Nat->Bool)(T:Nat->ByteArray)(t:ByteArray)(strong:Bool):Nat->Bool
 | 0=>false
 | n+1=>hits W T t strong n||hit W T t strong n
theorem hits_of {W:Nat->Bool}{T:Nat->ByteArray}{t:ByteArray}{s:Bool}{k n:Nat}(hk:k<n)(h:hit W T t s k=true):hits W T t s n=true:=by
 induction n with
 | zero=>omega
 | succ n ih =>
   by_cases e:k=n
   ·subst e;simp[hits,h]
   ·simp[hits,ih (by omega)]
theorem hits_no {W:Nat->Bool}{T:Nat->ByteArray}{t:ByteArray}{s:Bool}{k:Nat}(hh:hits W T t s k=false)(h:hit W T t s k=false):hits W T t s (k+1)=false:=by
 simp[hits,hh,h]
theorem ret_bool {a b:Bool}(h:a=b):Ending.returned (.bool a)=.returned (.bool b):=by rw[h]
theorem some_any (b off n cap:Nat)(W:Nat->Bool)(T:Nat->ByteArray)(t:ByteArray)(strong:Bool)(w:World)(hn:n<=maxLen)(ht:TagsAt w b off n W T) :
 Calls Tryz.prog 174 #[.slice (some ⟨b,off,none⟩) n cap,.string t,.bool strong] w fun e w'=>e=.returned (.bool (hits W T t strong n))/\w'=w:=by
 unfold maxLen at hn
 obtain⟨h0,h1⟩:=ht
 go_enter Tryz.func174,Tryz.ntmps174
 go_wp2
 go_loop [7] (fun i=>∃ k:Nat,k<=n/\i=.int .i64 k/\Hid (hits W T t strong k=false)) (fun i=>n-(intOf i).toNat)
 case atStart=>exact⟨0,Nat.zero_le _,rfl,rfl⟩
 case round =>
  obtain⟨k,hk,rfl,hh⟩:=hrel
  by_cases hlt:k<n
  ·have c0:=h0 k hlt
   have c1:=h1 k hlt
   clear h0 h1
   go_wp2
   ·go_ret
    exact⟨ret_bool (hits_of hlt (by simp_all [hit])).symm,rfl⟩
   ·exact⟨⟨k+1,by omega,by omega,hits_no (by have:=hh.out;simp_all) (by simp_all [hit])⟩,by simp[intOf];omega⟩
   ·go_ret
    exact⟨ret_bool (hits_of hlt (by simp_all [hit])).symm,rfl⟩
   ·exact⟨⟨k+1,by omega,by go_num,hits_no hh.out (by simp_all [hit])⟩,by simp[intOf];omega⟩
  ·go_wp2
   go_ret
   exact⟨ret_bool (by rw[show n=k by omega,hh.out]),rfl⟩
theorem some_nil (o:Option Addr)(cap:Nat)(t:ByteArray)(strong:Bool)(w:World) :
 Calls Tryz.prog 174 #[.slice o 0 cap,.string t,.bool strong] w fun e w'=>e=.returned (.bool false)/\w'=w:=by
 go_enter Tryz.func174,Tryz.ntmps174
 go_wp2
 go_loop [7] (fun i=>i=.int .i64 0) (fun _=>0)
 case atStart=>rfl
 case round =>
  subst hrel
  go_wp2
  go_ret
  exact⟨rfl,rfl⟩
end Go.Proofs.YtmehkneofinmiaaGreatDoor.Jd

namespace Go.Proofs.YtmehkneofinmiaaGreatDoor.Jd
open Go.RowKit
theorem bcell {B:Nat}{W w1:World}(hb:Below B W w1):(∀ b o,b<B->w1.cell? ⟨b,o,none⟩=W.cell? ⟨b,o,none⟩)/\(∀ b o,b<B->w1.frozen? ⟨b,o,none⟩=W.frozen? ⟨b,o,none⟩) :=
 ⟨fun b o h=>hb.cell (p:=⟨b,o,none⟩) h,fun b o h=>hb.frozen (p:=⟨b,o,none⟩) h⟩
theorem cell_lt {w:World}{b o:Nat}{v:Value}(h:w.cell? ⟨b,o,none⟩=some v):b<w.heap.size:=by
 by_cases hb:b<w.heap.size
 ·exact hb
 ·simp[World.cell?,Array.getElem?_eq_none (by omega:w.heap.size<=b)] at h
theorem cell_past {w:World}{o:Obj}{n i:Nat}{v:Value}(h:n<w.heap.size)(hc:w.cell? ⟨n,i,none⟩=some v):(w.alloc o).cell? ⟨n,i,none⟩=some v:=by
 rw[World.cell?_alloc_past (hn:=h)];exact hc
theorem matches_any (wt hm am hn an hs hu th:Bool)(since unl tm:Int)(tag:ByteArray)(ln:Value)(b off n cap:Nat)(W:Nat->Bool)(T:Nat->ByteArray)(w:World)(hn0:n<=maxLen)(ht:TagsAt w b off n W T) :
 Calls Tryz.prog 202 #[.agg #[.bool wt,.bool hm,.bool am,.slice (some ⟨b,off,none⟩) n cap,.bool hn,.bool an,ln,.bool hs,.int .i64 since,.bool hu,.int .i64 unl,.bool th,.string tag,.int .i64 tm]] w
  fun e w'=>e=.returned (.bool (th&&(am||hits W T tag true n)))/\Below w.heap.size w w':=by
 unfold maxLen at hn0
 obtain⟨h0,h1⟩:=ht
 cases th
 ·go_enter Tryz.func202,Tryz.ntmps202
  go_wp2
  go_ret
  exact⟨rfl,(Below.refl _ _).alloc (Nat.le_refl _) _⟩
 cases am
 rotate_left
 ·go_enter Tryz.func202,Tryz.ntmps202
  go_wp2
  go_ret
  exact⟨rfl,(Below.refl _ _).alloc (Nat.le_refl _) _⟩
 go_enter Tryz.func202,Tryz.ntmps202
 go_wp2
 go_loopw [15] (fun i wr=>∃ k:Nat,k<=n/\i=.int .i64 k/\Hid (hits W T tag true k=false)/\Below w.heap.size w wr/\wr.cell? ⟨w.heap.size,12,none⟩=some (.string tag)/\w.heap.size<wr.heap.size) (fun i _=>n-(intOf i).toNat)
 case atStart=>exact⟨0,Nat.zero_le _,rfl,rfl,(Below.refl _ _).alloc (Nat.le_refl _) _,by simp,by simp⟩
 case round =>
  obtain⟨k,hk,rfl,hh,hb,hc,hz⟩:=hrel
  by_cases hlt:k<n
  ·have hbb:b<w.heap.size:=cell_lt (h0 k hlt)
   have c0:=(hb.cell (p:=⟨b,off+k*2,none⟩) hbb).trans (h0 k hlt)
   have c1:=(hb.cell (p:=⟨b,off+k*2+1,none⟩) hbb).trans (h1 k hlt)
   clear h0 h1
   go_wp2
   ·exact⟨⟨k+1,by omega,by go_num,hits_no hh.out (by simp_all [hit]),hb.alloc (by omega) _,cell_past hz hc,by simp;omega⟩,by simp[intOf];omega⟩
   ·go_ret
    exact⟨ret_bool (by rw[hits_of hlt (by simp_all [hit])];rfl),hb.alloc (by omega) _⟩
   ·exact⟨⟨k+1,by omega,by go_num,hits_no hh.out (by simp_all [hit]),hb.alloc (by omega) _,cell_past hz hc,by simp;omega⟩,by simp[intOf];omega⟩
  ·go_wp2
   go_ret
   exact⟨ret_bool (by rw[show n=k by omega,hh.out];rfl),hb⟩
theorem matches_nil (o:Option Addr)(cap:Nat)(wt hm am hn an hs hu th:Bool)(since unl tm:Int)(tag:ByteArray)(ln:Value)(w:World) :
 Calls Tryz.prog 202 #[.agg #[.bool wt,.bool hm,.bool am,.slice o 0 cap,.bool hn,.bool an,ln,.bool hs,.int .i64 since,.bool hu,.int .i64 unl,.bool th,.string tag,.int .i64 tm]] w
  fun e w'=>e=.returned (.bool (th&&(am||false)))/\Below w.heap.size w w':=by
 cases th
 ·go_enter Tryz.func202,Tryz.ntmps202
  go_wp2
  go_ret
  exact⟨rfl,(Below.refl _ _).alloc (Nat.le_refl _) _⟩
 cases am
 rotate_left
 ·go_enter Tryz.func202,Tryz.ntmps202
  go_wp2
  go_ret
  exact⟨rfl,(Below.refl _ _).alloc (Nat.le_refl _) _⟩
 go_enter Tryz.func202,Tryz.ntmps202
 go_wp2
 go_loopw [15] (fun i wr=>i=.int .i64 0/\Below w.heap.size w wr) (fun _ _=>0)
 case atStart=>exact⟨rfl,(Below.refl _ _).alloc (Nat.le_refl _) _⟩
 case round =>
  obtain⟨rfl,hb⟩:=hrel
  go_wp2
  go_ret
  exact⟨rfl,hb⟩
theorem excluded_any (wt hm am hn an hs hu th:Bool)(since unl tm:Int)(tag:ByteArray)(lm:Value)(b off n cap:Nat)(W:Nat->Bool)(T:Nat->ByteArray)(w:World)(hn0:n<=maxLen)(ht:TagsAt w b off n W T) :
 Calls Tryz.prog 203 #[.agg #[.bool wt,.bool hm,.bool am,lm,.bool hn,.bool an,.slice (some ⟨b,off,none⟩) n cap,.bool hs,.int .i64 since,.bool hu,.int .i64 unl,.bool th,.string tag,.int .i64 tm]] w
  fun e w'=>e=.returned (.bool (th&&(an||hits W T tag false n)))/\Below w.heap.size w w':=by
 unfold maxLen at hn0
 obtain⟨h0,h1⟩:=ht
 cases th
 ·go_enter Tryz.func203,Tryz.ntmps203
  go_wp2
  go_ret
  exact⟨rfl,(Below.refl _ _).alloc (Nat.le_refl _) _⟩
 cases an
 rotate_left
 ·go_enter Tryz.func203,Tryz.ntmps203
  go_wp2
  go_ret
  exact⟨rfl,(Below.refl _ _).alloc (Nat.le_refl _) _⟩
 go_enter Tryz.func203,Tryz.ntmps203
 go_wp2
 go_loopw [15] (fun i wr=>∃ k:Nat,k<=n/\i=.int .i64 k/\Hid (hits W T tag false k=false)/\Below w.heap.size w wr/\wr.cell? ⟨w.heap.size,12,none⟩=some (.string tag)/\w.heap.size<wr.heap.size) (fun i _=>n-(intOf i).toNat)
 case atStart=>exact⟨0,Nat.zero_le _,rfl,rfl,(Below.refl _ _).alloc (Nat.le_refl _) _,by simp,by simp⟩
 case round =>
  obtain⟨k,hk,rfl,hh,hb,hc,hz⟩:=hrel
  by_cases hlt:k<n
  ·have hbb:b<w.heap.size:=cell_lt (h0 k hlt)
   have c0:=(hb.cell (p:=⟨b,off+k*2,none⟩) hbb).trans (h0 k hlt)
   have c1:=(hb.cell (p:=⟨b,off+k*2+1,none⟩) hbb).trans (h1 k hlt)
   clear h0 h1
   go_wp2
   ·go_ret
    exact⟨ret_bool (by rw[hits_of hlt (by simp_all [hit])];rfl),hb.alloc (by omega) _⟩
   ·exact⟨⟨k+1,by omega,by go_num,hits_no hh.out (by simp_all [hit]),hb.alloc (by omega) _,cell_past hz hc,by simp;omega⟩,by simp[intOf];omega⟩
  ·go_wp2
   go_ret
   exact⟨ret_bool (by rw[show n=k by omega,hh.out];rfl),hb⟩
theorem excluded_nil (o:Option Addr)(cap:Nat)(wt hm am hn an hs hu th:Bool)(since unl tm:Int)(tag:ByteArray)(lm:Value)(w:World) :
 Calls Tryz.prog 203 #[.agg #[.bool wt,.bool hm,.bool am,lm,.bool hn,.bool an,.slice o 0 cap,.bool hs,.int .i64 since,.bool hu,.int .i64 unl,.bool th,.string tag,.int .i64 tm]] w
  fun e w'=>e=.returned (.bool (th&&(an||false)))/\Below w.heap.size w w':=by
 cases th
 ·go_enter Tryz.func203,Tryz.ntmps203
  go_wp2
  go_ret
  exact⟨rfl,(Below.refl _ _).alloc (Nat.le_refl _) _⟩
 cases an
 rotate_left
 ·go_enter Tryz.func203,Tryz.ntmps203
  go_wp2
  go_ret
  exact⟨rfl,(Below.refl _ _).alloc (Nat.le_refl _) _⟩
 go_enter Tryz.func203,Tryz.ntmps203
 go_wp2
 go_loopw [15] (fun i wr=>i=.int .i64 0/\Below w.heap.size w wr) (fun _ _=>0)
 case atStart=>exact⟨rfl,(Below.refl _ _).alloc (Nat.le_refl _) _⟩
 case round =>
  obtain⟨rfl,hb⟩:=hrel
  go_wp2
  go_ret
  exact⟨rfl,hb⟩
def ListAt (w:World)(v:Value)(n:Nat)(W:Nat->Bool)(T:Nat->ByteArray):Prop :=
 n<=maxLen/\((∃ o cap,v=.slice o 0 cap/\n=0)\/∃ b off cap,v=.slice (some ⟨b,off,none⟩) n cap/\TagsAt w b off n W T)
theorem TagsAt.below {w w':World}{b off n:Nat}{W:Nat->Bool}{T:Nat->ByteArray}(h:TagsAt w b off n W T)(hb:Below w.heap.size w w'):TagsAt w' b off n W T :=
 ⟨fun i hi=>(hb.cell (p:=⟨b,off+i*2,none⟩) (cell_lt (h.1 i hi))).trans (h.1 i hi),fun i hi=>(hb.cell (p:=⟨b,off+i*2+1,none⟩) (cell_lt (h.2 i hi))).trans (h.2 i hi)⟩
theorem ListAt.below {w w':World}{v:Value}{n:Nat}{W:Nat->Bool}{T:Nat->ByteArray}(h:ListAt w v n W T)(hb:Below w.heap.size w w'):ListAt w' v n W T:=by
 refine⟨h.1,?_⟩
 rcases h.2 with h0|⟨b,off,cap,e,ht⟩
 ·exact Or.inl h0
 ·exact Or.inr ⟨b,off,cap,e,ht.below hb⟩
def mB (th am:Bool)(W:Nat->Bool)(T:Nat->ByteArray)(tag:ByteArray)(strong:Bool)(n:Nat):Bool:=th&&(am||hits W T tag strong n)
theorem some_l (v:Value)(n:Nat)(W:Nat->Bool)(T:Nat->ByteArray)(t:ByteArray)(strong:Bool)(w:World)(h:ListAt w v n W T) :
 Calls Tryz.prog 174 #[v,.string t,.bool strong] w fun e w'=>e=.returned (.bool (hits W T t strong n))/\w'=w:=by
 obtain⟨hn,⟨o,cap,rfl,rfl⟩|⟨b,off,cap,rfl,ht⟩⟩:=h
 ·exact some_nil o cap t strong w
 ·exact some_any b off n cap W T t strong w hn ht
theorem matches_l (wt hm am hn an hs hu th:Bool)(since unl tm:Int)(tag:ByteArray)(lm ln:Value)(n:Nat)(W:Nat->Bool)(T:Nat->ByteArray)(w:World)(h:ListAt w lm n W T) :
 Calls Tryz.prog 202 #[.agg #[.bool wt,.bool hm,.bool am,lm,.bool hn,.bool an,ln,.bool hs,.int .i64 since,.bool hu,.int .i64 unl,.bool th,.string tag,.int .i64 tm]] w
  fun e w'=>e=.returned (.bool (mB th am W T tag true n))/\Below w.heap.size w w':=by
 obtain⟨hn0,⟨o,cap,rfl,rfl⟩|⟨b,off,cap,rfl,ht⟩⟩:=h
 ·exact matches_nil o cap wt hm am hn an hs hu th since unl tm tag ln w
 ·exact matches_any wt hm am hn an hs hu th since unl tm tag ln b off n cap W T w hn0 ht
theorem excluded_l (wt hm am hn an hs hu th:Bool)(since unl tm:Int)(tag:ByteArray)(lm ln:Value)(n:Nat)(W:Nat->Bool)(T:Nat->ByteArray)(w:World)(h:ListAt w ln n W T) :
 Calls Tryz.prog 203 #[.agg #[.bool wt,.bool hm,.bool am,lm,.bool hn,.bool an,ln,.bool hs,.int .i64 since,.bool hu,.int .i64 unl,.bool th,.string tag,.int .i64 tm]] w
  fun e w'=>e=.returned (.bool (mB th an W T tag false n))/\Below w.heap.size w w':=by
 obtain⟨hn0,⟨o,cap,rfl,rfl⟩|⟨b,off,cap,rfl,ht⟩⟩:=h
 ·exact excluded_nil o cap wt hm am hn an hs hu th since unl tm tag lm w
 ·exact excluded_any wt hm am hn an hs hu th since unl tm tag lm b off n cap W T w hn0 ht
end Go.Proofs.YtmehkneofinmiaaGreatDoor.Jd

namespace Go.Proofs.YtmehkneofinmiaaGreatDoor.Jd
open Go.RowKit
def jd (wt hm m hn x hs:Bool)(since:Int)(hu:Bool)(unl:Int)(th:Bool)(tm:Int):Int :=
 if hm&&!m then 412 else if !hm&&hu&&th&&decide (unl<tm) then 412 else if hn&&x then (if wt then 412 else 304)
 else if !hn&&hs&&!wt&&th&&decide (tm<=since) then 304 else 0
theorem ret_int {k:IntKind}{a b:Int}(h:a=b):Ending.returned (.int k a)=.returned (.int k b):=by rw[h]
theorem judge_noM (wt am hn an hs hu th:Bool)(since unl tm:Int)(tag:ByteArray)(lm ln:Value)(n1 n2:Nat)(W1 W2:Nat->Bool)(T1 T2:Nat->ByteArray)(w:World)(h2:ListAt w ln n2 W2 T2) :
 Calls Tryz.prog 142 #[.agg #[.bool wt,.bool false,.bool am,lm,.bool hn,.bool an,ln,.bool hs,.int .i64 since,.bool hu,.int .i64 unl,.bool th,.string tag,.int .i64 tm]] w
  fun e w'=>e=.returned (.int .i64 (jd wt false (mB th am W1 T1 tag true n1) hn (mB th an W2 T2 tag false n2) hs since hu unl th tm))/\Below w.heap.size w w':=by
 go_enter Tryz.func142,Tryz.ntmps142
 go_wp2_with (first|(go_at_call 203;refine (excluded_l _ _ _ _ _ _ _ _ _ _ _ _ _ _ n2 W2 T2 _ (h2.below ((Below.refl _ _).alloc (Nat.le_refl _) _))).mono ?_;rintro e w' ⟨rfl,hb⟩;obtain⟨hc,hf⟩:=bcell hb))
 all_goals
  go_ret
  refine⟨ret_int ?_,?_⟩
  ·first|(simp[jd, *];done)|(simp[jd, *];omega)
  ·first|exact (Below.refl _ _).alloc (Nat.le_refl _) _|exact ((Below.refl _ _).alloc (Nat.le_refl _) _).trans (hb.mono (by simp))
theorem judge_yesM (wt am hn an hs hu th:Bool)(since unl tm:Int)(tag:ByteArray)(lm ln:Value)(n1 n2:Nat)(W1 W2:Nat->Bool)(T1 T2:Nat->ByteArray)(w:World)(h1:ListAt w lm n1 W1 T1)(h2:ListAt w ln n2 W2 T2) :
 Calls Tryz.prog 142 #[.agg #[.bool wt,.bool true,.bool am,lm,.bool hn,.bool an,ln,.bool hs,.int .i64 since,.bool hu,.int .i64 unl,.bool th,.string tag,.int .i64 tm]] w
  fun e w'=>e=.returned (.int .i64 (jd wt true (mB th am W1 T1 tag true n1) hn (mB th an W2 T2 tag false n2) hs since hu unl th tm))/\Below w.heap.size w w':=by
 go_enter Tryz.func142,Tryz.ntmps142
 go_wp2_with fail
 refine (matches_l _ _ _ _ _ _ _ _ _ _ _ _ _ _ n1 W1 T1 _ (h1.below ((Below.refl _ _).alloc (Nat.le_refl _) _))).mono ?_
 rintro e w1 ⟨rfl,hb1⟩
 obtain⟨hc1,hf1⟩:=bcell hb1
 have hz1:w.heap.size<w1.heap.size:=by have:=hb1.size;simp at this;omega
 have hb1':=((Below.refl _ _).alloc (Nat.le_refl w.heap.size) _).trans (hb1.mono (by simp))
 have h2':=h2.below hb1'
 go_wp2_with (first|(go_at_call 203;refine (excluded_l _ _ _ _ _ _ _ _ _ _ _ _ _ _ n2 W2 T2 _ h2').mono ?_;rintro e w' ⟨rfl,hb⟩;obtain⟨hc,hf⟩:=bcell hb))
 all_goals
  go_ret
  refine⟨ret_int ?_,?_⟩
  ·first|(simp[jd, *];done)|(clear hc1 hf1 hb1 hb1' h2';simp_all [jd];done)|(clear hc1 hf1 hb1 hb1' h2';simp_all [jd];omega)
  ·first|exact hb1'|exact hb1'.trans (hb.mono (by omega))
end Go.Proofs.YtmehkneofinmiaaGreatDoor.Jd

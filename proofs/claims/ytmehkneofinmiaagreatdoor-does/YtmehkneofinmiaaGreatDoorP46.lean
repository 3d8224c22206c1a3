/-
 Texts of this proof, part 46.
-/
import Derived.Test.YtmehkneofinmiaaGreatDoorP45
import Derived.Test.YtmehkneofinmiaaGreatDoorP44
namespace Go.Proofs.YtmehkneofinmiaaGreatDoor
theorem lineF2_ne (v:Ver):lineF2 v≠[]:=by
 unfold lineF2
 simp
theorem oneR_same {σ:St}{s:Rst}(h:Same σ s)(key:List UInt8)(n:Nat):oneR s.l key n=match (findE σ.ents key).vers.find? (fun v=>v.num==n) with|none=>[]|some v=>lineF2 v:=by
 have hn:=h.numbered key n
 unfold oneR
 cases hf:findF key (n:Int) s.l with
 | none =>
   rw[hf] at hn
   rw[<- hn]
   rfl
 | some i =>
   rw[hf] at hn
   obtain⟨it,hit⟩:∃ v,s.l[i]?=some v:=⟨_,List.getElem?_eq_getElem (findF_lt hf)⟩
   simp only[Option.bind_some,hit,Option.map_some] at hn ⊢
   rw[<- hn]
   have hq:=List.find?_some hn.symm
   have hq2:it.num=n:=by simpa [toVer] using hq
   simp only
   unfold lineR lineF2 toVer
   rw[hq2]
theorem filter_next:∀ (l:List Ver) (n:Nat),(l.Pairwise fun a b=>a.num<b.num)->l.filter (fun v=>decide (v.num<=n+1))=l.filter (fun v=>decide (v.num<=n))++(l.find? (fun v=>v.num==n+1)).toList
 | [],_,_=>rfl
 | a::l,n,h=>by
   have ⟨h1,h2⟩:=List.pairwise_cons.1 h
   have far:∀ k,k<=a.num->l.filter (fun v=>decide (v.num<=k))=[]:=fun k hk=>by
    rw[List.filter_eq_nil_iff]
    intro v hv
    have:=h1 v hv
    simp
    omega
   rw[List.filter_cons,List.filter_cons,List.find?_cons]
   by_cases e1:a.num<=n
   ·rw[if_pos (by simp;omega),if_pos (by simpa using e1),show (a.num==n+1)=false by simp;omega,filter_next l n h2]
    rfl
   ·by_cases e2:a.num=n+1
    ·rw[if_pos (by simp;omega),if_neg (by simpa using e1),show (a.num==n+1)=true by simpa using e2,far (n+1) (by omega),far n (by omega)]
     rfl
    ·rw[if_neg (by simp;omega),if_neg (by simpa using e1),show (a.num==n+1)=false by simpa using e2,far (n+1) (by omega),far n (by omega)]
     have:l.find? (fun v=>v.num==n+1)=none:=by
      rw[List.find?_eq_none]
      intro v hv
      have:=h1 v hv
      simp
      omega
     rw[this]
     rfl
theorem histL_same {σ:St}{s:Rst}(h:Same σ s)(key:List UInt8)(hr:(findE σ.ents key).vers.Pairwise fun a b=>a.num<b.num)(hp:∀ v∈(findE σ.ents key).vers,0<v.num):∀ n,histL s.l key n=(((findE σ.ents key).vers.filter fun v=>decide (v.num<=n)).reverse).flatMap lineF2
 | 0=>by
   have:(findE σ.ents key).vers.filter (fun v=>decide (v.num<=0))=[]:=by
    rw[List.filter_eq_nil_iff]
    intro v hv
    have:=hp v hv
    simp
    omega
   rw[this]
   rfl
 | n+1=>by
   rw[histL,oneR_same h,histL_same h key hr hp n,filter_next _ n hr]
   cases (findE σ.ents key).vers.find? (fun v=>v.num==n+1) with
   | none=>simp
   | some v=>simp
theorem hist_same {σ:St}{s:Rst}(h:Same σ s)(key:List UInt8)(hr:(findE σ.ents key).vers.Pairwise fun a b=>a.num<b.num)(hp:∀ v∈(findE σ.ents key).vers,0<v.num)(hl:∀ v∈(findE σ.ents key).vers,v.num<=(findE σ.ents key).last) :
 histF s.l key=if (findE σ.ents key).vers=[] then textF 404 [] [] else textF 200 [] ((findE σ.ents key).vers.reverse.flatMap lineF2):=by
 have e:(findE σ.ents key).vers.filter (fun v=>decide (v.num<=lastF key s.l))=(findE σ.ents key).vers:=by
  rw[List.filter_eq_self]
  intro v hv
  rw[h.last key]
  simpa using hl v hv
 unfold histF
 rw[histL_same h key hr hp,e]
 by_cases h0:(findE σ.ents key).vers=[]
 ·rw[if_pos h0,h0]
  rfl
 ·rw[if_neg h0,if_neg]
  intro hh
  rw[List.flatMap_eq_nil_iff] at hh
  cases hv:(findE σ.ents key).vers with
  | nil=>exact h0 hv
  | cons a l=>exact lineF2_ne a (hh a (by rw[hv];simp))
def atR (l:List Itm)(tg:Nat)(key:List UInt8)(v:Int):Option Nat×Option Nat :=
 if tg=4 then (match findF key v l with
  | none=>none
  | some i=>match l[i]? with
    | none=>none
    | some it=>if it.mark then none else some i,findF key v l)
 else (someF key l,someF key l)
def atV (l:List Itm)(tg:Nat)(key:List UInt8)(v:Int):Option Ver:=((atR l tg key v).1.bind fun i=>l[i]?).map toVer
noncomputable def keyedF (t:Nat)(s:Rst)(m:Nat)(tg:TgR)(k:Cnd)(body:List UInt8):List UInt8×Rst :=
 if condF (m==3||m==4) k (atV s.l tg.tg tg.key tg.v)≠0 then (textF (condF (m==3||m==4) k (atV s.l tg.tg tg.key tg.v)) [] [],s)
 else if m=3 then putsF t s tg.key body (atR s.l tg.tg tg.key tg.v).1.isSome
 else if m=4 then delsF t s (decide (tg.tg=4)) tg.key tg.v.toNat (atR s.l tg.tg tg.key tg.v).1.isSome (atR s.l tg.tg tg.key tg.v).2
 else match atV s.l tg.tg tg.key tg.v with
  | none=>(textF 404 [] [],s)
  | some v=>(textF 200 (verFlds v (stampL v.time)) (if m=2 then [] else v.body),s)
noncomputable def doR (t:Nat)(s:Rst)(l:List UInt8):List UInt8×Rst:=match readR l with
 | .error n=>(textF n [] [],s)
 | .ok (m,tg,k,body)=>if tg.tg=1 then (listF s.l tg.after,s) else if tg.tg=3 then (histF s.l tg.key,s) else keyedF t s m tg k body
theorem atR_lt {l:List Itm}{tg:Nat}{key:List UInt8}{v:Int}{i:Nat}(h:(atR l tg key v).1=some i):∃ it,l[i]?=some it:=by
 unfold atR at h
 split at h
 ·split at h
  ·cases h
  ·split at h
   ·cases h
   ·rename_i it hi
    split at h
    ·cases h
    ·cases h
     exact⟨it,hi⟩
 ·unfold someF at h
  split at h
  ·cases h
  ·split at h
   ·cases h
   ·rename_i it hi
    split at h
    ·cases h
    ·cases h
     exact⟨it,hi⟩
theorem atV_some (l:List Itm)(tg:Nat)(key:List UInt8)(v:Int):(atR l tg key v).1.isSome=(atV l tg key v).isSome:=by
 unfold atV
 cases h:(atR l tg key v).1 with
 | none=>rfl
 | some i =>
   obtain⟨it,hi⟩:=atR_lt h
   simp[hi]
structure Twin (B:Nat)(σ:St)(s:Rst):Prop where
 same:Same σ s
 pos:∀ it∈s.l,0<it.num
 time:∀ it∈s.l,it.time<=253402300799
 body:∀ it∈s.l,it.body.length<=400
 key:∀ it∈s.l,keyOK it.key=true
 num:∀ it∈s.l,it.num<=lastF it.key s.l
 hold:∀ key n,B<=n->0<n->n<=(findE σ.ents key).last->∃ v∈(findE σ.ents key).vers,v.num=n
 len:s.l.length=(σ.ents.map Ent.last).sum
 log:s.J.length<=460*s.l.length+60*s.l.countP (fun it=>it.gone)
theorem live_mem {key:List UInt8}{l:List Itm}{v:Itm}(h:v∈liveI key l):v∈l/\v.key=key/\v.gone=false:=by
 unfold liveI at h
 rw[List.mem_filter] at h
 simp at h
 exact h
theorem Twin.vpos {B:Nat}{σ:St}{s:Rst}(h:Twin B σ s)(key:List UInt8):∀ v∈(findE σ.ents key).vers,0<v.num:=by
 intro v hv
 rw[<- h.same.vers key,List.mem_map] at hv
 obtain⟨it,hit,rfl⟩:=hv
 exact h.pos it (live_mem hit).1
theorem Twin.vlast {B:Nat}{σ:St}{s:Rst}(h:Twin B σ s)(key:List UInt8):∀ v∈(findE σ.ents key).vers,v.num<=(findE σ.ents key).last:=by
 intro v hv
 rw[<- h.same.vers key,List.mem_map] at hv
 obtain⟨it,hit,rfl⟩:=hv
 obtain⟨h1,h2,_⟩:=live_mem hit
 have:=h.num it h1
 rw[h2,h.same.last key] at this
 exact this
theorem Twin.vrise {B:Nat}{σ:St}{s:Rst}(h:Twin B σ s)(key:List UInt8):(findE σ.ents key).vers.Pairwise fun a b=>a.num<b.num:=by
 rw[<- h.same.vers key,List.pairwise_map]
 exact h.same.rise key
theorem aim_same {B:Nat}{σ:St}{s:Rst}(h:Twin B σ s)(t:Tgt)(hk:t.kind=1\/t.kind=2):atV s.l (cvT t).tg (cvT t).key (cvT t).v=aimF (findE σ.ents t.key) t:=by
 rcases hk with hk|hk
 ·have e:cvT t=⟨2,t.key,[],0⟩:=by unfold cvT;rw[if_neg (by omega),if_pos hk]
  have hc:=h.same.current t.key (fun v hv=>h.pos v (live_mem hv).1)
  rw[e]
  unfold atV atR aimF
  rw[if_neg (show ¬ (2:Nat)=4 by decide),if_neg (by omega)]
  exact hc
 ·have e:cvT t=⟨4,t.key,[],t.num⟩:=by unfold cvT;rw[if_neg (by omega),if_neg (by omega),if_pos hk]
  have hn:=h.same.numbered t.key t.num
  rw[e]
  unfold atV atR aimF numOf
  rw[if_pos rfl,if_pos hk,<- hn]
  simp only
  cases hf:findF t.key (t.num:Int) s.l with
  | none=>rfl
  | some i =>
    obtain⟨it,hit⟩:∃ v,s.l[i]?=some v:=⟨_,List.getElem?_eq_getElem (findF_lt hf)⟩
    simp only[Option.bind_some,hit,Option.map_some]
    cases hm:it.mark with
    | true=>simp[toVer,hm]
    | false=>simp[toVer,hm,hit]
theorem room_same {B:Nat}{σ:St}{s:Rst}(h:Twin B σ s)(key:List UInt8):roomF key s.l=((decide (0<(findE σ.ents key).last)||decide (σ.ents.length<60))&&decide ((findE σ.ents key).vers.length<20)):=by
 unfold roomF
 rw[h.same.last key,h.same.known,h.same.many key]
theorem whole_same {B:Nat}{σ:St}{s:Rst}(h:Twin B σ s)(key:List UInt8)(n:Nat):(findF key (n:Int) s.l).isSome=(vidx (findE σ.ents key).vers n).isSome:=by
 have hn:=h.same.numbered key n
 rw[<- vidx_find] at hn
 cases hf:findF key (n:Int) s.l with
 | none =>
   rw[hf] at hn
   cases hv:vidx (findE σ.ents key).vers n with
   | none=>rfl
   | some j =>
     rw[hv] at hn
     have hlt:j<(findE σ.ents key).vers.length:=by
      unfold vidx at hv
      exact (List.findIdx?_eq_some_iff_getElem.1 hv).1
     simp only[List.getElem?_eq_getElem hlt] at hn
     cases hn
 | some i =>
   obtain⟨it,hit⟩:∃ v,s.l[i]?=some v:=⟨_,List.getElem?_eq_getElem (findF_lt hf)⟩
   rw[hf] at hn
   simp only[Option.bind_some,hit,Option.map_some] at hn
   cases hv:vidx (findE σ.ents key).vers n with
   | none=>rw[hv] at hn;cases hn
   | some j=>rfl
end Go.Proofs.YtmehkneofinmiaaGreatDoor
namespace Go.Proofs.YtmehkneofinmiaaGreatDoor
open Go.RowKit
theorem run_load_part {P:Program}(w:World)(g i:Nat)(t ty:TypeId)(rc cs:Array Value)(fr:Nat×Nat)(d:TypeDesc)(hg:w.heap[g]?=some (.cells rc t fr))(hc:∀ j v,cs[j]?=some v->rc[i+j]?=some v)
 (hu:P.underlying ty=some d)(hd:(match d with|.struct _|.array _ _=>true|_=>false)=true)(hi:(P.info? ty).map (·.size)=some cs.size) :
 (loadVar ty ⟨g,i,none⟩).run P w=.ok (.agg cs) w:=by
 have hl:(loadCells ⟨g,i,none⟩ cs.toList.length).run P w=.ok cs.toList.toArray w :=
  run_loadCells_list (P:=P) w ⟨g,i,none⟩ cs.toList (fun j v hv=>by
   have hadd:(⟨g,i,none⟩:Addr).add j=⟨g,i+j,none⟩:=by unfold Addr.add;split<;>simp_all
   rw[hadd,cell_of_row w g (i+j) rc t fr hg]
   exact hc j v (by simpa using hv))
 cases hq:P.info? ty with
 | none=>simp[hq] at hi
 | some inf =>
   have hs:inf.size=cs.size:=by simpa [hq] using hi
   have hagg:(isAgg ty).run P w=.ok true w:=by
    unfold isAgg
    rw[Sem.run_bind,run_underlying hu w]
    cases d<;>simp_all
   simp only[Array.length_toList,Array.toArray_toList] at hl
   simp[loadVar,Sem.run_bind,hagg,sizeOf,typeInfo,hq,hs,hl]
theorem wpList_load_part {P:Program}{ops:Array Oper}{rest:List Oper}{o:Oper}{a:Act}{w:World}{Q:Exit->Act->World->Prop}(hgd:o.guard=none)(ty:TypeId)(x:Operand)(ho:o.op=.load ty x)
 (g i:Nat)(hx:a.eval x=.pointer (some ⟨g,i,none⟩))(t:TypeId)(rc cs:Array Value)(fr:Nat×Nat)(d:TypeDesc)(hg:w.heap[g]?=some (.cells rc t fr))(hc:∀ j v,cs[j]?=some v->rc[i+j]?=some v)
 (hu:P.underlying ty=some d)(hd:(match d with|.struct _|.array _ _=>true|_=>false)=true)(hi:(P.info? ty).map (·.size)=some cs.size)
 (h:wpList P ops Q rest (a.put o.dst (.agg cs)) w):wpList P ops Q (o::rest) a w :=
 wpList_plain hgd fun _ hK=>by
  unfold Oper.wp execOp
  simp only[ho,hx,Instr.loadAt,Instr.sureAddr,Sem.run_bind,Sem.run_pure,Result.andThen_ok,run_load_part w g i t ty rc cs fr d hg hc hu hd hi]
  exact hK _ _ h
theorem rstamp_L (n:Nat)(w:World)(hn:n<=253402300799)(hT:Tab w):Calls Tryz.prog 119 #[.int .i64 n] w fun e w'=>e=.returned (.string ⟨(stampL n).toArray⟩)/\Below w.heap.size w w':=by
 refine (ref_stamp_yes n w (by omega) (by omega) hT).mono ?_
 rintro e w' ⟨⟨l,hl,rfl⟩,hb⟩
 have hx:Cal.IsStamp (n:Int) (Classical.epsilon (Cal.IsStamp (n:Int))):=Classical.epsilon_spec ⟨l,hl⟩
 have hs:stampL n=l:=by
  unfold stampL
  rw[hx.uniq hl]
  exact List.take_of_length_le (stamp_len hl)
 rw[hs]
 exact⟨rfl,hb⟩
theorem rjudge_no (wt:Bool)(c:Cst)(k:Cnd)(g:Nat)(w:World)(hR:Rq w g c k) :
 Calls Tryz.prog 116 #[.agg (askA wt c)] w fun e w'=>e=.returned (.int .i64 (condF wt k none:Nat))/\Below w.heap.size w w':=by
 obtain⟨m1,m2,m3,m4⟩:=hR.m.list
 obtain⟨n1,n2,n3,n4⟩:=hR.n.list
 obtain⟨s1,s2⟩:=hR.s.val
 obtain⟨u1,u2⟩:=hR.u.val
 refine (Jd.ref_l wt c.hm c.am c.hn c.an c.hs c.hu false c.si c.ul 0 ⟨#[]⟩ c.lm c.ln _ _ _ _ _ _ w m3 n3).mono ?_
 rintro e w' ⟨rfl,hb⟩
 refine⟨?_,hb⟩
 simp only[condF,jd_nat,Jd.mB,Option.isSome_none,Bool.false_and,timeOf,m1,n1,s1,s2,u1,u2]
 rfl
theorem rjudge_yes (wt:Bool)(c:Cst)(k:Cnd)(g:Nat)(v:Ver)(tg:List UInt8)(w:World)(hR:Rq w g c k)(ht:hexN 16 (fnv v.body)=tg) :
 Calls Tryz.prog 116 #[.agg #[.bool wt,.bool c.hm,.bool c.am,c.lm,.bool c.hn,.bool c.an,c.ln,.bool c.hs,.int .i64 c.si,.bool c.hu,.int .i64 c.ul,.bool true,.string ⟨tg.toArray⟩,.int .i64 (v.time:Nat)]] w fun e w'=>e=.returned (.int .i64 (condF wt k (some v):Nat))/\Below w.heap.size w w':=by
 obtain⟨m1,m2,m3,m4⟩:=hR.m.list
 obtain⟨n1,n2,n3,n4⟩:=hR.n.list
 obtain⟨s1,s2⟩:=hR.s.val
 obtain⟨u1,u2⟩:=hR.u.val
 refine (Jd.ref_l wt c.hm c.am c.hn c.an c.hs c.hu true c.si c.ul v.time ⟨tg.toArray⟩ c.lm c.ln _ _ _ _ _ _ w m3 n3).mono ?_
 rintro e w' ⟨rfl,hb⟩
 refine⟨?_,hb⟩
 rw[<- ht]
 simp only[condF,jd_nat,Jd.mB,Option.isSome_some,Bool.true_and,timeOf,tagOf,hits_all,m1,m2,n1,n2,s1,s2,u1,u2]
structure KeyH (w:World)(p t:Nat)(l:List Itm)(J:List UInt8)(vs:Value)(tg:TgR)(c:Cst)(k:Cnd)(body:List UInt8)(g v:Nat):Prop where
 ref:RefAt w p t l J vs
 tbl:Tbl w
 high:∀ k,(k=p\/vs.ownBlock=some k)->High k
 few:l.length+1<1000000000000
 log:J.length<=900000000000000
 time:t<4611686018427387904
 last:lastF tg.key l<1000000000000
 klen:tg.key.length<=1000
 blen:body.length<=1000
 v0:tg.v=(v:Int)
 v1:v<1000000000000
 its:∀ it∈l,it.num<1000000000000/\it.time<=253402300799/\it.body.length<=400/\it.key.length<=1000
 rq:Rq w g c k
 g1:g<=w.heap.size
theorem KeyH.below {w x:World}{p t:Nat}{l:List Itm}{J:List UInt8}{vs:Value}{tg:TgR}{c:Cst}{k:Cnd}{body:List UInt8}{g v:Nat}(h:KeyH w p t l J vs tg c k body g v)(hb:Below w.heap.size w x):KeyH x p t l J vs tg c k body g v :=
 ⟨h.ref.below hb,h.tbl.below hb,h.high,h.few,h.log,h.time,h.last,h.klen,h.blen,h.v0,h.v1,h.its,h.rq.below h.g1 hb,Nat.le_trans h.g1 hb.size⟩
theorem okRq_cells (m:Nat)(tg:TgR)(c:Cst)(body:List UInt8):(rqCells (okRq m tg c body)).size=21/\(rqCells (okRq m tg c body))[1]?=some (.int .i64 (m:Int))/\(rqCells (okRq m tg c body))[2]?=some (.int .i64 (tg.tg:Int))/\(rqCells (okRq m tg c body))[3]?=some (.string ⟨tg.key.toArray⟩)/\(rqCells (okRq m tg c body))[5]?=some (.int .i64 tg.v)/\∀ j u,(askA (m==3||m==4) c)[j]?=some u->(rqCells (okRq m tg c body))[6+j]?=some u:=by
 refine⟨rfl,rfl,rfl,rfl,rfl,fun j u h=>?_⟩
 by_cases hj:j<14
 ·rw[<- h]
  rcases (by omega:j=0\/j=1\/j=2\/j=3\/j=4\/j=5\/j=6\/j=7\/j=8\/j=9\/j=10\/j=11\/j=12\/j=13) with rfl|rfl|rfl|rfl|rfl|rfl|rfl|rfl|rfl|rfl|rfl|rfl|rfl|rfl<;>rfl
 ·rw[Array.getElem?_eq_none (by show 14<=j;omega)] at h
  cases h
theorem rpost_kept {w x:World}{p t:Nat}{l:List Itm}{J:List UInt8}{vs:Value}{out:List UInt8}{r:List UInt8×Rst}(hr:r=(out,⟨l,J⟩))(h:RefAt w p t l J vs)(hb:Below w.heap.size w x):RPost w p t vs r (.returned (.string ⟨out.toArray⟩)) x:=by
 rw[hr]
 exact⟨rfl,vs,h.below hb,fun g hg=>Or.inl hg,Off.of_below hb⟩
theorem rpost_later {w x y:World}{p t:Nat}{vs:Value}{r:List UInt8×Rst}{e:Ending}(hb:Below w.heap.size w x)(h:RPost x p t vs r e y):RPost w p t vs r e y:=by
 obtain⟨he,vs',h1,h2,h3⟩:=h
 exact⟨he,vs',h1,fun g hg=>(h2 g hg).imp id (fun h=>Nat.le_trans hb.size h),(Off.of_below hb).trans h3⟩
end Go.Proofs.YtmehkneofinmiaaGreatDoor

/-
 Texts of this proof, part 29.
-/
import Derived.Test.YtmehkneofinmiaaGreatDoorP27
import Derived.Test.YtmehkneofinmiaaGreatDoorP28
set_option maxRecDepth 100000
set_option maxHeartbeats 8000000
namespace Go.Proofs.YtmehkneofinmiaaGreatDoor
open Go.RowKit Go.MuLone
structure Tbl (w:World):Prop where
 z:Tz w
 b:Tab w
theorem Tbl.below {w x:World}(h:Tbl w)(hb:Below w.heap.size w x):Tbl x:=⟨h.z.below hb,h.b.below hb⟩
theorem var?_off {P:Program}{w w':World}{S:Nat->Prop}(ho:Off S w w'){n:String}{g:Nat}(hg:P.globalNamed n=some g)(hlt:g<w.heap.size)(hS:¬ S g){cs:Array Value}(h:w.var? P n=some cs):w'.var? P n=some cs:=by
 unfold World.var? at h ⊢
 rw[hg] at h ⊢
 simp only[Option.bind_some] at h ⊢
 rw[ho.block g hlt hS]
 exact h
def High (k:Nat):Prop:=0<k/\3<k
theorem Tbl.off {w x:World}{S:Nat->Prop}(h:Tbl w)(ho:Off S w x)(hS:∀ k,S k->High k):Tbl x:=by
 refine⟨?_,?_,Nat.lt_of_lt_of_le h.b.lt ho.size⟩
 ·have hz:=h.z
  unfold Tz at hz ⊢
  have hlt:=World.block_lt_of_cell? _ _ hz
  simp only[World.cell?] at hz ⊢
  rw[ho.block _ hlt (fun hs=>Nat.lt_irrefl _ (hS _ hs).2)]
  exact hz
 ·exact var?_off ho gPow h.b.lt (fun hs=>Nat.lt_irrefl _ (hS _ hs).1) h.b.tab
theorem Tbl.high {w:World}(h:Tbl w){k:Nat}(hk:w.heap.size<=k):High k :=
 ⟨Nat.lt_of_lt_of_le h.b.lt hk,Nat.lt_of_lt_of_le (World.block_lt_of_cell? _ _ h.z) hk⟩
theorem find_store {s n:Nat}{rd:Int}{lk:Nat->Int}{σ:St}{M:Mem}(key:List UInt8)(w:World)(h:StoreAt w s n rd lk σ M) :
 Calls Tryz.prog 88 #[.pointer (some ⟨M.g,hashK key%n*3,none⟩),.string ⟨key.toArray⟩] w fun e w'=>∃ p vs,e=.returned (.pointer (some ⟨p,0,none⟩))/\Found w' M n σ key p vs/\Below w.heap.size w w'/\(M.own s n p\/w.heap.size<=p):=by
 have hi:hashK key%n<n:=Nat.mod_lt _ h.n1
 obtain⟨cs,hc,hr⟩:=h.row
 have hce:w.cell? ⟨M.g,hashK key%n*3+2,none⟩=some (M.es (hashK key%n)):=by
  simp only[World.cell?,hc]
  simp[(hr _ hi).2]
 have hpsl:(M.ps (hashK key%n)).length<1000000:=by
  have h1:((M.ps (hashK key%n)).map M.en).length<=σ.ents.length:=by rw[h.lst _ hi];exact List.length_filter_le _ _
  rw[List.length_map] at h1
  have:=h.many
  omega
 have hri:Rising (M.keys (hashK key%n)):=by rw[h.keys_eq hi];exact (h.rise.filter _).rising
 by_cases hl:(findE σ.ents key).last=0
 ·obtain⟨j,hpos,hnk⟩:=h.look_no key hl
  refine (find_no M.g _ _ _ _ key j w hce (h.kt _ hi).k hri hpsl hpos hnk).mono ?_
  rintro e w' ⟨p,rfl,hp,hE,hb⟩
  refine⟨p,_,rfl,⟨?_,Or.inr ⟨fun a ha hm=>?_,rfl,hl⟩⟩,hb,Or.inr hp⟩
  ·rw[(findE_none (fun E hE=>(h.ok E hE).last) hl).2]
   exact hE
  ·have:=(h.ent a ha p hm).lt
   omega
 ·obtain⟨j,p,hpos,hkj,hp,hen⟩:=h.look_yes key hl
  refine (find_yes M.g _ _ _ _ key j p w hce (h.kt _ hi).k hri hpsl hpos hkj hp (Array.getElem?_eq_some_iff.1 hc).1).mono ?_
  rintro e w' ⟨rfl,hb⟩
  have hm:=List.mem_of_getElem? hp
  refine⟨p,M.vs p,rfl,⟨?_,Or.inl ⟨hm,hen,rfl,hl⟩⟩,hb,Or.inl (Or.inr (Or.inr (Or.inr (Or.inl ⟨_,hi,hm⟩))))⟩
  rw[<- hen]
  exact (h.ent _ hi p hm).below hb
def toV (l:List Ver)(h:∀ v∈l,v.num<1000000000000000/\v.time<1000000000000000/\v.body.length<1000000):List V:=l.attach.map fun x=>⟨x.1,h x.1 x.2⟩
theorem plain_toV (l:List Ver)(h:∀ v∈l,v.num<1000000000000000/\v.time<1000000000000000/\v.body.length<1000000):plainV (toV l h)=l:=by
 unfold plainV toV
 rw[List.map_map]
 exact List.attach_map_subtype_val l
theorem tellVersions_any (p:Nat)(E:Ent)(vs:Value)(w:World)(hE:EntAt w p E vs)(hl:E.vers.length<=20)(hv:∀ v∈E.vers,v.num<1000000000000000/\v.time<1000000000000000/\v.body.length<1000000)(hT:Tbl w) :
 Calls Tryz.prog 89 #[.pointer (some ⟨p,0,none⟩)] w fun e w'=>e=.returned (.agg #[.int .i64 ((if E.vers=[] then 404 else 200:Nat):Int),.slice none 0 0,.string ⟨(if E.vers=[] then [] else E.vers.reverse.flatMap lineF2).toArray⟩])/\Below w.heap.size w w':=by
 by_cases h0:E.vers=[]
 ·rw[if_pos h0,if_pos h0]
  exact tellVersions_none p E vs w hE h0
 ·rw[if_neg h0,if_neg h0]
  have hp:=plain_toV E.vers hv
  have h1:=tellVersions_some p E.key E.last vs (toV E.vers hv) w (by rw[hp];exact hE) (by simp[toV];omega) (fun e=>h0 (by rw[<- hp,e];rfl)) hT.z hT.b
  rw[hp] at h1
  exact h1
theorem aim_mem {E:Ent}{t:Tgt}{u:Ver}(h:aimF E t=some u):u∈E.vers:=by
 unfold aimF at h
 split at h
 ·unfold numOf at h
  split at h
  ·cases h
  ·rename_i v hv
   split at h
   ·cases h
   ·cases h
    exact List.mem_of_find?_eq_some hv
 ·unfold curOf at h
  split at h
  ·cases h
  ·rename_i v hv
   split at h
   ·cases h
   ·cases h
    exact List.mem_of_getLast? hv
theorem stamp_len {n:Int}{l:List UInt8}(h:Cal.IsStamp n l):l.length<=40:=by
 obtain⟨y,m,k,_,rfl⟩:=h
 have h1:∀ s i,(Cal.nm s i).length<=3:=fun s i=>by unfold Cal.nm;rw[List.length_take];omega
 have h2:=h1 Cal.week (n/86400%7).toNat
 have h3:=h1 Cal.months m
 simp only[Cal.fmt,Cal.two,Cal.four,List.length_append,List.length_cons,List.length_nil]
 omega
theorem stamp_L (n:Nat)(w:World)(hn:n<=253402300799)(hT:Tab w):Calls Tryz.prog 18 #[.int .i64 n] w fun e w'=>e=.returned (.string ⟨(stampL n).toArray⟩)/\Below w.heap.size w w':=by
 refine (stamp_yes n w (by omega) (by omega) hT).mono ?_
 rintro e w' ⟨⟨l,hl,rfl⟩,hb⟩
 have hx:Cal.IsStamp (n:Int) (Classical.epsilon (Cal.IsStamp (n:Int))):=Classical.epsilon_spec ⟨l,hl⟩
 have hs:stampL n=l:=by
  unfold stampL
  rw[hx.uniq hl]
  exact List.take_of_length_le (stamp_len hl)
 rw[hs]
 exact⟨rfl,hb⟩
structure Ans where
 told:Nat
 flds:List Fld
 body:List UInt8
noncomputable def askF (σ:St)(m:Nat)(t:Tgt)(k:Cnd)(body:List UInt8):Ans×St :=
 if t.kind=3 then (if (findE σ.ents t.key).vers=[] then ⟨404,[],[]⟩ else ⟨200,[],(findE σ.ents t.key).vers.reverse.flatMap lineF2⟩,σ)
 else if condF (isW m) k (aimF (findE σ.ents t.key) t)≠0 then (⟨condF (isW m) k (aimF (findE σ.ents t.key) t),[],[]⟩,σ)
 else if isW m then
  match chgF σ t.key (wantF (findE σ.ents t.key) m t body).1 (wantF (findE σ.ents t.key) m t body).2.1 (wantF (findE σ.ents t.key) m t body).2.2 with
  | (told,none)=>(⟨told,[],[]⟩,σ)
  | (told,some σ')=>(⟨told,if m=2 then [⟨[69,84,97,103],qTag body⟩,⟨[86,101,114,115,105,111,110],Lib.decDigits (wantF (findE σ.ents t.key) m t body).2.1⟩] else [⟨[86,101,114,115,105,111,110],Lib.decDigits (wantF (findE σ.ents t.key) m t body).2.1⟩],[]⟩,σ')
 else match aimF (findE σ.ents t.key) t with
  | none=>(⟨404,[],[]⟩,σ)
  | some v=>(⟨200,verFlds v (stampL v.time),if m=0 then v.body else []⟩,σ)
def Done (w w':World)(e:Ending)(s n:Nat)(rd:Int)(lk:Nat->Int)(M:Mem)(r:Ans×St):Prop :=
 ∃ fs M',e=.returned (.agg #[.int .i64 (r.1.told:Nat),fs,.string ⟨r.1.body.toArray⟩])/\w'.ownsRow 0 151 2 fs r.1.flds.length (fldRow r.1.flds)/\StoreAt w' s n rd lk r.2 M'/\Off (M.own s n) w w'/\∀ k,M'.own s n k->M.own s n k\/w.heap.size<=k
theorem own_typed {w:World}{s n:Nat}{rd:Int}{lk:Nat->Int}{σ:St}{M:Mem}(h:StoreAt w s n rd lk σ M){k:Nat}(hk:M.own s n k){c:Array Value}{f:Nat×Nat}:w.heap[k]?≠some (.cells c 100 f):=by
 intro e
 rcases hk with rfl|rfl|⟨i,hi,hb⟩|⟨i,hi,hb⟩|⟨i,p,hi,hp,hb⟩|hb
 ·exact ne_of_types h.blk e (by decide) rfl
 ·obtain⟨cs,hc,_⟩:=h.row
  exact ne_of_types hc e (by decide) rfl
 ·exact own_far (h.kt i hi).k.row e (by decide) hb
 ·exact ne_of_types (h.ent i hi k hb).blk e (by decide) rfl
 ·exact own_far (h.ent i hi p hp).row e (by decide) hb
 ·exact own_far h.jrn e (by decide) hb
theorem own_lt {w:World}{s n:Nat}{rd:Int}{lk:Nat->Int}{σ:St}{M:Mem}(h:StoreAt w s n rd lk σ M){k:Nat}(hk:M.own s n k):k<w.heap.size:=by
 rcases hk with rfl|rfl|⟨i,hi,hb⟩|⟨i,hi,hb⟩|⟨i,p,hi,hp,hb⟩|hb
 ·exact (Array.getElem?_eq_some_iff.1 h.blk).1
 ·obtain⟨cs,hc,_⟩:=h.row
  exact (Array.getElem?_eq_some_iff.1 hc).1
 ·exact ((h.kt i hi).k.row.lt _ hb).2
 ·exact (h.ent i hi k hb).lt
 ·exact ((h.ent i hi p hp).row.lt _ hb).2
 ·exact (h.jrn.lt _ hb).2
theorem wanted_any (p:Nat)(E:Ent)(vs:Value)(m:Nat)(t:Tgt)(wr:Bool)(c:Cst)(body:List UInt8)(w:World)(h:EntAt w p E vs)(hl:E.last<4611686018427387904)(e1:∃ a n m,c.lm=.slice a n m)(e2:∃ a n m,c.ln=.slice a n m) :
 Calls Tryz.prog 93 #[reqV m t wr c body,.pointer (some ⟨p,0,none⟩)] w fun e w'=>e=.returned (recA (wantF E m t body).1 0 E.key (wantF E m t body).2.1 (wantF E m t body).2.2)/\Below w.heap.size w w':=by
 by_cases hm:m=2
 ·subst hm
  exact wanted_put p E vs t wr c body w h hl e1 e2
 ·have hmi:((m:Int)==2)=false:=beq_eq_false_iff_ne.2 (by omega)
  by_cases hk:t.kind=2
  ·have hw:wantF E m t body=(3,t.num,[]):=by simp[wantF,hm,hk]
   rw[hw]
   exact wanted_rm p E vs m t wr c body w h hmi (by rw[hk];rfl) e1 e2
  ·have hw:wantF E m t body=(2,E.last+1,[]):=by simp[wantF,hm,hk]
   rw[hw]
   exact wanted_mark p E vs m t wr c body w h hmi (beq_eq_false_iff_ne.2 (by omega)) hl e1 e2
theorem want_ok {E:Ent}{m:Nat}{t:Tgt}{body:List UInt8}{kd num:Nat}{bd:List UInt8}(h:wantF E m t body=(kd,num,bd))(hl:E.last<140000000000000)(hbody:body.length<=400)(hnum:t.num<1000000000000000) :
 (kd=1\/kd=2\/kd=3)/\(kd≠3->num=E.last+1)/\num<1000000000000000/\bd.length<=400/\(kd=1 ↔ m=2)/\(kd=1->bd=body):=by
 unfold wantF at h
 split at h
 ·rename_i hm2
  cases h
  exact⟨Or.inl rfl,fun _=>rfl,by omega,hbody,⟨fun _=>hm2,fun _=>rfl⟩,fun _=>rfl⟩
 ·rename_i hm2
  split at h
  ·cases h
   exact⟨Or.inr (Or.inr rfl),fun h=>absurd rfl h,hnum,by simp,⟨fun h=>by omega,fun h=>absurd h hm2⟩,fun h=>by omega⟩
  ·cases h
   exact⟨Or.inr (Or.inl rfl),fun _=>rfl,by omega,by simp,⟨fun h=>by omega,fun h=>absurd h hm2⟩,fun h=>by omega⟩
structure Rch (w w6:World)(s n:Nat)(rd:Int)(lk:Nat->Int)(i:Nat)(σ':St)(M:Mem)(a:World):Prop where
 ex:∃ M',StoreAt a s n rd (fun j=>if j=i then 1 else lk j) σ' M'/\M'.g=M.g/\Off (M.own s n) w a/\(∀ k,M'.own s n k->M.own s n k\/w.heap.size<=k)/\Tbl a/\a.heap[w.heap.size+1]?=some (.cells #[.int .i64 0,.slice none 0 0,.string ⟨#[]⟩] 100 (0,0))
theorem Rch.tbl {w w6:World}{s n:Nat}{rd:Int}{lk:Nat->Int}{i:Nat}{σ':St}{M:Mem}{a:World}(h:Rch w w6 s n rd lk i σ' M a):Tbl a:=by
 obtain⟨_,_,_,_,_,h5,_⟩:=h.ex
 exact h5
theorem Rch.off {w w6:World}{s n:Nat}{rd:Int}{lk:Nat->Int}{i:Nat}{σ':St}{M:Mem}{a b:World}(h:Rch w w6 s n rd lk i σ' M a)(hT:Tbl w6)(hw6:w.heap.size+1<w6.heap.size)(ho:Off (Loc w6.heap.size a) a b):Rch w w6 s n rd lk i σ' M b:=by
 obtain⟨M',h1,h2,h3,h4,h5,h6⟩:=h.ex
 refine⟨M',h1.off ho (fun k hk hl=>?_),h2,h3.trans' ho (fun k hk hl=>?_),h4,h5.off ho (fun k hl=>hT.high hl.1),(ho.block _ (Array.getElem?_eq_some_iff.1 h6).1 (fun hl=>?_)).trans h6⟩
 ·obtain⟨_,c,f,e⟩:=hl
  exact own_typed h1 hk e
 ·have:=hl.1
  omega
 ·have:=hl.1
  omega
theorem yes_of {w w6 y:World}{s n i p:Nat}{rd:Int}{lk:Nat->Int}{σ σ':St}{M:Mem}{told:Nat}{f:FuncId}{args:Array Value}(hS6:StoreAt w6 s n rd (fun j=>if j=i then 1 else lk j) σ M)(hT6:Tbl w6)(hHi:∀ k,M.own s n k->High k)(hO6:Off (M.own s n) w w6)(hP:M.own s n p\/w.heap.size<=p)
 (hZ6:w6.heap[w.heap.size+1]?=some (.cells #[.int .i64 0,.slice none 0 0,.string ⟨#[]⟩] 100 (0,0)))(hw6:w.heap.size+1<w6.heap.size)(hpe:∃ cp,w6.heap[p]?=some (.cells cp 230 (0,0)))(hTp:High p)(hy:Below w6.heap.size w6 y)
 (hc:Calls Tryz.prog f args y fun e w'=>e=.returned (.tuple #[.int .i64 (told:Nat),.bool true])/\∃ M',Chd y w' s n rd (fun j=>if j=i then 1 else lk j) σ' M M' p) :
 Calls Tryz.prog f args y fun e w'=>e=.returned (.tuple #[.int .i64 told,.bool true])/\Rch w w6 s n rd lk i σ' M w'/\(∀ k,w6.heap.size<=k->k<y.heap.size->w'.heap[k]?=y.heap[k]?)/\y.heap.size<=w'.heap.size:=by
 refine hc.mono ?_
 rintro e w' ⟨rfl,M',hd⟩
 obtain⟨cp,hpe⟩:=hpe
 have hpl:p<w6.heap.size:=(Array.getElem?_eq_some_iff.1 hpe).1
 refine⟨rfl,⟨M',hd.st,hd.g,(hO6.trans (Off.of_below hy)).trans' hd.off (fun k hk h=>?_),fun k hk=>?_,(hT6.below hy).off hd.off (fun k h=>?_),?_⟩,fun k h1 h2=>hd.off.block k h2 (fun h=>?_),hd.off.size⟩
 ·rcases h with h|h
  ·exact h
  ·rcases hP with h'|h'
   ·exact h ▸ h'
   ·omega
 ·have hsz:=hy.size
  rcases hd.own k hk with h|h|h
  ·exact Or.inl h
  ·right;omega
  ·exact h ▸ hP
 ·rcases h with h|h
  ·exact hHi k h
  ·exact h ▸ hTp
 ·refine (hd.off.block _ (Nat.lt_of_lt_of_le hw6 hy.size) (fun h=>?_)).trans ((hy.block _ hw6).trans hZ6)
  rcases h with h|h
  ·exact own_typed hS6 h hZ6
  ·exact ne_of_types hZ6 hpe (by decide) h
 ·rcases h with h|h
  ·have:=own_lt hS6 h
   omega
  ·omega
theorem ask_end {w y:World}{s n i:Nat}{rd:Int}{lk:Nat->Int}{M M':Mem}{r:Ans×St}{fs:Value}(hi:i<n)(hlk:lk i=0)(hA:y.heap[w.heap.size+1]?=some (.cells #[.int .i64 0,.slice none 0 0,.string ⟨#[]⟩] 100 (0,0)))
 (hS:StoreAt y s n rd (fun j=>if j=i then 1 else lk j) r.2 M')(hg:M'.g=M.g)(hof:Off (M.own s n) w y)(hown:∀ k,M'.own s n k->M.own s n k\/w.heap.size<=k)(hrow:y.ownsRow 0 151 2 fs r.1.flds.length (fldRow r.1.flds)) :
 (((y.setCell ⟨w.heap.size+1,0,none⟩ (.int .i64 (r.1.told:Nat))).setCell ⟨w.heap.size+1,1,none⟩ fs).setCell ⟨w.heap.size+1,2,none⟩ (.string ⟨r.1.body.toArray⟩)).cell? ⟨M.g,i*3,none⟩=some (.int .i32 1) /\
 (((y.setCell ⟨w.heap.size+1,0,none⟩ (.int .i64 (r.1.told:Nat))).setCell ⟨w.heap.size+1,1,none⟩ fs).setCell ⟨w.heap.size+1,2,none⟩ (.string ⟨r.1.body.toArray⟩)).frozen? ⟨M.g,i*3,none⟩=false /\
 ((((y.setCell ⟨w.heap.size+1,0,none⟩ (.int .i64 (r.1.told:Nat))).setCell ⟨w.heap.size+1,1,none⟩ fs).setCell ⟨w.heap.size+1,2,none⟩ (.string ⟨r.1.body.toArray⟩)).setCell ⟨M.g,i*3,none⟩ (.int .i32 0)).heap[w.heap.size+1]?=some (.cells #[.int .i64 (r.1.told:Nat),fs,.string ⟨r.1.body.toArray⟩] 100 (0,0)) /\
 Done w ((((y.setCell ⟨w.heap.size+1,0,none⟩ (.int .i64 (r.1.told:Nat))).setCell ⟨w.heap.size+1,1,none⟩ fs).setCell ⟨w.heap.size+1,2,none⟩ (.string ⟨r.1.body.toArray⟩)).setCell ⟨M.g,i*3,none⟩ (.int .i32 0)) (.returned (.agg #[.int .i64 (r.1.told:Nat),fs,.string ⟨r.1.body.toArray⟩])) s n rd lk M r:=by
 obtain⟨Y,hY⟩:∃ Y,Y=(((y.setCell ⟨w.heap.size+1,0,none⟩ (.int .i64 (r.1.told:Nat))).setCell ⟨w.heap.size+1,1,none⟩ fs).setCell ⟨w.heap.size+1,2,none⟩ (.string ⟨r.1.body.toArray⟩)):=⟨_,rfl⟩
 rw[<- hY]
 have hYA:Y.heap[w.heap.size+1]?=some (.cells #[.int .i64 (r.1.told:Nat),fs,.string ⟨r.1.body.toArray⟩] 100 (0,0)):=by
  rw[hY,heap_set (heap_set (heap_set hA))]
  rfl
 have hYo:Off (fun k=>k=w.heap.size+1) y Y:=by rw[hY];exact (((Off.refl (fun k=>k=w.heap.size+1) _).set _ 0 _ (Or.inl rfl)).set _ 1 _ (Or.inl rfl)).set _ 2 _ (Or.inl rfl)
 have hSY:StoreAt Y s n rd (fun j=>if j=i then 1 else lk j) r.2 M':=hS.off hYo (fun k hk e=>own_typed hS hk (e ▸ hA))
 obtain⟨cs,hc,hr⟩:=hSY.row
 rw[hg] at hc
 have hne:w.heap.size+1≠M.g:=ne_of_types hYA hc (by decide)
 refine⟨?_,by simp[World.frozen?,hc],(heap_set_far hne).trans hYA,fs,M',rfl,?_,?_,?_,hown⟩
 ·simp only[World.cell?,hc]
  simp[(hr i hi).1]
 ·have hrY:Y.ownsRow 0 151 2 fs r.1.flds.length (fldRow r.1.flds):=by
   refine⟨hrow.1,?_⟩
   rcases hrow.2 with h0|⟨g,cap,cur,hv,h1,hgg,h2⟩
   ·exact Or.inl h0
   ·exact Or.inr ⟨g,cap,cur,hv,h1,(hYo.block g (Array.getElem?_eq_some_iff.1 hgg).1 (ne_of_types hgg hA (by decide))).trans hgg,h2⟩
  refine⟨hrY.1,?_⟩
  rcases hrY.2 with h0|⟨g,cap,cur,hv,h1,hgg,h2⟩
  ·exact Or.inl h0
  ·exact Or.inr ⟨g,cap,cur,hv,h1,(heap_set_far (ne_of_types hgg hc (by decide))).trans hgg,h2⟩
 ·have:=hSY.lock i hi 0
  rw[hg] at this
  have e:(fun j=>if j=i then (0:Int) else if j=i then 1 else lk j)=lk:=by
   funext j
   by_cases h:j=i
   ·simp[h,hlk]
   ·simp[h]
  rw[e] at this
  exact this
 ·exact (hof.trans' hYo (fun k hk e=>by omega)).set M.g _ _ (Or.inl (Or.inr (Or.inl rfl)))
theorem askKey_any {s n:Nat}{rd:Int}{lk:Nat->Int}{σ:St}{M:Mem}(m:Nat)(t:Tgt)(c:Cst)(body:List UInt8)(w:World)(h:StoreAt w s n rd lk σ M)(hlk:lk (hashK t.key%n)=0)(k:Cnd)(g0:Nat)(hR:Rq w g0 c k)(hg0:g0<=w.heap.size)(hMg:M.g<=g0)(hT:Tbl w)(hHi:∀ k,M.own s n k->High k)(hkey:keyOK t.key=true)(hbody:body.length<=400)(hnum:t.num<1000000000000000)(hlog:σ.log.length<140000000000000) :
 Calls Tryz.prog 46 #[.pointer (some ⟨s,0,none⟩),reqV m t (isW m) c body,bookC s] w fun e w'=>Done w w' e s n rd lk M (askF σ m t k body):=by
 have hkl:t.key.length<1000000:=by
  unfold keyOK at hkey
  simp at hkey
  omega
 obtain⟨rr,hrr⟩:∃ x,askF σ m t k body=x:=⟨_,rfl⟩
 rw[hrr]
 have HRR0:Hid _:=hrr
 clear hrr
 have e1:=hR.m.list.2.2.2
 have e2:=hR.n.list.2.2.2
 obtain⟨a1,m1,p1,e1⟩:=e1
 obtain⟨a2,m2,p2,e2⟩:=e2
 unfold reqV
 rw[e1,e2]
 obtain⟨i,hi0⟩:∃ i,hashK t.key%n=i:=⟨_,rfl⟩
 have hi:i<n:=by rw[<- hi0];exact Nat.mod_lt _ h.n1
 have HH:Hid _:=h
 clear h
 go_enter_defers Tryz.func46,Tryz.ntmps46
 go_wp2_with fail
 obtain⟨X,hX⟩:∃ X,X=((w.alloc (.cells #[.int .i64 (m:Int),.int .i64 (t.kind:Int),.string ⟨t.key.toArray⟩,.int .i64 (t.num:Int),.bool (isW m),.bool c.hm,.bool c.am,.slice a1 m1 p1,.bool c.hn,.bool c.an,.slice a2 m2 p2,.bool c.hs,.int .i64 c.si,.bool c.hu,.int .i64 c.ul,.bool false,.string ⟨#[]⟩,.int .i64 0,.string ⟨body.toArray⟩] 95)).alloc (.cells #[.int .i64 0,.slice none 0 0,.string ⟨#[]⟩] 100)):=⟨_,rfl⟩
 rw[<- hX]
 have hal:Below w.heap.size w X:=by rw[hX];exact ((Below.refl _ _).alloc (Nat.le_refl _) _).alloc (by simp) _
 have hQ:X.heap[w.heap.size]?=some (.cells #[.int .i64 (m:Int),.int .i64 (t.kind:Int),.string ⟨t.key.toArray⟩,.int .i64 (t.num:Int),.bool (isW m),.bool c.hm,.bool c.am,.slice a1 m1 p1,.bool c.hn,.bool c.an,.slice a2 m2 p2,.bool c.hs,.int .i64 c.si,.bool c.hu,.int .i64 c.ul,.bool false,.string ⟨#[]⟩,.int .i64 0,.string ⟨body.toArray⟩] 95 (0,0)):=by
  rw[hX]
  exact (heap_alloc_old _ _ (by simp)).trans (heap_alloc_new _ _)
 have hZ:X.heap[w.heap.size+1]?=some (.cells #[.int .i64 0,.slice none 0 0,.string ⟨#[]⟩] 100 (0,0)):=by
  rw[hX]
  have:=heap_alloc_new (w.alloc (.cells #[.int .i64 (m:Int),.int .i64 (t.kind:Int),.string ⟨t.key.toArray⟩,.int .i64 (t.num:Int),.bool (isW m),.bool c.hm,.bool c.am,.slice a1 m1 p1,.bool c.hn,.bool c.an,.slice a2 m2 p2,.bool c.hs,.int .i64 c.si,.bool c.hu,.int .i64 c.ul,.bool false,.string ⟨#[]⟩,.int .i64 0,.string ⟨body.toArray⟩] 95)) (.cells #[.int .i64 0,.slice none 0 0,.string ⟨#[]⟩] 100)
  simpa using this
 have hXl:w.heap.size+1<X.heap.size:=(Array.getElem?_eq_some_iff.1 hZ).1
 clear hX
 generalize (Value.agg #[.int .i64 (m:Int),.int .i64 (t.kind:Int),.string ⟨t.key.toArray⟩,.int .i64 (t.num:Int),.bool (isW m),.bool c.hm,.bool c.am,.slice a1 m1 p1,.bool c.hn,.bool c.an,.slice a2 m2 p2,.bool c.hs,.int .i64 c.si,.bool c.hu,.int .i64 c.ul,.bool false,.string ⟨#[]⟩,.int .i64 0,.string ⟨body.toArray⟩])=Qv
 have hSX:=HH.out.below hal
 have hs6:X.cell? ⟨s,6,none⟩=some (.slice (some ⟨M.g,0,none⟩) n M.cap):=by simp[World.cell?,hSX.blk,storeCells]
 have HQ:Hid _:=hQ
 have HZ:Hid _:=hZ
 have HSX:Hid _:=hSX
 have HL:Hid _:=hal
 clear hQ hZ hSX hal
 refine (stripeOf_any s M.g n M.cap t.key X hs6 HSX.out.n1 HSX.out.n8 hkl).mono ?_
 rintro e w1 ⟨rfl,hb1⟩
 rw[hi0]
 have hS1:=HSX.out.below hb1
 obtain⟨cs,hc,hr⟩:=hS1.row
 have hlki:lk i=0:=by rw[<- hi0];exact hlk
 have l0:w1.cell? ⟨M.g,i*3,none⟩=some (.int .i32 0):=by
  simp only[World.cell?,hc]
  simp[(hr i hi).1,hlki]
 have lf:w1.frozen? ⟨M.g,i*3,none⟩=false:=by simp[World.frozen?,hc]
 have HS1:Hid _:=hS1
 have HB1:Hid _:=hb1
 have hmg:M.g≠w.heap.size:=ne_of_types hc ((hb1.block _ (by omega)).trans HQ.out) (by decide)
 have hmz:M.g≠w.heap.size+1:=ne_of_types hc ((hb1.block _ hXl).trans HZ.out) (by decide)
 clear hb1 hS1 hc hr hs6 cs
 go_wp2_with (go_at_call 83;refine (lock_free Tryz.muLib ⟨M.g,i*3,none⟩ _ l0 lf).mono ?_;rintro e w2 ⟨rfl,hw2⟩;have hQ2:w2.heap[w.heap.size]?=some (.cells #[.int .i64 (m:Int),.int .i64 (t.kind:Int),.string ⟨t.key.toArray⟩,.int .i64 (t.num:Int),.bool (isW m),.bool c.hm,.bool c.am,.slice a1 m1 p1,.bool c.hn,.bool c.an,.slice a2 m2 p2,.bool c.hs,.int .i64 c.si,.bool c.hu,.int .i64 c.ul,.bool false,.string ⟨#[]⟩,.int .i64 0,.string ⟨body.toArray⟩] 95 (0,0)):=(by rw[hw2,heap_set_far hmg.symm];exact (HB1.out.block _ (by omega)).trans HQ.out);have q0:w2.cell? ⟨w.heap.size,0,none⟩=some (.int .i64 (m:Int)):=(by simp[World.cell?,hQ2]);have q1:w2.cell? ⟨w.heap.size,1,none⟩=some (.int .i64 (t.kind:Int)):=(by simp[World.cell?,hQ2]);have q2:w2.cell? ⟨w.heap.size,2,none⟩=some (.string ⟨t.key.toArray⟩):=(by simp[World.cell?,hQ2]);have HW2:Hid _:=hw2;have HQ2:Hid _:=hQ2;clear hw2 hQ2 l0 lf)
 have hS2:StoreAt w2 s n rd (fun j=>if j=i then 1 else lk j) σ M:=by rw[HW2.out];exact HS1.out.lock i hi 1
 have hB2:Below X.heap.size X w1:=HB1.out
 have hR2:Rq w2 g0 c k:=by
  rw[HW2.out]
  exact ((hR.below hg0 HL.out).below (Nat.le_trans hg0 HL.out.size) hB2).set (by omega)
 have hT2:Tbl w2:=by
  rw[HW2.out]
  exact ((hT.below HL.out).below hB2).off ((Off.refl (fun k=>k=M.g) _).set M.g _ _ (Or.inl rfl)) (fun k e=>e ▸ hHi _ (Or.inr (Or.inl rfl)))
 have hZ2:w2.heap[w.heap.size+1]?=some (.cells #[.int .i64 0,.slice none 0 0,.string ⟨#[]⟩] 100 (0,0)):=by rw[HW2.out,heap_set_far hmz.symm];exact (HB1.out.block _ hXl).trans HZ.out
 have hO2:Off (M.own s n) w w2:=by
  rw[HW2.out]
  exact (Off.of_below (HL.out.trans (hB2.mono HL.out.size))).set M.g _ _ (Or.inl (Or.inr (Or.inl rfl)))
 have hfs:=find_store t.key w2 hS2
 rw[hi0] at hfs
 refine hfs.mono ?_
 rintro e w3 ⟨p,vs,rfl,hF,hb3,hpo⟩
 have hw2l:w.heap.size+1<w2.heap.size:=(Array.getElem?_eq_some_iff.1 hZ2).1
 have hQ3:w3.heap[w.heap.size]?=some (.cells #[.int .i64 (m:Int),.int .i64 (t.kind:Int),.string ⟨t.key.toArray⟩,.int .i64 (t.num:Int),.bool (isW m),.bool c.hm,.bool c.am,.slice a1 m1 p1,.bool c.hn,.bool c.an,.slice a2 m2 p2,.bool c.hs,.int .i64 c.si,.bool c.hu,.int .i64 c.ul,.bool false,.string ⟨#[]⟩,.int .i64 0,.string ⟨body.toArray⟩] 95 (0,0)):=(hb3.block _ (by omega)).trans HQ2.out
 have HQ3:Hid _:=hQ3
 have HZ3:Hid _:=(hb3.block _ hw2l).trans hZ2
 have HS3:Hid _:=hS2.below hb3
 have HR3:Hid _:=hR2.below (Nat.le_trans hg0 (by omega)) hb3
 have HT3:Hid (Tbl w3):=hT2.below hb3
 have HO3:Hid (Off (M.own s n) w w3):=hO2.trans (Off.of_below hb3)
 have HF3:Hid _:=hF
 have HP:Hid (M.own s n p\/w.heap.size<=p):=hpo.imp_right (fun h=>by omega)
 have hw3l:w.heap.size+1<w3.heap.size:=Nat.lt_of_lt_of_le hw2l hb3.size
 have q0:w3.cell? ⟨w.heap.size,0,none⟩=some (.int .i64 (m:Int)):=by simp[World.cell?,hQ3]
 have q1:w3.cell? ⟨w.heap.size,1,none⟩=some (.int .i64 (t.kind:Int)):=by simp[World.cell?,hQ3]
 have q2:w3.cell? ⟨w.heap.size,2,none⟩=some (.string ⟨t.key.toArray⟩):=by simp[World.cell?,hQ3]
 have q3:w3.cell? ⟨w.heap.size,3,none⟩=some (.int .i64 (t.num:Int)):=by simp[World.cell?,hQ3]
 clear hfs hS2 hB2 hR2 hT2 hZ2 hO2 hb3 hF hpo hQ3 HQ HZ HSX HS1 HB1 HQ2 hw2l
 by_cases hkd:t.kind=3
 ·have hkdi:((t.kind:Int)==3)=true:=by rw[hkd];rfl
  obtain⟨f1,f2,f3,f4,f5,f6⟩:=HS3.out.found HF3.out
  have htv:=tellVersions_any p (findE σ.ents t.key) vs w3 HF3.out.ent f5 (fun v hv=>⟨by have:=f1 v hv;omega,by have:=f3 v hv;omega,by have:=f4 v hv;omega⟩) HT3.out
  obtain⟨td,htd⟩:∃ x:Nat,(if (findE σ.ents t.key).vers=[] then 404 else 200)=x:=⟨_,rfl⟩
  obtain⟨bd,hbd⟩:∃ x,(if (findE σ.ents t.key).vers=[] then [] else (findE σ.ents t.key).vers.reverse.flatMap lineF2)=x:=⟨_,rfl⟩
  have hask:askF σ m t k body=(⟨td,[],bd⟩,σ):=by
   rw[<- htd,<- hbd]
   unfold askF
   rw[if_pos hkd]
   split<;>rfl
  have HRR:Hid (rr=(⟨td,[],bd⟩,σ)):=HRR0.out.symm.trans hask
  rw[htd,hbd] at htv
  have HTV:Hid _:=htv
  clear htv htd hbd hask f1 f2 f3 f4 f5 f6
  go_wp2_with fail
  refine Calls.mono HTV.out ?_
  rintro e y ⟨rfl,hby⟩
  have hZy:=(hby.block _ hw3l).trans HZ3.out
  have a0:y.cell? ⟨w.heap.size+1,0,none⟩=some (.int .i64 0):=by simp[World.cell?,hZy]
  have a1:y.cell? ⟨w.heap.size+1,1,none⟩=some (.slice none 0 0):=by simp[World.cell?,hZy]
  have a2:y.cell? ⟨w.heap.size+1,2,none⟩=some (.string ⟨#[]⟩):=by simp[World.cell?,hZy]
  have af0:y.frozen? ⟨w.heap.size+1,0,none⟩=false:=by simp[World.frozen?,hZy]
  have af1:y.frozen? ⟨w.heap.size+1,1,none⟩=false:=by simp[World.frozen?,hZy]
  have af2:y.frozen? ⟨w.heap.size+1,2,none⟩=false:=by simp[World.frozen?,hZy]
  have HE:Hid _:=ask_end (w:=w) (i:=i) (lk:=lk) (M:=M) (M':=M) (r:=(⟨td,[],bd⟩,σ)) (fs:=.slice none 0 0) hi (by rw[<- hi0];exact hlk) hZy (HS3.out.below hby) rfl (HO3.out.trans (Off.of_below hby)) (fun _ h=>Or.inl h) ⟨rfl,Or.inl ⟨rfl,rfl⟩⟩
  clear hZy
  go_wp2
  refine leaves_cons (f:=84) (args:=#[.pointer (some ⟨M.g,i*3,none⟩)]) (by simp) (by simp[go_sem]) ?_
  refine (unlock_deferred Tryz.muLib ⟨M.g,i*3,none⟩ .returning _ HE.out.1 HE.out.2.1).mono ?_
  rintro e u' w'' ⟨rfl,rfl,rfl⟩
  exact⟨_,results_row1 Tryz.results46 _ _ (w.heap.size+1) 100 _ (0,0) _ rfl HE.out.2.2.1 Tryz.underlying100 rfl hiAns,by rw[HRR.out];exact HE.out.2.2.2⟩
 ·have hkdi:((t.kind:Int)==3)=false:=beq_eq_false_iff_ne.2 (by omega)
  obtain⟨f1,f2,f3,f4,f5,f6⟩:=HS3.out.found HF3.out
  go_wp2_with fail
  refine (aim_any p (findE σ.ents t.key) vs t w3 HF3.out.ent (by omega)).mono ?_
  rintro e w4 ⟨⟨v,rfl,hv⟩,hb4⟩
  have hQ4:w4.heap[w.heap.size]?=some (.cells #[.int .i64 (m:Int),.int .i64 (t.kind:Int),.string ⟨t.key.toArray⟩,.int .i64 (t.num:Int),.bool (isW m),.bool c.hm,.bool c.am,.slice a1 m1 p1,.bool c.hn,.bool c.an,.slice a2 m2 p2,.bool c.hs,.int .i64 c.si,.bool c.hu,.int .i64 c.ul,.bool false,.string ⟨#[]⟩,.int .i64 0,.string ⟨body.toArray⟩] 95 (0,0)):=(hb4.block _ (by omega)).trans HQ3.out
  have HQ4:Hid _:=hQ4
  obtain⟨o,hoo⟩:∃ x,aimF (findE σ.ents t.key) t=x:=⟨_,rfl⟩
  rw[hoo] at hv ⊢
  have HOO:Hid _:=hoo
  have HV:Hid _:=hv
  have HB4:Hid _:=hb4
  have hw4l:w.heap.size+1<w4.heap.size:=Nat.lt_of_lt_of_le hw3l hb4.size
  have hw4:w.heap.size<w4.heap.size:=by omega
  unfold verAgg
  have r4:w4.cell? ⟨w.heap.size,4,none⟩=some (.bool (isW m)):=by simp[World.cell?,hQ4]
  have r5:w4.cell? ⟨w.heap.size,5,none⟩=some (.bool c.hm):=by simp[World.cell?,hQ4]
  have r6:w4.cell? ⟨w.heap.size,6,none⟩=some (.bool c.am):=by simp[World.cell?,hQ4]
  have r7:w4.cell? ⟨w.heap.size,7,none⟩=some (.slice a1 m1 p1):=by simp[World.cell?,hQ4]
  have r8:w4.cell? ⟨w.heap.size,8,none⟩=some (.bool c.hn):=by simp[World.cell?,hQ4]
  have r9:w4.cell? ⟨w.heap.size,9,none⟩=some (.bool c.an):=by simp[World.cell?,hQ4]
  have r10:w4.cell? ⟨w.heap.size,10,none⟩=some (.slice a2 m2 p2):=by simp[World.cell?,hQ4]
  have r11:w4.cell? ⟨w.heap.size,11,none⟩=some (.bool c.hs):=by simp[World.cell?,hQ4]
  have r12:w4.cell? ⟨w.heap.size,12,none⟩=some (.int .i64 c.si):=by simp[World.cell?,hQ4]
  have r13:w4.cell? ⟨w.heap.size,13,none⟩=some (.bool c.hu):=by simp[World.cell?,hQ4]
  have r14:w4.cell? ⟨w.heap.size,14,none⟩=some (.int .i64 c.ul):=by simp[World.cell?,hQ4]
  have r15:w4.cell? ⟨w.heap.size,15,none⟩=some (.bool false):=by simp[World.cell?,hQ4]
  have r16:w4.cell? ⟨w.heap.size,16,none⟩=some (.string ⟨#[]⟩):=by simp[World.cell?,hQ4]
  have r17:w4.cell? ⟨w.heap.size,17,none⟩=some (.int .i64 0):=by simp[World.cell?,hQ4]
  clear hQ4 hoo hv hb4 q0 q1 q2 q3
  go_wp2_with fail
  have hwv:Below w3.heap.size w3 (w4.alloc (.cells #[.int .i64 v.num,.int .i64 v.time,.bool v.mark,.string ⟨v.body.toArray⟩] 174)):=HB4.out.alloc HB4.out.size _
  have hbl:∀ u,o=some u->u∈(findE σ.ents t.key).vers:=fun u hu=>aim_mem (HOO.out.trans hu)
  have hwg:=weigh_any (isW m) c k g0 v o (w4.alloc (.cells #[.int .i64 v.num,.int .i64 v.time,.bool v.mark,.string ⟨v.body.toArray⟩] 174)) (HR3.out.below (Nat.le_trans hg0 (by omega)) hwv) HV.out (HT3.out.below hwv).z (fun u hu=>f4 u (hbl u hu))
  unfold askA verAgg at hwg
  rw[e1,e2] at hwg
  refine Calls.mono hwg ?_
  rintro e w5 ⟨rfl,hb5⟩
  have hv5:w5.heap[w4.heap.size]?=some (.cells #[.int .i64 v.num,.int .i64 v.time,.bool v.mark,.string ⟨v.body.toArray⟩] 174 (0,0)):=(hb5.block _ (by simp)).trans (heap_alloc_new _ _)
  have hB5:Below w3.heap.size w3 w5:=hwv.trans (hb5.mono hwv.size)
  have hQ5:w5.heap[w.heap.size]?=some (.cells #[.int .i64 (m:Int),.int .i64 (t.kind:Int),.string ⟨t.key.toArray⟩,.int .i64 (t.num:Int),.bool (isW m),.bool c.hm,.bool c.am,.slice a1 m1 p1,.bool c.hn,.bool c.an,.slice a2 m2 p2,.bool c.hs,.int .i64 c.si,.bool c.hu,.int .i64 c.ul,.bool false,.string ⟨#[]⟩,.int .i64 0,.string ⟨body.toArray⟩] 95 (0,0)):=(hB5.block _ (by omega)).trans HQ3.out
  have HQ5:Hid _:=hQ5
  have HV5:Hid _:=hv5
  have HZ5:Hid _:=(hB5.block _ hw3l).trans HZ3.out
  have HS5:Hid _:=HS3.out.below hB5
  have HT5:Hid (Tbl w5):=HT3.out.below hB5
  have HO5:Hid (Off (M.own s n) w w5):=HO3.out.trans (Off.of_below hB5)
  have HF5:Hid _:=HF3.out.below hB5
  have HBL:Hid _:=hbl
  have hw5l:w.heap.size+1<w5.heap.size:=Nat.lt_of_lt_of_le hw3l hB5.size
  have hw5:w.heap.size<w5.heap.size:=by omega
  have p0:w5.cell? ⟨w.heap.size,0,none⟩=some (.int .i64 (m:Int)):=by simp[World.cell?,hQ5]
  have p4:w5.cell? ⟨w.heap.size,4,none⟩=some (.bool (isW m)):=by simp[World.cell?,hQ5]
  have v0:w5.cell? ⟨w4.heap.size,0,none⟩=some (.int .i64 v.num):=by simp[World.cell?,hv5]
  have v1:w5.cell? ⟨w4.heap.size,1,none⟩=some (.int .i64 v.time):=by simp[World.cell?,hv5]
  have v2:w5.cell? ⟨w4.heap.size,2,none⟩=some (.bool v.mark):=by simp[World.cell?,hv5]
  have v3:w5.cell? ⟨w4.heap.size,3,none⟩=some (.string ⟨v.body.toArray⟩):=by simp[World.cell?,hv5]
  clear hwg hwv hbl hb5 hv5 hB5 hQ5 r4 r5 r6 r7 r8 r9 r10 r11 r12 r13 r14 r15 r16 r17 HQ4 HB4 hw4 hw4l
  obtain⟨cf,hcf⟩:∃ x,condF (isW m) k o=x:=⟨_,rfl⟩
  rw[hcf]
  have HCF:Hid _:=hcf
  clear hcf
  have HSTEP:Hid (askF σ m t k body=if cf≠0 then (⟨cf,[],[]⟩,σ) else if isW m then
   (match chgF σ t.key (wantF (findE σ.ents t.key) m t body).1 (wantF (findE σ.ents t.key) m t body).2.1 (wantF (findE σ.ents t.key) m t body).2.2 with
   | (told,none)=>(⟨told,[],[]⟩,σ)
   | (told,some σ')=>(⟨told,if m=2 then [⟨[69,84,97,103],qTag body⟩,⟨[86,101,114,115,105,111,110],Lib.decDigits (wantF (findE σ.ents t.key) m t body).2.1⟩] else [⟨[86,101,114,115,105,111,110],Lib.decDigits (wantF (findE σ.ents t.key) m t body).2.1⟩],[]⟩,σ'))
   else match o with
    | none=>(⟨404,[],[]⟩,σ)
    | some v=>(⟨200,verFlds v (stampL v.time),if m=0 then v.body else []⟩,σ)):=by
   show _=_
   unfold askF
   rw[if_neg hkd,HOO.out,HCF.out]
  by_cases hcf0:cf≠0
  ·have hcfi:((cf:Int)==0)=false:=beq_eq_false_iff_ne.2 (by omega)
   have HRR:Hid (rr=(⟨cf,[],[]⟩,σ)):=HRR0.out.symm.trans (by rw[HSTEP.out,if_pos hcf0])
   go_wp2_with fail
   refine (refuse_any cf _).mono ?_
   rintro e y ⟨rfl,hby⟩
   have hZy:=(hby.block _ hw5l).trans HZ5.out
   have a0:y.cell? ⟨w.heap.size+1,0,none⟩=some (.int .i64 0):=by simp[World.cell?,hZy]
   have a1:y.cell? ⟨w.heap.size+1,1,none⟩=some (.slice none 0 0):=by simp[World.cell?,hZy]
   have a2:y.cell? ⟨w.heap.size+1,2,none⟩=some (.string ⟨#[]⟩):=by simp[World.cell?,hZy]
   have af0:y.frozen? ⟨w.heap.size+1,0,none⟩=false:=by simp[World.frozen?,hZy]
   have af1:y.frozen? ⟨w.heap.size+1,1,none⟩=false:=by simp[World.frozen?,hZy]
   have af2:y.frozen? ⟨w.heap.size+1,2,none⟩=false:=by simp[World.frozen?,hZy]
   have HE:Hid _:=ask_end (w:=w) (i:=i) (lk:=lk) (M:=M) (M':=M) (r:=(⟨cf,[],[]⟩,σ)) (fs:=.slice none 0 0) hi (by rw[<- hi0];exact hlk) hZy (HS5.out.below hby) rfl (HO5.out.trans (Off.of_below hby)) (fun _ h=>Or.inl h) ⟨rfl,Or.inl ⟨rfl,rfl⟩⟩
   clear hZy
   go_wp2
   refine leaves_cons (f:=84) (args:=#[.pointer (some ⟨M.g,i*3,none⟩)]) (by simp) (by simp[go_sem]) ?_
   refine (unlock_deferred Tryz.muLib ⟨M.g,i*3,none⟩ .returning _ HE.out.1 HE.out.2.1).mono ?_
   rintro e u' w'' ⟨rfl,rfl,rfl⟩
   exact⟨_,results_row1 Tryz.results46 _ _ (w.heap.size+1) 100 _ (0,0) _ rfl HE.out.2.2.1 Tryz.underlying100 rfl hiAns,by rw[HRR.out];exact HE.out.2.2.2⟩
  ·have hcf1:cf=0:=Classical.not_not.1 hcf0
   subst hcf1
   cases hw:isW m with
   | true =>
     rw[hw] at p4
     have hwn:=wanted_any p (findE σ.ents t.key) vs m t true c body w5 HF5.out.ent (by omega) ⟨_,_,_,e1⟩ ⟨_,_,_,e2⟩
     unfold reqV at hwn
     rw[e1,e2,findE_key] at hwn
     obtain⟨kd,num,bd,hwt⟩:∃ a b c,wantF (findE σ.ents t.key) m t body=(a,b,c):=⟨_,_,_,rfl⟩
     rw[hwt] at hwn
     have hwk:=want_ok hwt (hnum:=hnum) (by omega:(findE σ.ents t.key).last<140000000000000) hbody
     have HWN:Hid _:=hwn
     have HQ5':Hid (w5.heap[w.heap.size]?=some (.cells #[.int .i64 (m:Int),.int .i64 (t.kind:Int),.string ⟨t.key.toArray⟩,.int .i64 (t.num:Int),.bool true,.bool c.hm,.bool c.am,.slice a1 m1 p1,.bool c.hn,.bool c.an,.slice a2 m2 p2,.bool c.hs,.int .i64 c.si,.bool c.hu,.int .i64 c.ul,.bool false,.string ⟨#[]⟩,.int .i64 0,.string ⟨body.toArray⟩] 95 (0,0))):=by
      have:=HQ5.out
      rw[hw] at this
      exact this
     clear hwn
     go_wp2_with (refine wpList_load_row rfl 95 (.tmp 4) rfl w.heap.size rfl 95 #[.int .i64 (m:Int),.int .i64 (t.kind:Int),.string ⟨t.key.toArray⟩,.int .i64 (t.num:Int),.bool true,.bool c.hm,.bool c.am,.slice a1 m1 p1,.bool c.hn,.bool c.an,.slice a2 m2 p2,.bool c.hs,.int .i64 c.si,.bool c.hu,.int .i64 c.ul,.bool false,.string ⟨#[]⟩,.int .i64 0,.string ⟨body.toArray⟩] (0,0) _ HQ5'.out Tryz.underlying95 rfl hi77 ?_)
     refine Calls.mono HWN.out ?_
     rintro e w6 ⟨rfl,hb6⟩
     have hZ6:=(hb6.block _ hw5l).trans HZ5.out
     have hw6l:w.heap.size+1<w6.heap.size:=Nat.lt_of_lt_of_le hw5l hb6.size
     have hS6:=HS5.out.below hb6
     have hT6:Tbl w6:=HT5.out.below hb6
     have hO6:Off (M.own s n) w w6:=HO5.out.trans (Off.of_below hb6)
     have hF6:=HF5.out.below hb6
     have hch:∀ y,Below w6.heap.size w6 y->_:=fun y hy=>change_store t.key p vs kd 0 num bd y (hS6.below hy) (hF6.below hy) hwk.1 hwk.2.1 hwk.2.2.1 hkey hwk.2.2.2.1 hlog
     rw[hi0] at hch
     have hpe6:∃ cp,w6.heap[p]?=some (.cells cp 230 (0,0)):=⟨_,hF6.ent.blk⟩
     have hhp:High p:=HP.out.elim (hHi p) (fun h=>hT.high h)
     have HZ6:Hid _:=hZ6
     have HS6:Hid _:=hS6
     have HO6:Hid _:=hO6
     have HM2:Hid (kd=1 ↔ m=2):=hwk.2.2.2.2.1
     have HBD:Hid (kd=1->bd=body):=hwk.2.2.2.2.2
     have hnumB:=hwk.2.2.1
     have hbdB:=hwk.2.2.2.1
     clear hb6 hZ6 hO6 hF6 HQ5 HQ5' HWN HV5 v0 v1 v2 v3 p0 p4 hwk
     rcases hcg:chgF σ t.key kd num bd with ⟨told,_|σ'⟩
     ·have HRR:Hid (rr=(⟨told,[],[]⟩,σ)):=HRR0.out.symm.trans (by rw[HSTEP.out,if_neg (by simp),if_pos hw,hwt];simp only[hcg])
      have hno:=changeKey_no M.g (i*3) p s kd 0 num told t.key bd w6 (fun y hy=>by
       have:=hch y hy
       rw[hcg] at this
       exact this)
      have HNO:Hid _:=hno
      clear hno hch
      go_wp2_with fail
      refine Calls.mono HNO.out ?_
      rintro e y ⟨rfl,hby⟩
      have hZy:=(hby.block _ hw6l).trans HZ6.out
      have a0:y.cell? ⟨w.heap.size+1,0,none⟩=some (.int .i64 0):=by simp[World.cell?,hZy]
      have a1:y.cell? ⟨w.heap.size+1,1,none⟩=some (.slice none 0 0):=by simp[World.cell?,hZy]
      have a2:y.cell? ⟨w.heap.size+1,2,none⟩=some (.string ⟨#[]⟩):=by simp[World.cell?,hZy]
      have af0:y.frozen? ⟨w.heap.size+1,0,none⟩=false:=by simp[World.frozen?,hZy]
      have af1:y.frozen? ⟨w.heap.size+1,1,none⟩=false:=by simp[World.frozen?,hZy]
      have af2:y.frozen? ⟨w.heap.size+1,2,none⟩=false:=by simp[World.frozen?,hZy]
      have HE:Hid _:=ask_end (w:=w) (i:=i) (lk:=lk) (M:=M) (M':=M) (r:=(⟨told,[],[]⟩,σ)) (fs:=.slice none 0 0) hi (by rw[<- hi0];exact hlk) hZy (HS6.out.below hby) rfl (HO6.out.trans (Off.of_below hby)) (fun _ h=>Or.inl h) ⟨rfl,Or.inl ⟨rfl,rfl⟩⟩
      clear hZy
      go_wp2
      refine leaves_cons (f:=84) (args:=#[.pointer (some ⟨M.g,i*3,none⟩)]) (by simp) (by simp[go_sem]) ?_
      refine (unlock_deferred Tryz.muLib ⟨M.g,i*3,none⟩ .returning _ HE.out.1 HE.out.2.1).mono ?_
      rintro e u' w'' ⟨rfl,rfl,rfl⟩
      exact⟨_,results_row1 Tryz.results46 _ _ (w.heap.size+1) 100 _ (0,0) _ rfl HE.out.2.2.1 Tryz.underlying100 rfl hiAns,by rw[HRR.out];exact HE.out.2.2.2⟩
     ·have HRR:Hid (rr=(⟨told,if m=2 then [⟨[69,84,97,103],qTag body⟩,⟨[86,101,114,115,105,111,110],Lib.decDigits num⟩] else [⟨[86,101,114,115,105,111,110],Lib.decDigits num⟩],[]⟩,σ')):=HRR0.out.symm.trans (by rw[HSTEP.out,if_neg (by simp),if_pos hw,hwt];simp only[hcg])
      have hyes:=fun y hy=>yes_of (w:=w) (w6:=w6) (M:=M) (told:=told) (σ':=σ') (y:=y) HS6.out hT6 hHi HO6.out HP.out HZ6.out hw6l hpe6 hhp hy (by
       have:=hch y hy
       rw[hcg] at this
       exact this)
      by_cases hm2:m=2
      ·obtain rfl:kd=1:=HM2.out.2 hm2
       obtain rfl:=HBD.out rfl
       have hck:=changeKey_put M.g (i*3) p s 0 num told t.key bd w6 (Rch w w6 s n rd lk i σ' M) (fun a b ha hab=>ha.off hT6 hw6l hab) (fun a ha=>⟨ha.tbl.z,ha.tbl.b⟩) (by omega) hnumB hyes
       have HCK:Hid _:=hck
       clear hck hyes hch
       rw[if_pos hm2] at HRR
       go_wp2_with fail
       refine Calls.mono HCK.out ?_
       rintro e y ⟨gs,rfl,hRy,hrw⟩
       obtain⟨M',hSy,hgy,hOy,howy,hTy,hZy0⟩:=hRy.ex
       have hZy:=hZy0
       have a0:y.cell? ⟨w.heap.size+1,0,none⟩=some (.int .i64 0):=by simp[World.cell?,hZy]
       have a1:y.cell? ⟨w.heap.size+1,1,none⟩=some (.slice none 0 0):=by simp[World.cell?,hZy]
       have a2:y.cell? ⟨w.heap.size+1,2,none⟩=some (.string ⟨#[]⟩):=by simp[World.cell?,hZy]
       have af0:y.frozen? ⟨w.heap.size+1,0,none⟩=false:=by simp[World.frozen?,hZy]
       have af1:y.frozen? ⟨w.heap.size+1,1,none⟩=false:=by simp[World.frozen?,hZy]
       have af2:y.frozen? ⟨w.heap.size+1,2,none⟩=false:=by simp[World.frozen?,hZy]
       have HE:Hid _:=ask_end (w:=w) (i:=i) (lk:=lk) (M:=M) (M':=M') (r:=(⟨told,[⟨[69,84,97,103],qTag bd⟩,⟨[86,101,114,115,105,111,110],Lib.decDigits num⟩],[]⟩,σ')) (fs:=.slice (some ⟨gs,0,none⟩) 2 2) hi (by rw[<- hi0];exact hlk) hZy hSy hgy hOy howy hrw
       clear hZy
       go_wp2
       refine leaves_cons (f:=84) (args:=#[.pointer (some ⟨M.g,i*3,none⟩)]) (by simp) (by simp[go_sem]) ?_
       refine (unlock_deferred Tryz.muLib ⟨M.g,i*3,none⟩ .returning _ HE.out.1 HE.out.2.1).mono ?_
       rintro e u' w'' ⟨rfl,rfl,rfl⟩
       exact⟨_,results_row1 Tryz.results46 _ _ (w.heap.size+1) 100 _ (0,0) _ rfl HE.out.2.2.1 Tryz.underlying100 rfl hiAns,by rw[HRR.out];exact HE.out.2.2.2⟩
      ·have hkn:((kd:Int)==1)=false:=beq_eq_false_iff_ne.2 (fun e=>hm2 (HM2.out.1 (by omega)))
       have hck:=changeKey_other M.g (i*3) p s kd 0 num told t.key bd w6 (Rch w w6 s n rd lk i σ' M) (fun a b ha hab=>ha.off hT6 hw6l hab) (fun a ha=>⟨ha.tbl.z,ha.tbl.b⟩) hkn hnumB hyes
       have HCK:Hid _:=hck
       clear hck hyes hch
       rw[if_neg hm2] at HRR
       go_wp2_with fail
       refine Calls.mono HCK.out ?_
       rintro e y ⟨gs,rfl,hRy,hrw⟩
       obtain⟨M',hSy,hgy,hOy,howy,hTy,hZy0⟩:=hRy.ex
       have hZy:=hZy0
       have a0:y.cell? ⟨w.heap.size+1,0,none⟩=some (.int .i64 0):=by simp[World.cell?,hZy]
       have a1:y.cell? ⟨w.heap.size+1,1,none⟩=some (.slice none 0 0):=by simp[World.cell?,hZy]
       have a2:y.cell? ⟨w.heap.size+1,2,none⟩=some (.string ⟨#[]⟩):=by simp[World.cell?,hZy]
       have af0:y.frozen? ⟨w.heap.size+1,0,none⟩=false:=by simp[World.frozen?,hZy]
       have af1:y.frozen? ⟨w.heap.size+1,1,none⟩=false:=by simp[World.frozen?,hZy]
       have af2:y.frozen? ⟨w.heap.size+1,2,none⟩=false:=by simp[World.frozen?,hZy]
       have HE:Hid _:=ask_end (w:=w) (i:=i) (lk:=lk) (M:=M) (M':=M') (r:=(⟨told,[⟨[86,101,114,115,105,111,110],Lib.decDigits num⟩],[]⟩,σ')) (fs:=.slice (some ⟨gs,0,none⟩) 1 1) hi (by rw[<- hi0];exact hlk) hZy hSy hgy hOy howy hrw
       clear hZy
       go_wp2
       refine leaves_cons (f:=84) (args:=#[.pointer (some ⟨M.g,i*3,none⟩)]) (by simp) (by simp[go_sem]) ?_
       refine (unlock_deferred Tryz.muLib ⟨M.g,i*3,none⟩ .returning _ HE.out.1 HE.out.2.1).mono ?_
       rintro e u' w'' ⟨rfl,rfl,rfl⟩
       exact⟨_,results_row1 Tryz.results46 _ _ (w.heap.size+1) 100 _ (0,0) _ rfl HE.out.2.2.1 Tryz.underlying100 rfl hiAns,by rw[HRR.out];exact HE.out.2.2.2⟩
   | false =>
     rw[hw] at p4
     cases o with
     | none =>
       have HRR:Hid (rr=(⟨404,[],[]⟩,σ)):=HRR0.out.symm.trans (by rw[HSTEP.out,if_neg (by simp),if_neg (by rw[hw];simp)])
       go_wp2_with fail
       refine (refuse_any 404 _).mono ?_
       rintro e y ⟨rfl,hby⟩
       have hZy:=(hby.block _ hw5l).trans HZ5.out
       have a0:y.cell? ⟨w.heap.size+1,0,none⟩=some (.int .i64 0):=by simp[World.cell?,hZy]
       have a1:y.cell? ⟨w.heap.size+1,1,none⟩=some (.slice none 0 0):=by simp[World.cell?,hZy]
       have a2:y.cell? ⟨w.heap.size+1,2,none⟩=some (.string ⟨#[]⟩):=by simp[World.cell?,hZy]
       have af0:y.frozen? ⟨w.heap.size+1,0,none⟩=false:=by simp[World.frozen?,hZy]
       have af1:y.frozen? ⟨w.heap.size+1,1,none⟩=false:=by simp[World.frozen?,hZy]
       have af2:y.frozen? ⟨w.heap.size+1,2,none⟩=false:=by simp[World.frozen?,hZy]
       have HE:Hid _:=ask_end (w:=w) (i:=i) (lk:=lk) (M:=M) (M':=M) (r:=(⟨404,[],[]⟩,σ)) (fs:=.slice none 0 0) hi (by rw[<- hi0];exact hlk) hZy (HS5.out.below hby) rfl (HO5.out.trans (Off.of_below hby)) (fun _ h=>Or.inl h) ⟨rfl,Or.inl ⟨rfl,rfl⟩⟩
       clear hZy
       go_wp2
       refine leaves_cons (f:=84) (args:=#[.pointer (some ⟨M.g,i*3,none⟩)]) (by simp) (by simp[go_sem]) ?_
       refine (unlock_deferred Tryz.muLib ⟨M.g,i*3,none⟩ .returning _ HE.out.1 HE.out.2.1).mono ?_
       rintro e u' w'' ⟨rfl,rfl,rfl⟩
       exact⟨_,results_row1 Tryz.results46 _ _ (w.heap.size+1) 100 _ (0,0) _ rfl HE.out.2.2.1 Tryz.underlying100 rfl hiAns,by rw[HRR.out];exact HE.out.2.2.2⟩
     | some u =>
       have hvu:=HV.out u rfl
       subst hvu
       have HRR:Hid (rr=(⟨200,verFlds v (stampL v.time),if m=0 then v.body else []⟩,σ)):=HRR0.out.symm.trans (by rw[HSTEP.out,if_neg (by simp),if_neg (by rw[hw];simp)])
       have hvm:=HBL.out v rfl
       have htl:=tellVersion_any v m (stampL v.time) w5 (by have:=f4 v hvm;omega) (by have:=f1 v hvm;omega) HT5.out.z HT5.out.b (fun y hy=>stamp_L v.time y (f3 v hvm) hy)
       unfold verAgg at htl
       have HTL:Hid _:=htl
       clear htl
       go_wp2_with fail
       refine Calls.mono HTL.out ?_
       rintro e y ⟨gs,rfl,hrw,hby⟩
       obtain⟨bd,hbd⟩:∃ x,(if m=0 then v.body else [])=x:=⟨_,rfl⟩
       rw[hbd] at HRR ⊢
       clear hbd
       have hZy:=(hby.block _ hw5l).trans HZ5.out
       have a0:y.cell? ⟨w.heap.size+1,0,none⟩=some (.int .i64 0):=by simp[World.cell?,hZy]
       have a1:y.cell? ⟨w.heap.size+1,1,none⟩=some (.slice none 0 0):=by simp[World.cell?,hZy]
       have a2:y.cell? ⟨w.heap.size+1,2,none⟩=some (.string ⟨#[]⟩):=by simp[World.cell?,hZy]
       have af0:y.frozen? ⟨w.heap.size+1,0,none⟩=false:=by simp[World.frozen?,hZy]
       have af1:y.frozen? ⟨w.heap.size+1,1,none⟩=false:=by simp[World.frozen?,hZy]
       have af2:y.frozen? ⟨w.heap.size+1,2,none⟩=false:=by simp[World.frozen?,hZy]
       have HE:Hid _:=ask_end (w:=w) (i:=i) (lk:=lk) (M:=M) (M':=M) (r:=(⟨200,verFlds v (stampL v.time),bd⟩,σ)) (fs:=.slice (some ⟨gs,0,none⟩) 3 3) hi (by rw[<- hi0];exact hlk) hZy (HS5.out.below hby) rfl (HO5.out.trans (Off.of_below hby)) (fun _ h=>Or.inl h) hrw
       clear hZy
       go_wp2
       refine leaves_cons (f:=84) (args:=#[.pointer (some ⟨M.g,i*3,none⟩)]) (by simp) (by simp[go_sem]) ?_
       refine (unlock_deferred Tryz.muLib ⟨M.g,i*3,none⟩ .returning _ HE.out.1 HE.out.2.1).mono ?_
       rintro e u' w'' ⟨rfl,rfl,rfl⟩
       exact⟨_,results_row1 Tryz.results46 _ _ (w.heap.size+1) 100 _ (0,0) _ rfl HE.out.2.2.1 Tryz.underlying100 rfl hiAns,by rw[HRR.out];exact HE.out.2.2.2⟩
end Go.Proofs.YtmehkneofinmiaaGreatDoor

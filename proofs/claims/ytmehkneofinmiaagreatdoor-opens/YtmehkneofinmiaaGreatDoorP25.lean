/-part 25-/
import Derived.Test.YtmehkneofinmiaaGreatDoorP24
set_option maxRecDepth 100000
set_option maxHeartbeats 8000000
namespace Go.Proofs.YtmehkneofinmiaaGreatDoor
open Go.RowKit Go.MuLone
structure Tbl (w:World):Prop where
 z:Tz w
 b:Tab w
theorem Tbl.below {w x:World}(h:Tbl w)(hb:Below w.heap.size w x):Tbl x:=⟨h.z.below hb,h.b.below hb⟩
theorem var?_off {P:Program}{w w':World}{S:Nat->Prop}(ho:Off S w w'){n:String}{g:Nat}(hg:P.globalNamed n=some g)(hlt:g<w.heap.size)(hS:¬ S g){cs:Array Value}(h:w.var? P n=some cs):w'.var? P n=some cs:=by
 unfold World.var? at h ⊢;rw[hg] at h ⊢;simp only[Option.bind_some] at h ⊢;rw[ho.block g hlt hS];exact h
def ju (k:Nat):Prop:=0<k/\3<k
theorem Tbl.off {w x:World}{S:Nat->Prop}(h:Tbl w)(ho:Off S w x)(hS:∀ k,S k->ju k):Tbl x:=by
 refine⟨?_,?_,Nat.lt_of_lt_of_le h.b.lt ho.size⟩
 ·have hz:=h.z;unfold Tz at hz ⊢;have A0:=World.block_lt_of_cell? _ _ hz;simp only[World.cell?] at hz ⊢;rw[ho.block _ A0 (λ hs=>Nat.lt_irrefl _ (hS _ hs).2)];exact hz
 ·exact var?_off ho BC h.b.lt (λ hs=>Nat.lt_irrefl _ (hS _ hs).1) h.b.tab
theorem Tbl.high {w:World}(h:Tbl w){k:Nat}(hk:w.heap.size<=k):ju k :=
 ⟨Nat.lt_of_lt_of_le h.b.lt hk,Nat.lt_of_lt_of_le (World.block_lt_of_cell? _ _ h.z) hk⟩
theorem mR {s n:Nat}{rd:Int}{lk:Nat->Int}{σ:St}{M:Mem}(key:List UInt8)(w:World)(h:ak w s n rd lk σ M) :
 Calls Tryz.prog 88 #[.pointer (some ⟨M.g,ao key%n*3,none⟩),.string ⟨key.toArray⟩] w λ e w'=>∃ p vs,e=.returned (.pointer (some ⟨p,0,none⟩))/\j8 w' M n σ key p vs/\Below w.heap.size w w'/\(M.own s n p\/w.heap.size<=p):=by
 have hi:ao key%n<n:=Nat.mod_lt _ h.n1;obtain⟨cs,hc,hr⟩:=h.row;have A3:w.cell? ⟨M.g,ao key%n*3+2,none⟩=some (M.es (ao key%n)):=by simp only[World.cell?,hc];simp[(hr _ hi).2]
 have A1:(M.ps (ao key%n)).length<1000000:=by (have h1:((M.ps (ao key%n)).map M.en).length<=σ.ents.length:=by rw[h.lst _ hi];exact List.length_filter_le _ _);rw[List.length_map] at h1;have:=h.many;omega
 have A2:dK (M.keys (ao key%n)):=by rw[h.keys_eq hi];exact (h.rise.filter _).rising
 by_cases hl:(aa σ.ents key).last=0
 ·obtain⟨j,A0,A6⟩:=h.look_no key hl;refine (yW M.g _ _ _ _ key j w A3 (h.kt _ hi).k A2 A1 A0 A6).mono ?_;rintro e w' ⟨p,rfl,hp,hE,hb⟩;refine⟨p,_,rfl,⟨?_,Or.inr ⟨λ a ha hm=>?_,rfl,hl⟩⟩,hb,Or.inr hp⟩
  ·rw[(df (λ E hE=>(h.ok E hE).last) hl).2];exact hE
  ·have:=(h.ent a ha p hm).lt;omega
 ·obtain⟨j,p,A0,A5,hp,A4⟩:=h.look_yes key hl;refine (wQ M.g _ _ _ _ key j p w A3 (h.kt _ hi).k A2 A1 A0 A5 hp (gL hc)).mono ?_;rintro e w' ⟨rfl,hb⟩;have hm:=List.mem_of_getElem? hp;refine⟨p,M.vs p,rfl,⟨?_,Or.inl ⟨hm,A4,rfl,hl⟩⟩,hb,Or.inl (Or.inr (Or.inr (Or.inr (Or.inl ⟨_,hi,hm⟩))))⟩;rw[<- A4];exact (h.ent _ hi p hm).below hb
def toV (l:List Ver)(h:∀ v∈l,v.num<1000000000000000/\v.time<1000000000000000/\v.body.length<1000000):List V:=l.attach.map λ x=>⟨x.1,h x.1 x.2⟩
theorem u3 (l:List Ver)(h:∀ v∈l,v.num<1000000000000000/\v.time<1000000000000000/\v.body.length<1000000):cC (toV l h)=l:=by
 unfold cC toV;rw[List.map_map];exact List.attach_map_subtype_val l
theorem kj (p:Nat)(E:Ent)(vs:Value)(w:World)(hE:al w p E vs)(hl:E.vers.length<=20)(hv:∀ v∈E.vers,v.num<1000000000000000/\v.time<1000000000000000/\v.body.length<1000000)(hT:Tbl w) :
 Calls Tryz.prog 89 #[.pointer (some ⟨p,0,none⟩)] w λ e w'=>e=.returned (.agg #[.int .i64 ((if E.vers=[] then 404 else 200:Nat):Int),.slice none 0 0,.string ⟨(if E.vers=[] then [] else E.vers.reverse.flatMap cg).toArray⟩])/\Below w.heap.size w w':=by
 by_cases h0:E.vers=[]
 ·rw[if_pos h0,if_pos h0];exact jD p E vs w hE h0
 ·rw[if_neg h0,if_neg h0];have hp:=u3 E.vers hv;have h1:=jG p E.key E.last vs (toV E.vers hv) w (by rw[hp];exact hE) (by simp[toV];omega) (λ e=>h0 (by rw[<- hp,e];rfl)) hT.z hT.b;rw[hp] at h1;exact h1
theorem un {E:Ent}{t:Tgt}{u:Ver}(h:d9 E t=some u):u∈E.vers:=by
 unfold d9 at h;split at h
 ·unfold ie at h;split at h
  ·cases h
  ·rename_i v hv;split at h
   ·cases h
   ·cases h;exact List.mem_of_find?_eq_some hv
 ·unfold aU at h;split at h
  ·cases h
  ·rename_i v hv;split at h
   ·cases h
   ·cases h;exact List.mem_of_getLast? hv
theorem ot {n:Int}{l:List UInt8}(h:Cal.IsStamp n l):l.length<=40:=by
 obtain⟨y,m,k,_,rfl⟩:=h;have h1:∀ s i,(Cal.nm s i).length<=3:=λ s i=>by unfold Cal.nm;rw[List.length_take];omega
 have h2:=h1 Cal.week (n/86400%7).toNat;have h3:=h1 Cal.months m;simp only[Cal.fmt,Cal.two,Cal.four,List.length_append,List.length_cons,List.length_nil];omega
theorem yY (n:Nat)(w:World)(hn:n<=253402300799)(hT:Tab w):Calls Tryz.prog 18 #[.int .i64 n] w λ e w'=>e=.returned (.string ⟨(bn n).toArray⟩)/\Below w.heap.size w w':=by
 refine (vF n w (by omega) (by omega) hT).mono ?_;rintro e w' ⟨⟨l,hl,rfl⟩,hb⟩;have hx:Cal.IsStamp (n:Int) (Classical.epsilon (Cal.IsStamp (n:Int))):=Classical.epsilon_spec ⟨l,hl⟩;have hs:bn n=l:=by unfold bn;rw[hx.uniq hl];exact List.take_of_length_le (ot hl)
 rw[hs];exact⟨rfl,hb⟩
structure Ans where
 told:Nat
 flds:List Fld
 body:List UInt8
noncomputable def eP (σ:St)(m:Nat)(t:Tgt)(k:Cnd)(body:List UInt8):Ans×St :=
 if t.kind=3 then (if (aa σ.ents t.key).vers=[] then ⟨404,[],[]⟩ else ⟨200,[],(aa σ.ents t.key).vers.reverse.flatMap cg⟩,σ)
 else if bB (isW m) k (d9 (aa σ.ents t.key) t)≠0 then (⟨bB (isW m) k (d9 (aa σ.ents t.key) t),[],[]⟩,σ)
 else if isW m then
  match ca σ t.key (bu (aa σ.ents t.key) m t body).1 (bu (aa σ.ents t.key) m t body).2.1 (bu (aa σ.ents t.key) m t body).2.2 with
  | (told,none)=>(⟨told,[],[]⟩,σ)
  | (told,some σ')=>(⟨told,if m=2 then [⟨[69,84,97,103],cD body⟩,⟨[86,101,114,115,105,111,110],Lib.decDigits (bu (aa σ.ents t.key) m t body).2.1⟩] else [⟨[86,101,114,115,105,111,110],Lib.decDigits (bu (aa σ.ents t.key) m t body).2.1⟩],[]⟩,σ')
 else match d9 (aa σ.ents t.key) t with
  | none=>(⟨404,[],[]⟩,σ)
  | some v=>(⟨200,bI v (bn v.time),if m=0 then v.body else []⟩,σ)
def Done (w w':World)(e:Ending)(s n:Nat)(rd:Int)(lk:Nat->Int)(M:Mem)(r:Ans×St):Prop :=
 ∃ fs M',e=.returned (.agg #[.int .i64 (r.1.told:Nat),fs,.string ⟨r.1.body.toArray⟩])/\w'.ownsRow 0 151 2 fs r.1.flds.length (cM r.1.flds)/\ak w' s n rd lk r.2 M'/\Off (M.own s n) w w'/\∀ k,M'.own s n k->M.own s n k\/w.heap.size<=k
theorem iK {w:World}{s n:Nat}{rd:Int}{lk:Nat->Int}{σ:St}{M:Mem}(h:ak w s n rd lk σ M){k:Nat}(hk:M.own s n k){c:Array Value}{f:Nat×Nat}:w.heap[k]?≠some (.cells c 100 f):=by
 intro e;rcases hk with rfl|rfl|⟨i,hi,hb⟩|⟨i,hi,hb⟩|⟨i,p,hi,hp,hb⟩|hb
 ·exact ad h.blk e (by decide) rfl
 ·obtain⟨cs,hc,_⟩:=h.row;exact ad hc e (by decide) rfl
 ·exact ai (h.kt i hi).k.row e (by decide) hb
 ·exact ad (h.ent i hi k hb).blk e (by decide) rfl
 ·exact ai (h.ent i hi p hp).row e (by decide) hb
 ·exact ai h.jrn e (by decide) hb
theorem gT {w:World}{s n:Nat}{rd:Int}{lk:Nat->Int}{σ:St}{M:Mem}(h:ak w s n rd lk σ M){k:Nat}(hk:M.own s n k):k<w.heap.size:=by
 rcases hk with rfl|rfl|⟨i,hi,hb⟩|⟨i,hi,hb⟩|⟨i,p,hi,hp,hb⟩|hb
 ·exact (gL h.blk)
 ·obtain⟨cs,hc,_⟩:=h.row;exact (gL hc)
 ·exact ((h.kt i hi).k.row.lt _ hb).2
 ·exact (h.ent i hi k hb).lt
 ·exact ((h.ent i hi p hp).row.lt _ hb).2
 ·exact (h.jrn.lt _ hb).2
theorem tI (p:Nat)(E:Ent)(vs:Value)(m:Nat)(t:Tgt)(wr:Bool)(c:Cst)(body:List UInt8)(w:World)(h:al w p E vs)(hl:E.last<4611686018427387904)(e1:∃ a n m,c.lm=.slice a n m)(e2:∃ a n m,c.ln=.slice a n m) :
 Calls Tryz.prog 93 #[gb m t wr c body,.pointer (some ⟨p,0,none⟩)] w λ e w'=>e=.returned (bt (bu E m t body).1 0 E.key (bu E m t body).2.1 (bu E m t body).2.2)/\Below w.heap.size w w':=by
 by_cases hm:m=2
 ·subst hm;exact tJ p E vs t wr c body w h hl e1 e2
 ·have A0:((m:Int)==2)=false:=beq_eq_false_iff_ne.2 (by omega);by_cases hk:t.kind=2
  ·(have hw:bu E m t body=(3,t.num,[]):=by simp[bu,hm,hk]);rw[hw];exact wu p E vs m t wr c body w h A0 (by rw[hk];rfl) e1 e2
  ·(have hw:bu E m t body=(2,E.last+1,[]):=by simp[bu,hm,hk]);rw[hw];exact qT p E vs m t wr c body w h A0 (beq_eq_false_iff_ne.2 (by omega)) hl e1 e2
theorem zC {E:Ent}{m:Nat}{t:Tgt}{body:List UInt8}{kd num:Nat}{bd:List UInt8}(h:bu E m t body=(kd,num,bd))(hl:E.last<140000000000000)(hbody:body.length<=400)(hnum:t.num<1000000000000000) :
 (kd=1\/kd=2\/kd=3)/\(kd≠3->num=E.last+1)/\num<1000000000000000/\bd.length<=400/\(kd=1 ↔ m=2)/\(kd=1->bd=body):=by
 unfold bu at h;split at h
 ·rename_i hm2;cases h;exact⟨Or.inl rfl,λ _=>rfl,by omega,hbody,⟨λ _=>hm2,λ _=>rfl⟩,λ _=>rfl⟩
 ·rename_i hm2;split at h
  ·cases h;exact⟨Or.inr (Or.inr rfl),λ h=>absurd rfl h,hnum,by simp,⟨λ h=>by omega,λ h=>absurd h hm2⟩,λ h=>by omega⟩
  ·cases h;exact⟨Or.inr (Or.inl rfl),λ _=>rfl,by omega,by simp,⟨λ h=>by omega,λ h=>absurd h hm2⟩,λ h=>by omega⟩
structure Rch (w w6:World)(s n:Nat)(rd:Int)(lk:Nat->Int)(i:Nat)(σ':St)(M:Mem)(a:World):Prop where
 ex:∃ M',ak a s n rd (λ j=>if j=i then 1 else lk j) σ' M'/\M'.g=M.g/\Off (M.own s n) w a/\(∀ k,M'.own s n k->M.own s n k\/w.heap.size<=k)/\Tbl a/\a.heap[w.heap.size+1]?=some (.cells #[.int .i64 0,.slice none 0 0,.string ⟨#[]⟩] 100 (0,0))
theorem Rch.tbl {w w6:World}{s n:Nat}{rd:Int}{lk:Nat->Int}{i:Nat}{σ':St}{M:Mem}{a:World}(h:Rch w w6 s n rd lk i σ' M a):Tbl a:=by
 obtain⟨_,_,_,_,_,h5,_⟩:=h.ex;exact h5
theorem Rch.off {w w6:World}{s n:Nat}{rd:Int}{lk:Nat->Int}{i:Nat}{σ':St}{M:Mem}{a b:World}(h:Rch w w6 s n rd lk i σ' M a)(hT:Tbl w6)(hw6:w.heap.size+1<w6.heap.size)(ho:Off (Loc w6.heap.size a) a b):Rch w w6 s n rd lk i σ' M b:=by
 obtain⟨M',h1,h2,h3,h4,h5,h6⟩:=h.ex;refine⟨M',h1.off ho (λ k hk hl=>?_),h2,h3.trans' ho (λ k hk hl=>?_),h4,h5.off ho (λ k hl=>hT.high hl.1),(ho.block _ (gL h6) (λ hl=>?_)).trans h6⟩
 ·obtain⟨_,c,f,e⟩:=hl;exact iK h1 hk e
 ·have:=hl.1;omega
 ·have:=hl.1;omega
theorem AC {w w6 y:World}{s n i p:Nat}{rd:Int}{lk:Nat->Int}{σ σ':St}{M:Mem}{told:Nat}{f:FuncId}{args:Array Value}(hS6:ak w6 s n rd (λ j=>if j=i then 1 else lk j) σ M)(hT6:Tbl w6)(hHi:∀ k,M.own s n k->ju k)(hO6:Off (M.own s n) w w6)(hP:M.own s n p\/w.heap.size<=p)
 (hZ6:w6.heap[w.heap.size+1]?=some (.cells #[.int .i64 0,.slice none 0 0,.string ⟨#[]⟩] 100 (0,0)))(hw6:w.heap.size+1<w6.heap.size)(hpe:∃ cp,w6.heap[p]?=some (.cells cp 230 (0,0)))(hTp:ju p)(hy:Below w6.heap.size w6 y)
 (hc:Calls Tryz.prog f args y λ e w'=>e=.returned (.tuple #[.int .i64 (told:Nat),.bool true])/\∃ M',Chd y w' s n rd (λ j=>if j=i then 1 else lk j) σ' M M' p) :
 Calls Tryz.prog f args y λ e w'=>e=.returned (.tuple #[.int .i64 told,.bool true])/\Rch w w6 s n rd lk i σ' M w'/\(∀ k,w6.heap.size<=k->k<y.heap.size->w'.heap[k]?=y.heap[k]?)/\y.heap.size<=w'.heap.size:=by
 refine hc.mono ?_;rintro e w' ⟨rfl,M',hd⟩;obtain⟨cp,hpe⟩:=hpe;have A1:p<w6.heap.size:=(gL hpe);refine⟨rfl,⟨M',hd.st,hd.g,(hO6.trans (Off.of_below hy)).trans' hd.off (λ k hk h=>?_),λ k hk=>?_,(hT6.below hy).off hd.off (λ k h=>?_),?_⟩,λ k h1 h2=>hd.off.block k h2 (λ h=>?_),hd.off.size⟩
 ·rcases h with h|h
  ·exact h
  ·rcases hP with h'|h'
   ·exact h ▸ h'
   ·omega
 ·have A0:=hy.size;rcases hd.own k hk with h|h|h
  ·exact Or.inl h
  ·right;omega
  ·exact h ▸ hP
 ·rcases h with h|h
  ·exact hHi k h
  ·exact h ▸ hTp
 ·refine (hd.off.block _ (Nat.lt_of_lt_of_le hw6 hy.size) (λ h=>?_)).trans ((hy.block _ hw6).trans hZ6);rcases h with h|h
  ·exact iK hS6 h hZ6
  ·exact ad hZ6 hpe (by decide) h
 ·rcases h with h|h
  ·have:=gT hS6 h;omega
  ·omega
theorem gB {w y:World}{s n i:Nat}{rd:Int}{lk:Nat->Int}{M M':Mem}{r:Ans×St}{fs:Value}(hi:i<n)(hlk:lk i=0)(hA:y.heap[w.heap.size+1]?=some (.cells #[.int .i64 0,.slice none 0 0,.string ⟨#[]⟩] 100 (0,0)))
 (hS:ak y s n rd (λ j=>if j=i then 1 else lk j) r.2 M')(hg:M'.g=M.g)(hof:Off (M.own s n) w y)(hown:∀ k,M'.own s n k->M.own s n k\/w.heap.size<=k)(hrow:y.ownsRow 0 151 2 fs r.1.flds.length (cM r.1.flds)) :
 (((y.setCell ⟨w.heap.size+1,0,none⟩ (.int .i64 (r.1.told:Nat))).setCell ⟨w.heap.size+1,1,none⟩ fs).setCell ⟨w.heap.size+1,2,none⟩ (.string ⟨r.1.body.toArray⟩)).cell? ⟨M.g,i*3,none⟩=some (.int .i32 1) /\
 (((y.setCell ⟨w.heap.size+1,0,none⟩ (.int .i64 (r.1.told:Nat))).setCell ⟨w.heap.size+1,1,none⟩ fs).setCell ⟨w.heap.size+1,2,none⟩ (.string ⟨r.1.body.toArray⟩)).frozen? ⟨M.g,i*3,none⟩=false /\
 ((((y.setCell ⟨w.heap.size+1,0,none⟩ (.int .i64 (r.1.told:Nat))).setCell ⟨w.heap.size+1,1,none⟩ fs).setCell ⟨w.heap.size+1,2,none⟩ (.string ⟨r.1.body.toArray⟩)).setCell ⟨M.g,i*3,none⟩ (.int .i32 0)).heap[w.heap.size+1]?=some (.cells #[.int .i64 (r.1.told:Nat),fs,.string ⟨r.1.body.toArray⟩] 100 (0,0)) /\
 Done w ((((y.setCell ⟨w.heap.size+1,0,none⟩ (.int .i64 (r.1.told:Nat))).setCell ⟨w.heap.size+1,1,none⟩ fs).setCell ⟨w.heap.size+1,2,none⟩ (.string ⟨r.1.body.toArray⟩)).setCell ⟨M.g,i*3,none⟩ (.int .i32 0)) (.returned (.agg #[.int .i64 (r.1.told:Nat),fs,.string ⟨r.1.body.toArray⟩])) s n rd lk M r:=by
 obtain⟨Y,hY⟩:∃ Y,Y=(((y.setCell ⟨w.heap.size+1,0,none⟩ (.int .i64 (r.1.told:Nat))).setCell ⟨w.heap.size+1,1,none⟩ fs).setCell ⟨w.heap.size+1,2,none⟩ (.string ⟨r.1.body.toArray⟩)):=⟨_,rfl⟩;rw[<- hY];have A5:Y.heap[w.heap.size+1]?=some (.cells #[.int .i64 (r.1.told:Nat),fs,.string ⟨r.1.body.toArray⟩] 100 (0,0)):=by rw[hY,ah (ah (ah hA))];rfl
 have A2:Off (λ k=>k=w.heap.size+1) y Y:=by rw[hY];exact (((Off.refl (λ k=>k=w.heap.size+1) _).set _ 0 _ (Or.inl rfl)).set _ 1 _ (Or.inl rfl)).set _ 2 _ (Or.inl rfl)
 have A6:ak Y s n rd (λ j=>if j=i then 1 else lk j) r.2 M':=hS.off A2 (λ k hk e=>iK hS hk (e ▸ hA));obtain⟨cs,hc,hr⟩:=A6.row;rw[hg] at hc;have A7:w.heap.size+1≠M.g:=ad A5 hc (by decide);refine⟨?_,by simp[World.frozen?,hc],(ax A7).trans A5,fs,M',rfl,?_,?_,?_,hown⟩
 ·simp only[World.cell?,hc];simp[(hr i hi).1]
 ·have A4:Y.ownsRow 0 151 2 fs r.1.flds.length (cM r.1.flds):=by
   refine⟨hrow.1,?_⟩;rcases hrow.2 with h0|⟨g,A3,A1,hv,h1,A0,h2⟩
   ·exact Or.inl h0
   ·exact Or.inr ⟨g,A3,A1,hv,h1,(A2.block g (gL A0) (ad A0 hA (by decide))).trans A0,h2⟩
  refine⟨A4.1,?_⟩;rcases A4.2 with h0|⟨g,A3,A1,hv,h1,A0,h2⟩
  ·exact Or.inl h0
  ·exact Or.inr ⟨g,A3,A1,hv,h1,(ax (ad A0 hc (by decide))).trans A0,h2⟩
 ·have:=A6.lock i hi 0;rw[hg] at this;have e:(λ j=>if j=i then (0:Int) else if j=i then 1 else lk j)=lk:=by
   funext j;by_cases h:j=i
   ·simp[h,hlk]
   ·simp[h]
  rw[e] at this;exact this
 ·exact (hof.trans' A2 (λ k hk e=>by omega)).set M.g _ _ (Or.inl (Or.inr (Or.inl rfl)))
theorem sR {s n:Nat}{rd:Int}{lk:Nat->Int}{σ:St}{M:Mem}(m:Nat)(t:Tgt)(c:Cst)(body:List UInt8)(w:World)(h:ak w s n rd lk σ M)(hlk:lk (ao t.key%n)=0)(k:Cnd)(g0:Nat)(hR:Rq w g0 c k)(hg0:g0<=w.heap.size)(hMg:M.g<=g0)(hT:Tbl w)(hHi:∀ k,M.own s n k->ju k)(hkey:aA t.key=true)(hbody:body.length<=400)(hnum:t.num<1000000000000000)(hlog:σ.log.length<140000000000000) :
 Calls Tryz.prog 46 #[.pointer (some ⟨s,0,none⟩),gb m t (isW m) c body,fD s] w λ e w'=>Done w w' e s n rd lk M (eP σ m t k body):=by
 have Cy:t.key.length<1000000:=by unfold aA at hkey;simp at hkey;omega
 obtain⟨rr,By⟩:∃ x,eP σ m t k body=x:=⟨_,rfl⟩;rw[By];have A5:Hid _:=By;clear By;have e1:=hR.m.list.2.2.2;have e2:=hR.n.list.2.2.2;obtain⟨a1,m1,p1,e1⟩:=e1;obtain⟨a2,m2,p2,e2⟩:=e2;unfold gb;rw[e1,e2];obtain⟨i,A6⟩:∃ i,ao t.key%n=i:=⟨_,rfl⟩;have hi:i<n:=by rw[<- A6];exact Nat.mod_lt _ h.n1
 have HH:Hid _:=h;clear h;go_enter_defers Tryz.func46,Tryz.ntmps46;go_wp2_with fail;obtain⟨X,hX⟩:∃ X,X=((w.alloc (.cells #[.int .i64 (m:Int),.int .i64 (t.kind:Int),.string ⟨t.key.toArray⟩,.int .i64 (t.num:Int),.bool (isW m),.bool c.hm,.bool c.am,.slice a1 m1 p1,.bool c.hn,.bool c.an,.slice a2 m2 p2,.bool c.hs,.int .i64 c.si,.bool c.hu,.int .i64 c.ul,.bool false,.string ⟨#[]⟩,.int .i64 0,.string ⟨body.toArray⟩] 95)).alloc (.cells #[.int .i64 0,.slice none 0 0,.string ⟨#[]⟩] 100)):=⟨_,rfl⟩;rw[<- hX];have Bi:Below w.heap.size w X:=by rw[hX];exact ((Below.refl _ _).alloc (Nat.le_refl _) _).alloc (by simp) _
 have hQ:X.heap[w.heap.size]?=some (.cells #[.int .i64 (m:Int),.int .i64 (t.kind:Int),.string ⟨t.key.toArray⟩,.int .i64 (t.num:Int),.bool (isW m),.bool c.hm,.bool c.am,.slice a1 m1 p1,.bool c.hn,.bool c.an,.slice a2 m2 p2,.bool c.hs,.int .i64 c.si,.bool c.hu,.int .i64 c.ul,.bool false,.string ⟨#[]⟩,.int .i64 0,.string ⟨body.toArray⟩] 95 (0,0)):=by rw[hX];exact (heap_alloc_old _ _ (by simp)).trans (heap_alloc_new _ _)
 have hZ:X.heap[w.heap.size+1]?=some (.cells #[.int .i64 0,.slice none 0 0,.string ⟨#[]⟩] 100 (0,0)):=by rw[hX];have:=heap_alloc_new (w.alloc (.cells #[.int .i64 (m:Int),.int .i64 (t.kind:Int),.string ⟨t.key.toArray⟩,.int .i64 (t.num:Int),.bool (isW m),.bool c.hm,.bool c.am,.slice a1 m1 p1,.bool c.hn,.bool c.an,.slice a2 m2 p2,.bool c.hs,.int .i64 c.si,.bool c.hu,.int .i64 c.ul,.bool false,.string ⟨#[]⟩,.int .i64 0,.string ⟨body.toArray⟩] 95)) (.cells #[.int .i64 0,.slice none 0 0,.string ⟨#[]⟩] 100);simpa using this
 have Cr:w.heap.size+1<X.heap.size:=(gL hZ);clear hX;generalize (Value.agg #[.int .i64 (m:Int),.int .i64 (t.kind:Int),.string ⟨t.key.toArray⟩,.int .i64 (t.num:Int),.bool (isW m),.bool c.hm,.bool c.am,.slice a1 m1 p1,.bool c.hn,.bool c.an,.slice a2 m2 p2,.bool c.hs,.int .i64 c.si,.bool c.hu,.int .i64 c.ul,.bool false,.string ⟨#[]⟩,.int .i64 0,.string ⟨body.toArray⟩])=Qv;have Br:=HH.out.below Bi;have C7:X.cell? ⟨s,6,none⟩=some (.slice (some ⟨M.g,0,none⟩) n M.cap):=by simp[World.cell?,Br.blk,az]
 have HQ:Hid _:=hQ;have HZ:Hid _:=hZ;have B2:Hid _:=Br;have HL:Hid _:=Bi;clear hQ hZ Br Bi;refine (j6 s M.g n M.cap t.key X C7 B2.out.n1 B2.out.n8 Cy).mono ?_;rintro e w1 ⟨rfl,As⟩;rw[A6];have Bh:=B2.out.below As;obtain⟨cs,hc,hr⟩:=Bh.row;have Bk:lk i=0:=by rw[<- A6];exact hlk
 have l0:w1.cell? ⟨M.g,i*3,none⟩=some (.int .i32 0):=by simp only[World.cell?,hc];simp[(hr i hi).1,Bk]
 have lf:w1.frozen? ⟨M.g,i*3,none⟩=false:=by simp[World.frozen?,hc]
 have Cs:Hid _:=Bh;have B7:Hid _:=As;have Cv:M.g≠w.heap.size:=ad hc ((As.block _ (by omega)).trans HQ.out) (by decide);have D0:M.g≠w.heap.size+1:=ad hc ((As.block _ Cr).trans HZ.out) (by decide);clear As Bh hc hr C7 cs;go_wp2_with (go_at_call 83;refine (lock_free Tryz.muLib ⟨M.g,i*3,none⟩ _ l0 lf).mono ?_;rintro e w2 ⟨rfl,Bg⟩;have At:w2.heap[w.heap.size]?=some (.cells #[.int .i64 (m:Int),.int .i64 (t.kind:Int),.string ⟨t.key.toArray⟩,.int .i64 (t.num:Int),.bool (isW m),.bool c.hm,.bool c.am,.slice a1 m1 p1,.bool c.hn,.bool c.an,.slice a2 m2 p2,.bool c.hs,.int .i64 c.si,.bool c.hu,.int .i64 c.ul,.bool false,.string ⟨#[]⟩,.int .i64 0,.string ⟨body.toArray⟩] 95 (0,0)):=(by rw[Bg,ax Cv.symm];exact (B7.out.block _ (by omega)).trans HQ.out);have q0:w2.cell? ⟨w.heap.size,0,none⟩=some (.int .i64 (m:Int)):=(by simp[World.cell?,At]);have q1:w2.cell? ⟨w.heap.size,1,none⟩=some (.int .i64 (t.kind:Int)):=(by simp[World.cell?,At]);have q2:w2.cell? ⟨w.heap.size,2,none⟩=some (.string ⟨t.key.toArray⟩):=(by simp[World.cell?,At]);have Aw:Hid _:=Bg;have Cn:Hid _:=At;clear Bg At l0 lf);have Bn:ak w2 s n rd (λ j=>if j=i then 1 else lk j) σ M:=by rw[Aw.out];exact Cs.out.lock i hi 1
 have B6:Below X.heap.size X w1:=B7.out;have Ck:Rq w2 g0 c k:=by rw[Aw.out];exact ((hR.below hg0 HL.out).below (Nat.le_trans hg0 HL.out.size) B6).set (by omega)
 have Cm:Tbl w2:=by rw[Aw.out];exact ((hT.below HL.out).below B6).off ((Off.refl (λ k=>k=M.g) _).set M.g _ _ (Or.inl rfl)) (λ k e=>e ▸ hHi _ (Or.inr (Or.inl rfl)))
 have Bx:w2.heap[w.heap.size+1]?=some (.cells #[.int .i64 0,.slice none 0 0,.string ⟨#[]⟩] 100 (0,0)):=by rw[Aw.out,ax D0.symm];exact (B7.out.block _ Cr).trans HZ.out
 have Ce:Off (M.own s n) w w2:=by rw[Aw.out];exact (Off.of_below (HL.out.trans (B6.mono HL.out.size))).set M.g _ _ (Or.inl (Or.inr (Or.inl rfl)))
 have C1:=mR t.key w2 Bn;rw[A6] at C1;refine C1.mono ?_;rintro e w3 ⟨p,vs,rfl,hF,Ac,Cj⟩;have Ai:w.heap.size+1<w2.heap.size:=(gL Bx);have Am:w3.heap[w.heap.size]?=some (.cells #[.int .i64 (m:Int),.int .i64 (t.kind:Int),.string ⟨t.key.toArray⟩,.int .i64 (t.num:Int),.bool (isW m),.bool c.hm,.bool c.am,.slice a1 m1 p1,.bool c.hn,.bool c.an,.slice a2 m2 p2,.bool c.hs,.int .i64 c.si,.bool c.hu,.int .i64 c.ul,.bool false,.string ⟨#[]⟩,.int .i64 0,.string ⟨body.toArray⟩] 95 (0,0)):=(Ac.block _ (by omega)).trans Cn.out;have Ci:Hid _:=Am;have C8:Hid _:=(Ac.block _ Ai).trans Bx;have B9:Hid _:=Bn.below Ac;have Dg:Hid _:=Ck.below (Nat.le_trans hg0 (by omega)) Ac;have Bz:Hid (Tbl w3):=Cm.below Ac;have Cl:Hid (Off (M.own s n) w w3):=Ce.trans (Off.of_below Ac);have Ar:Hid _:=hF;have HP:Hid (M.own s n p\/w.heap.size<=p):=Cj.imp_right (λ h=>by omega);have Aa:w.heap.size+1<w3.heap.size:=Nat.lt_of_lt_of_le Ai Ac.size;have q0:w3.cell? ⟨w.heap.size,0,none⟩=some (.int .i64 (m:Int)):=by simp[World.cell?,Am]
 have q1:w3.cell? ⟨w.heap.size,1,none⟩=some (.int .i64 (t.kind:Int)):=by simp[World.cell?,Am]
 have q2:w3.cell? ⟨w.heap.size,2,none⟩=some (.string ⟨t.key.toArray⟩):=by simp[World.cell?,Am]
 have q3:w3.cell? ⟨w.heap.size,3,none⟩=some (.int .i64 (t.num:Int)):=by simp[World.cell?,Am]
 clear C1 Bn B6 Ck Cm Bx Ce Ac hF Cj Am HQ HZ B2 Cs B7 Cn Ai;by_cases hkd:t.kind=3
 ·(have Bd:((t.kind:Int)==3)=true:=by rw[hkd];rfl);obtain⟨f1,f2,f3,f4,f5,f6⟩:=B9.out.found Ar.out;have C4:=kj p (aa σ.ents t.key) vs w3 Ar.out.ent f5 (λ v hv=>⟨by have:=f1 v hv;omega,by have:=f3 v hv;omega,by have:=f4 v hv;omega⟩) Bz.out;obtain⟨td,C3⟩:∃ x:Nat,(if (aa σ.ents t.key).vers=[] then 404 else 200)=x:=⟨_,rfl⟩;obtain⟨bd,Al⟩:∃ x,(if (aa σ.ents t.key).vers=[] then [] else (aa σ.ents t.key).vers.reverse.flatMap cg)=x:=⟨_,rfl⟩;(have Au:eP σ m t k body=(⟨td,[],bd⟩,σ):=by rw[<- C3,<- Al];unfold eP;rw[if_pos hkd];split<;>rfl);have A4:Hid (rr=(⟨td,[],bd⟩,σ)):=A5.out.symm.trans Au;rw[C3,Al] at C4;have D9:Hid _:=C4;clear C4 C3 Al Au f1 f2 f3 f4 f5 f6;go_wp2_with fail;refine Calls.mono D9.out ?_;rintro e y ⟨rfl,A1⟩;have A0:=(A1.block _ Aa).trans C8.out;(have a0:y.cell? ⟨w.heap.size+1,0,none⟩=some (.int .i64 0):=by simp[World.cell?,A0]);(have a1:y.cell? ⟨w.heap.size+1,1,none⟩=some (.slice none 0 0):=by simp[World.cell?,A0]);(have a2:y.cell? ⟨w.heap.size+1,2,none⟩=some (.string ⟨#[]⟩):=by simp[World.cell?,A0]);(have Ao:y.frozen? ⟨w.heap.size+1,0,none⟩=false:=by simp[World.frozen?,A0]);(have Aj:y.frozen? ⟨w.heap.size+1,1,none⟩=false:=by simp[World.frozen?,A0]);(have Aq:y.frozen? ⟨w.heap.size+1,2,none⟩=false:=by simp[World.frozen?,A0]);have HE:Hid _:=gB (w:=w) (i:=i) (lk:=lk) (M:=M) (M':=M) (r:=(⟨td,[],bd⟩,σ)) (fs:=.slice none 0 0) hi (by rw[<- A6];exact hlk) A0 (B9.out.below A1) rfl (Cl.out.trans (Off.of_below A1)) (λ _ h=>Or.inl h) ⟨rfl,Or.inl ⟨rfl,rfl⟩⟩;clear A0;go_wp2;refine leaves_cons (f:=84) (args:=#[.pointer (some ⟨M.g,i*3,none⟩)]) (by simp) (by simp[go_sem]) ?_;refine (unlock_deferred Tryz.muLib ⟨M.g,i*3,none⟩ .returning _ HE.out.1 HE.out.2.1).mono ?_;rintro e u' Ap ⟨rfl,rfl,rfl⟩;exact⟨_,aq Tryz.results46 _ _ (w.heap.size+1) 100 _ (0,0) _ rfl HE.out.2.2.1 Tryz.underlying100 rfl dW,by rw[A4.out];exact HE.out.2.2.2⟩
 ·have Bd:((t.kind:Int)==3)=false:=beq_eq_false_iff_ne.2 (by omega);obtain⟨f1,f2,f3,f4,f5,f6⟩:=B9.out.found Ar.out;go_wp2_with fail;refine (yU p (aa σ.ents t.key) vs t w3 Ar.out.ent (by omega)).mono ?_;rintro e w4 ⟨⟨v,rfl,hv⟩,B3⟩;have A3:w4.heap[w.heap.size]?=some (.cells #[.int .i64 (m:Int),.int .i64 (t.kind:Int),.string ⟨t.key.toArray⟩,.int .i64 (t.num:Int),.bool (isW m),.bool c.hm,.bool c.am,.slice a1 m1 p1,.bool c.hn,.bool c.an,.slice a2 m2 p2,.bool c.hs,.int .i64 c.si,.bool c.hu,.int .i64 c.ul,.bool false,.string ⟨#[]⟩,.int .i64 0,.string ⟨body.toArray⟩] 95 (0,0)):=(B3.block _ (by omega)).trans Ci.out;have Db:Hid _:=A3;obtain⟨o,Bq⟩:∃ x,d9 (aa σ.ents t.key) t=x:=⟨_,rfl⟩;rw[Bq] at hv ⊢;have Cg:Hid _:=Bq;have HV:Hid _:=hv;have Bp:Hid _:=B3;have Be:w.heap.size+1<w4.heap.size:=Nat.lt_of_lt_of_le Aa B3.size;(have D2:w.heap.size<w4.heap.size:=by omega);unfold aW;(have r4:w4.cell? ⟨w.heap.size,4,none⟩=some (.bool (isW m)):=by simp[World.cell?,A3]);(have r5:w4.cell? ⟨w.heap.size,5,none⟩=some (.bool c.hm):=by simp[World.cell?,A3]);(have r6:w4.cell? ⟨w.heap.size,6,none⟩=some (.bool c.am):=by simp[World.cell?,A3]);(have r7:w4.cell? ⟨w.heap.size,7,none⟩=some (.slice a1 m1 p1):=by simp[World.cell?,A3]);(have r8:w4.cell? ⟨w.heap.size,8,none⟩=some (.bool c.hn):=by simp[World.cell?,A3]);(have r9:w4.cell? ⟨w.heap.size,9,none⟩=some (.bool c.an):=by simp[World.cell?,A3]);(have D3:w4.cell? ⟨w.heap.size,10,none⟩=some (.slice a2 m2 p2):=by simp[World.cell?,A3]);(have Cu:w4.cell? ⟨w.heap.size,11,none⟩=some (.bool c.hs):=by simp[World.cell?,A3]);(have Cw:w4.cell? ⟨w.heap.size,12,none⟩=some (.int .i64 c.si):=by simp[World.cell?,A3]);(have Di:w4.cell? ⟨w.heap.size,13,none⟩=some (.bool c.hu):=by simp[World.cell?,A3]);(have De:w4.cell? ⟨w.heap.size,14,none⟩=some (.int .i64 c.ul):=by simp[World.cell?,A3]);(have D7:w4.cell? ⟨w.heap.size,15,none⟩=some (.bool false):=by simp[World.cell?,A3]);(have Cx:w4.cell? ⟨w.heap.size,16,none⟩=some (.string ⟨#[]⟩):=by simp[World.cell?,A3]);(have D5:w4.cell? ⟨w.heap.size,17,none⟩=some (.int .i64 0):=by simp[World.cell?,A3]);clear A3 Bq hv B3 q0 q1 q2 q3;go_wp2_with fail;have Ax:Below w3.heap.size w3 (w4.alloc (.cells #[.int .i64 v.num,.int .i64 v.time,.bool v.mark,.string ⟨v.body.toArray⟩] 174)):=Bp.out.alloc Bp.out.size _;have Bv:∀ u,o=some u->u∈(aa σ.ents t.key).vers:=λ u hu=>un (Cg.out.trans hu);have B5:=vB (isW m) c k g0 v o (w4.alloc (.cells #[.int .i64 v.num,.int .i64 v.time,.bool v.mark,.string ⟨v.body.toArray⟩] 174)) (Dg.out.below (Nat.le_trans hg0 (by omega)) Ax) HV.out (Bz.out.below Ax).z (λ u hu=>f4 u (Bv u hu));unfold eH aW at B5;rw[e1,e2] at B5;refine Calls.mono B5 ?_;rintro e w5 ⟨rfl,C0⟩;have Ak:w5.heap[w4.heap.size]?=some (.cells #[.int .i64 v.num,.int .i64 v.time,.bool v.mark,.string ⟨v.body.toArray⟩] 174 (0,0)):=(C0.block _ (by simp)).trans (heap_alloc_new _ _);have Ad:Below w3.heap.size w3 w5:=Ax.trans (C0.mono Ax.size);have Bb:w5.heap[w.heap.size]?=some (.cells #[.int .i64 (m:Int),.int .i64 (t.kind:Int),.string ⟨t.key.toArray⟩,.int .i64 (t.num:Int),.bool (isW m),.bool c.hm,.bool c.am,.slice a1 m1 p1,.bool c.hn,.bool c.an,.slice a2 m2 p2,.bool c.hs,.int .i64 c.si,.bool c.hu,.int .i64 c.ul,.bool false,.string ⟨#[]⟩,.int .i64 0,.string ⟨body.toArray⟩] 95 (0,0)):=(Ad.block _ (by omega)).trans Ci.out;have Cf:Hid _:=Bb;have Df:Hid _:=Ak;have B8:Hid _:=(Ad.block _ Aa).trans C8.out;have B4:Hid _:=B9.out.below Ad;have Bc:Hid (Tbl w5):=Bz.out.below Ad;have Ba:Hid (Off (M.own s n) w w5):=Cl.out.trans (Off.of_below Ad);have Cd:Hid _:=Ar.out.below Ad;have D1:Hid _:=Bv;have A7:w.heap.size+1<w5.heap.size:=Nat.lt_of_lt_of_le Aa Ad.size;(have Dl:w.heap.size<w5.heap.size:=by omega);(have p0:w5.cell? ⟨w.heap.size,0,none⟩=some (.int .i64 (m:Int)):=by simp[World.cell?,Bb]);(have p4:w5.cell? ⟨w.heap.size,4,none⟩=some (.bool (isW m)):=by simp[World.cell?,Bb]);(have v0:w5.cell? ⟨w4.heap.size,0,none⟩=some (.int .i64 v.num):=by simp[World.cell?,Ak]);(have v1:w5.cell? ⟨w4.heap.size,1,none⟩=some (.int .i64 v.time):=by simp[World.cell?,Ak]);(have v2:w5.cell? ⟨w4.heap.size,2,none⟩=some (.bool v.mark):=by simp[World.cell?,Ak]);(have v3:w5.cell? ⟨w4.heap.size,3,none⟩=some (.string ⟨v.body.toArray⟩):=by simp[World.cell?,Ak]);clear B5 Ax Bv C0 Ak Ad Bb r4 r5 r6 r7 r8 r9 D3 Cu Cw Di De D7 Cx D5 Db Bp D2 Be;obtain⟨cf,Bw⟩:∃ x,bB (isW m) k o=x:=⟨_,rfl⟩;rw[Bw];have D8:Hid _:=Bw;clear Bw
  have A2:Hid (eP σ m t k body=if cf≠0 then (⟨cf,[],[]⟩,σ) else if isW m then
   (match ca σ t.key (bu (aa σ.ents t.key) m t body).1 (bu (aa σ.ents t.key) m t body).2.1 (bu (aa σ.ents t.key) m t body).2.2 with
   | (told,none)=>(⟨told,[],[]⟩,σ)
   | (told,some σ')=>(⟨told,if m=2 then [⟨[69,84,97,103],cD body⟩,⟨[86,101,114,115,105,111,110],Lib.decDigits (bu (aa σ.ents t.key) m t body).2.1⟩] else [⟨[86,101,114,115,105,111,110],Lib.decDigits (bu (aa σ.ents t.key) m t body).2.1⟩],[]⟩,σ'))
   else match o with
    | none=>(⟨404,[],[]⟩,σ)
    | some v=>(⟨200,bI v (bn v.time),if m=0 then v.body else []⟩,σ)):=by
   show _=_;unfold eP;rw[if_neg hkd,Cg.out,D8.out]
  by_cases hcf0:cf≠0
  ·have Da:((cf:Int)==0)=false:=beq_eq_false_iff_ne.2 (by omega);have A4:Hid (rr=(⟨cf,[],[]⟩,σ)):=A5.out.symm.trans (by rw[A2.out,if_pos hcf0]);go_wp2_with fail;refine (fq cf _).mono ?_;rintro e y ⟨rfl,A1⟩;have A0:=(A1.block _ A7).trans B8.out;(have a0:y.cell? ⟨w.heap.size+1,0,none⟩=some (.int .i64 0):=by simp[World.cell?,A0]);(have a1:y.cell? ⟨w.heap.size+1,1,none⟩=some (.slice none 0 0):=by simp[World.cell?,A0]);(have a2:y.cell? ⟨w.heap.size+1,2,none⟩=some (.string ⟨#[]⟩):=by simp[World.cell?,A0]);(have Ao:y.frozen? ⟨w.heap.size+1,0,none⟩=false:=by simp[World.frozen?,A0]);(have Aj:y.frozen? ⟨w.heap.size+1,1,none⟩=false:=by simp[World.frozen?,A0]);(have Aq:y.frozen? ⟨w.heap.size+1,2,none⟩=false:=by simp[World.frozen?,A0]);have HE:Hid _:=gB (w:=w) (i:=i) (lk:=lk) (M:=M) (M':=M) (r:=(⟨cf,[],[]⟩,σ)) (fs:=.slice none 0 0) hi (by rw[<- A6];exact hlk) A0 (B4.out.below A1) rfl (Ba.out.trans (Off.of_below A1)) (λ _ h=>Or.inl h) ⟨rfl,Or.inl ⟨rfl,rfl⟩⟩;clear A0;go_wp2;refine leaves_cons (f:=84) (args:=#[.pointer (some ⟨M.g,i*3,none⟩)]) (by simp) (by simp[go_sem]) ?_;refine (unlock_deferred Tryz.muLib ⟨M.g,i*3,none⟩ .returning _ HE.out.1 HE.out.2.1).mono ?_;rintro e u' Ap ⟨rfl,rfl,rfl⟩;exact⟨_,aq Tryz.results46 _ _ (w.heap.size+1) 100 _ (0,0) _ rfl HE.out.2.2.1 Tryz.underlying100 rfl dW,by rw[A4.out];exact HE.out.2.2.2⟩
  ·have Bt:cf=0:=Classical.not_not.1 hcf0;subst Bt;cases hw:isW m with
   | true =>
     rw[hw] at p4;have Av:=tI p (aa σ.ents t.key) vs m t true c body w5 Cd.out.ent (by omega) ⟨_,_,_,e1⟩ ⟨_,_,_,e2⟩;unfold gb at Av;rw[e1,e2,cF] at Av;obtain⟨kd,num,bd,B1⟩:∃ a b c,bu (aa σ.ents t.key) m t body=(a,b,c):=⟨_,_,_,rfl⟩;rw[B1] at Av;have Ab:=zC B1 (hnum:=hnum) (by omega:(aa σ.ents t.key).last<140000000000000) hbody;have Cc:Hid _:=Av;(have B0:Hid (w5.heap[w.heap.size]?=some (.cells #[.int .i64 (m:Int),.int .i64 (t.kind:Int),.string ⟨t.key.toArray⟩,.int .i64 (t.num:Int),.bool true,.bool c.hm,.bool c.am,.slice a1 m1 p1,.bool c.hn,.bool c.an,.slice a2 m2 p2,.bool c.hs,.int .i64 c.si,.bool c.hu,.int .i64 c.ul,.bool false,.string ⟨#[]⟩,.int .i64 0,.string ⟨body.toArray⟩] 95 (0,0))):=by have:=Cf.out;rw[hw] at this;exact this);clear Av;go_wp2_with (refine wpList_load_row rfl 95 (.tmp 4) rfl w.heap.size rfl 95 #[.int .i64 (m:Int),.int .i64 (t.kind:Int),.string ⟨t.key.toArray⟩,.int .i64 (t.num:Int),.bool true,.bool c.hm,.bool c.am,.slice a1 m1 p1,.bool c.hn,.bool c.an,.slice a2 m2 p2,.bool c.hs,.int .i64 c.si,.bool c.hu,.int .i64 c.ul,.bool false,.string ⟨#[]⟩,.int .i64 0,.string ⟨body.toArray⟩] (0,0) _ B0.out Tryz.underlying95 rfl dL ?_);refine Calls.mono Cc.out ?_;rintro e w6 ⟨rfl,Af⟩;have Ch:=(Af.block _ A7).trans B8.out;have A8:w.heap.size+1<w6.heap.size:=Nat.lt_of_lt_of_le A7 Af.size;have Ct:=B4.out.below Af;have C6:Tbl w6:=Bc.out.below Af;have C9:Off (M.own s n) w w6:=Ba.out.trans (Off.of_below Af);have Bo:=Cd.out.below Af;have An:∀ y,Below w6.heap.size w6 y->_:=λ y hy=>pK t.key p vs kd 0 num bd y (Ct.below hy) (Bo.below hy) Ab.1 Ab.2.1 Ab.2.2.1 hkey Ab.2.2.2.1 hlog;rw[A6] at An;have Bl:∃ cp,w6.heap[p]?=some (.cells cp 230 (0,0)):=⟨_,Bo.ent.blk⟩;have D6:ju p:=HP.out.elim (hHi p) (λ h=>hT.high h);have Ca:Hid _:=Ch;have Cb:Hid _:=Ct;have Co:Hid _:=C9;have Cp:Hid (kd=1 ↔ m=2):=Ab.2.2.2.2.1;have Dk:Hid (kd=1->bd=body):=Ab.2.2.2.2.2;have Ae:=Ab.2.2.1;have D4:=Ab.2.2.2.1;clear Af Ch C9 Bo Cf B0 Cc Df v0 v1 v2 v3 p0 p4 Ab;rcases hcg:ca σ t.key kd num bd with ⟨told,_|σ'⟩
     ·have A4:Hid (rr=(⟨told,[],[]⟩,σ)):=A5.out.symm.trans (by rw[A2.out,if_neg (by simp),if_pos hw,B1];simp only[hcg]);have Cq:=oS M.g (i*3) p s kd 0 num told t.key bd w6 (λ y hy=>by
       have:=An y hy;rw[hcg] at this
       exact this)
      have Dj:Hid _:=Cq;clear Cq An;go_wp2_with fail;refine Calls.mono Dj.out ?_;rintro e y ⟨rfl,A1⟩;have A0:=(A1.block _ A8).trans Ca.out;(have a0:y.cell? ⟨w.heap.size+1,0,none⟩=some (.int .i64 0):=by simp[World.cell?,A0]);(have a1:y.cell? ⟨w.heap.size+1,1,none⟩=some (.slice none 0 0):=by simp[World.cell?,A0]);(have a2:y.cell? ⟨w.heap.size+1,2,none⟩=some (.string ⟨#[]⟩):=by simp[World.cell?,A0]);(have Ao:y.frozen? ⟨w.heap.size+1,0,none⟩=false:=by simp[World.frozen?,A0]);(have Aj:y.frozen? ⟨w.heap.size+1,1,none⟩=false:=by simp[World.frozen?,A0]);(have Aq:y.frozen? ⟨w.heap.size+1,2,none⟩=false:=by simp[World.frozen?,A0]);have HE:Hid _:=gB (w:=w) (i:=i) (lk:=lk) (M:=M) (M':=M) (r:=(⟨told,[],[]⟩,σ)) (fs:=.slice none 0 0) hi (by rw[<- A6];exact hlk) A0 (Cb.out.below A1) rfl (Co.out.trans (Off.of_below A1)) (λ _ h=>Or.inl h) ⟨rfl,Or.inl ⟨rfl,rfl⟩⟩;clear A0;go_wp2;refine leaves_cons (f:=84) (args:=#[.pointer (some ⟨M.g,i*3,none⟩)]) (by simp) (by simp[go_sem]) ?_;refine (unlock_deferred Tryz.muLib ⟨M.g,i*3,none⟩ .returning _ HE.out.1 HE.out.2.1).mono ?_;rintro e u' Ap ⟨rfl,rfl,rfl⟩;exact⟨_,aq Tryz.results46 _ _ (w.heap.size+1) 100 _ (0,0) _ rfl HE.out.2.2.1 Tryz.underlying100 rfl dW,by rw[A4.out];exact HE.out.2.2.2⟩
     ·have A4:Hid (rr=(⟨told,if m=2 then [⟨[69,84,97,103],cD body⟩,⟨[86,101,114,115,105,111,110],Lib.decDigits num⟩] else [⟨[86,101,114,115,105,111,110],Lib.decDigits num⟩],[]⟩,σ')):=A5.out.symm.trans (by rw[A2.out,if_neg (by simp),if_pos hw,B1];simp only[hcg]);have A9:=λ y hy=>AC (w:=w) (w6:=w6) (M:=M) (told:=told) (σ':=σ') (y:=y) Cb.out C6 hHi Co.out HP.out Ca.out A8 Bl D6 hy (by
       have:=An y hy;rw[hcg] at this
       exact this)
      by_cases hm2:m=2
      ·obtain rfl:kd=1:=Cp.out.2 hm2;obtain rfl:=Dk.out rfl;have Az:=nF M.g (i*3) p s 0 num told t.key bd w6 (Rch w w6 s n rd lk i σ' M) (λ a b ha hab=>ha.off C6 A8 hab) (λ a ha=>⟨ha.tbl.z,ha.tbl.b⟩) (by omega) Ae A9;have Bf:Hid _:=Az;clear Az A9 An;rw[if_pos hm2] at A4;go_wp2_with fail;refine Calls.mono Bf.out ?_;rintro e y ⟨gs,rfl,C2,Ay⟩;obtain⟨M',C5,Bj,Bu,Ah,Dc,Ag⟩:=C2.ex;have A0:=Ag;(have a0:y.cell? ⟨w.heap.size+1,0,none⟩=some (.int .i64 0):=by simp[World.cell?,A0]);(have a1:y.cell? ⟨w.heap.size+1,1,none⟩=some (.slice none 0 0):=by simp[World.cell?,A0]);(have a2:y.cell? ⟨w.heap.size+1,2,none⟩=some (.string ⟨#[]⟩):=by simp[World.cell?,A0]);(have Ao:y.frozen? ⟨w.heap.size+1,0,none⟩=false:=by simp[World.frozen?,A0]);(have Aj:y.frozen? ⟨w.heap.size+1,1,none⟩=false:=by simp[World.frozen?,A0]);(have Aq:y.frozen? ⟨w.heap.size+1,2,none⟩=false:=by simp[World.frozen?,A0]);have HE:Hid _:=gB (w:=w) (i:=i) (lk:=lk) (M:=M) (M':=M') (r:=(⟨told,[⟨[69,84,97,103],cD bd⟩,⟨[86,101,114,115,105,111,110],Lib.decDigits num⟩],[]⟩,σ')) (fs:=.slice (some ⟨gs,0,none⟩) 2 2) hi (by rw[<- A6];exact hlk) A0 C5 Bj Bu Ah Ay;clear A0;go_wp2;refine leaves_cons (f:=84) (args:=#[.pointer (some ⟨M.g,i*3,none⟩)]) (by simp) (by simp[go_sem]) ?_;refine (unlock_deferred Tryz.muLib ⟨M.g,i*3,none⟩ .returning _ HE.out.1 HE.out.2.1).mono ?_;rintro e u' Ap ⟨rfl,rfl,rfl⟩;exact⟨_,aq Tryz.results46 _ _ (w.heap.size+1) 100 _ (0,0) _ rfl HE.out.2.2.1 Tryz.underlying100 rfl dW,by rw[A4.out];exact HE.out.2.2.2⟩
      ·have Dh:((kd:Int)==1)=false:=beq_eq_false_iff_ne.2 (λ e=>hm2 (Cp.out.1 (by omega)));have Az:=lA M.g (i*3) p s kd 0 num told t.key bd w6 (Rch w w6 s n rd lk i σ' M) (λ a b ha hab=>ha.off C6 A8 hab) (λ a ha=>⟨ha.tbl.z,ha.tbl.b⟩) Dh Ae A9;have Bf:Hid _:=Az;clear Az A9 An;rw[if_neg hm2] at A4;go_wp2_with fail;refine Calls.mono Bf.out ?_;rintro e y ⟨gs,rfl,C2,Ay⟩;obtain⟨M',C5,Bj,Bu,Ah,Dc,Ag⟩:=C2.ex;have A0:=Ag;(have a0:y.cell? ⟨w.heap.size+1,0,none⟩=some (.int .i64 0):=by simp[World.cell?,A0]);(have a1:y.cell? ⟨w.heap.size+1,1,none⟩=some (.slice none 0 0):=by simp[World.cell?,A0]);(have a2:y.cell? ⟨w.heap.size+1,2,none⟩=some (.string ⟨#[]⟩):=by simp[World.cell?,A0]);(have Ao:y.frozen? ⟨w.heap.size+1,0,none⟩=false:=by simp[World.frozen?,A0]);(have Aj:y.frozen? ⟨w.heap.size+1,1,none⟩=false:=by simp[World.frozen?,A0]);(have Aq:y.frozen? ⟨w.heap.size+1,2,none⟩=false:=by simp[World.frozen?,A0]);have HE:Hid _:=gB (w:=w) (i:=i) (lk:=lk) (M:=M) (M':=M') (r:=(⟨told,[⟨[86,101,114,115,105,111,110],Lib.decDigits num⟩],[]⟩,σ')) (fs:=.slice (some ⟨gs,0,none⟩) 1 1) hi (by rw[<- A6];exact hlk) A0 C5 Bj Bu Ah Ay;clear A0;go_wp2;refine leaves_cons (f:=84) (args:=#[.pointer (some ⟨M.g,i*3,none⟩)]) (by simp) (by simp[go_sem]) ?_;refine (unlock_deferred Tryz.muLib ⟨M.g,i*3,none⟩ .returning _ HE.out.1 HE.out.2.1).mono ?_;rintro e u' Ap ⟨rfl,rfl,rfl⟩;exact⟨_,aq Tryz.results46 _ _ (w.heap.size+1) 100 _ (0,0) _ rfl HE.out.2.2.1 Tryz.underlying100 rfl dW,by rw[A4.out];exact HE.out.2.2.2⟩
   | false =>
     rw[hw] at p4;cases o with
     | none =>have A4:Hid (rr=(⟨404,[],[]⟩,σ)):=A5.out.symm.trans (by rw[A2.out,if_neg (by simp),if_neg (by rw[hw];simp)]);go_wp2_with fail;refine (fq 404 _).mono ?_;rintro e y ⟨rfl,A1⟩;have A0:=(A1.block _ A7).trans B8.out;(have a0:y.cell? ⟨w.heap.size+1,0,none⟩=some (.int .i64 0):=by simp[World.cell?,A0]);(have a1:y.cell? ⟨w.heap.size+1,1,none⟩=some (.slice none 0 0):=by simp[World.cell?,A0]);(have a2:y.cell? ⟨w.heap.size+1,2,none⟩=some (.string ⟨#[]⟩):=by simp[World.cell?,A0]);(have Ao:y.frozen? ⟨w.heap.size+1,0,none⟩=false:=by simp[World.frozen?,A0]);(have Aj:y.frozen? ⟨w.heap.size+1,1,none⟩=false:=by simp[World.frozen?,A0]);(have Aq:y.frozen? ⟨w.heap.size+1,2,none⟩=false:=by simp[World.frozen?,A0]);have HE:Hid _:=gB (w:=w) (i:=i) (lk:=lk) (M:=M) (M':=M) (r:=(⟨404,[],[]⟩,σ)) (fs:=.slice none 0 0) hi (by rw[<- A6];exact hlk) A0 (B4.out.below A1) rfl (Ba.out.trans (Off.of_below A1)) (λ _ h=>Or.inl h) ⟨rfl,Or.inl ⟨rfl,rfl⟩⟩;clear A0;go_wp2;refine leaves_cons (f:=84) (args:=#[.pointer (some ⟨M.g,i*3,none⟩)]) (by simp) (by simp[go_sem]) ?_;refine (unlock_deferred Tryz.muLib ⟨M.g,i*3,none⟩ .returning _ HE.out.1 HE.out.2.1).mono ?_;rintro e u' Ap ⟨rfl,rfl,rfl⟩;exact⟨_,aq Tryz.results46 _ _ (w.heap.size+1) 100 _ (0,0) _ rfl HE.out.2.2.1 Tryz.underlying100 rfl dW,by rw[A4.out];exact HE.out.2.2.2⟩
     | some u =>have Cz:=HV.out u rfl;subst Cz;have A4:Hid (rr=(⟨200,bI v (bn v.time),if m=0 then v.body else []⟩,σ)):=A5.out.symm.trans (by rw[A2.out,if_neg (by simp),if_neg (by rw[hw];simp)]);have Bm:=D1.out v rfl;have Bs:=lw v m (bn v.time) w5 (by have:=f4 v Bm;omega) (by have:=f1 v Bm;omega) Bc.out.z Bc.out.b (λ y hy=>yY v.time y (f3 v Bm) hy);unfold aW at Bs;have Dd:Hid _:=Bs;clear Bs;go_wp2_with fail;refine Calls.mono Dd.out ?_;rintro e y ⟨gs,rfl,Ay,A1⟩;obtain⟨bd,Al⟩:∃ x,(if m=0 then v.body else [])=x:=⟨_,rfl⟩;rw[Al] at A4 ⊢;clear Al;have A0:=(A1.block _ A7).trans B8.out;(have a0:y.cell? ⟨w.heap.size+1,0,none⟩=some (.int .i64 0):=by simp[World.cell?,A0]);(have a1:y.cell? ⟨w.heap.size+1,1,none⟩=some (.slice none 0 0):=by simp[World.cell?,A0]);(have a2:y.cell? ⟨w.heap.size+1,2,none⟩=some (.string ⟨#[]⟩):=by simp[World.cell?,A0]);(have Ao:y.frozen? ⟨w.heap.size+1,0,none⟩=false:=by simp[World.frozen?,A0]);(have Aj:y.frozen? ⟨w.heap.size+1,1,none⟩=false:=by simp[World.frozen?,A0]);(have Aq:y.frozen? ⟨w.heap.size+1,2,none⟩=false:=by simp[World.frozen?,A0]);have HE:Hid _:=gB (w:=w) (i:=i) (lk:=lk) (M:=M) (M':=M) (r:=(⟨200,bI v (bn v.time),bd⟩,σ)) (fs:=.slice (some ⟨gs,0,none⟩) 3 3) hi (by rw[<- A6];exact hlk) A0 (B4.out.below A1) rfl (Ba.out.trans (Off.of_below A1)) (λ _ h=>Or.inl h) Ay;clear A0;go_wp2;refine leaves_cons (f:=84) (args:=#[.pointer (some ⟨M.g,i*3,none⟩)]) (by simp) (by simp[go_sem]) ?_;refine (unlock_deferred Tryz.muLib ⟨M.g,i*3,none⟩ .returning _ HE.out.1 HE.out.2.1).mono ?_;rintro e u' Ap ⟨rfl,rfl,rfl⟩;exact⟨_,aq Tryz.results46 _ _ (w.heap.size+1) 100 _ (0,0) _ rfl HE.out.2.2.1 Tryz.underlying100 rfl dW,by rw[A4.out];exact HE.out.2.2.2⟩
end Go.Proofs.YtmehkneofinmiaaGreatDoor

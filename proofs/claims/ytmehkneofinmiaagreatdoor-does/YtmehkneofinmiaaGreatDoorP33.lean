/-
 Texts of this proof, part 33.
-/
import Derived.Test.YtmehkneofinmiaaGreatDoorP32
set_option maxRecDepth 100000
set_option maxHeartbeats 8000000
namespace Go.Proofs.YtmehkneofinmiaaGreatDoor
open Go.RowKit
theorem condF_lt (wt:Bool)(k:Cnd)(v:Option Ver):condF wt k v<1000:=by
 unfold condF Jd.jd
 repeat' split
 all_goals decide
theorem obstF_lt (E:Ent)(k n:Nat):obstF E k n<1000:=by
 unfold obstF
 repeat' split
 all_goals decide
theorem succF_lt (E:Ent)(k:Nat):succF E k<1000:=by
 unfold succF
 repeat' split
 all_goals decide
theorem chgF_lt (σ:St)(key:List UInt8)(k n:Nat)(body:List UInt8):(chgF σ key k n body).1<1000:=by
 unfold chgF
 split
 ·exact obstF_lt _ _ _
 ·split
  ·decide
  ·exact succF_lt _ _
theorem dec15 {n:Nat}(h:n<1000000000000000):(Lib.decDigits n).length<=15:=dec_len_pow 14 n h
theorem flatU_len {α:Type}(l:List α)(f:α->List UInt8)(b:Nat)(h:∀ x∈l,(f x).length<=b):(l.flatMap f).length<=l.length*b:=by
 induction l with
 | nil=>simp
 | cons a l ih =>
   rw[List.flatMap_cons,List.length_append,List.length_cons]
   have h1:=h a List.mem_cons_self
   have h2:=ih fun x hx=>h x (List.mem_cons_of_mem _ hx)
   rw[Nat.add_mul]
   omega
theorem lineU_len {v:Ver}(hn:v.num<1000000000000000)(ht:v.time<1000000000000000):(lineF2 v).length<=60:=by
 have h1:=dec15 hn
 have h2:=dec15 ht
 have h3:=qTag_len v.body
 unfold lineF2
 simp only[List.length_append,List.length_cons,List.length_nil]
 split
 ·simp
  omega
 ·omega
theorem lineK_len {x:List UInt8×List UInt8}(h:x.1.length<=40):(lineK x).length<=60:=by
 have h3:=qTag_len x.2
 unfold lineK
 simp only[List.length_append,List.length_cons,List.length_nil]
 omega
theorem keyOK_len {k:List UInt8}(h:keyOK k=true):k.length<=40:=by
 unfold keyOK at h
 simp at h
 exact h.2.1
theorem findE_facts {w:World}{s n:Nat}{rd:Int}{lk:Nat->Int}{σ:St}{M:Mem}(h:StoreAt w s n rd lk σ M)(key:List UInt8) :
 (∀ v∈(findE σ.ents key).vers,v.num<=σ.log.length/\v.time<=253402300799/\v.body.length<=400)/\(findE σ.ents key).vers.length<=20/\(findE σ.ents key).last<=σ.log.length:=by
 by_cases hl:(findE σ.ents key).last=0
 ·rw[(findE_none (fun E hE=>(h.ok E hE).last) hl).2]
  simp
 ·have hm:=findE_mem hl
  have ho:=h.ok _ hm
  have hb:=h.lastB _ hm
  exact⟨fun v hv=>⟨Nat.le_trans (ho.num v hv) hb,ho.time v hv,ho.body v hv⟩,ho.len,hb⟩
theorem listC_mem {σ:St}{after:List UInt8}{x:List UInt8×List UInt8}(h:x∈listC σ after):∃ E∈σ.ents,x.1=E.key:=by
 unfold listC at h
 obtain⟨E,hE,hx⟩:=List.mem_filterMap.1 h
 obtain⟨v,_,rfl⟩:=Option.map_eq_some_iff.1 hx
 exact⟨E,(List.mem_filter.1 hE).1,rfl⟩
theorem ans_ok {w:World}{s n:Nat}{rd:Int}{lk:Nat->Int}{σ:St}{M:Mem}(h:StoreAt w s n rd lk σ M)(hlog:σ.log.length<140000000000000)(l:List UInt8):AnsOK (ansF σ l).1:=by
 unfold ansF
 split
 ·rename_i nn hr
  have:=read_no hr
  exact⟨by show nn<_;omega,by simp,fun f hf=>by simp at hf,by simp⟩
 ·rename_i m t k body hr
  obtain⟨r1,r2,r3,r4⟩:=read_ok hr
  split
  ·-- the list
   have hlc:∀ x∈listC σ t.key,x.1.length<=40:=fun x hx=>by
    obtain⟨E,hE,e⟩:=listC_mem hx
    rw[e]
    exact keyOK_len (h.ok E hE).key
   refine⟨by show 200<_;omega,?_,?_,?_⟩
   ·show (if _ then _ else _:List Fld).length<1000
    split<;>simp
   ·intro f hf
    change f∈(if _ then _ else _:List Fld) at hf
    split at hf
    ·simp at hf
     rw[hf]
     refine⟨by simp[moreF],?_⟩
     show (lastK _).length<1000
     unfold lastK
     split
     ·simp
     ·rename_i x hx
      have:=hlc x (List.mem_of_mem_take (List.mem_of_getLast? hx))
      omega
    ·simp at hf
   ·show (linesK _).length<1000000
    have:=flatU_len ((listC σ t.key).take 50) lineK 60 (fun x hx=>lineK_len (hlc x (List.mem_of_mem_take hx)))
    have h2:((listC σ t.key).take 50).length<=50:=by rw[List.length_take];omega
    unfold linesK
    omega
  ·obtain⟨f1,f2,f3⟩:=findE_facts h t.key
   have fv:∀ f:Fld,f=⟨[86,101,114,115,105,111,110],Lib.decDigits (wantF (findE σ.ents t.key) m t body).2.1⟩->f.name.length<1000/\f.value.length<1000:=by
    rintro f rfl
    have:(wantF (findE σ.ents t.key) m t body).2.1<1000000000000000:=by
     unfold wantF
     split
     ·show (findE σ.ents t.key).last+1<_
      omega
     ·split
      ·show t.num<_
       omega
      ·show (findE σ.ents t.key).last+1<_
       omega
    have:=dec15 this
    exact⟨by simp,by show (Lib.decDigits _).length<_;omega⟩
   unfold askF
   split
   ·-- the versions
    split
    ·exact⟨by show 404<_;omega,by simp,fun f hf=>by simp at hf,by simp⟩
    ·refine⟨by show 200<_;omega,by simp,fun f hf=>by simp at hf,?_⟩
     have:=flatU_len (findE σ.ents t.key).vers.reverse lineF2 60 (fun v hv=>by
      have hv':=f1 v (List.mem_reverse.1 hv)
      exact lineU_len (by omega) (by omega))
     rw[List.length_reverse] at this
     show (List.flatMap _ _).length<_
     omega
   ·split
    ·have:=condF_lt (isW m) k (aimF (findE σ.ents t.key) t)
     exact⟨by show condF _ _ _<_;omega,by simp,fun f hf=>by simp at hf,by simp⟩
    ·split
     ·have hlt:=chgF_lt σ t.key (wantF (findE σ.ents t.key) m t body).1 (wantF (findE σ.ents t.key) m t body).2.1 (wantF (findE σ.ents t.key) m t body).2.2
      split
      ·rename_i told hc
       rw[hc] at hlt
       exact⟨by show told<_;simp only at hlt;omega,by simp,fun f hf=>by simp at hf,by simp⟩
      ·rename_i told σ' hc
       rw[hc] at hlt
       refine⟨by show told<_;simp only at hlt;omega,?_,?_,by simp⟩
       ·show (if _ then _ else _:List Fld).length<1000
        split<;>simp
       ·intro f hf
        change f∈(if _ then _ else _:List Fld) at hf
        split at hf
        ·simp only[List.mem_cons,List.not_mem_nil,or_false] at hf
         rcases hf with e|e
         ·rw[e]
          have:=qTag_len body
          exact⟨by simp,by show (qTag body).length<_;omega⟩
         ·exact fv f e
        ·simp only[List.mem_cons,List.not_mem_nil,or_false] at hf
         exact fv f hf
     ·split
      ·exact⟨by show 404<_;omega,by simp,fun f hf=>by simp at hf,by simp⟩
      ·rename_i v hv
       have hv':=f1 v (aim_mem hv)
       refine⟨by show 200<_;omega,by simp[verFlds],?_,?_⟩
       ·intro f hf
        simp only[verFlds,List.mem_cons,List.not_mem_nil,or_false] at hf
        rcases hf with e|e|e
        ·rw[e]
         have:=qTag_len v.body
         exact⟨by simp,by show (qTag v.body).length<_;omega⟩
        ·rw[e]
         refine⟨by simp,?_⟩
         show (stampL v.time).length<1000
         unfold stampL
         rw[List.length_take]
         omega
        ·rw[e]
         have:=dec15 (n:=v.num) (by omega)
         exact⟨by simp,by show (Lib.decDigits _).length<_;omega⟩
       ·show (if _ then _ else _:List UInt8).length<_
        split
        ·omega
        ·simp
end Go.Proofs.YtmehkneofinmiaaGreatDoor
namespace Go.Proofs.YtmehkneofinmiaaGreatDoor
open Go.RowKit Go.MuLone
def unl (g:Nat):Nat->List Deferred
 | 0=>[]
 | j+1=>{ target:=.fn (.func 84) #[],args:=#[.pointer (some ⟨g,j*3,none⟩)] }::unl g j
theorem lk_down (i:Nat):(fun j=>if j=i then (0:Int) else if j<i+1 then 1 else 0)=fun j=>if j<i then 1 else 0:=by
 funext j
 by_cases h:j=i
 ·subst h;simp
 ·by_cases h2:j<i
  ·simp[h,h2,Nat.lt_succ_of_lt h2]
  ·simp[h,h2,show ¬ j<i+1 by omega]
theorem lk_up (i:Nat):(fun j=>if j=i then (1:Int) else if j<i then 1 else 0)=fun j=>if j<i+1 then 1 else 0:=by
 funext j
 by_cases h:j=i
 ·subst h;simp
 ·by_cases h2:j<i
  ·simp[h,h2,Nat.lt_succ_of_lt h2]
  ·simp[h,h2,show ¬ j<i+1 by omega]
theorem leaves_unl {fn:Func}{tmps:Array Value}{R:Ending->World->Prop}{s n:Nat}{rd:Int}{σ:St}{M:Mem}(i:Nat):∀ (x:World),i<=n->StoreAt x s n rd (fun j=>if j<i then 1 else 0) σ M ->
 (∀ y,StoreAt y s n rd (fun _=>0) σ M->Off (fun k=>k=M.g) x y->Leaves Tryz.prog fn tmps R [] .returning y)->Leaves Tryz.prog fn tmps R (unl M.g i) .returning x:=by
 induction i with
 | zero=>exact fun x _ h hk=>hk x (by simpa using h) (Off.refl _ _)
 | succ i ih =>
   intro x hi h hk
   obtain⟨cs,hc,hr⟩:=h.row
   have l1:x.cell? ⟨M.g,i*3,none⟩=some (.int .i32 1):=by
    simp only[World.cell?,hc]
    simp[(hr i (by omega)).1]
   have lf:x.frozen? ⟨M.g,i*3,none⟩=false:=by simp[World.frozen?,hc]
   refine leaves_cons (f:=84) (args:=#[.pointer (some ⟨M.g,i*3,none⟩)]) (by simp) (by simp[go_sem]) ?_
   refine (unlock_deferred Tryz.muLib ⟨M.g,i*3,none⟩ .returning _ l1 lf).mono ?_
   rintro e u' w'' ⟨rfl,rfl,rfl⟩
   have h2:=h.lock i (by omega) 0
   rw[lk_down] at h2
   have ho:Off (fun k=>k=M.g) x (x.setCell ⟨M.g,i*3,none⟩ (.int .i32 0)):=(Off.refl (fun k=>k=M.g) x).set _ _ _ (Or.inl rfl)
   exact ih _ (by omega) h2 (fun y hy hoy=>hk y hy (ho.trans hoy))
theorem Lst.off {w x:World}{v:Value}{qs:List Nat}{S:Nat->Prop}(h:Lst w v qs)(ho:Off S w x)(hS:∀ g cs f,w.heap[g]?=some (.cells cs 170 f)->¬ S g):Lst x v qs:=by
 obtain⟨a,c,h1,h2,h3,h4⟩:=h.is
 refine⟨⟨a,c,h1,h2,h3,fun j q hq=>?_⟩⟩
 obtain⟨g,o,e1,⟨cs,f,hc⟩,e3⟩:=h4 j q hq
 have hb:=ho.block g (Array.getElem?_eq_some_iff.1 hc).1 (hS g cs f hc)
 refine⟨g,o,e1,⟨cs,f,hb.trans hc⟩,?_⟩
 simp only[World.cell?] at e3 ⊢
 rw[hb]
 exact e3
theorem own_typedL {w:World}{s n:Nat}{rd:Int}{lk:Nat->Int}{σ:St}{M:Mem}(h:StoreAt w s n rd lk σ M){k:Nat}(hk:M.own s n k){c:Array Value}{f:Nat×Nat}:w.heap[k]?≠some (.cells c 162 f):=by
 intro e
 rcases hk with rfl|rfl|⟨i,hi,hb⟩|⟨i,hi,hb⟩|⟨i,p,hi,hp,hb⟩|hb
 ·exact ne_of_types h.blk e (by decide) rfl
 ·obtain⟨cs,hc,_⟩:=h.row
  exact ne_of_types hc e (by decide) rfl
 ·exact own_far (h.kt i hi).k.row e (by decide) hb
 ·exact ne_of_types (h.ent i hi k hb).blk e (by decide) rfl
 ·exact own_far (h.ent i hi p hp).row e (by decide) hb
 ·exact own_far h.jrn e (by decide) hb
structure Lk (w x:World)(s n:Nat)(rd:Int)(σ:St)(M:Mem)(after:List UInt8)(i:Nat)(lv:Value)(rows:List Value)(Qs:List (List Nat)):Prop where
 st:StoreAt x s n rd (fun j=>if j<i then 1 else 0) σ M
 off:Off (M.own s n) w x
 ans:x.heap[w.heap.size]?=some (.cells #[.int .i64 0,.slice none 0 0,.string ⟨#[]⟩] 100 (0,0))
 row:x.ownsRow (w.heap.size+1) 162 1 lv i rows
 len:Qs.length=i
 lst:∀ (j:Nat) (v:Value) (qs:List Nat),rows[j]?=some v->Qs[j]?=some qs->Lst x v qs
 beh:∀ (j:Nat) (qs:List Nat),Qs[j]?=some qs->∃ d,qs=(M.ps j).drop d/\IsBehind (M.keys j) after d
theorem flat_congr {α β:Type}{l:List α}{f g:α->List β}(h:∀ a∈l,f a=g a):l.flatMap f=l.flatMap g:=by
 rw[List.flatMap_def,List.flatMap_def,List.map_congr_left h]
theorem Lk.perm {w x:World}{s n:Nat}{rd:Int}{σ:St}{M:Mem}{after:List UInt8}{lv:Value}{rows:List Value}{Qs:List (List Nat)}(h:Lk w x s n rd σ M after n lv rows Qs):(Qs.flatten.map M.en).Perm (σ.ents.filter fun E=>cmpB E.key after==1):=by
 have hq:Qs=(List.range n).map fun j=>Qs.getD j []:=by
  apply List.ext_getElem?
  intro j
  rw[List.getElem?_map]
  by_cases hj:j<n
  ·rw[List.getElem?_range hj,Option.map_some,List.getD_eq_getElem?_getD,List.getElem?_eq_getElem (by rw[h.len];exact hj)]
   rfl
  ·rw[List.getElem?_eq_none (by rw[h.len];omega),List.getElem?_eq_none (by simp;omega)]
   rfl
 have e1:Qs.flatten.map M.en=(List.range n).flatMap fun j=>(σ.ents.filter fun E=>cmpB E.key after==1).filter fun E=>hashK E.key%n==j:=by
  rw[hq,<- List.flatMap_def,List.map_flatMap]
  apply flat_congr
  intro j hj
  have hjn:j<n:=List.mem_range.1 hj
  obtain⟨d,hd,hb⟩:=h.beh j (Qs.getD j []) (by rw[List.getD_eq_getElem?_getD,List.getElem?_eq_getElem (by rw[h.len];exact hjn)];rfl)
  rw[hd,List.map_drop,h.st.lst j hjn,List.filter_filter]
  rw[h.st.keys_eq hjn] at hb
  rw[drop_behind hb,List.filter_filter]
  apply List.filter_congr
  intro E _
  rw[Bool.and_comm]
 rw[e1]
 refine (parts_perm _ (fun E=>hashK E.key%n) n).trans ?_
 rw[List.filter_eq_self.2 (fun E _=>by simpa using Nat.mod_lt _ h.st.n1)]
theorem Lk.list {w x:World}{s n:Nat}{rd:Int}{σ:St}{M:Mem}{after:List UInt8}{lv:Value}{rows:List Value}{Qs:List (List Nat)}(h:Lk w x s n rd σ M after n lv rows Qs){xs:List Nat}(hp:xs.Perm Qs.flatten)(hr:RiseE (fun q=>(M.en q).key) xs):curs M.en xs=listC σ after:=by
 have e:xs.map M.en=σ.ents.filter fun E=>cmpB E.key after==1:=by
  refine perm_rise ((hp.map M.en).trans h.perm) ?_ (h.st.rise.filter _)
  rw[List.pairwise_map]
  exact hr
 unfold listC curs
 rw[<- e,List.filterMap_map]
 rfl
theorem listKeys_any:ListIs:=by
 intro s n rd σ M after w h hT hHi hal
 have hs6:w.cell? ⟨s,6,none⟩=some (.slice (some ⟨M.g,0,none⟩) n M.cap):=by simp[World.cell?,h.blk,storeCells]
 have HH:Hid _:=h
 have hlt:s<w.heap.size:=(Array.getElem?_eq_some_iff.1 h.blk).1
 obtain⟨ti,HI1,HI2,HI3,HI4⟩:=info_parts info144m
 obtain⟨rr,hrr⟩:∃ x,(listA σ after,σ)=x:=⟨_,rfl⟩
 rw[hrr]
 have HRR:Hid _:=hrr
 clear hrr
 have L0:Lk w (w.alloc (.cells #[.int .i64 0,.slice none 0 0,.string ⟨#[]⟩] 100)) s n rd σ M after 0 (.slice none 0 0) [] []:=by
  have hal:Below w.heap.size w (w.alloc (.cells #[.int .i64 0,.slice none 0 0,.string ⟨#[]⟩] 100)):=(Below.refl _ _).alloc (Nat.le_refl _) _
  refine⟨?_,Off.of_below hal,heap_alloc_new _ _,⟨rfl,Or.inl ⟨rfl,rfl⟩⟩,rfl,fun j v qs hv=>by simp at hv,fun j qs hq=>by simp at hq⟩
  have:=h.below hal
  simpa using this
 clear h
 go_enter_defers Tryz.func45,Tryz.ntmps45
 go_wp2_with fail
 refine wp_loop (fun a x=>∃ (i:Nat) (lv:Value) (rows:List Value) (Qs:List (List Nat)) (u6 u7 u14 u15 u16 u17 u18 u19 u20 u21 u22 u23 u24 u25 u26 u27 u28 u29 u30 u31 u32 u33 u34 u35:Value),i<=n/\Lk w x s n rd σ M after i lv rows Qs/\a=⟨#[.pointer (some ⟨s,0,none⟩),.string ⟨after.toArray⟩,undef,undef,.pointer (some ⟨w.heap.size,0,none⟩),lv,u6,u7,.pointer (some ⟨s,0,none⟩),.pointer (some ⟨s,0,none⟩),.pointer (some ⟨s,6,none⟩),.slice (some ⟨M.g,0,none⟩) n M.cap,.int .i64 n,.int .i64 i,u14,u15,u16,u17,u18,u19,u20,u21,u22,u23,u24,u25,u26,u27,u28,u29,u30,u31,u32,u33,u34,u35,undef,undef],unl M.g i⟩) (fun a _=>n-(intOf (a.tmps.getD 13 undef)).toNat) ⟨0,.slice none 0 0,[],[],undef,undef,undef,undef,undef,undef,undef,undef,undef,undef,undef,undef,undef,undef,undef,undef,undef,undef,undef,undef,undef,undef,undef,undef,by omega,L0,rfl⟩ ?_
 rintro a x ⟨i,lv,rows,Qs,u6,u7,u14,u15,u16,u17,u18,u19,u20,u21,u22,u23,u24,u25,u26,u27,u28,u29,u30,u31,u32,u33,u34,u35,hi,L,rfl⟩
 have HL:Hid _:=L
 clear L0 L
 have hSx:=HL.out.st
 have n8:=hSx.n8
 have x6:x.cell? ⟨s,6,none⟩=some (.slice (some ⟨M.g,0,none⟩) n M.cap):=by simp[World.cell?,hSx.blk,storeCells]
 by_cases hin:i<n
 ·obtain⟨cs,hc,hr⟩:=hSx.row
  have l0:x.cell? ⟨M.g,i*3,none⟩=some (.int .i32 0):=by
   simp only[World.cell?,hc]
   simp[(hr i hin).1]
  have lf:x.frozen? ⟨M.g,i*3,none⟩=false:=by simp[World.frozen?,hc]
  clear hr hSx
  go_wp2_with (go_at_call 83;refine (lock_free Tryz.muLib ⟨M.g,i*3,none⟩ _ l0 lf).mono ?_;rintro e x2 ⟨rfl,hx2⟩;have HX2:Hid _:=hx2;clear hx2 l0 lf)
  have hS2:StoreAt x2 s n rd (fun j=>if j<i+1 then 1 else 0) σ M:=by
   rw[HX2.out]
   have:=HL.out.st.lock i hin 1
   rw[lk_up] at this
   exact this
  have ho2:Off (fun k=>k=M.g) x x2:=by rw[HX2.out];exact (Off.refl (fun k=>k=M.g) x).set _ _ _ (Or.inl rfl)
  obtain⟨cs2,hc2,hr2⟩:=hS2.row
  have hce:x2.cell? ⟨M.g,i*3+2,none⟩=some (M.es i):=by
   simp only[World.cell?,hc2]
   simp[(hr2 i hin).2]
  have hpsl:(M.ps i).length<1000000:=by
   have h1:((M.ps i).map M.en).length<=σ.ents.length:=by rw[hS2.lst _ hin];exact List.length_filter_le _ _
   rw[List.length_map] at h1
   have:=hS2.many
   omega
  have hri:Rising (M.keys i):=by rw[hS2.keys_eq hin];exact (hS2.rise.filter _).rising
  refine (behind_any M.g (i*3) (M.es i) (M.ps i) (M.keys i) after x2 hce (hS2.kt i hin).k hri hpsl (Array.getElem?_eq_some_iff.1 hc2).1).mono ?_
  rintro e x3 ⟨⟨d,v,hbe,rfl,hlv⟩,hb3⟩
  obtain⟨va,vc,hv,hv1,hv2,_⟩:=hlv.is
  have hgx:w.heap.size<x.heap.size:=(Array.getElem?_eq_some_iff.1 HL.out.ans).1
  have hszx:x.heap.size<=x2.heap.size:=ho2.size
  have hszx3:x2.heap.size<=x3.heap.size:=hb3.size
  have hrow3:x3.ownsRow (w.heap.size+1) 162 1 lv i rows:=by
   have h0:=HL.out.row
   refine⟨h0.1,?_⟩
   rcases h0.2 with e|⟨g,cap,cur,hv',h1,hg,h2⟩
   ·exact Or.inl e
   ·refine Or.inr ⟨g,cap,cur,hv',h1,(hb3.block g (Nat.lt_of_lt_of_le (Array.getElem?_eq_some_iff.1 hg).1 hszx)).trans ((ho2.block g (Array.getElem?_eq_some_iff.1 hg).1 (ne_of_types hg hc (by decide))).trans hg),h2⟩
  have hans3:x3.heap[w.heap.size]?=some (.cells #[.int .i64 0,.slice none 0 0,.string ⟨#[]⟩] 100 (0,0)):=(hb3.block _ (by omega)).trans ((ho2.block _ hgx (ne_of_types HL.out.ans hc (by decide))).trans HL.out.ans)
  have hnl:lv.ownBlock≠some w.heap.size:=fun e=>by have:=(hrow3.lt _ e).1;omega
  subst hv
  have HLV:Hid _:=hlv
  have HR3:Hid _:=hrow3
  have HA3:Hid _:=hans3
  have HS3:Hid _:=hS2.below hb3
  have HO3:Hid (Off (M.own s n) w x3):=((HL.out.off.trans' ho2 (fun k _ e=>Or.inr (Or.inl e))).trans (Off.of_below hb3))
  have HLs:Hid (∀ (j:Nat) (v:Value) (qs:List Nat),rows[j]?=some v->Qs[j]?=some qs->Lst x3 v qs):=fun j v qs h1 h2=>((HL.out.lst j v qs h1 h2).off ho2 (fun g cs f hg e=>ne_of_types hg hc (by decide) e)).below hb3
  have HBE:Hid _:=hbe
  have hrl:rows.length=i:=by simpa using HL.out.row.1
  have hx3:w.heap.size<x3.heap.size:=by omega
  clear hlv hrow3 hans3 hS2 hb3 hbe ho2 hc2 hr2 hce hri hc
  go_wp2_with (at_builtin;refine wpList_append_lies _ rfl (.tmp 29) (.tmp 33) 160 rfl (w.heap.size+1) 162 ti (.slice none 0 0) 1 24 Tryz.underlying160 HI1 HI2 HI3 HI4 rfl (by omega) lv i rows rfl (World.ownsRow.alloc HR3.out _) ⟨x3.heap.size,0,none⟩ 1 1 [.slice va ((M.ps i).drop d).length vc] rfl rfl (by intro j u hj;cases j with|zero=>(simp at hj;subst hj;simp[Addr.add])|succ j=>simp at hj) (by intro u hu;simp at hu;subst hu;rfl) (by omega) (by unfold maxLen;omega) (by omega) (by simp;omega) _ rfl ?_;intro g2 cap2 x4 hown4 hgr4 hat4 hlt4)
  have hal4:Below x3.heap.size x3 (x3.alloc (.cells #[.slice va ((M.ps i).drop d).length vc] 162)):=(Below.refl _ _).alloc (Nat.le_refl _) _
  have ho4:Off (fun k=>lv.ownBlock=some k) x3 x4:=((Off.refl _ _).alloc _).grown hgr4 (fun k hk=>Or.inl hk)
  have hnoe:∀ g cs f,x3.heap[g]?=some (.cells cs 170 f)->¬ lv.ownBlock=some g:=fun g cs f hg e=>own_far HR3.out hg (by decide) e
  have L4:Lk w x4 s n rd σ M after (i+1) (.slice (some ⟨g2,0,none⟩) (i+1) cap2) (rows++[.slice va ((M.ps i).drop d).length vc]) (Qs++[(M.ps i).drop d]):=by
   refine⟨HS3.out.off ho4 (fun k hk e=>?_),HO3.out.trans' ho4 (fun k hk e=>?_),(ho4.block _ hx3 hnl).trans HA3.out,hown4,by rw[List.length_append,HL.out.len];rfl,fun j v qs h1 h2=>?_,fun j qs h2=>?_⟩
   ·obtain⟨cur,hcur⟩:=own_block HR3.out e
    exact own_typedL HS3.out hk hcur
   ·have:=(World.ownsRow.lt HR3.out k e).1
    omega
   ·by_cases hj:j<i
    ·rw[List.getElem?_append_left (by omega)] at h1
     rw[List.getElem?_append_left (by rw[HL.out.len];exact hj)] at h2
     exact (HLs.out j v qs h1 h2).off ho4 hnoe
    ·have hje:j=i:=by
      have:=(List.getElem?_eq_some_iff.1 h1).1
      simp at this
      omega
     subst hje
     rw[List.getElem?_append_right (by omega),hrl,Nat.sub_self] at h1
     rw[List.getElem?_append_right (by rw[HL.out.len];omega),HL.out.len,Nat.sub_self] at h2
     simp at h1 h2
     rw[<- h1,<- h2,<- List.length_drop]
     exact HLV.out.off ho4 hnoe
   ·by_cases hj:j<i
    ·rw[List.getElem?_append_left (by rw[HL.out.len];exact hj)] at h2
     exact HL.out.beh j qs h2
    ·have hje:j=i:=by
      have:=(List.getElem?_eq_some_iff.1 h2).1
      rw[List.length_append,HL.out.len] at this
      simp at this
      omega
     subst hje
     rw[List.getElem?_append_right (by rw[HL.out.len];omega),HL.out.len,Nat.sub_self] at h2
     simp at h2
     exact⟨d,h2.symm,HBE.out⟩
  refine⟨⟨i+1,_,_,_,_,_,_,_,_,_,_,_,_,_,_,_,_,_,_,_,_,_,_,_,_,_,_,_,by omega,L4,rfl⟩,?_⟩
  show n-(intOf (.int .i64 ((i:Int)+1))).toNat<n-(intOf (.int .i64 (i:Int))).toNat
  simp only[intOf]
  omega
 ·have hie:i=n:=by omega
  subst hie
  clear hin
  have hlvs:∃ a c,lv=.slice a i c:=by
   rcases HL.out.row.2 with ⟨e,h0⟩|⟨g,cap,cur,e,_⟩
   ·rw[h0];exact⟨_,_,e⟩
   ·exact⟨_,_,e⟩
  obtain⟨la,lc,rfl⟩:=hlvs
  go_wp2_with fail
  have hlen:=HL.out.len
  have hmem:∀ qs∈Qs,∃ j,j<i/\∀ q∈qs,q∈M.ps j:=by
   intro qs hq
   obtain⟨j,hj,rfl⟩:=List.mem_iff_getElem.1 hq
   obtain⟨d,hd,_⟩:=HL.out.beh j _ (List.getElem?_eq_getElem hj)
   exact⟨j,by omega,fun q hq=>by rw[hd] at hq;exact List.mem_of_mem_drop hq⟩
  have hLL:LLs x (.slice la Qs.length lc) Qs (fun q=>(M.en q).key):=by
   rw[hlen]
   refine⟨?_,fun j qs hj=>?_,fun qs hq q hqm=>?_⟩
   ·rw[hlen]
    rcases HL.out.row.2 with ⟨e,h0⟩|⟨g,cap,cur,e,_,_,h1,h2,_⟩
    ·cases e
     exact⟨_,_,rfl,by omega,by omega⟩
    ·cases e
     exact⟨_,_,rfl,h1,h2⟩
   ·have hjl:j<i:=by have:=(List.getElem?_eq_some_iff.1 hj).1;omega
    rcases HL.out.row.2 with ⟨e,h0⟩|⟨g,cap,cur,e,_,hg,h1,h2,h3,h4⟩
    ·omega
    ·cases e
     have hrl:rows.length=i:=by simpa using HL.out.row.1
     obtain⟨v,hv⟩:∃ v,rows[j]?=some v:=⟨_,List.getElem?_eq_getElem (by omega)⟩
     refine⟨g,0,lc,v,by rw[hlen],(Array.getElem?_eq_some_iff.1 hg).1,?_,HL.out.lst j _ qs hv hj⟩
     rw[<- h4,List.getElem?_take_of_lt (by omega)] at hv
     simpa [World.cell?,hg] using hv
   ·obtain⟨j,hj,hm⟩:=hmem qs hq
    have hE:=HL.out.st.ent j hj q (hm q hqm)
    exact⟨hE.lt,hE.c0⟩
  have hfl:∀ q∈Qs.flatten,∃ j,j<i/\q∈M.ps j:=by
   intro q hq
   obtain⟨qs,hqs,hqm⟩:=List.mem_flatten.1 hq
   obtain⟨j,hj,hm⟩:=hmem qs hqs
   exact⟨j,hj,hm q hqm⟩
  have hin:∀ q∈Qs.flatten,M.en q∈σ.ents:=by
   intro q hq
   have:=HL.out.perm.mem_iff.1 (List.mem_map_of_mem (f:=M.en) hq)
   exact (List.mem_filter.1 this).1
  have hEn:Ents x Qs M.en M.vs:=by
   refine⟨fun q hq=>?_,fun q hq g hg=>?_,fun q hq=>?_,fun q hq=>?_,fun q hq v hv=>?_⟩
   ·obtain⟨j,hj,hm⟩:=hfl q hq
    exact HL.out.st.ent j hj q hm
   ·obtain⟨j,hj,hm⟩:=hfl q hq
    exact ((HL.out.st.ent j hj q hm).row.lt g hg).2
   ·have:=keyOK_len (HL.out.st.ok _ (hin q hq)).key
    omega
   ·have:=(HL.out.st.ok _ (hin q hq)).len
    omega
   ·have:=(HL.out.st.ok _ (hin q hq)).body v hv
    omega
  have hcnt:Qs.flatten.length<1000000:=by
   have h1:=HL.out.perm.length_eq
   rw[List.length_map] at h1
   have h2:=List.length_filter_le (fun E:Ent=>cmpB E.key after==1) σ.ents
   have:=HL.out.st.many
   omega
  have hup:∀ qs∈Qs,RiseE (fun q=>(M.en q).key) qs:=by
   intro qs hq
   obtain⟨j,hj,rfl⟩:=List.mem_iff_getElem.1 hq
   obtain⟨d,hd,_⟩:=HL.out.beh j _ (List.getElem?_eq_getElem hj)
   rw[hd]
   have hr:=HL.out.st.rise.filter fun E=>hashK E.key%i==j
   rw[<- HL.out.st.lst j (by omega)] at hr
   have hr2:(M.ps j).Pairwise fun a b=>cmpB (M.en a).key (M.en b).key = -1:=List.pairwise_map.1 hr
   exact (hr2.sublist (List.drop_sublist d _)).imp (fun {a b} (h:cmpB (M.en a).key (M.en b).key = -1)=>by show cmpB (M.en a).key (M.en b).key<=0;omega)
  have hTx:Tbl x:=hT.off HL.out.off hHi
  have htk:=tellKeys_any Qs M.en M.vs la lc x hLL (by omega) hup hcnt hEn hTx.z
  rw[hlen] at htk
  have HTK:Hid _:=htk
  clear htk hLL hEn hcnt hup hin hfl hmem
  refine Calls.mono HTK.out ?_
  rintro e y ⟨hby,xs,fv,hper,hris,rfl,hfv⟩
  have hcur:=HL.out.list hper hris
  rw[hcur] at hfv ⊢
  have hrow:y.ownsRow 0 151 2 fv (listA σ after).flds.length (fldRow (listA σ after).flds):=by
   by_cases h50:50<(listC σ after).length
   ·rw[if_pos h50] at hfv
    have e:(listA σ after).flds=[moreF (lastK ((listC σ after).take 50))]:=by simp[listA,h50]
    rw[e]
    exact hfv
   ·rw[if_neg h50] at hfv
    have e:(listA σ after).flds=[]:=by simp[listA,h50]
    rw[e,hfv]
    exact⟨rfl,Or.inl ⟨rfl,rfl⟩⟩
  have hSy:=HL.out.st.below hby
  have hAy:=(hby.block _ (Array.getElem?_eq_some_iff.1 HL.out.ans).1).trans HL.out.ans
  have hOy:Off (M.own s i) w y:=HL.out.off.trans (Off.of_below hby)
  have a0:y.cell? ⟨w.heap.size,0,none⟩=some (.int .i64 0):=by simp[World.cell?,hAy]
  have a1:y.cell? ⟨w.heap.size,1,none⟩=some (.slice none 0 0):=by simp[World.cell?,hAy]
  have a2:y.cell? ⟨w.heap.size,2,none⟩=some (.string ⟨#[]⟩):=by simp[World.cell?,hAy]
  have af0:y.frozen? ⟨w.heap.size,0,none⟩=false:=by simp[World.frozen?,hAy]
  have af1:y.frozen? ⟨w.heap.size,1,none⟩=false:=by simp[World.frozen?,hAy]
  have af2:y.frozen? ⟨w.heap.size,2,none⟩=false:=by simp[World.frozen?,hAy]
  have hfs:∃ a b c,fv=.slice a b c:=by
   rcases hrow.2 with ⟨e,_⟩|⟨g,cap,cur,e,_⟩
   ·exact⟨_,_,_,e⟩
   ·exact⟨_,_,_,e⟩
  obtain⟨fa,fb,fc,rfl⟩:=hfs
  have HROW:Hid _:=hrow
  have HSy:Hid _:=hSy
  have HAy:Hid _:=hAy
  have HOy:Hid _:=hOy
  obtain⟨tx,htx⟩:∃ t,linesK ((listC σ after).take 50)=t:=⟨_,rfl⟩
  have HTX:Hid _:=htx
  rw[htx]
  clear hrow hSy hAy hOy hfv hcur hper hris hby htx HTK
  go_wp2
  obtain⟨Y,hY⟩:∃ Y,Y=(((y.setCell ⟨w.heap.size,0,none⟩ (.int .i64 200)).setCell ⟨w.heap.size,1,none⟩ (.slice fa fb fc)).setCell ⟨w.heap.size,2,none⟩ (.string ⟨tx.toArray⟩)):=⟨_,rfl⟩
  rw[<- hY]
  have hYA:Y.heap[w.heap.size]?=some (.cells #[.int .i64 200,.slice fa fb fc,.string ⟨tx.toArray⟩] 100 (0,0)):=by
   rw[hY,heap_set (heap_set (heap_set HAy.out))]
   rfl
  have hYo:Off (fun k=>k=w.heap.size) y Y:=by rw[hY];exact (((Off.refl (fun k=>k=w.heap.size) _).set _ 0 _ (Or.inl rfl)).set _ 1 _ (Or.inl rfl)).set _ 2 _ (Or.inl rfl)
  have hSY:=HSy.out.off hYo (fun k hk e=>own_typed HSy.out hk (e ▸ HAy.out))
  have hOY:Off (M.own s i) w Y:=HOy.out.trans' hYo (fun k hk e=>by omega)
  have hrY:Y.ownsRow 0 151 2 (.slice fa fb fc) (listA σ after).flds.length (fldRow (listA σ after).flds):=by
   have h0:=HROW.out
   refine⟨h0.1,?_⟩
   rcases h0.2 with h0|⟨g,cap,cur,hv,h1,hgg,h2⟩
   ·exact Or.inl h0
   ·exact Or.inr ⟨g,cap,cur,hv,h1,(hYo.block g (Array.getElem?_eq_some_iff.1 hgg).1 (ne_of_types hgg HAy.out (by decide))).trans hgg,h2⟩
  obtain⟨cs,hc,_⟩:=hSY.row
  refine leaves_unl i Y (Nat.le_refl _) hSY (fun z hSz hoz=>?_)
  have hzA:=(hoz.block _ (Array.getElem?_eq_some_iff.1 hYA).1 (ne_of_types hYA hc (by decide))).trans hYA
  refine⟨_,results_row1 Tryz.results45 _ _ w.heap.size 100 _ (0,0) _ rfl hzA Tryz.underlying100 rfl hiAns,?_⟩
  rw[<- HRR.out]
  refine⟨.slice fa fb fc,M,?_,?_,hSz,hOY.trans' hoz (fun k _ e=>Or.inr (Or.inl e)),fun k hk=>Or.inl hk⟩
  ·rw[<- HTX.out]
   rfl
  ·refine⟨hrY.1,?_⟩
   rcases hrY.2 with h0|⟨g,cap,cur,hv,h1,hgg,h2⟩
   ·exact Or.inl h0
   ·exact Or.inr ⟨g,cap,cur,hv,h1,(hoz.block g (Array.getElem?_eq_some_iff.1 hgg).1 (ne_of_types hgg hc (by decide))).trans hgg,h2⟩
theorem do_store {s n:Nat}{σ:St}{M:Mem}(l:List UInt8)(w:World)(h:StoreAt w s n 0 (fun _=>0) σ M)(hM:MaxIs w)(hT:Tbl w)(hHi:∀ k,M.own s n k->High k)(hlog:σ.log.length<140000000000000)(hl:l.length<=9223372036854775807) :
 Calls Tryz.prog 15 #[.pointer (some ⟨s,0,none⟩),.string ⟨l.toArray⟩] w fun e w'=>e=.returned (.string ⟨(doF σ l).1.toArray⟩)/\∃ M',StoreAt w' s n 0 (fun _=>0) (doF σ l).2 M'/\Off (M.own s n) w w'/\∀ k,M'.own s n k->M.own s n k\/w.heap.size<=k :=
 do_any l w h hM hT hHi hlog listKeys_any (ans_ok h hlog l) hl
end Go.Proofs.YtmehkneofinmiaaGreatDoor
namespace Go.Proofs.YtmehkneofinmiaaGreatDoor
open Go.RowKit
end Go.Proofs.YtmehkneofinmiaaGreatDoor
namespace Go.Proofs.YtmehkneofinmiaaGreatDoor
theorem findE_cons (a:Ent)(l:List Ent)(key:List UInt8):findE (a::l) key=if a.key=key then a else findE l key:=by
 unfold findE
 rw[List.find?_cons]
 by_cases h:a.key=key
 ·simp[h]
 ·have:(a.key==key)=false:=beq_eq_false_iff_ne.2 h
  rw[this,if_neg h]
theorem findE_put {l:List Ent}(hr:RiseL l)(E:Ent)(key:List UInt8):findE (putE l E) key=if E.key=key then E else findE l key:=by
 induction l with
 | nil =>
   rw[show putE [] E=[E] from rfl,findE_cons]
 | cons a l ih =>
   have ⟨h1,h2⟩:=List.pairwise_cons.1 hr
   rw[putE_cons]
   by_cases e:a.key=E.key
   ·rw[if_pos e,findE_cons]
    by_cases hk:E.key=key
    ·rw[if_pos hk,if_pos hk]
    ·rw[if_neg hk,if_neg hk,findE_cons,if_neg (by rw[e];exact hk)]
   ·rw[if_neg e]
    by_cases hlt:cmpB E.key a.key = -1
    ·rw[if_pos hlt,findE_cons]
    ·rw[if_neg hlt,findE_cons,ih h2]
     by_cases ha:a.key=key
     ·rw[if_pos ha,if_neg (by rw[<- ha];exact fun h=>e h.symm),findE_cons,if_pos ha]
     ·rw[if_neg ha,findE_cons,if_neg ha]
theorem ans_of {σ:St}{l body:List UInt8}{m:Nat}{t:Tgt}{k:Cnd}(hr:readF l=.ok (m,t,k,body))(h0:t.kind≠0):ansF σ l=askF σ m t k body:=by
 unfold ansF
 rw[hr]
 simp only
 rw[if_neg h0]
theorem ask_no {σ:St}{m:Nat}{t:Tgt}{k:Cnd}{body:List UInt8}{told a n:Nat}{bd:List UInt8}(h3:t.kind≠3)(hw:isW m=true)(h:condF true k (aimF (findE σ.ents t.key) t)=0)(hn:wantF (findE σ.ents t.key) m t body=(a,n,bd))(hc:chgF σ t.key a n bd=(told,none)):askF σ m t k body=(⟨told,[],[]⟩,σ):=by
 unfold askF
 rw[if_neg h3,hw,if_neg (by simp[h]),if_pos rfl,hn]
 simp only[hc]
theorem ask_yes {σ σ':St}{m:Nat}{t:Tgt}{k:Cnd}{body:List UInt8}{told a n:Nat}{bd:List UInt8}(h3:t.kind≠3)(hw:isW m=true)(h:condF true k (aimF (findE σ.ents t.key) t)=0)(hn:wantF (findE σ.ents t.key) m t body=(a,n,bd))(hc:chgF σ t.key a n bd=(told,some σ')):askF σ m t k body=(⟨told,if m=2 then [⟨[69,84,97,103],qTag body⟩,⟨[86,101,114,115,105,111,110],Lib.decDigits n⟩] else [⟨[86,101,114,115,105,111,110],Lib.decDigits n⟩],[]⟩,σ'):=by
 unfold askF
 rw[if_neg h3,hw,if_neg (by simp[h]),if_pos rfl,hn]
 simp only[hc]
theorem chg_no {σ:St}{key body:List UInt8}{k n told:Nat}(ho:obstF (findE σ.ents key) k n=told)(h:told≠0):chgF σ key k n body=(told,none):=by
 unfold chgF
 rw[ho,if_pos h]
theorem vidx_filter (l:List Ver)(n:Nat)(h:l.Pairwise fun a b=>a.num<b.num):(vidx l n=none->l.filter (fun v=>v.num != n)=l)/\∀ i,vidx l n=some i->l.eraseIdx i=l.filter (fun v=>v.num != n)/\(l.filter (fun v=>v.num != n)).length<l.length:=by
 induction l with
 | nil=>simp[vidx]
 | cons a l ih =>
   have ⟨h1,h2⟩:=List.pairwise_cons.1 h
   have ih':=ih h2
   unfold vidx at ih' ⊢
   rw[List.findIdx?_cons]
   by_cases e:a.num=n
   ·have e1:((a.num:Int)==(n:Int))=true:=by simp[e]
    rw[e1,if_pos rfl]
    refine⟨fun h=>by simp at h,fun i hi=>?_⟩
    have:i=0:=by simpa using hi.symm
    subst this
    have hf:l.filter (fun v=>v.num != n)=l:=List.filter_eq_self.2 (fun b hb=>by have:=h1 b hb;simp;omega)
    rw[List.filter_cons,if_neg (by simp[e]),hf]
    simp
   ·have e1:((a.num:Int)==(n:Int))=false:=beq_eq_false_iff_ne.2 (by omega)
    rw[e1,if_neg (by simp)]
    rw[List.filter_cons,if_pos (by simp[e])]
    refine⟨fun h=>?_,fun i hi=>?_⟩
    ·rw[Option.map_eq_none_iff] at h
     rw[ih'.1 h]
    ·obtain⟨j,hj,rfl⟩:=Option.map_eq_some_iff.1 hi
     have:=ih'.2 j hj
     rw[List.eraseIdx_cons_succ,this.1]
     exact⟨rfl,Nat.succ_lt_succ this.2⟩
end Go.Proofs.YtmehkneofinmiaaGreatDoor
namespace Go.Proofs.YtmehkneofinmiaaGreatDoor
open Go.RowKit
structure Env (B:Nat->Prop)(w:World):Prop where
 mx:MaxIs w
 tb:Tbl w
 hm:∀ k,B k->1<k
 hi:∀ k,B k->High k
 sz:∀ k,w.heap.size<=k->B k
theorem Env.high {B:Nat->Prop}{w:World}(h:Env B w){k:Nat}(hk:B k):High k:=h.hi k hk
theorem Env.off {B:Nat->Prop}{w x:World}(h:Env B w)(ho:Off B w x):Env B x:=by
 refine⟨?_,h.tb.off ho (fun k hk=>h.high hk),h.hm,h.hi,fun k hk=>h.sz k (Nat.le_trans ho.size hk)⟩
 obtain⟨m,hm⟩:=h.mx
 refine⟨m,?_⟩
 have hlt:=cell_lt hm
 simp only[World.cell?] at hm ⊢
 rw[ho.block _ hlt (fun hB=>Nat.lt_irrefl _ (h.hm _ hB))]
 exact hm
theorem Env.made {w:World}(hM:MaxIs w)(hT:Tbl w):Env (fun k=>w.heap.size<=k) w:=by
 obtain⟨m,hm⟩:=hM
 exact⟨⟨m,hm⟩,hT,fun k hk=>Nat.lt_of_lt_of_le (cell_lt hm) hk,fun k hk=>hT.high hk,fun k hk=>hk⟩
theorem Env.below {B:Nat->Prop}{w x:World}(h:Env B w)(hb:Below w.heap.size w x):Env B x:=h.off (Off.of_below hb)
end Go.Proofs.YtmehkneofinmiaaGreatDoor

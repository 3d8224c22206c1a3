/-
 Texts of this proof, part 19.
-/
import Derived.Test.YtmehkneofinmiaaGreatDoorP18
set_option maxRecDepth 100000
set_option maxHeartbeats 4000000
namespace Go.Proofs.YtmehkneofinmiaaGreatDoor
open Go.RowKit Go.Shelf
attribute [local go_sem] Oper.semAt_some
theorem lists_in (n:Nat)(a:Option Addr)(len cap:Nat)(w:World) :
 CallsIn Fence.wide n Tryz.prog 133 #[.slice a len cap,.func (.func 134) #[] #[]] w fun e w'=>e=.returned (.func (.func 196) #[] #[.pointer (some ⟨w.heap.size,0,none⟩),.pointer (some ⟨w.heap.size+1,0,none⟩)])/\w'=(w.alloc (.cells #[.slice a len cap] 160)).alloc (.cells #[.func (.func 134) #[] #[]] 226):=by
 refine callsIn_of_wp Tryz.func133 rfl trivial ?_ rfl
 simp only[Tryz.ntmps133,List.size_toArray,List.length_cons,List.length_nil,Nat.reduceAdd,Nat.reduceSub,Array.replicate_succ,Array.replicate_zero,List.push_toArray,List.append_toArray,List.nil_append,List.cons_append]
 gi_wp2
 go_ret
 exact⟨rfl,rfl⟩
def curOf (E:Ent):Option Ver:=match E.vers.getLast? with
 | none=>none
 | some v=>if v.mark then none else some v
theorem current_any (p:Nat)(E:Ent)(vs:Value)(w:World)(h:EntAt w p E vs)(hl:E.vers.length<1000) :
 Calls Tryz.prog 135 #[.pointer (some ⟨p,0,none⟩)] w fun e w'=>(∃ v:Ver,e=.returned (.tuple #[verAgg v,.bool (curOf E).isSome])/\(∀ u,curOf E=some u->v=u))/\Below w.heap.size w w':=by
 cases hv:E.vers.getLast? with
 | none =>
   have h0:E.vers=[]:=List.getLast?_eq_none_iff.1 hv
   refine (current_none p E vs w h h0).mono ?_
   rintro e w' ⟨rfl,hb⟩
   refine⟨⟨⟨0,0,false,[]⟩,?_,fun u hu=>?_⟩,hb⟩
   ·simp[curOf,hv]
    rfl
   ·simp[curOf,hv] at hu
 | some v =>
   have hne:E.vers≠[]:=by intro e;rw[e] at hv;simp at hv
   have hlen:0<E.vers.length:=List.length_pos_iff.2 hne
   have hget:E.vers[E.vers.length-1]?=some v:=by rw[<- hv,List.getLast?_eq_getElem?]
   refine (current_some p E vs w h v (E.vers.length-1) (by omega) hget (by omega)).mono ?_
   rintro e w' ⟨rfl,hb⟩
   refine⟨⟨v,?_,fun u hu=>?_⟩,hb⟩
   ·cases hm:v.mark<;>simp[curOf,hv,hm]
   ·cases hm:v.mark<;>simp[curOf,hv,hm] at hu
    exact hu
def curs (en:Nat->Ent)(l:List Nat):List (List UInt8×List UInt8):=l.filterMap fun q=>(curOf (en q)).map fun v=>((en q).key,v.body)
def lineK (x:List UInt8×List UInt8):List UInt8:=x.1++[32]++qTag x.2++[10]
def linesK (l:List (List UInt8×List UInt8)):List UInt8:=l.flatMap lineK
def lastK (l:List (List UInt8×List UInt8)):List UInt8:=match l.getLast? with|none=>[]|some x=>x.1
theorem curs_no {en:Nat->Ent}{l:List Nat}{q:Nat}(h:curOf (en q)=none):curs en (l++[q])=curs en l:=by simp[curs,h]
theorem curs_yes {en:Nat->Ent}{l:List Nat}{q:Nat}{v:Ver}(h:curOf (en q)=some v):curs en (l++[q])=curs en l++[((en q).key,v.body)]:=by simp[curs,h]
theorem linesK_snoc (l:List (List UInt8×List UInt8))(x:List UInt8×List UInt8):linesK (l++[x])=linesK l++lineK x:=by simp[linesK]
theorem lastK_snoc (l:List (List UInt8×List UInt8))(x:List UInt8×List UInt8):lastK (l++[x])=x.1:=by simp[lastK]
theorem linesK_len (l:List (List UInt8×List UInt8))(h:∀ x∈l,x.1.length<=100):(linesK l).length<=l.length*120:=by
 induction l with
 | nil=>simp[linesK]
 | cons a l ih =>
   have h1:=h a (by simp)
   have h2:=ih (fun x hx=>h x (by simp[hx]))
   simp only[linesK,List.flatMap_cons,List.length_append,List.length_cons,lineK,List.length_nil,qTag_len] at h2 ⊢
   omega
structure Tk (w:World)(fv:Value)(t:List UInt8)(n:Nat)(k:List UInt8)(W:World):Prop where
 low:Below w.heap.size w W
 res:W.heap[w.heap.size]?=some (.cells #[.int .i64 0,.slice none 0 0,.string ⟨#[]⟩] 100 (0,0))
 ans:W.heap[w.heap.size+1]?=some (.cells #[.int .i64 200,fv,.string ⟨#[]⟩] 100 (0,0))
 bld:Lib.IsBuilderF 145 5 (w.heap.size+2) (w.heap.size+2) (Lib.byteCells t) W
 cnt:W.heap[w.heap.size+3]?=some (.cells #[.int .i64 n] 3 (0,0))
 lst:W.heap[w.heap.size+4]?=some (.cells #[.string ⟨k.toArray⟩] 9 (0,0))
 sz:w.heap.size+7<=W.heap.size
theorem Tk.same {w:World}{fv:Value}{t k:List UInt8}{n:Nat}{W W':World}(h:Tk w fv t n k W)(hb:Below w.heap.size W W')(hs:∀ (k:Nat) (c:Array Value) (t:TypeId) (f:Nat×Nat),W.heap[k]?=some (Obj.cells c t f)->¬ tHeap t->W'.heap[k]?=some (Obj.cells c t f)):Tk w fv t n k W':=by
 refine⟨h.low.trans hb,hs _ _ _ _ h.res (by unfold tHeap;decide),hs _ _ _ _ h.ans (by unfold tHeap;decide),?_,hs _ _ _ _ h.cnt (by unfold tHeap;decide),hs _ _ _ _ h.lst (by unfold tHeap;decide),Nat.le_trans h.sz hb.size⟩
 have row:∀ v n xs,W.ownsRowF (w.heap.size+2) 5 1 v n xs->W'.ownsRowF (w.heap.size+2) 5 1 v n xs:=by
  intro v n xs h
  refine⟨h.1,?_⟩
  rcases h.2 with h0|⟨g,cap,cur,fz,hv,h1,hg,h2⟩
  ·exact Or.inl h0
  ·exact Or.inr ⟨g,cap,cur,fz,hv,h1,hs _ _ _ _ hg (by unfold tHeap;decide),h2⟩
 rcases h.bld with ⟨h0,v,h1,h2,h3⟩|⟨h0,v,h1,h2,h3⟩
 ·exact Or.inl ⟨h0,v,hs _ _ _ _ h1 (by unfold tHeap;decide),row _ _ _ h2,h3⟩
 ·exact Or.inr ⟨h0,v,hs _ _ _ _ h1 (by unfold tHeap;decide),row _ _ _ h2,h3⟩
theorem Tk.turn {w:World}{fv:Value}{t k:List UInt8}{n:Nat}{W W':World}(h:Tk w fv t n k W)(ht:Turn tHeap (w.heap.size+7) W W'):Tk w fv t n k W' :=
 h.same ⟨ht.os,ht.tape,ht.output,ht.size,fun k hk=>ht.low k (by omega)⟩ ht.keep
theorem Tk.below {w:World}{fv:Value}{t k:List UInt8}{n:Nat}{W W':World}(h:Tk w fv t n k W)(hb:Below W.heap.size W W'):Tk w fv t n k W' :=
 h.same (hb.mono (by have:=h.sz;omega)) (fun i _ _ _ hi _=>(hb.block i (Array.getElem?_eq_some_iff.1 hi).1).trans hi)
theorem km_below {n₀:Nat}{W W':World}(h:n₀<=W.heap.size)(hb:Below W.heap.size W W'):Km n₀ W W':=⟨hb.mono h,fun i _ _ _ hi _=>(hb.block i (Array.getElem?_eq_some_iff.1 hi).1).trans hi⟩
theorem Tk.write {w:World}{fv:Value}{t k:List UInt8}{n:Nat}{W:World}(h:Tk w fv t n k W)(s:List UInt8)(hl:t.length+s.length<=140737488355328) :
 Calls Tryz.prog 73 #[.pointer (some ⟨w.heap.size+1+1,0,none⟩),.string ⟨s.toArray⟩] W fun e W'=>e=.returned (.tuple #[.int .i64 (⟨s.toArray⟩:ByteArray).size,.nilIface])/\Tk w fv (t++s) n k W'/\KeepsFrom (w.heap.size+7) W W'/\Km w.heap.size W W':=by
 refine (Tryz.Builder_WriteString_k (w.heap.size+2) (w.heap.size+2) (Lib.byteCells t) ⟨s.toArray⟩ W h.bld (by rw[Lib.byteCells_length,Lib.size_eq];simpa using hl) (by have:=h.sz;omega)).mono ?_
 rintro e W' ⟨rfl,hB,hb,hk⟩
 rw[strCells_mk,<- byteCells_append] at hB
 refine⟨rfl,⟨h.low.trans (hb.mono (by omega)),(hb.block _ (by omega)).trans h.res,(hb.block _ (by omega)).trans h.ans,Or.inr hB,hk _ _ h.cnt (by intro e;injection e;omega) (by intro c fz e;cases e),hk _ _ h.lst (by intro e;injection e;omega) (by intro c fz e;cases e),Nat.le_trans h.sz hb.size⟩,⟨hb.size,fun i o hi hk2 ho=>hk i o hk2 ?_ ?_⟩,⟨hb.mono (by omega),fun i c t f hi ht=>hk i _ hi ?_ ?_⟩⟩
 ·intro e;injection e;omega
 ·intro c fz e;subst e;cases ho
 ·intro e
  injection e with e
  subst e
  rcases h.bld with ⟨_,v,h1,_⟩|⟨_,v,h1,_⟩<;>(rw[hi] at h1;injection h1 with h1;injection h1 with _ h2 _;subst h2;exact absurd ht (by unfold tHeap;decide))
 ·intro c' fz e
  injection e with _ e2 _
  subst e2
  exact absurd ht (by unfold tHeap;decide)
end Go.Proofs.YtmehkneofinmiaaGreatDoor
namespace Go.Proofs.YtmehkneofinmiaaGreatDoor
open Go.RowKit
def be (n:Nat):Nat->List UInt8
 | 0=>[]
 | k+1=>UInt8.ofNat (n/256 ^ k%256)::be n k
theorem be_len (n k:Nat):(be n k).length=k:=by
 induction k with
 | zero=>rfl
 | succ k ih=>simp[be,ih]
def chkS (h:Nat)(c:UInt8):Nat:=(h ^^^ c.toNat)*16777619%4294967296
def chkF (l:List UInt8):Nat:=l.foldl chkS 2166136261
theorem chk_snoc (l:List UInt8)(c:UInt8):chkF (l++[c])=chkS (chkF l) c:=by
 unfold chkF
 rw[List.foldl_append,List.foldl_cons,List.foldl_nil]
theorem chkS_lt (h:Nat)(c:UInt8):chkS h c<4294967296:=by
 unfold chkS
 omega
theorem chk_lt (l:List UInt8):chkF l<4294967296:=by
 suffices h:∀ (l:List UInt8) (x:Nat),x<4294967296->l.foldl chkS x<4294967296 from h l _ (by omega)
 intro l
 induction l with
 | nil=>exact fun x hx=>hx
 | cons c l ih=>exact fun x _=>ih _ (chkS_lt x c)
theorem chk_step (H:Nat)(c:UInt8)(hH:H<4294967296):bits .xor .u32 (H:Int) ((c.toNat:Int)%4294967296)*16777619%4294967296=((chkS H c:Nat):Int):=by
 have hc:=c.toNat_lt
 rw[show (c.toNat:Int)%4294967296=(c.toNat:Int) by omega,u32_xor_nat H c.toNat hH (by omega)]
 unfold chkS
 omega
def u8s (l:List UInt8):List Value:=l.map fun c=>.int .u8 (c.toNat:Int)
theorem u8s_app (a b:List UInt8):u8s (a++b)=u8s a++u8s b:=by simp[u8s]
theorem check_any (l:List UInt8)(w:World)(hs:l.length<4611686018427387904) :
 Calls Tryz.prog 160 #[.string ⟨l.toArray⟩] w fun e w'=>e=.returned (.int .u32 ((chkF l:Nat):Int))/\w'=w:=by
 obtain⟨s,hS⟩:∃ S:ByteArray,S=⟨l.toArray⟩:=⟨_,rfl⟩
 have hd:s.data.toList=l:=by rw[hS]
 have hsz:s.size=l.length:=by rw[hS];exact List.size_toArray
 rw[<- hS,<- hd]
 have hsl:s.size<4611686018427387904:=by omega
 clear hS hsz hd hs
 go_enter Tryz.func160,Tryz.ntmps160
 go_wp2
 go_loop [3,7] (fun hh i=>∃ k:Nat,k<=s.size/\i=.int .i64 k/\hh=.int .u32 ((chkF (s.data.toList.take k):Nat):Int)) (fun _ i=>s.size-(intOf i).toNat)
 case atStart=>exact⟨0,Nat.zero_le _,rfl,rfl⟩
 case round =>
  obtain⟨k,hk,rfl,rfl⟩:=hrel
  by_cases hlt:k<s.size
  ·have hlt':=chk_lt (s.data.toList.take k)
   have HX:Hid (chkF (s.data.toList.take (k+1))=chkS (chkF (s.data.toList.take k)) s[k]):=by
    show _=_
    rw[take_snoc s k hlt,chk_snoc]
   obtain⟨F,hF⟩:∃ F,chkF (s.data.toList.take k)=F:=⟨_,rfl⟩
   rw[hF] at hlt' HX ⊢
   have hst:=chk_step F s[k] hlt'
   obtain⟨F2,hF2⟩:∃ F2,chkS F s[k]=F2:=⟨_,rfl⟩
   rw[hF2] at HX hst
   have HS:Hid _:=hst
   clear hst
   go_wp2
   exact⟨⟨k+1,by omega,by go_num,by rw[HS.out,HX.out]⟩,by simp[intOf];omega⟩
  ·obtain rfl:k=s.size:=by omega
   rw[List.take_of_length_le (by rw[Lib.size_eq];exact Nat.le_refl _)]
   go_wp2
   go_ret
   exact⟨rfl,rfl⟩
theorem infoU8:(Tryz.prog.info? 5).map (fun i=>(i.zero,i.size,i.bytes))=some (some (.int .u8 0),1,1):=by kernel_rfl
def Byt (w:World)(base:Nat)(v:Value)(l:List UInt8):Prop:=w.ownsRow base 5 1 v l.length (u8s l)
theorem Byt.nil (w:World)(base:Nat):Byt w base (.slice none 0 0) []:=World.ownsRow_nil w base _ 1
theorem Byt.below {w x:World}{base:Nat}{v:Value}{l:List UInt8}(h:Byt w base v l)(hb:Below w.heap.size w x):Byt x base v l:=by
 refine⟨h.1,?_⟩
 rcases h.2 with h0|⟨g,cap,cur,hv,h1,hg,h2⟩
 ·exact Or.inl h0
 ·exact Or.inr ⟨g,cap,cur,hv,h1,(hb.block g (Array.getElem?_eq_some_iff.1 hg).1).trans hg,h2⟩
theorem byte_at (n k:Nat):(n:Int)/2 ^ (8*k)%256=(((UInt8.ofNat (n/256 ^ k%256)).toNat:Nat):Int):=by
 rw[show (2:Int) ^ (8*k)=((256 ^ k:Nat):Int) by rw[Int.natCast_pow,Int.pow_mul];rfl]
 simp only[UInt8.toNat_ofNat',Nat.reducePow,Nat.mod_mod]
 omega
theorem appendNumber_any (v:Value)(l:List UInt8)(base n size:Nat)(w:World)(hv:Byt w base v l)(hb:base<=w.heap.size)(hs:size<=8)(hl:l.length<1000000) :
 Calls Tryz.prog 305 #[v,.int .u64 (n:Int),.int .i64 (size:Int)] w fun e w'=>∃ v',e=.returned v'/\Byt w' base v' (l++be n size)/\Below base w w':=by
 obtain⟨i0,hi0,hz0,hz1,hz2⟩:=info_parts infoU8
 have HV:Hid _:=hv
 clear hv
 go_enter Tryz.func305,Tryz.ntmps305
 go_wp2
 go_loopw [0,7] (fun x p wx=>∃ (k:Nat) (done:List UInt8),k+done.length=size/\p=.int .i64 ((k:Int)-1)/\Hid (done++be n k=be n size)/\Hid (Byt wx base x (l++done))/\Hid (Below base w wx)) (fun _ p _=>(intOf p+1).toNat)
 case atStart=>exact⟨size,[],by simp,rfl,rfl,by show Byt _ _ _ _;rw[List.append_nil];exact HV.out,Below.refl _ _⟩
 case round =>
  obtain⟨k,done,hk,rfl,HD,HB,HW⟩:=hrel
  cases k with
  | zero =>
    go_wp2
    go_ret
    refine⟨_,rfl,?_,HW.out⟩
    have h0:=HD.out
    simp only[be,List.append_nil] at h0
    rw[<- h0]
    exact HB.out
  | succ k =>
    have hk8:k<8:=by omega
    have hkI:(((k+1:Nat):Int)-1)=(k:Int):=by omega
    rw[hkI]
    have HPW:Hid _:=byte_at n k
    have hpos:(0:Int)<=(k:Int):=by omega
    have hlen:(l++done).length<1000008:=by rw[List.length_append];omega
    have hbw:base<=wr.heap.size:=Nat.le_trans hb HW.out.size
    go_wp2_with (at_builtin;refine wpList_append_lies _ rfl (.tmp 14) (.tmp 20) 115 rfl base 5 i0 (.int .u8 0) 1 1 Tryz.underlying115 hi0 hz0 hz1 hz2 rfl (by omega) u0 (l++done).length (u8s (l++done)) rfl (World.ownsRow.alloc HB.out _) ⟨wr.heap.size,0,none⟩ 1 1 [.int .u8 ((n:Int)/2 ^ (8*k)%256)] rfl rfl (World.news_of_block (cs:=#[.int .u8 ((n:Int)/2 ^ (8*k)%256)]) (t:=5) (fr:=(0,0)) (heap_alloc_new wr _)) (by intro u hu;simp at hu;subst hu;rfl) (by omega) (by unfold maxLen;omega) (by omega) (by simp;omega) _ rfl ?_;intro g2 cap2 w3 hown3 hgr3 hat3 hlt3)
    refine⟨⟨k,done++[UInt8.ofNat (n/256 ^ k%256)],by simp;omega,rfl,?_,?_,?_⟩,by simp[intOf]⟩
    ·have h0:=HD.out
     show _=_
     rw[<- h0,List.append_assoc]
     rfl
    ·show Byt _ _ _ _
     have e:u8s (l++done)++[.int .u8 ((n:Int)/2 ^ (8*k)%256)]=u8s (l++(done++[UInt8.ofNat (n/256 ^ k%256)])):=by
      rw[HPW.out];simp[u8s]
     rw[e] at hown3
     have e2:(l++done).length+1=(l++(done++[UInt8.ofNat (n/256 ^ k%256)])).length:=by simp;omega
     unfold Byt
     rw[<- e2]
     rw[List.length_append] at hown3 ⊢
     exact hown3
    ·exact ((HW.out.alloc (Nat.le_trans hb HW.out.size) _).grown hgr3 (by simp;omega) (fun r hr=>(HB.out.lt r hr).1))
def payF (k t:Nat)(key:List UInt8)(n:Nat)(body:List UInt8):List UInt8:=be k 1++(be t 8++(be key.length 1++(key++(be n 4++body))))
def recF (k t:Nat)(key:List UInt8)(n:Nat)(body:List UInt8):List UInt8 :=
 be (payF k t key n body).length 2++(payF k t key n body++be (chkF (payF k t key n body)) 4)
theorem payF_len (k t:Nat)(key:List UInt8)(n:Nat)(body:List UInt8):(payF k t key n body).length=14+key.length+body.length:=by
 simp[payF,be_len]
 omega
theorem recF_len (k t:Nat)(key:List UInt8)(n:Nat)(body:List UInt8):(recF k t key n body).length=20+key.length+body.length:=by
 simp only[recF,List.length_append,be_len,payF_len]
 omega
structure Pl (w x:World)(cs:Array Value)(v:Value)(l:List UInt8):Prop where
 lo:Below (w.heap.size+1) (w.alloc (.cells cs 181)) x
 own:Byt x (w.heap.size+1) v l
theorem Pl.size {w x:World}{cs:Array Value}{v:Value}{l:List UInt8}(h:Pl w x cs v l):w.heap.size+1<=x.heap.size:=by
 have:=h.lo.size
 simpa using this
theorem Pl.blk {w x:World}{cs:Array Value}{v:Value}{l:List UInt8}(h:Pl w x cs v l):x.heap[w.heap.size]?=some (.cells cs 181 (0,0)) :=
 (h.lo.block w.heap.size (by omega)).trans (heap_alloc_new _ _)
theorem Pl.low {w x:World}{cs:Array Value}{v:Value}{l:List UInt8}(h:Pl w x cs v l):Below w.heap.size w x :=
 ((Below.refl _ _).alloc (Nat.le_refl _) _).trans (h.lo.mono (by omega))
theorem Pl.next {w x y:World}{cs:Array Value}{v v':Value}{l l':List UInt8}(h:Pl w x cs v l)(hb:Below (w.heap.size+1) x y)(hy:Byt y (w.heap.size+1) v' l'):Pl w y cs v' l':=⟨h.lo.trans hb,hy⟩
theorem strCells_u8s (l:List UInt8):Lib.strCells ⟨l.toArray⟩=u8s l:=by simp[Lib.strCells,u8s]
theorem Pl.app {w x y:World}{cs:Array Value}{v v':Value}{l s:List UInt8}(h:Pl w x cs v l)(hr:y.ownsRow (w.heap.size+1) 5 1 v' (l.length+(⟨s.toArray⟩:ByteArray).size) (u8s l++Lib.strCells ⟨s.toArray⟩))(hg:x.grownBy y v.ownBlock):Pl w y cs v' (l++s):=by
 refine⟨h.lo.grown hg h.size (fun r hr=>(h.own.lt r hr).1),?_⟩
 rw[Lib.size_eq,strCells_u8s,<- u8s_app] at hr
 unfold Byt
 rw[List.length_append]
 exact hr
theorem Byt.conv {w:World}{base:Nat}{v:Value}{l:List UInt8}(h:Byt w base v l):(convert 115 9 v).run Tryz.prog w=.ok (.string ⟨l.toArray⟩) w:=by
 rcases h.2 with ⟨rfl,h0⟩|⟨g,cap,cur,rfl,_,hg,hn,hm,hs,htk⟩
 ·rw[List.length_eq_zero_iff.1 h0]
  exact run_convert_bytes_nil w 115 5 Tryz.underlying115 Tryz.underlying5 0 0 9 Tryz.underlying9
 ·have hx:=run_convert_bytes_arg (P:=Tryz.prog) w 115 5 Tryz.underlying115 Tryz.underlying5 g 0 l.length cap (l.map fun c=>(c.toNat:Int)) (by simp) (fun i hi=>by
   have h1:(u8s l)[i]?=some (.int .u8 ((l[i]).toNat:Int)):=by simp[u8s,hi]
   rw[<- htk,List.getElem?_take_of_lt (by omega)] at h1
   simp only[World.cell?,hg,Nat.zero_add]
   simpa [List.getD,hi] using h1) 9 Tryz.underlying9
  have e:strOfNums (l.map fun c=>(c.toNat:Int))=⟨l.toArray⟩:=by
   apply ByteArray.ext
   apply Array.ext'
   rw[strOfNums_data,List.map_map]
   have h1:((fun n:Int=>UInt8.ofNat n.toNat) ∘ fun c:UInt8=>(c.toNat:Int))=id:=by
    funext c
    simp
   rw[h1,List.map_id]
  rw[hx,e]
theorem payload_any (k t n:Nat)(key body:List UInt8)(w:World)(hk:k<256)(ht:t<9223372036854775807)(hn:n<9223372036854775807)(hkl:key.length<100000)(hbl:body.length<100000) :
 Calls Tryz.prog 304 #[.agg #[.int .u8 k,.int .i64 t,.string ⟨key.toArray⟩,.int .i64 n,.string ⟨body.toArray⟩]] w fun e w'=>e=.returned (.string ⟨(payF k t key n body).toArray⟩)/\Below w.heap.size w w':=by
 obtain⟨i0,hi0,hz0,hz1,hz2⟩:=info_parts infoU8
 go_enter Tryz.func304,Tryz.ntmps304
 have P0:Pl w (w.alloc (.cells #[.int .u8 k,.int .i64 t,.string ⟨key.toArray⟩,.int .i64 n,.string ⟨body.toArray⟩] 181)) #[.int .u8 k,.int .i64 t,.string ⟨key.toArray⟩,.int .i64 n,.string ⟨body.toArray⟩] (.slice none 0 0) []:=⟨Below.refl _ _,Byt.nil _ _⟩
 go_wp2_with fail
 refine (appendNumber_any _ [] (w.heap.size+1) k 1 _ P0.own (by simp) (by omega) (by simp)).mono ?_
 rintro e x1 ⟨v1,rfl,y1,b1⟩
 have P1:=P0.next b1 y1
 have hb1:=P1.blk
 have c1:x1.cell? ⟨w.heap.size,1,none⟩=some (.int .i64 t):=by simp[World.cell?,hb1]
 have H1:Hid _:=P1
 clear P0 P1 hb1 y1 b1
 go_wp2_with fail
 refine (appendNumber_any _ _ (w.heap.size+1) t 8 _ H1.out.own H1.out.size (by omega) (by simp[be_len])).mono ?_
 rintro e x2 ⟨v2,rfl,y2,b2⟩
 have P2:=H1.out.next b2 y2
 have hb2:=P2.blk
 have c2:x2.cell? ⟨w.heap.size,2,none⟩=some (.string ⟨key.toArray⟩):=by simp[World.cell?,hb2]
 have H2:Hid _:=P2
 clear P2 hb2 y2 b2 c1
 go_wp2_with fail
 refine (appendNumber_any _ _ (w.heap.size+1) key.length 1 _ H2.out.own H2.out.size (by omega) (by simp[be_len])).mono ?_
 rintro e x3 ⟨v3,rfl,y3,b3⟩
 have P3:=H2.out.next b3 y3
 have hb3:=P3.blk
 have c3:x3.cell? ⟨w.heap.size,2,none⟩=some (.string ⟨key.toArray⟩):=by simp[World.cell?,hb3]
 have H3:Hid _:=P3
 clear P3 hb3 y3 b3 c2
 have hL3:([]++be k 1++be t 8++be key.length 1:List UInt8).length<300000:=by simp[be_len]
 have hs3:(⟨key.toArray⟩:ByteArray).size<100000:=by rw[Lib.size_eq];exact hkl
 go_wp2_with (at_builtin;refine Lib.wpList_append_own_string _ rfl (.tmp 19) (.tmp 21) 115 9 rfl (w.heap.size+1) 5 i0 Tryz.underlying115 Tryz.underlying9 hi0 hz0 hz1 hz2 _ _ _ rfl H3.out.own _ rfl (by unfold maxLen;omega) (by omega) H3.out.size ?_;intro v4 x4 y4 g4 _;have P4:=H3.out.app (s:=key) y4 g4;have hb4:=P4.blk;have c4:x4.cell? ⟨w.heap.size,3,none⟩=some (.int .i64 n):=(by simp[World.cell?,hb4]);have H4:Hid _:=P4;clear P4 hb4 y4 g4)
 refine (appendNumber_any _ _ (w.heap.size+1) n 4 _ H4.out.own H4.out.size (by omega) (by simp[be_len];omega)).mono ?_
 rintro e x5 ⟨v5,rfl,y5,b5⟩
 have P5:=H4.out.next b5 y5
 have hb5:=P5.blk
 have c5:x5.cell? ⟨w.heap.size,4,none⟩=some (.string ⟨body.toArray⟩):=by simp[World.cell?,hb5]
 have H5:Hid _:=P5
 clear P5 hb5 y5 b5 c4
 have hL5:([]++be k 1++be t 8++be key.length 1++key++be n 4:List UInt8).length<300000:=by simp[be_len];omega
 have hs5:(⟨body.toArray⟩:ByteArray).size<100000:=by rw[Lib.size_eq];exact hbl
 go_wp2_with (at_builtin;refine Lib.wpList_append_own_string _ rfl (.tmp 28) (.tmp 30) 115 9 rfl (w.heap.size+1) 5 i0 Tryz.underlying115 Tryz.underlying9 hi0 hz0 hz1 hz2 _ _ _ rfl H5.out.own _ rfl (by unfold maxLen;omega) (by omega) H5.out.size ?_;intro v6 x6 y6 g6 _;have P6:=H5.out.app (s:=body) y6 g6;have H6:Hid _:=P6;have cv:=P6.own.conv;clear P6 y6 g6)
 go_ret
 exact⟨rfl,H6.out.low⟩
theorem text_rec (k t n:Nat)(key body:List UInt8)(w:World)(hk:k<256)(ht:t<9223372036854775807)(hn:n<9223372036854775807)(hkl:key.length<100000)(hbl:body.length<100000) :
 Calls Tryz.prog 274 #[.agg #[.int .u8 k,.int .i64 t,.string ⟨key.toArray⟩,.int .i64 n,.string ⟨body.toArray⟩]] w fun e w'=>e=.returned (.string ⟨(recF k t key n body).toArray⟩)/\Below w.heap.size w w':=by
 obtain⟨i0,hi0,hz0,hz1,hz2⟩:=info_parts infoU8
 go_enter Tryz.func274,Tryz.ntmps274
 have P0:Pl w (w.alloc (.cells #[.int .u8 k,.int .i64 t,.string ⟨key.toArray⟩,.int .i64 n,.string ⟨body.toArray⟩] 181)) #[.int .u8 k,.int .i64 t,.string ⟨key.toArray⟩,.int .i64 n,.string ⟨body.toArray⟩] (.slice none 0 0) []:=⟨Below.refl _ _,Byt.nil _ _⟩
 go_wp2_with fail
 refine (payload_any k t n key body _ hk ht hn hkl hbl).mono ?_
 rintro e x1 ⟨rfl,b1⟩
 have hpl:=payF_len k t key n body
 obtain⟨p,hp⟩:∃ p,payF k t key n body=p:=⟨_,rfl⟩
 have P1:=P0.next (b1.mono (by simp)) (Byt.nil x1 _)
 have HR:Hid (recF k t key n body=be p.length 2++(p++be (chkF p) 4)):=by
  show _=_
  rw[<- hp]
  rfl
 rw[hp] at hpl ⊢
 have hpn:p.length<300000:=by omega
 have H1:Hid _:=P1
 clear P0 P1 b1 hp hpl
 go_wp2_with fail
 refine (appendNumber_any _ _ (w.heap.size+1) p.length 2 _ H1.out.own H1.out.size (by omega) (by simp)).mono ?_
 rintro e x2 ⟨v2,rfl,y2,b2⟩
 have P2:=H1.out.next b2 y2
 have H2:Hid _:=P2
 clear P2 y2 b2
 have hL2:([]++be p.length 2:List UInt8).length<300000:=by simp[be_len]
 have hs2:(⟨p.toArray⟩:ByteArray).size<300000:=by rw[Lib.size_eq];exact hpn
 go_wp2_with (at_builtin;refine Lib.wpList_append_own_string _ rfl (.tmp 11) (.tmp 12) 115 9 rfl (w.heap.size+1) 5 i0 Tryz.underlying115 Tryz.underlying9 hi0 hz0 hz1 hz2 _ _ _ rfl H2.out.own _ rfl (by unfold maxLen;omega) (by omega) H2.out.size ?_;intro v3 x3 y3 g3 _;have P3:=H2.out.app (s:=p) y3 g3;have H3:Hid _:=P3;clear P3 y3 g3)
 refine (check_any p _ (by omega)).mono ?_
 rintro e x4 ⟨rfl,rfl⟩
 have hc:=chk_lt p
 obtain⟨C,hC⟩:∃ C,chkF p=C:=⟨_,rfl⟩
 rw[hC] at hc HR ⊢
 clear hC
 go_wp2_with fail
 refine (appendNumber_any _ _ (w.heap.size+1) C 4 _ H3.out.own H3.out.size (by omega) (by simp[be_len];omega)).mono ?_
 rintro e x5 ⟨v5,rfl,y5,b5⟩
 have cv:=y5.conv
 have P5:=H3.out.next b5 y5
 have H5:Hid _:=P5
 clear P5 y5 b5
 go_wp2
 go_ret
 refine⟨?_,H5.out.low⟩
 rw[HR.out]
 rfl
def obstF (E:Ent)(k n:Nat):Nat :=
 if k=3 then (if (vidx E.vers n).isSome then 0 else 404)
 else if k=2/\(curOf E).isSome=false then 404
 else if 20<=E.vers.length then 507 else 0
def succF (E:Ent)(k:Nat):Nat:=if k=1 then (if (curOf E).isSome then 200 else 201) else 204
abbrev recA (k t:Nat) (key:List UInt8) (n:Nat) (body:List UInt8):Value:=.agg #[.int .u8 k,.int .i64 t,.string ⟨key.toArray⟩,.int .i64 n,.string ⟨body.toArray⟩]
theorem next_any (p:Nat)(E:Ent)(vs:Value)(w:World)(h:EntAt w p E vs)(hl:E.last<4611686018427387904) :
 Calls Tryz.prog 147 #[.pointer (some ⟨p,0,none⟩)] w fun e w'=>e=.returned (.int .i64 ((E.last+1:Nat):Int))/\w'=w:=by
 have h2:=h.c1
 go_enter Tryz.func147,Tryz.ntmps147
 go_wp2
 go_ret
 exact⟨rfl,rfl⟩
theorem success_any (p:Nat)(E:Ent)(vs:Value)(k:Nat)(w:World)(h:EntAt w p E vs)(hl:E.vers.length<1000) :
 Calls Tryz.prog 206 #[.pointer (some ⟨p,0,none⟩),.int .u8 (k:Int)] w fun e w'=>e=.returned (.int .i64 (succF E k:Nat))/\Below w.heap.size w w':=by
 have HE:Hid _:=h
 clear h
 by_cases hk:k=1
 ·subst hk
  cases hc:(curOf E).isSome with
  | false =>
    go_enter Tryz.func206,Tryz.ntmps206
    go_wp2_with fail
    refine (current_any p E vs _ HE.out hl).mono ?_
    rintro e w1 ⟨⟨v,rfl,_⟩,hb1⟩
    rw[hc]
    unfold verAgg
    go_wp2
    go_ret
    exact⟨by simp[succF,hc],hb1.alloc hb1.size _⟩
  | true =>
    go_enter Tryz.func206,Tryz.ntmps206
    go_wp2_with fail
    refine (current_any p E vs _ HE.out hl).mono ?_
    rintro e w1 ⟨⟨v,rfl,_⟩,hb1⟩
    rw[hc]
    unfold verAgg
    go_wp2
    go_ret
    exact⟨by simp[succF,hc],hb1.alloc hb1.size _⟩
 ·have hk1:((k:Int)==1)=false:=beq_eq_false_iff_ne.2 (by omega)
  go_enter Tryz.func206,Tryz.ntmps206
  go_wp2
  go_ret
  exact⟨by simp[succF,hk],Below.refl _ _⟩
theorem obstacle_any (p:Nat)(E:Ent)(vs:Value)(k t n:Nat)(key body:List UInt8)(w:World)(h:EntAt w p E vs)(hl:E.vers.length<1000) :
 Calls Tryz.prog 204 #[.pointer (some ⟨p,0,none⟩),recA k t key n body] w fun e w'=>e=.returned (.int .i64 (obstF E k n:Nat))/\Below w.heap.size w w':=by
 have hal:Below w.heap.size w (w.alloc (.cells #[.int .u8 k,.int .i64 t,.string ⟨key.toArray⟩,.int .i64 n,.string ⟨body.toArray⟩] 181)):=(Below.refl _ _).alloc (Nat.le_refl _) _
 have HE:Hid _:=h.below hal
 have HA:Hid _:=hal
 clear h hal
 by_cases hk:k=3
 ·subst hk
  go_enter Tryz.func204,Tryz.ntmps204
  go_wp2_with fail
  refine (place_any p E vs n _ HE.out (by omega)).mono ?_
  rintro e w1 ⟨rfl,hb1⟩
  have HB:Hid (Below w.heap.size w w1):=HA.out.trans (hb1.mono (by simp))
  clear hb1
  cases hv:vidx E.vers n with
  | none =>
    rw[vidxI_none hv]
    go_wp2
    go_ret
    exact⟨by simp[obstF,hv],HB.out⟩
  | some i =>
    rw[vidxI_some hv]
    have hi0:((i:Int)<0)=False:=by simp
    go_wp2
    go_ret
    exact⟨by simp[obstF,hv],HB.out⟩
 ·have hk3:((k:Int)==3)=false:=beq_eq_false_iff_ne.2 (by omega)
  go_enter Tryz.func204,Tryz.ntmps204
  go_wp2_with fail
  refine (current_any p E vs _ HE.out hl).mono ?_
  rintro e w1 ⟨⟨v,rfl,_⟩,hb1⟩
  have hr1:w1.heap[w.heap.size]?=some (.cells #[.int .u8 k,.int .i64 t,.string ⟨key.toArray⟩,.int .i64 n,.string ⟨body.toArray⟩] 181 (0,0)):=(hb1.block _ (by simp)).trans (heap_alloc_new _ _)
  have r0:w1.cell? ⟨w.heap.size,0,none⟩=some (.int .u8 k):=by simp[World.cell?,hr1]
  have hE1:=HE.out.below hb1
  have hlt:=hE1.lt
  have hwl:w.heap.size<w1.heap.size:=(Array.getElem?_eq_some_iff.1 hr1).1
  have HB:Hid (Below w.heap.size w w1):=HA.out.trans (hb1.mono (by simp))
  have HE1:Hid _:=hE1.below ((Below.refl _ _).alloc (Nat.le_refl _) (.cells #[.int .i64 v.num,.int .i64 v.time,.bool v.mark,.string ⟨v.body.toArray⟩] 174))
  clear hb1 hr1 hE1
  unfold verAgg
  obtain⟨c,hc⟩:∃ c,(curOf E).isSome=c:=⟨_,rfl⟩
  rw[hc]
  have HC:Hid _:=hc
  clear hc
  by_cases hf:20<=E.vers.length
  ·have hfd:decide (20<=(E.vers.length:Int))=true:=by simp;omega
   by_cases hk2:k=2
   ·subst hk2
    cases c with
    | false =>
      go_wp2
      go_ret
      exact⟨by simp[obstF,HC.out],HB.out.alloc HB.out.size _⟩
    | true =>
      go_wp2_with fail
      refine (isFull_any p E vs _ HE1.out).mono ?_
      rintro e w2 ⟨rfl,rfl⟩
      rw[hfd]
      go_wp2
      go_ret
      exact⟨by simp[obstF,HC.out,hf],HB.out.alloc HB.out.size _⟩
   ·have hk2i:((k:Int)==2)=false:=beq_eq_false_iff_ne.2 (by omega)
    go_wp2_with fail
    refine (isFull_any p E vs _ HE1.out).mono ?_
    rintro e w2 ⟨rfl,rfl⟩
    rw[hfd]
    go_wp2
    go_ret
    exact⟨by simp[obstF,hk,hk2,hf],HB.out.alloc HB.out.size _⟩
  ·have hfd:decide (20<=(E.vers.length:Int))=false:=by simp;omega
   by_cases hk2:k=2
   ·subst hk2
    cases c with
    | false =>
      go_wp2
      go_ret
      exact⟨by simp[obstF,HC.out],HB.out.alloc HB.out.size _⟩
    | true =>
      go_wp2_with fail
      refine (isFull_any p E vs _ HE1.out).mono ?_
      rintro e w2 ⟨rfl,rfl⟩
      rw[hfd]
      go_wp2
      go_ret
      exact⟨by simp[obstF,HC.out,hf],HB.out.alloc HB.out.size _⟩
   ·have hk2i:((k:Int)==2)=false:=beq_eq_false_iff_ne.2 (by omega)
    go_wp2_with fail
    refine (isFull_any p E vs _ HE1.out).mono ?_
    rintro e w2 ⟨rfl,rfl⟩
    rw[hfd]
    go_wp2
    go_ret
    exact⟨by simp[obstF,hk,hk2,hf],HB.out.alloc HB.out.size _⟩
end Go.Proofs.YtmehkneofinmiaaGreatDoor

/-
 Texts of this proof, part 14.
-/
import Derived.Test.YtmehkneofinmiaaGreatDoorP13
import Derived.Test.YtmehkneofinmiaaGreatDoorP10
import Derived.Lib.JoinLaws
import Derived.Lib.AppendZerosOnto
import Derived.Lib.Overlaps
set_option maxRecDepth 100000
set_option maxHeartbeats 4000000
namespace Go.Proofs.YtmehkneofinmiaaGreatDoor
open Go.RowKit
structure Fld where
 name:List UInt8
 value:List UInt8
def fldCells (f:Fld):List Value:=[.string ⟨f.name.toArray⟩,.string ⟨f.value.toArray⟩]
def fldRow (l:List Fld):List Value:=l.flatMap fldCells
def fldText (f:Fld):List UInt8:=f.name++[58,32]++f.value++[13,10]
def textF (told:Nat)(fs:List Fld)(body:List UInt8):List UInt8:=Lib.decDigits told++[13,10]++fs.flatMap fldText++[13,10]++body
theorem fldRow_get (l:List Fld)(i:Nat)(v:Fld)(h:l[i]?=some v)(j:Nat)(hj:j<2):(fldRow l)[i*2+j]?=(fldCells v)[j]?:=by
 induction l generalizing i with
 | nil=>simp at h
 | cons a l ih =>
   simp only[fldRow,List.flatMap_cons]
   cases i with
   | zero =>
     simp at h;subst h
     rw[List.getElem?_append_left (by simp[fldCells];omega)]
     simp
   | succ i =>
     rw[List.getElem?_append_right (by simp[fldCells];omega)]
     have e:(i+1)*2+j-(fldCells a).length=i*2+j:=by simp[fldCells];omega
     rw[e]
     exact ih i (by simpa using h)
theorem fld_cells {w:World}{vs:Value}{l:List Fld}(h:w.ownsRow 0 151 2 vs l.length (fldRow l))(i:Nat)(v:Fld)(hi:l[i]?=some v) :
 ∃ g cap,vs=.slice (some ⟨g,0,none⟩) l.length cap/\l.length<=cap/\cap<=maxLen/\g<w.heap.size/\(∀ j,w.frozen? ⟨g,j,none⟩=false) /\
  w.cell? ⟨g,i*2,none⟩=some (.string ⟨v.name.toArray⟩)/\w.cell? ⟨g,i*2+1,none⟩=some (.string ⟨v.value.toArray⟩):=by
 have hlt:i<l.length:=(List.getElem?_eq_some_iff.1 hi).1
 rcases h.2 with ⟨_,h0⟩|⟨g,cap,cur,hv,_,hg,hn,hm,hs,htk⟩
 ·omega
 ·refine⟨g,cap,hv,hn,hm,(Array.getElem?_eq_some_iff.1 hg).1,fun j=>by simp[World.frozen?,hg],?_⟩
  have key:∀ j,j<2->w.cell? ⟨g,i*2+j,none⟩=(fldCells v)[j]?:=by
   intro j hj
   rw[<- fldRow_get l i v hi j hj,<- htk,List.getElem?_take_of_lt (by omega)]
   simp[World.cell?,hg]
  exact⟨key 0 (by omega),key 1 (by omega)⟩
theorem strCells_mk (l:List UInt8):Lib.strCells ⟨l.toArray⟩=Lib.byteCells l:=by simp[Lib.strCells,Lib.byteCells]
theorem byteCells_append (a b:List UInt8):Lib.byteCells (a++b)=Lib.byteCells a++Lib.byteCells b:=by simp[Lib.byteCells]
structure Tx (w0:World)(a b:Nat)(told:Nat)(fs:Value)(body:List UInt8)(t:List UInt8)(w:World):Prop where
 low:Below w0.heap.size w0 w
 h0:w0.heap.size<=a
 ab:a<b
 blk:w.heap[a]?=some (.cells #[.int .i64 told,fs,.string ⟨body.toArray⟩] 100 (0,0))
 bld:Lib.IsBuilder 145 5 b b (Lib.byteCells t) w
 sz:b<w.heap.size
theorem builder_below {T e B b:Nat}{bs:List Value}{w x:World}(h:Lib.IsBuilder T e B b bs w)(hb:Below w.heap.size w x):Lib.IsBuilder T e B b bs x:=by
 rcases h with ⟨h0,v,h1,h2,h3⟩|⟨h0,v,h1,h2,h3⟩
 ·exact Or.inl ⟨h0,v,(hb.block _ (Array.getElem?_eq_some_iff.1 h1).1).trans h1,row_below h2 hb,h3⟩
 ·exact Or.inr ⟨h0,v,(hb.block _ (Array.getElem?_eq_some_iff.1 h1).1).trans h1,row_below h2 hb,h3⟩
theorem Tx.below {w0:World}{a b told:Nat}{fs:Value}{body t:List UInt8}{w x:World}(h:Tx w0 a b told fs body t w)(hb:Below w.heap.size w x):Tx w0 a b told fs body t x :=
 ⟨h.low.trans (hb.mono h.low.size),h.h0,h.ab,(hb.block a (by have:=h.ab;have:=h.sz;omega)).trans h.blk,builder_below h.bld hb,Nat.lt_of_lt_of_le h.sz hb.size⟩
theorem flat_len (l:List Fld)(hf:∀ f∈l,f.name.length<1000/\f.value.length<1000):(l.flatMap fldText).length<=l.length*2004:=by
 induction l with
 | nil=>simp
 | cons a l ih =>
   have h1:=hf a (by simp)
   have h2:=ih (fun f h=>hf f (by simp[h]))
   simp only[List.flatMap_cons,List.length_append,List.length_cons,fldText,List.length_nil]
   omega
theorem Tx.write {w0:World}{a b told:Nat}{fs:Value}{body t:List UInt8}{w:World}(h:Tx w0 a b told fs body t w)(s:List UInt8)(hl:t.length+s.length<=140737488355328) :
 Calls Tryz.prog 73 #[.pointer (some ⟨b,0,none⟩),.string ⟨s.toArray⟩] w fun e w'=>(∃ v,e=.returned v)/\Tx w0 a b told fs body (t++s) w':=by
 refine (Tryz.Builder_WriteString b b (Lib.byteCells t) ⟨s.toArray⟩ w h.bld (by rw[Lib.byteCells_length,Lib.size_eq];simpa using hl) (Nat.le_of_lt h.sz)).mono ?_
 rintro e w' ⟨rfl,hB,hb⟩
 refine⟨⟨_,rfl⟩,⟨h.low.trans (hb.mono (by have:=h.h0;have:=h.ab;omega)),h.h0,h.ab,(hb.block a h.ab).trans h.blk,?_,Nat.lt_of_lt_of_le h.sz hb.size⟩⟩
 rw[strCells_mk,<- byteCells_append] at hB
 exact Or.inr hB
theorem dec_len (n:Nat)(h:n<100000):(Lib.decDigits n).length<=5:=dec_len_pow 4 n h
theorem text_any (told:Nat)(fs:Value)(l:List Fld)(body:List UInt8)(w:World)(hT:Tab w)(ht:told<100000)
 (hF:w.ownsRow 0 151 2 fs l.length (fldRow l))(hl:l.length<1000)(hf:∀ f∈l,f.name.length<1000/\f.value.length<1000)(hb:body.length<1000000) :
 Calls Tryz.prog 42 #[.agg #[.int .i64 told,fs,.string ⟨body.toArray⟩]] w fun e w'=>e=.returned (.string ⟨(textF told l body).toArray⟩)/\Below w.heap.size w w':=by
 have hlen:∃ a c,fs=.slice a l.length c:=by
  rcases hF.2 with ⟨rfl,h0⟩|⟨g,cap,cur,rfl,_⟩
  ·rw[h0];exact⟨_,_,rfl⟩
  ·exact⟨_,_,rfl⟩
 have HF:Hid (w.ownsRow 0 151 2 fs l.length (fldRow l)):=hF
 clear hF
 obtain⟨fa,fc,hfs⟩:=hlen
 subst hfs
 go_enter Tryz.func42,Tryz.ntmps42
 go_wp2_with fail
 have hb0:Below w.heap.size w ((w.alloc (.cells #[.int .i64 told,.slice fa l.length fc,.string ⟨body.toArray⟩] 100)).alloc (.cells #[.pointer none,.slice none 0 0] 145)):=((Below.refl _ _).alloc (Nat.le_refl _) _).alloc (by simp) _
 refine (itoa_any told _ (by omega) (by omega) (hT.below hb0)).mono ?_
 rintro e w1 ⟨rfl,hb1⟩
 have X1:Tx w w.heap.size (w.heap.size+1) told (.slice fa l.length fc) body [] w1:=by
  have hs:=hb1.size
  simp at hs
  refine⟨hb0.trans (hb1.mono (by simp;try omega)),Nat.le_refl _,by omega,?_,Or.inl ⟨Nat.le_refl _,.slice none 0 0,?_,⟨rfl,Or.inl ⟨rfl,rfl⟩⟩,by simp[Value.ownBlock]⟩,by omega⟩
  ·rw[hb1.block _ (by simp;try omega)]
   rw[heap_alloc_old _ _ (by simp)]
   exact heap_alloc_new _ _
  ·rw[hb1.block _ (by simp;try omega)]
   have:=heap_alloc_new (w.alloc (.cells #[.int .i64 told,.slice fa l.length fc,.string ⟨body.toArray⟩] 100)) (.cells #[.pointer none,.slice none 0 0] 145)
   simpa using this
 rw[Int.toNat_natCast]
 obtain⟨D,hD⟩:∃ D,Lib.decDigits told=D:=⟨_,rfl⟩
 have hDl:D.length<=5:=by rw[<- hD];exact dec_len told ht
 rw[hD]
 have HW:Hid (textF told l body=D++[13,10]++l.flatMap fldText++[13,10]++body):=by rw[<- hD];rfl
 have HF1:Hid _:=HF
 clear hb0 hb1 hD HF1
 go_wp2_with fail
 refine (X1.write D (by simp;omega)).mono ?_
 rintro e w2 ⟨⟨v,rfl⟩,X2⟩
 clear X1
 go_wp2_with fail
 refine (X2.write [13,10] (by simp;omega)).mono ?_
 rintro e w3 ⟨⟨v,rfl⟩,X3⟩
 clear X2
 have c1:w3.cell? ⟨w.heap.size,1,none⟩=some (.slice fa l.length fc):=by simp[World.cell?,X3.blk]
 have X:Hid _:=X3
 clear X3 c1
 have c1:w3.cell? ⟨w.heap.size,1,none⟩=some (.slice fa l.length fc):=by simp[World.cell?,X.out.blk]
 go_wp2
 go_loopw [14] (fun x wx=>∃ i:Nat,i<=l.length/\x=.int .i64 i/\Hid (Tx w w.heap.size (w.heap.size+1) told (.slice fa l.length fc) body (D++[13,10]++(l.take i).flatMap fldText) wx)) (fun x _=>l.length-(intOf x).toNat)
 case atStart=>exact⟨0,by omega,rfl,by simpa using X⟩
 case round =>
  obtain⟨i,hi,rfl,X⟩:=hrel
  by_cases hlt2:i<l.length
  ·obtain⟨v,hv⟩:∃ v,l[i]?=some v:=⟨l[i],List.getElem?_eq_getElem hlt2⟩
   obtain⟨hn1,hn2⟩:=hf v (List.mem_of_getElem? hv)
   obtain⟨g,cap,e1,hn,hm,hg,hfz,c0,c1⟩:=fld_cells (row_below HF.out (X.out.low.mono (Nat.le_refl _))) i v hv
   cases e1
   have HV:Hid (l[i]?=some v):=hv
   have hltI:(i:Int)<(l.length:Int):=by omega
   have hsz:(⟨v.name.toArray⟩:ByteArray).size<1000:=by rw[Lib.size_eq];simpa using hn1
   have hsz2:(⟨v.value.toArray⟩:ByteArray).size<1000:=by rw[Lib.size_eq];simpa using hn2
   clear hv
   go_wp2_with fail
   have et:(⟨v.name.toArray⟩++⟨#[58,32]⟩++⟨v.value.toArray⟩++⟨#[13,10]⟩:ByteArray)=⟨(fldText v).toArray⟩:=by
    apply ByteArray.ext
    simp[ByteArray.data_append,fldText]
   rw[et]
   have hfl:=flat_len (l.take i) (fun f h=>hf f (List.mem_of_mem_take h))
   have htl:(l.take i).length<=1000:=by rw[List.length_take];omega
   have hvl:(fldText v).length<=2004:=by simp only[fldText,List.length_append,List.length_cons,List.length_nil];omega
   refine ((X.out.below ((Below.refl _ _).alloc (Nat.le_refl _) _)).write (fldText v) (by simp only[List.length_append,List.length_cons,List.length_nil];omega)).mono ?_
   rintro e w4 ⟨⟨v',rfl⟩,X4⟩
   have X5:Hid (Tx w w.heap.size (w.heap.size+1) told (.slice (some ⟨g,0,none⟩) l.length fc) body (D++[13,10]++(l.take (i+1)).flatMap fldText) w4):=by
    have e2:(l.take (i+1)).flatMap fldText=(l.take i).flatMap fldText++fldText v:=by
     rw[List.take_add_one,HV.out]
     simp
    rw[e2,<- List.append_assoc]
    exact X4
   clear X4 X et hfl
   go_wp2
   refine⟨⟨i+1,by omega,rfl,X5⟩,?_⟩
   simp[intOf]
   omega
  ·obtain rfl:i=l.length:=by omega
   clear hlt2
   rw[List.take_length] at X
   have hfl:=flat_len l hf
   go_wp2_with fail
   refine (X.out.write [13,10] (by simp only[List.length_append,List.length_cons,List.length_nil];omega)).mono ?_
   rintro e w5 ⟨⟨v5,rfl⟩,X5⟩
   have c2:w5.cell? ⟨w.heap.size,2,none⟩=some (.string ⟨body.toArray⟩):=by simp[World.cell?,X5.blk]
   have X6:Hid _:=X5
   clear X X5
   go_wp2_with fail
   refine (X6.out.write body (by simp only[List.length_append,List.length_cons,List.length_nil];omega)).mono ?_
   rintro e w7 ⟨⟨v7,rfl⟩,X7⟩
   clear X6 c2
   rw[<- HW.out] at X7
   go_wp2_with fail
   refine (Tryz.Builder_String_any (w.heap.size+1) (w.heap.size+1) _ _ X7.bld (Nat.le_of_lt X7.sz)).mono ?_
   rintro e w8 ⟨rfl,hb8⟩
   go_wp2
   go_ret
   exact⟨rfl,X7.low.trans (hb8.mono (by omega))⟩
end Go.Proofs.YtmehkneofinmiaaGreatDoor
namespace Go.Proofs.YtmehkneofinmiaaGreatDoor
open Go.RowKit
attribute [local go_sem ↓] appS_is
attribute [local go_sem] app_run
theorem wp_copy_run (w:World){P:Program}{o:Oper}{a:Act}{K:Act->World->Prop}{Q:Exit->Act->World->Prop}(d s:Operand)(t t':TypeId)
 (ho:o.op=.call { callee:=.builtin .copy,args:=#[d,s],argTypes:=#[t,t'] })(v u:Value)(hd:a.eval d=v)(hs:a.eval s=u){v':Value}{w':World}
 (hr:(Builtin.copy_ #[t,t'] o.type #[v,u]).run P w=.ok v' w')(h:K (a.put o.dst v') w'):o.wp P a w K Q:=by
 unfold Oper.wp execOp
 simp only[ho,resolve,invoke,builtin,Sem.run_bind,Sem.run_pure,Result.andThen_ok,List.map_toArray,List.map_cons,List.map_nil,hd,hs,hr]
 exact h
theorem wpList_copy_run (w:World){P:Program}{ops:Array Oper}{rest:List Oper}{o:Oper}{a:Act}{Q:Exit->Act->World->Prop}(hgd:o.guard=none)(d s:Operand)(t t':TypeId)
 (ho:o.op=.call { callee:=.builtin .copy,args:=#[d,s],argTypes:=#[t,t'] })(v u:Value)(hd:a.eval d=v)(hs:a.eval s=u){v':Value}{w':World}
 (hr:(Builtin.copy_ #[t,t'] o.type #[v,u]).run P w=.ok v' w')(h:wpList P ops Q rest (a.put o.dst v') w'):wpList P ops Q (o::rest) a w :=
 wpList_plain hgd fun _ hK=>wp_copy_run w d s t t' ho v u hd hs hr (hK _ _ h)
theorem infoPm:(Tryz.prog.info? 170).map (fun i=>(i.zero,i.size,i.bytes))=some (some (.pointer none),1,8):=by kernel_rfl
theorem sizeP:(Tryz.prog.info? 170).map (·.size)=some 1:=by kernel_rfl
theorem row1_cells {w:World}{e:TypeId}{g n cap:Nat}{xs:List Value}(h:w.ownsRow 0 e 1 (.slice (some ⟨g,0,none⟩) n cap) n xs) :
 xs.length=n/\n<=cap/\cap<=9223372036854775807/\g<w.heap.size/\∃ cur,w.heap[g]?=some (.cells cur e (0,0))/\cur.size=cap/\cur.toList.take n=xs/\(∀ j v,xs[j]?=some v->w.cell? ⟨g,j,none⟩=some v) /\
  (∀ j,j<cap->(w.cell? ⟨g,j,none⟩).isSome=true)/\∀ j,w.frozen? ⟨g,j,none⟩=false:=by
 rcases h.2 with ⟨h0,_⟩|⟨g',cap',cur,hv,_,hg,hn,hm,hs,htk⟩
 ·cases h0
 ·cases hv
  rw[Nat.mul_one] at hs htk
  have hl:xs.length=n:=by rw[h.1,Nat.mul_one]
  refine⟨hl,hn,by simpa [maxLen] using hm,(Array.getElem?_eq_some_iff.1 hg).1,cur,hg,hs,htk,?_,?_,?_⟩
  ·intro j v hv
   have hj:j<n:=by rw[<- hl];exact (List.getElem?_eq_some_iff.1 hv).1
   rw[<- htk,List.getElem?_take_of_lt hj] at hv
   simpa [World.cell?,hg] using hv
  ·intro j hj
   simp only[World.cell?,hg]
   rw[Array.getElem?_eq_getElem (by omega)]
   rfl
  ·intro j
   simp[World.frozen?,hg]
theorem insert_end (es:Value)(n:Nat)(xs:List Value)(vb:Nat)(x:Value)(w:World)(h:w.ownsRow 0 170 1 es n xs)(hx:x.oneCell'=true)(hv:w.heap[vb]?=some (.cells #[x] 170 (0,0)))(hn:n<1000000) :
 Calls Tryz.prog 297 #[es,.int .i64 n,.slice (some ⟨vb,0,none⟩) 1 1] w fun e w'=>∃ g cap,e=.returned (.slice (some ⟨g,0,none⟩) (n+1) cap) /\
  w'.ownsRow 0 170 1 (.slice (some ⟨g,0,none⟩) (n+1) cap) (n+1) (xs++[x])/\(es.ownBlock=some g\/w.heap.size<=g)/\Off (fun k=>es.ownBlock=some k) w w':=by
 obtain⟨i0,hi0,hz0,hz1,hz2⟩:=info_parts infoPm
 have HR:Hid (w.ownsRow 0 170 1 es n xs):=h
 have HV:Hid _:=hv
 rcases h.2 with ⟨rfl,rfl⟩|⟨g0,c,cur,rfl,_,_,hnc,_⟩
 all_goals (
  clear h hv
  go_enter Tryz.func297,Tryz.ntmps297
  go_wp2_with (at_builtin;refine wpList_append_lies _ rfl _ _ 162 rfl 0 170 i0 _ 1 8 Tryz.underlying162 hi0 hz0 hz1 hz2 rfl (by omega) _ _ xs rfl HR.out ⟨vb,0,none⟩ 1 1 [x] rfl rfl (World.news_of_block (cs:=#[x]) HV.out) (by simpa using hx) (by omega) (by simp only[maxLen];omega) (by omega) (by omega) _ rfl ?_;intro g cap w1 hown1 hgrow hat hlt)
  all_goals (
   go_ret
   refine⟨g,cap,rfl,hown1,?_,(Off.refl _ w).grown hgrow (fun k hk=>Or.inl hk)⟩
   rcases hat with h1|h1
   ·exact Or.inl h1
   ·right;omega))
theorem isSome_setCells (b:Nat)(vs:List Value)(o:Nat)(w:World)(h:∀ j,j<vs.length->(w.cell? ⟨b,o+j,none⟩).isSome=true)(k:Nat)(hk:(w.cell? ⟨b,k,none⟩).isSome=true):((w.setCells b o vs).cell? ⟨b,k,none⟩).isSome=true:=by
 by_cases hin:o<=k/\k<o+vs.length
 ·have:=World.cell?_setCells_in b vs o w h (k-o) (by omega)
  rw[show o+(k-o)=k by omega] at this
  rw[this];rfl
 ·rw[World.cell?_setCells_out b vs o w ⟨b,k,none⟩ (fun _ _=>by show k<o\/o+vs.length<=k;omega)]
  exact hk
theorem Off.setCells {S:Nat->Prop}{w:World}(g:Nat)(hg:S g\/w.heap.size<=g):∀ (vs:List Value) (o:Nat) (x:World),Off S w x->Off S w (x.setCells g o vs)
 | [],_,_,h=>h
 | v::r,o,_,h=>Off.setCells g hg r (o+1) _ (h.set g o v hg)
theorem row1_set {x:World}{e:TypeId}{g n cap:Nat}{xs:List Value}(cur:Array Value)(hg:x.heap[g]?=some (.cells cur e (0,0)))(hs:cur.size=cap)(hn:n<=cap)(hc:cap<=9223372036854775807)(hl:xs.length=n)(hx:∀ j,j<n->cur[j]?=xs[j]?) :
 x.ownsRow 0 e 1 (.slice (some ⟨g,0,none⟩) n cap) n xs:=by
 refine⟨by omega,Or.inr ⟨g,cap,cur,rfl,Nat.zero_le _,hg,hn,by simpa [maxLen] using hc,by omega,?_⟩⟩
 apply List.ext_getElem?
 intro j
 rw[Nat.mul_one]
 by_cases hj:j<n
 ·rw[List.getElem?_take_of_lt hj,<- hx j hj];simp
 ·rw[List.getElem?_eq_none (by simp;omega),List.getElem?_eq_none (by omega)]
theorem setCells_blk (g:Nat):∀ (vs:List Value) (o:Nat) (w:World) (cur:Array Value) (t:TypeId) (fr:Nat×Nat),w.heap[g]?=some (.cells cur t fr)->∃ cur',(w.setCells g o vs).heap[g]?=some (.cells cur' t fr)/\cur'.size=cur.size
 | [],_,_,cur,_,_,h=>⟨cur,h,rfl⟩
 | v::r,o,w,_,t,fr,h=>by
   obtain⟨cur',h1,h2⟩:=setCells_blk g r (o+1) (w.setCell ⟨g,o,none⟩ v) _ t fr (heap_set h)
   exact⟨cur',h1,by rw[h2];simp⟩
theorem insert_shift (g c n i vb:Nat)(xs:List Value)(x:Value)(w:World)(h:w.ownsRow 0 170 1 (.slice (some ⟨g,0,none⟩) n c) n xs)(h1:∀ v∈xs,v.oneCell'=true)(hx:x.oneCell'=true)(hv:w.heap[vb]?=some (.cells #[x] 170 (0,0)))(hi:i<n)(hroom:n+1<=c)(hvb:vb≠g)(hn:n<1000000) :
 Calls Tryz.prog 297 #[.slice (some ⟨g,0,none⟩) n c,.int .i64 i,.slice (some ⟨vb,0,none⟩) 1 1] w fun e w'=>e=.returned (.slice (some ⟨g,0,none⟩) (n+1) c) /\
  w'=(w.drew.setCells g (i+1) (xs.drop i)).setCells g i [x]:=by
 obtain⟨hcl,hnc,hc63,hlt,cur,hg,hcs,htk,hcell,hsp,hfz⟩:=row1_cells h
 have hvx:w.cell? ⟨vb,0,none⟩=some x:=by simp[World.cell?,hv]
 have hov:∀ lb cb,(callFunc 323 #[.slice (some ⟨vb,0,none⟩) 1 1,.slice (some ⟨g,i+1,none⟩) lb cb]).run Tryz.prog w=.ok (.value (.bool false)) w:=fun lb cb=>by
  rw[run_callFunc_extern Tryz.func323 (by kernel_rfl) (by kernel_rfl) (by kernel_rfl) (e:=Extern.SlicesOverlaps.overlaps #[162,162] #[4]) (by kernel_rfl),
   Lib.run_overlaps_apart w 162 4 170 Tryz.underlying162 1 Tryz.sizeOf170 ⟨vb,0,none⟩ ⟨g,i+1,none⟩ 1 1 lb cb hvb 170 170 1 cur.size (by simp[World.shape?,hv]) (by simp[World.shape?,hg]) (by omega) (by simp[World.frozen?,hv]) (by simp[World.frozen?,hv])]
  rfl
 have hdl:(xs.drop i).length=n-i:=by rw[List.length_drop,hcl]
 have hcp1:∀ ty dc sc,(Builtin.copy_ #[162,162] ty #[.slice (some ⟨g,i+1,none⟩) (n-i) dc,.slice (some ⟨g,i,none⟩) (n+1-i) sc]).run Tryz.prog w.drew=.ok (goInt (xs.drop i).length) (w.drew.setCells g (i+1) (xs.drop i)):=fun ty dc sc =>
  run_copy_cells w.drew _ _ ty 170 g (i+1) (n-i) dc ⟨g,i,none⟩ (n+1-i) sc (xs.drop i) Tryz.underlying162 sizeP (by rw[hdl];simp only[Nat.min_def];split<;>omega)
   (fun j v hj=>by rw[Addr.add_lit];exact hcell (i+j) v (by rwa [List.getElem?_drop] at hj))
   (fun j hj=>hsp _ (by omega)) (fun j hj=>hfz _) (fun v hv=>h1 v (List.mem_of_mem_drop hv))
 obtain⟨W1,hW1⟩:∃ W1,W1=w.drew.setCells g (i+1) (xs.drop i):=⟨_,rfl⟩
 have hsp1:∀ k,k<n+1->(W1.cell? ⟨g,k,none⟩).isSome=true:=fun k hk=>by
  rw[hW1]
  exact isSome_setCells g (xs.drop i) (i+1) w.drew (fun j hj=>hsp _ (by omega)) _ (hsp k (by omega))
 have hcp2:∀ (W:World),(∀ x,W.cell? x=W1.cell? x)->(∀ x,W.frozen? x=W1.frozen? x)->∀ ty dc,(Builtin.copy_ #[162,162] ty #[.slice (some ⟨g,i,none⟩) (n+1-i) dc,.slice (some ⟨vb,0,none⟩) 1 1]).run Tryz.prog W=.ok (goInt 1) (W.setCells g i [x]):=fun W hWc hWf ty dc =>
  run_copy_cells W _ _ ty 170 g i (n+1-i) dc ⟨vb,0,none⟩ 1 1 [x] Tryz.underlying162 sizeP (by simp only[List.length_singleton,Nat.min_def];split<;>omega)
   (fun j v hj=>by
     rw[Addr.add_lit,hWc,hW1,World.cell?_setCells_out g _ _ _ _ (fun h _=>absurd h hvb)]
     cases j with
     | zero=>simp at hj;subst hj;exact hvx
     | succ j=>simp at hj)
   (fun j hj=>by rw[hWc];exact hsp1 _ (by simp at hj;omega)) (fun j hj=>by rw[hWf,hW1,World.frozen?_setCells];exact hfz _) (by simpa using hx)
 rw[<- hW1] at hcp1
 have HW:Hid _:=hW1
 have hz2:¬ ((i:Int)=(n:Int)):=by omega
 have hb2:¬ (c=i+1):=by omega
 have hb4:¬ (c=i):=by omega
 clear hW1 hsp1 hsp hfz hcell htk hcs hg hvx h hdl
 go_enter Tryz.func297,Tryz.ntmps297
 go_wp2_with (simp only[hov])
 go_region
 go_wp2_with (at_builtin;refine wpList_copy_run _ rfl _ _ 162 162 rfl _ _ rfl rfl (hcp2 _ (fun _=>rfl) (fun _=>rfl) _ _) ?_)
 go_ret
 exact⟨rfl,by rw[HW.out]⟩
end Go.Proofs.YtmehkneofinmiaaGreatDoor
namespace Go.Proofs.YtmehkneofinmiaaGreatDoor
open Go.RowKit
theorem insert_grow (g c n i vb:Nat)(xs:List Value)(x:Value)(w:World)(h:w.ownsRow 0 170 1 (.slice (some ⟨g,0,none⟩) n c) n xs)(h1:∀ v∈xs,v.oneCell'=true)(hx:x.oneCell'=true)(hv:w.heap[vb]?=some (.cells #[x] 170 (0,0)))(hi:i<n)(hroom:c<n+1)(hn:n<1000000) :
 Calls Tryz.prog 297 #[.slice (some ⟨g,0,none⟩) n c,.int .i64 i,.slice (some ⟨vb,0,none⟩) 1 1] w fun e w'=>∃ G ROW,e=.returned (.slice (some ⟨w.heap.size,0,none⟩) (n+1) G)/\n+1<=G/\G<=9223372036854775807/\ROW.size=G/\ROW.toList.take i=xs.take i /\
  w'=(((w.alloc (.cells ROW 170)).drew.setCells w.heap.size i [x]).drew).setCells w.heap.size (i+1) (xs.drop i):=by
 obtain⟨i0,hi0,hz0,hzs,hzb⟩:=info_parts infoPm
 obtain⟨hcl,hnc,hc63,hlt,cur,hg,hcs,htk,hcell,hsp,hfz⟩:=row1_cells h
 have hvx:w.cell? ⟨vb,0,none⟩=some x:=by simp[World.cell?,hv]
 have hvw:vb<w.heap.size:=(Array.getElem?_eq_some_iff.1 hv).1
 have hkk:(n:Int)+1-(i:Int)=((n+1-i:Nat):Int):=by omega
 have hik:i+(n+1-i)=n+1:=by omega
 have hold:(Builtin.firstCells i0.size i (.slice (some ⟨g,0,none⟩) i c)).run Tryz.prog w.drew=.ok (xs.take i).toArray w.drew:=by
  rw[hzs]
  exact run_firstCells_some w.drew 1 i ⟨g,0,none⟩ i c (xs.take i) (by rw[List.length_take];omega) (fun j v hj=>by
   rw[Addr.add_lit]
   rw[List.getElem?_take] at hj
   split at hj
   ·simpa using hcell j v hj
   ·cases hj)
 have hrz:∀ ty,(Builtin.append_ #[162,3] ty #[.slice (some ⟨g,0,none⟩) i c,.int .i64 ((n:Int)+1-(i:Int))]).run Tryz.prog w =
  .ok (.slice (some ⟨w.heap.size,0,none⟩) (n+1) (grownCap w (n+1) c 170)) (w.drew.alloc (.cells ((xs.take i).toArray++Builtin.zeroCells (Value.pointer none).cells (n+1-i)++Builtin.zeroCells (Value.pointer none).cells (grownCap w (n+1) c 170-(n+1))) 170)):=fun ty=>by
  have h:=Lib.run_append_grow_zeros w 162 3 ty 170 i0 _ .i64 .i64 Tryz.underlying162 Tryz.underlying3 hi0 hz0 (some ⟨g,0,none⟩) i c (xs.take i) hold (n+1-i) (by omega) (by omega) (by omega) (by omega) (by rw[hzb];omega) (by rw[hzb,hik];exact growslice_fits hroom (by omega))
  rw[hik] at h
  rw[hkk]
  exact h
 obtain⟨G,hG⟩:∃ G,G=grownCap w (n+1) c 170:=⟨_,rfl⟩
 obtain⟨ROW,hROW⟩:∃ ROW:Array Value,ROW=(xs.take i).toArray++Builtin.zeroCells (Value.pointer none).cells (n+1-i)++Builtin.zeroCells (Value.pointer none).cells (G-(n+1)):=⟨_,rfl⟩
 rw[<- hG] at hrz
 rw[<- hROW] at hrz
 have hGn:n+1<=G:=by rw[hG];exact grownCap_ge w _ _ _
 have hG63:G<=9223372036854775807:=by
  have:=grownCap_le_maxLen w (n+1) c 170 (by unfold maxLen;omega)
  rw[<- hG] at this
  unfold maxLen at this
  omega
 have hRs:ROW.size=G:=by
  rw[hROW]
  simp[Builtin.zeroCells,Value.cells]
  omega
 have hRt:ROW.toList.take i=xs.take i:=by
  rw[hROW,Array.toList_append,Array.toList_append,List.append_assoc]
  rw[List.take_append_of_le_length (by simp;omega)]
  show List.take i (List.take i xs)=List.take i xs
  rw[List.take_take,Nat.min_self]
 obtain⟨W1,hW1⟩:∃ W1,W1=w.drew.alloc (.cells ROW 170):=⟨_,rfl⟩
 rw[<- hW1] at hrz
 have hN:∀ j,j<n+1->(W1.cell? ⟨w.heap.size,j,none⟩).isSome=true:=fun j hj=>by
  rw[hW1,World.cell?_alloc_at (w:=w.drew) ROW _ w.heap.size j rfl,Array.getElem?_eq_getElem (by omega)];rfl
 have hNf:∀ j,W1.frozen? ⟨w.heap.size,j,none⟩=false:=fun j=>by rw[hW1];exact World.frozen?_alloc_at (w:=w.drew) ROW _ w.heap.size j rfl
 have hOb:∀ j v,w.cell? ⟨g,j,none⟩=some v->W1.cell? ⟨g,j,none⟩=some v:=fun j v h=>by rw[hW1,World.cell?_alloc_past (w:=w.drew) _ g j hlt];exact h
 have hOv:W1.cell? ⟨vb,0,none⟩=some x:=by rw[hW1,World.cell?_alloc_past (w:=w.drew) _ vb 0 hvw];exact hvx
 have hcpA:∀ (W:World),(∀ x,W.cell? x=W1.cell? x)->(∀ x,W.frozen? x=W1.frozen? x)->∀ ty dc,(Builtin.copy_ #[162,162] ty #[.slice (some ⟨w.heap.size,i,none⟩) (n+1-i) dc,.slice (some ⟨vb,0,none⟩) 1 1]).run Tryz.prog W=.ok (goInt 1) (W.setCells w.heap.size i [x]):=fun W hWc hWf ty dc =>
  run_copy_cells W _ _ ty 170 w.heap.size i (n+1-i) dc ⟨vb,0,none⟩ 1 1 [x] Tryz.underlying162 sizeP (by simp only[List.length_singleton,Nat.min_def];split<;>omega)
   (fun j v hj=>by
     rw[Addr.add_lit,hWc]
     cases j with
     | zero=>simp at hj;subst hj;exact hOv
     | succ j=>simp at hj)
   (fun j hj=>by rw[hWc];exact hN _ (by simp at hj;omega)) (fun j hj=>by rw[hWf];exact hNf _) (by simpa using hx)
 have hGi:¬ (G=i):=by omega
 have hGim:¬ (G=i+1):=by omega
 have hci:¬ (c=i):=by omega
 have hbN:g≠w.heap.size:=by omega
 have hdl:(xs.drop i).length=n-i:=by rw[List.length_drop,hcl]
 have hcpB:∀ (W:World),(∀ q,W.cell? q=(W1.setCells w.heap.size i [x]).cell? q)->(∀ q,W.frozen? q=(W1.setCells w.heap.size i [x]).frozen? q)->∀ ty dc sc,(Builtin.copy_ #[162,162] ty #[.slice (some ⟨w.heap.size,i+1,none⟩) (n-i) dc,.slice (some ⟨g,i,none⟩) (n-i) sc]).run Tryz.prog W=.ok (goInt (xs.drop i).length) (W.setCells w.heap.size (i+1) (xs.drop i)):=fun W hWc hWf ty dc sc =>
  run_copy_cells W _ _ ty 170 w.heap.size (i+1) (n-i) dc ⟨g,i,none⟩ (n-i) sc (xs.drop i) Tryz.underlying162 sizeP (by rw[hdl];simp only[Nat.min_def];split<;>omega)
   (fun j v hj=>by
     rw[Addr.add_lit,hWc,World.cell?_setCells_out _ _ _ _ _ (fun h _=>absurd h hbN)]
     exact hOb _ v (hcell (i+j) v (by rwa [List.getElem?_drop] at hj)))
   (fun j hj=>by rw[hWc];exact isSome_setCells w.heap.size [x] i W1 (fun t ht=>hN _ (by simp at ht;omega)) _ (hN _ (by omega)))
   (fun j hj=>by rw[hWf,World.frozen?_setCells];exact hNf _) (fun v hv=>h1 v (List.mem_of_mem_drop hv))
 subst hW1
 have hE1:∀ x,((w.alloc (.cells ROW 170)).drew).cell? x=(w.drew.alloc (.cells ROW 170)).cell? x:=fun x=>rfl
 have hE2:∀ x,((w.alloc (.cells ROW 170)).drew).frozen? x=(w.drew.alloc (.cells ROW 170)).frozen? x:=fun x=>rfl
 have hF:∀ ty dc sc,_:=hcpB (((w.alloc (.cells ROW 170)).drew.setCells w.heap.size i [x]).drew) (fun x=>rfl) (fun x=>rfl)
 have hz2:¬ ((i:Int)=(n:Int)):=by omega
 have hz3:(c:Int)<(n:Int)+1:=by omega
 have hw1:IntKind.i64.wrap ((i:Int)+1)=(i:Int)+1:=by rw[IntKind.wrap_i64];omega
 have HS:Hid (ROW.size=G):=hRs
 have HT:Hid (ROW.toList.take i=xs.take i):=hRt
 have hb3:(i:Int)<=(n:Int):=by omega
 clear hkk hik hold hROW hG hRs hRt hN hNf hOb hOv hcell hsp hfz htk hcs hg h
 go_enter Tryz.func297,Tryz.ntmps297
 go_wp2_with (first
  | (at_builtin;refine Lib.wpList_append_run _ rfl _ _ _ _ rfl _ _ rfl rfl _ _ (hrz _) ?_)
  | (at_builtin;refine wpList_copy_run _ rfl _ _ 162 162 rfl _ _ rfl rfl (hcpA _ hE1 hE2 _ _) ?_))
 go_region
 go_wp2
 go_ret
 exact⟨G,ROW,rfl,hGn,hG63,HS.out,HT.out,rfl⟩
theorem put_get (xs:List Value)(x:Value)(i j:Nat)(hi:i<=xs.length):(xs.take i++x::xs.drop i)[j]?=if j<i then xs[j]? else if j=i then some x else xs[j-1]?:=by
 by_cases h:j<i
 ·rw[if_pos h,List.getElem?_append_left (by simp;omega),List.getElem?_take_of_lt h]
 ·rw[if_neg h,List.getElem?_append_right (by simp;omega),List.length_take,Nat.min_eq_left hi]
  by_cases h2:j=i
  ·rw[if_pos h2,h2];simp
  ·rw[if_neg h2]
   obtain⟨k,rfl⟩:∃ k,j=i+1+k:=⟨j-i-1,by omega⟩
   rw[show i+1+k-i=k+1 by omega,List.getElem?_cons_succ,List.getElem?_drop,show i+1+k-1=i+k by omega]
theorem row1_of {x:World}{e:TypeId}{g n cap:Nat}{xs:List Value}(cur:Array Value)(hg:x.heap[g]?=some (.cells cur e (0,0)))(hs:cur.size=cap)(hn:n<=cap)(hc:cap<=9223372036854775807)(hl:xs.length=n)(hx:∀ j,j<n->x.cell? ⟨g,j,none⟩=xs[j]?) :
 x.ownsRow 0 e 1 (.slice (some ⟨g,0,none⟩) n cap) n xs :=
 row1_set cur hg hs hn hc hl (fun j hj=>by rw[<- hx j hj];simp[World.cell?,hg])
theorem insert_any (es:Value)(n i:Nat)(xs:List Value)(vb:Nat)(x:Value)(w:World)(h:w.ownsRow 0 170 1 es n xs)(h1:∀ v∈xs,v.oneCell'=true)(hx:x.oneCell'=true)(hv:w.heap[vb]?=some (.cells #[x] 170 (0,0)))(hi:i<=n)(hvb:es.ownBlock≠some vb)(hn:n<1000000) :
 Calls Tryz.prog 297 #[es,.int .i64 i,.slice (some ⟨vb,0,none⟩) 1 1] w fun e w'=>∃ g cap,e=.returned (.slice (some ⟨g,0,none⟩) (n+1) cap) /\
  w'.ownsRow 0 170 1 (.slice (some ⟨g,0,none⟩) (n+1) cap) (n+1) (xs.take i++x::xs.drop i)/\(es.ownBlock=some g\/w.heap.size<=g)/\Off (fun k=>es.ownBlock=some k) w w':=by
 have hxl:xs.length=n:=by rw[h.1,Nat.mul_one]
 by_cases he:i=n
 ·subst he
  have e:xs.take i++x::xs.drop i=xs++[x]:=by rw[List.take_of_length_le (by omega),List.drop_of_length_le (by omega)]
  rw[e]
  exact insert_end es i xs vb x w h hx hv hn
 ·have hlt:i<n:=by omega
  obtain⟨g,c,rfl⟩:∃ g c,es=.slice (some ⟨g,0,none⟩) n c:=by
   rcases h.2 with ⟨_,h0⟩|⟨g,cap,cur,rfl,_⟩
   ·omega
   ·exact⟨g,cap,rfl⟩
  obtain⟨_,hnc,hc63,hgl,cur,hg,hcs,htk,hcell,hsp,hfz⟩:=row1_cells h
  have hvg:vb≠g:=fun e=>hvb (by rw[e];rfl)
  have hlen:(xs.take i++x::xs.drop i).length=n+1:=by simp;omega
  by_cases hr:n+1<=c
  ·refine (insert_shift g c n i vb xs x w h h1 hx hv hlt hr hvg hn).mono ?_
   rintro e w' ⟨rfl,rfl⟩
   have hS:(fun k=>(Value.slice (some ⟨g,0,none⟩) n c).ownBlock=some k) g:=rfl
   refine⟨g,c,rfl,?_,Or.inl rfl,Off.setCells g (Or.inl hS) _ _ _ (Off.setCells g (Or.inl hS) _ _ _ (Off.refl _ w).drew)⟩
   obtain⟨cur1,hb1,hs1⟩:=setCells_blk g (xs.drop i) (i+1) w.drew cur _ _ hg
   obtain⟨cur2,hb2,hs2⟩:=setCells_blk g [x] i _ cur1 _ _ hb1
   refine row1_of cur2 hb2 (by omega) hr hc63 hlen (fun j hj=>?_)
   rw[put_get xs x i j (by omega)]
   have hs0:∀ t,t<(xs.drop i).length->(w.drew.cell? ⟨g,i+1+t,none⟩).isSome=true:=fun t ht=>hsp _ (by simp at ht;omega)
   by_cases h2:j=i
   ·subst h2
    rw[if_neg (by omega),if_pos rfl]
    have:=World.cell?_setCells_in g [x] j (w.drew.setCells g (j+1) (xs.drop j)) (fun t ht=>isSome_setCells g _ _ _ hs0 _ (hsp _ (by simp at ht;omega))) 0 (by simp)
    simpa using this
   ·rw[World.cell?_setCells_out g [x] i _ ⟨g,j,none⟩ (fun _ _=>by show j<i\/i+1<=j;omega)]
    by_cases h3:j<i
    ·rw[if_pos h3,World.cell?_setCells_out g _ _ _ ⟨g,j,none⟩ (fun _ _=>by show j<i+1\/_;omega)]
     have hv:=List.getElem?_eq_getElem (l:=xs) (i:=j) (by omega)
     rw[hv]
     exact hcell j _ hv
    ·rw[if_neg h3,if_neg h2]
     have:=World.cell?_setCells_in g (xs.drop i) (i+1) w.drew hs0 (j-(i+1)) (by simp;omega)
     rw[show i+1+(j-(i+1))=j by omega] at this
     rw[this]
     have hv:=List.getElem?_eq_getElem (l:=xs) (i:=j-1) (by omega)
     rw[hv]
     simp only[List.getElem_drop]
     congr 2
     omega
  ·refine (insert_grow g c n i vb xs x w h h1 hx hv hlt (by omega) hn).mono ?_
   rintro e w' ⟨G,ROW,rfl,hGn,hG63,hRs,hRt,rfl⟩
   refine⟨w.heap.size,G,rfl,?_,Or.inr (Nat.le_refl _),Off.setCells _ (Or.inr (Nat.le_refl _)) _ _ _ (Off.setCells _ (Or.inr (Nat.le_refl _)) _ _ _ ((Off.refl _ w).alloc _).drew).drew⟩
   have hb0:(w.alloc (.cells ROW 170)).drew.heap[w.heap.size]?=some (.cells ROW 170 (0,0)):=heap_alloc_new w _
   obtain⟨cur1,hb1,hs1⟩:=setCells_blk w.heap.size [x] i _ ROW _ _ hb0
   have hb1':((w.alloc (.cells ROW 170)).drew.setCells w.heap.size i [x]).drew.heap[w.heap.size]?=some (.cells cur1 170 (0,0)):=hb1
   obtain⟨cur2,hb2,hs2⟩:=setCells_blk w.heap.size (xs.drop i) (i+1) _ cur1 _ _ hb1'
   have hc0:∀ j,j<n+1->((w.alloc (.cells ROW 170)).drew.cell? ⟨w.heap.size,j,none⟩).isSome=true:=fun j hj=>by
    simp only[World.cell?,hb0]
    rw[Array.getElem?_eq_getElem (by omega)];rfl
   have hc1:∀ j,j<n+1->(((w.alloc (.cells ROW 170)).drew.setCells w.heap.size i [x]).drew.cell? ⟨w.heap.size,j,none⟩).isSome=true:=fun j hj=>isSome_setCells w.heap.size [x] i _ (fun t ht=>hc0 _ (by simp at ht;omega)) _ (hc0 j hj)
   refine row1_of cur2 hb2 (by omega) hGn hG63 hlen (fun j hj=>?_)
   rw[put_get xs x i j (by omega)]
   by_cases h3:j<=i
   ·rw[World.cell?_setCells_out _ _ _ _ ⟨w.heap.size,j,none⟩ (fun _ _=>by show j<i+1\/_;omega)]
    show ((w.alloc (.cells ROW 170)).drew.setCells w.heap.size i [x]).cell? _=_
    by_cases h2:j=i
    ·subst h2
     rw[if_neg (by omega),if_pos rfl]
     have:=World.cell?_setCells_in w.heap.size [x] j (w.alloc (.cells ROW 170)).drew (fun t ht=>hc0 _ (by simp at ht;omega)) 0 (by simp)
     simpa using this
    ·have hji:j<i:=by omega
     rw[if_pos hji,World.cell?_setCells_out _ _ _ _ ⟨w.heap.size,j,none⟩ (fun _ _=>by show j<i\/_;omega)]
     simp only[World.cell?,hb0]
     have e1:ROW[j]?=(ROW.toList.take i)[j]?:=by rw[List.getElem?_take_of_lt hji];simp
     have e2:xs[j]?=(xs.take i)[j]?:=by rw[List.getElem?_take_of_lt hji]
     rw[e2,<- hRt,<- e1]
     rfl
   ·rw[if_neg (by omega),if_neg (by omega)]
    have:=World.cell?_setCells_in w.heap.size (xs.drop i) (i+1) _ (fun t ht=>hc1 _ (by simp at ht;omega)) (j-(i+1)) (by simp;omega)
    rw[show i+1+(j-(i+1))=j by omega] at this
    rw[this]
    have hv:=List.getElem?_eq_getElem (l:=xs) (i:=j-1) (by omega)
    rw[hv]
    simp only[List.getElem_drop]
    congr 2
    omega
end Go.Proofs.YtmehkneofinmiaaGreatDoor

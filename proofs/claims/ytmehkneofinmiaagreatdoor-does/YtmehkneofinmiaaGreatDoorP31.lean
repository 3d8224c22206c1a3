/-
 Texts of this proof, part 31.
-/
import Derived.Test.YtmehkneofinmiaaGreatDoorP19
set_option maxRecDepth 100000
set_option maxHeartbeats 40000000
namespace Go.Proofs.YtmehkneofinmiaaGreatDoor
open Go.RowKit Go.Shelf
attribute [local go_sem] Oper.semAt_some
def moreF (k:List UInt8):Fld:=⟨[77,111,114,101],k⟩
structure Ents (w:World)(A:List (List Nat))(en:Nat->Ent)(vs:Nat->Value):Prop where
 at':∀ q∈A.flatten,EntAt w q (en q) (vs q)
 low:∀ q∈A.flatten,∀ g,(vs q).ownBlock=some g->g<w.heap.size
 key:∀ q∈A.flatten,(en q).key.length<=100
 num:∀ q∈A.flatten,(en q).vers.length<1000
 bod:∀ q∈A.flatten,∀ v∈(en q).vers,v.body.length<1000000
theorem Ents.entAt {w W:World}{A:List (List Nat)}{en:Nat->Ent}{vs:Nat->Value}(h:Ents w A en vs)(hb:Below w.heap.size w W){q:Nat}(hq:q∈A.flatten):EntAt W q (en q) (vs q) :=
 ⟨(hb.block q (h.at' q hq).lt).trans (h.at' q hq).blk,row_lower (h.at' q hq).row (h.low q hq) hb⟩
theorem curOf_mem {E:Ent}{v:Ver}(h:curOf E=some v):v∈E.vers:=by
 unfold curOf at h
 cases hl:E.vers.getLast? with
 | none=>rw[hl] at h;simp at h
 | some u =>
   rw[hl] at h
   simp only at h
   split at h
   ·cases h
   ·cases h;exact List.mem_of_getLast? hl
theorem Tk.setA {w:World}{fv:Value}{t k:List UInt8}{n:Nat}{W:World}(h:Tk w fv t n k W)(v:Value):Tk w v t n k (W.setCell ⟨w.heap.size+1,1,none⟩ v):=by
 have other:∀ i,i≠w.heap.size+1->(W.setCell ⟨w.heap.size+1,1,none⟩ v).heap[i]?=W.heap[i]?:=by
  intro i hi
  simp[World.setCell,Array.getElem?_modify,Ne.symm hi]
 refine⟨h.low.setCell (p:=⟨w.heap.size+1,1,none⟩) (Nat.le_succ _) _,(other _ (by omega)).trans h.res,heap_set (i:=1) h.ans,?_,(other _ (by omega)).trans h.cnt,(other _ (by omega)).trans h.lst,by simpa [World.setCell] using h.sz⟩
 have row:∀ v' n xs,W.ownsRowF (w.heap.size+2) 5 1 v' n xs->(W.setCell ⟨w.heap.size+1,1,none⟩ v).ownsRowF (w.heap.size+2) 5 1 v' n xs:=by
  intro v' n xs h
  refine⟨h.1,?_⟩
  rcases h.2 with h0|⟨g,cap,cur,fz,hv,h1,hg,h2⟩
  ·exact Or.inl h0
  ·exact Or.inr ⟨g,cap,cur,fz,hv,h1,(other g (by omega)).trans hg,h2⟩
 rcases h.bld with ⟨h0,v',h1,h2,h3⟩|⟨h0,v',h1,h2,h3⟩
 ·exact Or.inl ⟨h0,v',(other _ (by omega)).trans h1,row _ _ _ h2,h3⟩
 ·exact Or.inr ⟨h0,v',(other _ (by omega)).trans h1,row _ _ _ h2,h3⟩
theorem Tk.setN {w:World}{fv:Value}{t k:List UInt8}{n:Nat}{W:World}(h:Tk w fv t n k W)(n':Nat)(k':List UInt8)(W':World)(hW':W'=((W.setCell ⟨w.heap.size+1+1+1,0,none⟩ (.int .i64 n')).setCell ⟨w.heap.size+1+1+1+1,0,none⟩ (.string ⟨k'.toArray⟩)).drew) :
 Tk w fv t n' k' W'/\KeepsFrom (w.heap.size+7) W W'/\Km w.heap.size W W':=by
 have other:∀ i,i≠w.heap.size+3->i≠w.heap.size+4->W'.heap[i]?=W.heap[i]?:=by
  intro i h1 h2
  rw[hW']
  show ((W.setCell _ _).setCell _ _).heap[i]?=_
  simp[World.setCell,Array.getElem?_modify,Ne.symm h1,Ne.symm h2]
 have hsize:W'.heap.size=W.heap.size:=by rw[hW'];show ((W.setCell _ _).setCell _ _).heap.size=_;simp[World.setCell]
 have hlow:Below w.heap.size W W':=⟨by rw[hW'];rfl,by rw[hW'];rfl,by rw[hW'];rfl,by omega,fun i hi=>other i (by omega) (by omega)⟩
 have e3:W'.heap[w.heap.size+3]?=some (.cells #[.int .i64 n'] 3 (0,0)):=by
  rw[hW']
  show ((W.setCell _ _).setCell _ _).heap[w.heap.size+3]?=_
  have:=heap_set (i:=0) (v:=.int .i64 n') h.cnt
  simp only[World.setCell,Array.getElem?_modify] at this ⊢
  rw[if_neg (by omega)]
  simpa using this
 have e4:W'.heap[w.heap.size+4]?=some (.cells #[.string ⟨k'.toArray⟩] 9 (0,0)):=by
  rw[hW']
  show ((W.setCell _ _).setCell _ _).heap[w.heap.size+4]?=_
  have h1:(W.setCell ⟨w.heap.size+1+1+1,0,none⟩ (.int .i64 n')).heap[w.heap.size+4]?=some (.cells #[.string ⟨k.toArray⟩] 9 (0,0)):=by
   simp only[World.setCell,Array.getElem?_modify]
   rw[if_neg (by omega)]
   exact h.lst
  have:=heap_set (i:=0) (v:=.string ⟨k'.toArray⟩) h1
  simpa using this
 refine⟨⟨h.low.trans hlow,(other _ (by omega) (by omega)).trans h.res,(other _ (by omega) (by omega)).trans h.ans,?_,e3,e4,by have:=h.sz;omega⟩,⟨by omega,fun i o hi h1 _=>(other i (by omega) (by omega)).trans h1⟩,⟨hlow,fun i c t f hi ht=>?_⟩⟩
 ·have ne3:∀ c f,W.heap[w.heap.size+3]?≠some (Obj.cells c 5 f):=by intro c f e;rw[h.cnt] at e;cases e
  have ne4:∀ c f,W.heap[w.heap.size+4]?≠some (Obj.cells c 5 f):=by intro c f e;rw[h.lst] at e;cases e
  have row:∀ v' n xs,W.ownsRowF (w.heap.size+2) 5 1 v' n xs->W'.ownsRowF (w.heap.size+2) 5 1 v' n xs:=by
   intro v' n xs h
   refine⟨h.1,?_⟩
   rcases h.2 with h0|⟨g,cap,cur,fz,hv,h1,hg,h2⟩
   ·exact Or.inl h0
   ·exact Or.inr ⟨g,cap,cur,fz,hv,h1,(other g (by intro e;subst e;exact ne3 _ _ hg) (by intro e;subst e;exact ne4 _ _ hg)).trans hg,h2⟩
  rcases h.bld with ⟨h0,v',h1,h2,h3⟩|⟨h0,v',h1,h2,h3⟩
  ·exact Or.inl ⟨h0,v',(other _ (by omega) (by omega)).trans h1,row _ _ _ h2,h3⟩
  ·exact Or.inr ⟨h0,v',(other _ (by omega) (by omega)).trans h1,row _ _ _ h2,h3⟩
 ·refine (other i ?_ ?_).trans hi
  ·intro e;subst e;rw[h.cnt] at hi;injection hi with hi;injection hi with _ h2 _;subst h2;exact absurd ht (by unfold tHeap;decide)
  ·intro e;subst e;rw[h.lst] at hi;injection hi with hi;injection hi with _ h2 _;subst h2;exact absurd ht (by unfold tHeap;decide)
theorem tk_finish (w W1:World)(D:Nat)(fv:Value)(tx:Value)(Wf:World)(hWf:Wf=(((W1.setCell ⟨w.heap.size+1,2,none⟩ tx).setCell ⟨w.heap.size,0,none⟩ (.int .i64 200)).setCell ⟨w.heap.size,1,none⟩ fv).setCell ⟨w.heap.size,2,none⟩ tx)
 (hres:W1.heap[w.heap.size]?=some (.cells #[.int .i64 0,.slice none 0 0,.string ⟨#[]⟩] 100 (0,0)))(hD:W1.heap[D]?=some (.deferred (some [])))(hD7:w.heap.size+7<=D)(hlow:Below w.heap.size w W1) :
 Wf.heap[D]?=some (.deferred (some []))/\(Wf.putObj D (.deferred none)).heap[w.heap.size]?=some (.cells #[.int .i64 200,fv,tx] 100 (0,0))/\Below w.heap.size w (Wf.putObj D (.deferred none))/\∀ i,i≠w.heap.size->i≠w.heap.size+1->i≠D->(Wf.putObj D (.deferred none)).heap[i]?=W1.heap[i]?:=by
 have other:∀ i,i≠w.heap.size->i≠w.heap.size+1->Wf.heap[i]?=W1.heap[i]?:=by
  intro i h1 h2
  rw[hWf]
  simp[World.setCell,Array.getElem?_modify,Ne.symm h1,Ne.symm h2]
 have hb:Below w.heap.size w Wf:=by
  rw[hWf]
  exact (((hlow.setCell (p:=⟨w.heap.size+1,2,none⟩) (Nat.le_succ _) _).setCell (p:=⟨w.heap.size,0,none⟩) (Nat.le_refl _) _).setCell (p:=⟨w.heap.size,1,none⟩) (Nat.le_refl _) _).setCell (p:=⟨w.heap.size,2,none⟩) (Nat.le_refl _) _
 have hd:=(other D (by omega) (by omega)).trans hD
 have put:∀ i,i≠D->(Wf.putObj D (.deferred none)).heap[i]?=Wf.heap[i]?:=by
  intro i hi
  simp only[World.putObj]
  rw[Array.getElem?_setIfInBounds_ne (Ne.symm hi)]
 refine⟨hd,?_,hb.trans (belowK_b (w:=w) (Nat.le_refl _) _ D _ _ (by omega) hd rfl rfl),fun i h1 h2 h3=>(put i h3).trans (other i h1 h2)⟩
 rw[put _ (by omega),hWf]
 have h1:(W1.setCell ⟨w.heap.size+1,2,none⟩ tx).heap[w.heap.size]?=some (.cells #[.int .i64 0,.slice none 0 0,.string ⟨#[]⟩] 100 (0,0)):=by
  rw[<- hres]
  simp[World.setCell,Array.getElem?_modify]
 have:=heap_set (i:=2) (v:=tx) (heap_set (i:=1) (v:=fv) (heap_set (i:=0) (v:=.int .i64 200) h1))
 simpa using this
theorem curs_append (en:Nat->Ent)(a b:List Nat):curs en (a++b)=curs en a++curs en b:=by simp[curs]
theorem leB_total (a b:List UInt8):leB a b\/leB b a:=by
 unfold leB
 rw[cmpB_swap b a]
 rcases cmpB_range b a with h|h|h<;>omega
theorem rise_sort (kf:Nat->List UInt8)(l:List Nat):∃ l',l'.Perm l/\RiseE kf l':=by
 refine⟨l.mergeSort (fun a b=>decide (cmpB (kf a) (kf b)<=0)),List.mergeSort_perm _ _,?_⟩
 have h:=List.pairwise_mergeSort (le:=fun a b=>decide (cmpB (kf a) (kf b)<=0)) (fun a b c h1 h2=>by
  have h3:leB (kf a) (kf b):=by simpa [leB] using h1
  have h4:leB (kf b) (kf c):=by simpa [leB] using h2
  simpa [leB] using leB_trans h3 h4) (fun a b=>by
  rcases leB_total (kf a) (kf b) with h|h
  ·unfold leB at h;simp[h]
  ·unfold leB at h;simp[h]) l
 exact h.imp (fun h=>by simpa [leB] using h)
theorem vals_snoc {A:List (List Nat)}(l:List (En A))(x:En A):vals (l++[x])=vals l++[x.1]:=by simp[vals]
theorem tellKeys_any (A:List (List Nat))(en:Nat->Ent)(vs:Nat->Value)(a:Option Addr)(cap:Nat)(w:World)(hL:LLs w (.slice a A.length cap) A (fun q=>(en q).key))(hA:A.length<100)(hup:∀ qs∈A,RiseE (fun q=>(en q).key) qs)(hcnt:A.flatten.length<1000000)(hE:Ents w A en vs)(hz:Tz w) :
 Calls Tryz.prog 86 #[.slice a A.length cap] w fun e w'=>Below w.heap.size w w'/\∃ (xs:List Nat) (fv:Value),xs.Perm A.flatten/\RiseE (fun q=>(en q).key) xs/\e=.returned (.agg #[.int .i64 200,fv,.string ⟨(linesK ((curs en xs).take 50)).toArray⟩]) /\
  (if 50<(curs en xs).length then w'.ownsRow 0 151 2 fv 1 (fldRow [moreF (lastK ((curs en xs).take 50))]) else fv=.slice none 0 0):=by
 refine (callsIn_wide (n:=3)).1 ?_
 have HL:Hid _:=hL
 have HE:Hid _:=hE
 clear hL hE
 refine callsIn_of_wp_marks Tryz.func86 rfl trivial ?_ rfl
 simp only[Tryz.ntmps86,List.size_toArray,List.length_cons,List.length_nil,Nat.reduceAdd,Nat.reduceSub,Array.replicate_succ,Array.replicate_zero,List.push_toArray,List.append_toArray,List.nil_append,List.cons_append]
 gi_wp2_with (refine⟨trivial,?_⟩;gi_at_call 133;refine (lists_in _ _ _ _ _).mono ?_;rintro e w' ⟨rfl,rfl⟩)
 obtain⟨W0,hW0⟩:∃ W0,((((((w.alloc (.cells #[.int .i64 0,.slice none 0 0,.string ⟨#[]⟩] 100)).alloc (.cells #[.int .i64 200,.slice none 0 0,.string ⟨#[]⟩] 100)).alloc (.cells #[.pointer none,.slice none 0 0] 145)).alloc (.cells #[.int .i64 0] 3)).alloc (.cells #[.string ⟨#[]⟩] 9)).alloc (.cells #[.slice a A.length cap] 160)).alloc (.cells #[.func (.func 134) #[] #[]] 226)=W0:=⟨_,rfl⟩
 have hsz:W0.heap.size=w.heap.size+7:=by rw[<- hW0];simp
 have hB0:Below w.heap.size w W0:=by rw[<- hW0];exact ((((((((Below.refl _ w).alloc (Nat.le_refl _) _).alloc (by simp) _).alloc (by simp;omega) _).alloc (by simp;omega) _).alloc (by simp;omega) _).alloc (by simp;omega) _).alloc (by simp;omega) _)
 have cells0:W0.heap[w.heap.size]?=some (.cells #[.int .i64 0,.slice none 0 0,.string ⟨#[]⟩] 100 (0,0))/\W0.heap[w.heap.size+1]?=some (.cells #[.int .i64 200,.slice none 0 0,.string ⟨#[]⟩] 100 (0,0))/\W0.heap[w.heap.size+2]?=some (.cells #[.pointer none,.slice none 0 0] 145 (0,0))/\W0.heap[w.heap.size+3]?=some (.cells #[.int .i64 0] 3 (0,0))/\W0.heap[w.heap.size+4]?=some (.cells #[.string ⟨#[]⟩] 9 (0,0))/\W0.heap[w.heap.size+5]?=some (.cells #[.slice a A.length cap] 160 (0,0))/\W0.heap[w.heap.size+6]?=some (.cells #[.func (.func 134) #[] #[]] 226 (0,0)):=by
  have hh:W0.heap=((((((w.heap.push (Obj.cells #[.int .i64 0,.slice none 0 0,.string ⟨#[]⟩] 100 (0,0))).push (Obj.cells #[.int .i64 200,.slice none 0 0,.string ⟨#[]⟩] 100 (0,0))).push (Obj.cells #[.pointer none,.slice none 0 0] 145 (0,0))).push (Obj.cells #[.int .i64 0] 3 (0,0))).push (Obj.cells #[.string ⟨#[]⟩] 9 (0,0))).push (Obj.cells #[.slice a A.length cap] 160 (0,0))).push (Obj.cells #[.func (.func 134) #[] #[]] 226 (0,0)):=by rw[<- hW0];rfl
  simp only[hh,Array.getElem?_push,Array.size_push]
  refine⟨?_,?_,?_,?_,?_,?_,?_⟩<;>repeat (first|rfl|rw[if_pos trivial]|rw[if_pos (by omega)]|rw[if_neg (by omega)])
 rw[hW0]
 clear hW0
 obtain⟨z0,z1,z2,z3,z4,z5,z6⟩:=cells0
 have X0:Tk w (.slice none 0 0) [] 0 [] W0:=⟨hB0,z0,z1,Lib.IsBuilderF.of (Or.inl ⟨Nat.le_refl _,.slice none 0 0,z2,⟨rfl,Or.inl ⟨rfl,rfl⟩⟩,by simp[Value.ownBlock]⟩),z3,z4,by omega⟩
 have hseq:=lists_stops A (fun q=>(en q).key) (.slice a A.length cap) W0 w.heap.size (3-1) (w.heap.size+1+1+1+1+1) (w.heap.size+1+1+1+1+1+1) (HL.out.below hB0) hA hup (fun q hq=>(HE.out.at' q hq).lt) hcnt (by simp[World.cell?,z5]) (by omega) (by simp[World.cell?,z6]) (by omega) (by omega)
 clear z0 z1 z2 z3 z4 z5 z6
 refine range_own rfl (by omega) (gf:=196) rfl trivial (enters_of Tryz.func196 (by kernel_rfl) rfl) hseq Km.trans (Km.put (by omega)) (fun _=>rfl)
  (fun pre W=>(curs en (vals pre)).length<=50/\Tk w (.slice none 0 0) (linesK (curs en (vals pre))) (curs en (vals pre)).length (lastK (curs en (vals pre))) W)
  (fun c pre W=>c=.exit 0/\∃ pre' x fb,pre=pre'++[x]/\(curOf (en x.1)).isSome=true/\(curs en (vals pre')).length=50/\Tk w (.slice (some ⟨fb,0,none⟩) 1 1) (linesK (curs en (vals pre'))) 50 (lastK (curs en (vals pre'))) W/\w.heap.size+7<=fb/\W.heap[fb]?=some (.cells #[.string ⟨#[77,111,114,101]⟩,.string ⟨(lastK (curs en (vals pre'))).toArray⟩] 151 (0,0)))
  (fun s A B h ht=>⟨h.1,h.2.turn (by rw[<- hsz];exact ht)⟩)
  (fun c s A B h ht=>by
    obtain⟨e1,pre',x,fb,h1,h2,h3,h4,h5,h6⟩:=h
    exact⟨e1,pre',x,fb,h1,h2,h3,h4.turn (by rw[<- hsz];exact ht),h5,ht.keep _ _ _ _ h6 (by unfold tHeap;decide)⟩)
  ⟨by simp[vals,curs],X0⟩
  (fun x=>{ tmps:=#[.slice a A.length cap,undef,.pointer (some ⟨w.heap.size,0,none⟩),.pointer (some ⟨w.heap.size+1,0,none⟩),.pointer (some ⟨w.heap.size+1+1,0,none⟩),.pointer (some ⟨w.heap.size+1+1+1,0,none⟩),.pointer (some ⟨w.heap.size+1+1+1+1,0,none⟩),.pointer (some ⟨x.1,0,none⟩),undef,undef,.agg #[.int .i64 200,.slice none 0 0,.string ⟨#[]⟩],.slice a A.length cap,.func (.func 196) #[] #[.pointer (some ⟨w.heap.size+1+1+1+1+1,0,none⟩),.pointer (some ⟨w.heap.size+1+1+1+1+1+1,0,none⟩)],.pointer (some ⟨x.1,0,none⟩),undef,undef,undef,undef,undef,undef,undef,undef,undef,undef,undef,undef,undef,undef,undef,undef,undef,undef,undef,undef,undef,undef,undef,undef,undef,undef,undef,undef,undef,undef,undef,undef,undef],defers:=[] })
  ?assign ?body ?done ?stop
 case assign =>
  intro l' x W K hK
  unfold encE
  gi_wp2
  exact hK
 case body =>
  rintro l' pre x W hl' ⟨hc50,hT⟩ hlt'
  have hxe:=HE.out.entAt hT.low x.2
  have e0:=hxe.c0
  have hxlt:=hxe.lt
  have HT:Hid _:=hT
  have HC:Hid _:=current_any x.1 (en x.1) (vs x.1) W hxe (HE.out.num _ x.2)
  clear hT hxe
  gi_wp2_with fail
  refine⟨trivial,?_⟩
  refine (CallsIn.inRound l' (callsIn_wide.2 HC.out)).mono ?_
  rintro e W1 ⟨⟨v,rfl,hv⟩,hb1⟩
  have hal:Below W1.heap.size W1 (W1.alloc (.cells #[.int .i64 v.num,.int .i64 v.time,.bool v.mark,.string ⟨v.body.toArray⟩] 174)):=(Below.refl _ _).alloc (Nat.le_refl _) _
  have hbW:Below W.heap.size W (W1.alloc (.cells #[.int .i64 v.num,.int .i64 v.time,.bool v.mark,.string ⟨v.body.toArray⟩] 174)):=hb1.trans (hal.mono hb1.size)
  have HT2:Hid _:=HT.out.below hbW
  unfold verAgg
  cases hcur:curOf (en x.1) with
  | none =>
    rw[show (none:Option Ver).isSome=false from rfl]
    gi_wp2
    refine⟨keeps_below hbW,km_below (by have:=HT.out.sz;omega) hbW,?_⟩
    show (curs en (vals (pre++[x]))).length<=50/\Tk w _ (linesK (curs en (vals (pre++[x])))) (curs en (vals (pre++[x]))).length (lastK (curs en (vals (pre++[x])))) _
    rw[vals_snoc,curs_no hcur]
    exact⟨hc50,HT2.out⟩
  | some u =>
    obtain rfl:=hv u hcur
    rw[show (some v:Option Ver).isSome=true from rfl]
    obtain⟨C,hC⟩:∃ C,curs en (vals pre)=C:=⟨_,rfl⟩
    rw[hC] at hc50 HT HT2
    have HT1:Hid _:=HT.out.below hb1
    have hsz1:=HT1.out.sz
    have l1:w.heap.size+1<W1.heap.size:=by omega
    have l3:w.heap.size+1+1+1<W1.heap.size:=by omega
    have l4:w.heap.size+1+1+1+1<W1.heap.size:=by omega
    have n3:W1.cell? ⟨w.heap.size+1+1+1,0,none⟩=some (.int .i64 C.length):=by simp[World.cell?,HT1.out.cnt]
    have n4:W1.cell? ⟨w.heap.size+1+1+1+1,0,none⟩=some (.string ⟨(lastK C).toArray⟩):=by simp[World.cell?,HT1.out.lst]
    by_cases h50:C.length=50
    ·have h50I:((C.length:Int)==50)=true:=beq_iff_eq.2 (by omega)
     obtain⟨W3,hW3⟩:∃ W3,(W1.alloc (.cells #[.int .i64 v.num,.int .i64 v.time,.bool v.mark,.string ⟨v.body.toArray⟩] 174)).alloc (.cells #[.string ⟨#[77,111,114,101]⟩,.string ⟨(lastK C).toArray⟩] 151)=W3:=⟨_,rfl⟩
     have hb3:Below W.heap.size W W3:=by rw[<- hW3];exact hbW.alloc hbW.size _
     have HT3:Hid _:=HT.out.below hb3
     have n1:W3.cell? ⟨w.heap.size+1,1,none⟩=some (.slice none 0 0):=by simp[World.cell?,HT3.out.ans]
     have f1:W3.frozen? ⟨w.heap.size+1,1,none⟩=false:=by simp[World.frozen?,HT3.out.ans]
     have hF3:W3.heap[W1.heap.size+1]?=some (.cells #[.string ⟨#[77,111,114,101]⟩,.string ⟨(lastK C).toArray⟩] 151 (0,0)):=by
      have:=heap_alloc_new (W1.alloc (.cells #[.int .i64 v.num,.int .i64 v.time,.bool v.mark,.string ⟨v.body.toArray⟩] 174)) (.cells #[.string ⟨#[77,111,114,101]⟩,.string ⟨(lastK C).toArray⟩] 151)
      rw[hW3] at this
      simpa using this
     have HF3:Hid _:=hF3
     clear hF3
     gi_wp2
     have hsW:=HT.out.sz
     have hKF:KeepsFrom W0.heap.size W W3:=keeps_below hb3
     have hother:∀ k,k≠w.heap.size+1->(W3.setCell ⟨w.heap.size+1,1,none⟩ (.slice (some ⟨W1.heap.size+1,0,none⟩) 1 1)).heap[k]?=W3.heap[k]?:=by
      intro k hk
      simp[World.setCell,Array.getElem?_modify,Ne.symm hk]
     refine⟨⟨Nat.le_trans hKF.size (by simp[World.setCell]),fun i o hi h1 h2=>(hother i (by omega)).trans (hKF.same i o hi h1 h2)⟩,rfl,pre,x,W1.heap.size+1,rfl,by rw[hcur];rfl,by rw[hC];exact h50,?_,by omega,?_⟩
     ·rw[hC]
      have hT3:=HT3.out
      rw[h50] at hT3
      exact Tk.setA hT3 _
     ·rw[hC,hother _ (by omega)]
      exact HF3.out
    ·have h50I:((C.length:Int)==50)=false:=beq_eq_false_iff_ne.2 (by omega)
     obtain⟨W2,hW2⟩:∃ W2,W1.alloc (.cells #[.int .i64 v.num,.int .i64 v.time,.bool v.mark,.string ⟨v.body.toArray⟩] 174)=W2:=⟨_,rfl⟩
     have hvb:W2.heap[W1.heap.size]?=some (.cells #[.int .i64 v.num,.int .i64 v.time,.bool v.mark,.string ⟨v.body.toArray⟩] 174 (0,0)):=by rw[<- hW2];exact heap_alloc_new _ _
     have n3b:W2.cell? ⟨w.heap.size+1+1+1,0,none⟩=some (.int .i64 C.length):=by rw[<- hW2];simp[World.cell?,HT2.out.cnt]
     have hkl:=HE.out.key _ x.2
     have hbl:=HE.out.bod _ x.2 v (curOf_mem hcur)
     obtain⟨K0,hK0⟩:∃ K0,(en x.1).key=K0:=⟨_,rfl⟩
     rw[hK0] at e0 hkl
     obtain⟨q,hq⟩:∃ q,qTag v.body=q:=⟨_,rfl⟩
     have hql:q.length=18:=by rw[<- hq];exact qTag_len _
     have hb2d:Below W.heap.size W W2.drew:=by rw[<- hW2];exact hbW.drew
     have HT2d:Hid _:=HT.out.below hb2d
     have ek:W2.drew.cell? ⟨x.1,0,none⟩=some (.string ⟨K0.toArray⟩):=(hb2d.cell (p:=⟨x.1,0,none⟩) hxlt).trans e0
     have ev:W2.drew.cell? ⟨W1.heap.size,3,none⟩=some (.string ⟨v.body.toArray⟩):=by show W2.cell? _=_;simp[World.cell?,hvb]
     have HQ:Hid (Calls Tryz.prog 136 #[.string ⟨v.body.toArray⟩] W2.drew fun e w'=>e=.returned (.string ⟨q.toArray⟩)/\Below W2.drew.heap.size W2.drew w'):=by rw[<- hq];exact quotedTag_any v.body _ hbl (hz.below HT2d.out.low)
     have s1:(⟨K0.toArray⟩:ByteArray).size<=100:=by rw[Lib.size_eq];simpa using hkl
     have s2:(⟨q.toArray⟩:ByteArray).size=18:=by rw[Lib.size_eq];simpa using hql
     have z1:(⟨#[32]⟩:ByteArray).size=1:=rfl
     have z2:(⟨#[10]⟩:ByteArray).size=1:=rfl
     have a1:=addS ⟨K0.toArray⟩ ⟨#[32]⟩ (by omega)
     have a2:=addS (⟨K0.toArray⟩++⟨#[32]⟩) ⟨q.toArray⟩ (by rw[ByteArray.size_append];omega)
     have a3:=addS (⟨K0.toArray⟩++⟨#[32]⟩++⟨q.toArray⟩) ⟨#[10]⟩ (by rw[ByteArray.size_append,ByteArray.size_append];omega)
     have HTX:Hid (⟨K0.toArray⟩++⟨#[32]⟩++⟨q.toArray⟩++⟨#[10]⟩=(⟨(lineK ((en x.1).key,v.body)).toArray⟩:ByteArray)):=by
      show _=_
      unfold lineK
      simp only[hK0,hq]
      apply ByteArray.ext
      simp[ByteArray.data_append]
     have hlk:(linesK C).length<=1000000:=by
      have:=linesK_len C (fun y hy=>by
       rw[<- hC] at hy
       obtain⟨z,hz1,hz2⟩:=List.mem_filterMap.1 hy
       cases hcz:curOf (en z) with
       | none=>rw[hcz] at hz2;cases hz2
       | some u =>
         rw[hcz] at hz2
         simp only[Option.map_some,Option.some.injEq] at hz2
         rw[<- hz2]
         obtain⟨y',hy1,hy2⟩:=List.mem_map.1 hz1
         rw[<- hy2]
         exact HE.out.key _ y'.2)
      omega
     have hmx:Tryz.prog.follows .mixedOrders=true:=by kernel_rfl
     have hlK:(lineK ((en x.1).key,v.body)).length<=1000:=by unfold lineK;simp only[List.length_append,List.length_cons,List.length_nil,hK0,hq];omega
     clear hvb hq
     gi_wp2
     obtain⟨QQ,hQQ⟩:∃ QQ:Exit->Act->World->Prop,QQ=fun e a5 w5=>e=.normal/\(∃ u10 u11 u12 u13 u14 u15 u16 u17 u18 u19 u20 u21 u22 u23 u24 u25 u26 u27 u28 u29 u30 u31 u32 u33 u34 u35 u36 u37 u38 u39 u40 u41 u42 u43 u44 u45 u46:Value,a5={ tmps:=#[.slice a A.length cap,undef,.pointer (some ⟨w.heap.size,0,none⟩),.pointer (some ⟨w.heap.size+1,0,none⟩),.pointer (some ⟨w.heap.size+1+1,0,none⟩),.pointer (some ⟨w.heap.size+1+1+1,0,none⟩),.pointer (some ⟨w.heap.size+1+1+1+1,0,none⟩),.pointer (some ⟨x.1,0,none⟩),.pointer (some ⟨W1.heap.size,0,none⟩),.bool true,u10,u11,u12,u13,u14,u15,u16,u17,u18,u19,u20,u21,u22,u23,u24,u25,u26,u27,u28,u29,u30,u31,u32,u33,u34,u35,u36,u37,u38,u39,u40,u41,u42,u43,u44,u45,u46],defers:=[] })/\Tk w (.slice none 0 0) (linesK C++lineK ((en x.1).key,v.body)) C.length (lastK C) w5/\KeepsFrom W0.heap.size W w5/\Km w.heap.size W w5:=⟨_,rfl⟩
     have HQQ:Hid _:=hQQ
     clear hQQ
     refine wpIn_mono (Q:=QQ) ?region ?rest
     case region =>
      gi_region_with_o (first|(refine⟨trivial,?_⟩;gi_at_call 136;refine (CallsIn.inRound l' (callsIn_wide.2 HQ.out)).mono ?_;rintro e w4 ⟨rfl,hb4⟩;have ek4:=(hb4.cell (p:=⟨x.1,0,none⟩) (World.block_lt_of_cell? _ _ ek)).trans ek;have HT4:Hid _:=HT2d.out.below hb4)|(refine⟨trivial,?_⟩;gi_at_call 73;rw[HTX.out];refine (CallsIn.inRound l' (callsIn_wide.2 (HT4.out.write (lineK ((en x.1).key,v.body)) (by omega)))).mono ?_;rintro e w5 ⟨rfl,X5,k5,q5⟩;have hb24:=hb2d.trans (hb4.mono hb2d.size)))
      all_goals (rw[HQQ.out];exact⟨rfl,⟨_,_,_,_,_,_,_,_,_,_,_,_,_,_,_,_,_,_,_,_,_,_,_,_,_,_,_,_,_,_,_,_,_,_,_,_,_,rfl⟩,X5,(keeps_below hb24).trans (by rw[hsz];exact k5),(km_below (by have:=HT.out.sz;omega) hb24).trans q5⟩)
     case rest =>
      rw[HQQ.out]
      rintro e a5 w5 ⟨rfl,⟨u10,u11,u12,u13,u14,u15,u16,u17,u18,u19,u20,u21,u22,u23,u24,u25,u26,u27,u28,u29,u30,u31,u32,u33,u34,u35,u36,u37,u38,u39,u40,u41,u42,u43,u44,u45,u46,rfl⟩,X5,k5,q5⟩
      dsimp only
      have m3:w5.cell? ⟨w.heap.size+1+1+1,0,none⟩=some (.int .i64 C.length):=by simp[World.cell?,X5.cnt]
      have m4:w5.cell? ⟨w.heap.size+1+1+1+1,0,none⟩=some (.string ⟨(lastK C).toArray⟩):=by simp[World.cell?,X5.lst]
      have g3:w5.frozen? ⟨w.heap.size+1+1+1,0,none⟩=false:=by simp[World.frozen?,X5.cnt]
      have g4:w5.frozen? ⟨w.heap.size+1+1+1+1,0,none⟩=false:=by simp[World.frozen?,X5.lst]
      have ek5:w5.cell? ⟨x.1,0,none⟩=some (.string ⟨K0.toArray⟩):=by
       have:=(HE.out.entAt X5.low x.2).c0
       rw[hK0] at this
       exact this
      have m3d:w5.drew.cell? ⟨w.heap.size+1+1+1,0,none⟩=some (.int .i64 C.length):=m3
      have m4d:w5.drew.cell? ⟨w.heap.size+1+1+1+1,0,none⟩=some (.string ⟨(lastK C).toArray⟩):=m4
      have g3d:w5.drew.frozen? ⟨w.heap.size+1+1+1,0,none⟩=false:=g3
      have g4d:w5.drew.frozen? ⟨w.heap.size+1+1+1+1,0,none⟩=false:=g4
      have ek5d:w5.drew.cell? ⟨x.1,0,none⟩=some (.string ⟨K0.toArray⟩):=ek5
      have hx3:x.1<w.heap.size:=(HE.out.at' _ x.2).lt
      have XX:Hid _:=X5
      have KK:Hid _:=k5
      have QK:Hid _:=q5
      clear X5 k5 q5
      gi_wp2
      have hwr:IntKind.i64.wrap ((C.length:Int)+1)=((C.length+1:Nat):Int):=by
       have:=wrap_small ((C.length:Int)+1) (by omega) (by omega)
       rw[this]
       rfl
      have FIN:Hid (KeepsFrom W0.heap.size W ((w5.setCell ⟨w.heap.size+1+1+1,0,none⟩ (.int .i64 (IntKind.i64.wrap ((C.length:Int)+1)))).setCell ⟨w.heap.size+1+1+1+1,0,none⟩ (.string ⟨K0.toArray⟩)).drew/\Km w.heap.size W ((w5.setCell ⟨w.heap.size+1+1+1,0,none⟩ (.int .i64 (IntKind.i64.wrap ((C.length:Int)+1)))).setCell ⟨w.heap.size+1+1+1+1,0,none⟩ (.string ⟨K0.toArray⟩)).drew/\(curs en (vals (pre++[x]))).length<=50/\Tk w (.slice none 0 0) (linesK (curs en (vals (pre++[x])))) (curs en (vals (pre++[x]))).length (lastK (curs en (vals (pre++[x])))) ((w5.setCell ⟨w.heap.size+1+1+1,0,none⟩ (.int .i64 (IntKind.i64.wrap ((C.length:Int)+1)))).setCell ⟨w.heap.size+1+1+1+1,0,none⟩ (.string ⟨K0.toArray⟩)).drew):=by
       obtain⟨t1,t2,t3⟩:=XX.out.setN (C.length+1) K0 _ rfl
       rw[hwr]
       refine⟨KK.out.trans (by rw[hsz];exact t2),QK.out.trans t3,?_⟩
       rw[vals_snoc,curs_yes hcur,hC,linesK_snoc,lastK_snoc,hK0]
       rw[hK0] at t1
       refine⟨by simp;omega,?_⟩
       simpa using t1
      clear hwr
      gi_region_with_o (fail)
      all_goals gi_wp2
      all_goals exact FIN.out
 case done =>
  rintro D xs W hD ⟨hS1,hS2⟩ ⟨hc50,hT⟩ hK
  have HT:Hid _:=hT
  have HK:Hid _:=hK
  clear hT hK
  gi_wp2_with fail
  refine⟨trivial,?_⟩
  refine (callsIn_wide.2 (Tryz.Builder_String_any_k (w.heap.size+2) (w.heap.size+2) _ _ HT.out.bld (by have:=HT.out.sz;omega))).mono ?_
  rintro e W1 ⟨rfl,h1,hb1,ho1⟩
  have hres:=(hb1.block w.heap.size (by omega)).trans HT.out.res
  have hans:=(hb1.block (w.heap.size+1) (by omega)).trans HT.out.ans
  have hKD:=ho1 D _ HK.out (by intro e;injection e;omega) (by intro c fz e;cases e)
  have hlow:Below w.heap.size w W1:=HT.out.low.trans (hb1.mono (by omega))
  have r0:W1.cell? ⟨w.heap.size,0,none⟩=some (.int .i64 0):=by simp[World.cell?,hres]
  have r1:W1.cell? ⟨w.heap.size,1,none⟩=some (.slice none 0 0):=by simp[World.cell?,hres]
  have r2:W1.cell? ⟨w.heap.size,2,none⟩=some (.string ⟨#[]⟩):=by simp[World.cell?,hres]
  have rf:∀ j,W1.frozen? ⟨w.heap.size,j,none⟩=false:=fun j=>by simp[World.frozen?,hres]
  have q0:W1.cell? ⟨w.heap.size+1,0,none⟩=some (.int .i64 200):=by simp[World.cell?,hans]
  have q1:W1.cell? ⟨w.heap.size+1,1,none⟩=some (.slice none 0 0):=by simp[World.cell?,hans]
  have q2:W1.cell? ⟨w.heap.size+1,2,none⟩=some (.string ⟨#[]⟩):=by simp[World.cell?,hans]
  have qf:W1.frozen? ⟨w.heap.size+1,2,none⟩=false:=by simp[World.frozen?,hans]
  have rf0:=rf 0
  have rf1:=rf 1
  have rf2:=rf 2
  have HR:Hid _:=hres
  have HD:Hid _:=hKD
  have HLW:Hid _:=hlow
  clear h1 hb1 ho1 hres hans hKD hlow rf
  gi_wp2
  obtain⟨f1,f2,f3,f4⟩:=tk_finish w W1 D (.slice none 0 0) (.string ⟨(linesK (curs en (vals xs))).toArray⟩) _ rfl HR.out HD.out (by omega) HLW.out
  refine⟨by simp,.inl ⟨_,_,rfl,run_takeDeferred f1,?_⟩⟩
  refine⟨.agg #[.int .i64 200,.slice none 0 0,.string ⟨(linesK (curs en (vals xs))).toArray⟩],results_row1 Tryz.results86 _ _ w.heap.size 100 _ (0,0) _ rfl f2 Tryz.underlying100 rfl hiAns,f3,vals xs,.slice none 0 0,hS1,hS2,?_,?_⟩
  ·rw[List.take_of_length_le hc50]
  ·rw[if_neg (by omega)]
 case stop =>
  rintro D c pre W hD ⟨rest,hr1,hr2,hr3⟩ ⟨rfl,pre',x,fb,rfl,hx,h50,hT,hfb,hF⟩ hK
  have HT:Hid _:=hT
  have HK:Hid _:=hK
  have HF:Hid _:=hF
  clear hT hK hF
  gi_wp2_with fail
  refine⟨trivial,?_⟩
  refine (callsIn_wide.2 (Tryz.Builder_String_any_k (w.heap.size+2) (w.heap.size+2) _ _ HT.out.bld (by have:=HT.out.sz;omega))).mono ?_
  rintro e W1 ⟨rfl,h1,hb1,ho1⟩
  have hres:=(hb1.block w.heap.size (by omega)).trans HT.out.res
  have hans:=(hb1.block (w.heap.size+1) (by omega)).trans HT.out.ans
  have hKD:=ho1 D _ HK.out (by intro e;injection e;omega) (by intro c fz e;cases e)
  have hFB:=ho1 fb _ HF.out (by intro e;injection e;omega) (by intro c fz e;cases e)
  have hfD:fb≠D:=by intro e;subst e;have h3:=HF.out;rw[HK.out] at h3;cases h3
  have hlow:Below w.heap.size w W1:=HT.out.low.trans (hb1.mono (by omega))
  have r0:W1.cell? ⟨w.heap.size,0,none⟩=some (.int .i64 0):=by simp[World.cell?,hres]
  have r1:W1.cell? ⟨w.heap.size,1,none⟩=some (.slice none 0 0):=by simp[World.cell?,hres]
  have r2:W1.cell? ⟨w.heap.size,2,none⟩=some (.string ⟨#[]⟩):=by simp[World.cell?,hres]
  have rf:∀ j,W1.frozen? ⟨w.heap.size,j,none⟩=false:=fun j=>by simp[World.frozen?,hres]
  have q0:W1.cell? ⟨w.heap.size+1,0,none⟩=some (.int .i64 200):=by simp[World.cell?,hans]
  have q1:W1.cell? ⟨w.heap.size+1,1,none⟩=some (.slice (some ⟨fb,0,none⟩) 1 1):=by simp[World.cell?,hans]
  have q2:W1.cell? ⟨w.heap.size+1,2,none⟩=some (.string ⟨#[]⟩):=by simp[World.cell?,hans]
  have qf:W1.frozen? ⟨w.heap.size+1,2,none⟩=false:=by simp[World.frozen?,hans]
  have rf0:=rf 0
  have rf1:=rf 1
  have rf2:=rf 2
  have HR:Hid _:=hres
  have HD:Hid _:=hKD
  have HLW:Hid _:=hlow
  have HFB:Hid _:=hFB
  clear h1 hb1 ho1 hres hans hKD hlow rf hFB
  gi_wp2
  obtain⟨f1,f2,f3,f4⟩:=tk_finish w W1 D (.slice (some ⟨fb,0,none⟩) 1 1) (.string ⟨(linesK (curs en (vals pre'))).toArray⟩) _ rfl HR.out HD.out (by omega) HLW.out
  refine⟨by simp,.inl ⟨_,_,rfl,run_takeDeferred f1,?_⟩⟩
  obtain⟨rest',hp1,hp2⟩:=rise_sort (fun q=>(en q).key) rest
  have hxs:curs en (vals (pre'++[x])++rest')=curs en (vals pre')++(curs en [x.1]++curs en rest'):=by rw[vals_snoc,List.append_assoc,curs_append,curs_append]
  have hx1:1<=(curs en [x.1]).length:=by
   cases hc:curOf (en x.1) with
   | none=>rw[hc] at hx;cases hx
   | some u=>simp[curs,hc]
  have htk:(curs en (vals (pre'++[x])++rest')).take 50=curs en (vals pre'):=by rw[hxs,List.take_append_of_le_length (by omega),List.take_of_length_le (by omega)]
  refine⟨.agg #[.int .i64 200,.slice (some ⟨fb,0,none⟩) 1 1,.string ⟨(linesK (curs en (vals pre'))).toArray⟩],results_row1 Tryz.results86 _ _ w.heap.size 100 _ (0,0) _ rfl f2 Tryz.underlying100 rfl hiAns,f3,vals (pre'++[x])++rest',.slice (some ⟨fb,0,none⟩) 1 1,(List.Perm.append_left _ hp1).trans hr1,?_,?_,?_⟩
  ·unfold RiseE
   rw[List.pairwise_append]
   exact⟨hr2,hp2,fun a ha b hb=>hr3 a ha b (hp1.mem_iff.1 hb)⟩
  ·rw[htk]
  ·rw[htk,if_pos (by rw[hxs,List.length_append,List.length_append];omega)]
   refine⟨rfl,Or.inr ⟨fb,1,_,rfl,Nat.zero_le _,(f4 fb (by omega) (by omega) hfD).trans HFB.out,Nat.le_refl _,by unfold maxLen;omega,rfl,rfl⟩⟩
end Go.Proofs.YtmehkneofinmiaaGreatDoor

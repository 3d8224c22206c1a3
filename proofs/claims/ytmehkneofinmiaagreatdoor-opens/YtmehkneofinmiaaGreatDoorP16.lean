/-part 16-/
import Derived.Test.YtmehkneofinmiaaGreatDoorP15
set_option maxRecDepth 100000
set_option maxHeartbeats 4000000
namespace Go.Proofs.YtmehkneofinmiaaGreatDoor
open Go.RowKit Go.Shelf
attribute [local go_sem] Oper.semAt_some
structure Kq (B b:Nat)(W W':World):Prop where
 low:Below B W W'
 box:W'.heap[b]?=W.heap[b]?
theorem Kq.refl (B b:Nat)(W:World):Kq B b W W:=⟨Below.refl _ _,rfl⟩
theorem Kq.trans {B b:Nat}{X Y Z:World}(h:Kq B b X Y)(k:Kq B b Y Z):Kq B b X Z:=⟨h.low.trans k.low,k.box.trans h.box⟩
theorem Kq.put {B b:Nat}{w:World}(hB:B<=w.heap.size)(hb:b<w.heap.size)(W:World)(l:Nat)(o o':Obj)(hl:w.heap.size<=l)(h:W.heap[l]?=some o)(h1:o.isCells=false)(h2:o.isWalk=false):Kq B b W (W.putObj l o') :=
 ⟨belowK_b hB W l o o' hl h h1 h2,by simp only[World.putObj];rw[Array.getElem?_setIfInBounds_ne (by omega)]⟩
theorem Kq.cell {B b:Nat}{W W':World}(h:Kq B b W W'):W'.cell? ⟨b,0,none⟩=W.cell? ⟨b,0,none⟩:=by simp only[World.cell?];rw[h.box]
abbrev V:={ v:Ver // v.num<1000000000000000/\v.time<1000000000000000/\v.body.length<1000000 }
instance:Inhabited V:=⟨⟨⟨0,0,false,[]⟩,by simp⟩⟩
def cC (l:List V):List Ver:=l.map (·.1)
def lZ (l:List V)(j:Nat):Nat×V:=(l.length-1-j,(l[l.length-1-j]?).getD default)
def dE (l:List V)(k:Nat):List (Nat×V):=(List.range k).map (lZ l)
theorem mg (l:List V)(k:Nat):dE l (k+1)=dE l k++[lZ l k]:=by simp[dE,List.range_succ]
theorem oJ (l:List V)(k:Nat):(dE l k).length=k:=by simp[dE]
def zS (x:Nat×V):Array Value:=#[.int .i64 (x.1:Int),aW x.2.1]
theorem xZ (F:Fence)(n:Nat)(h7:F.fn 199)(hro:F.round=none)(hn:1<=n)(l Bs n₀:Nat)(a:Option Addr)(cap:Nat)(vs:List V)(hl:vs.length<1000000)(J Jx:List (Nat×V)->World->Prop)
 (hY:∀ pre x W,J pre W->pre.length<vs.length->YieldAt F (n-1) Tryz.prog l (zS x) W λ e W' =>
   (e=.returned (.bool true)/\J (pre++[x]) W'/\Kq n₀ Bs W W')\/(e=.returned (.bool false)/\Jx (pre++[x]) W'))
 (W:World)(hBs:W.cell? ⟨Bs,0,none⟩=some (.slice a vs.length cap))
 (hc:∀ W',Kq n₀ Bs W W'->W'.ownsRow 0 174 4 (.slice a vs.length cap) vs.length (aS (cC vs)))(h0:J [] W) :
 CallsIn F n Tryz.prog 199 #[.func (.yield l) #[] #[],.pointer (some ⟨Bs,0,none⟩)] W λ e W'=>(∃ v,e=.returned v) /\
  ((∃ ys,ys=dE vs vs.length/\J ys W')\/(∃ pre,(∃ k,k<=vs.length/\pre=dE vs k)/\Jx pre W')):=by
 refine callsIn_of_wp Tryz.func199 rfl h7 ?_ hro;simp only[Tryz.ntmps199,List.size_toArray,List.length_cons,List.length_nil,Nat.reduceAdd,Nat.reduceSub,Array.replicate_succ,Array.replicate_zero,List.push_toArray,List.append_toArray,List.nil_append,List.cons_append];gi_wp2;gi_loopw [3] (λ i wr=>∃ k:Nat,k<=vs.length/\i=.int .i64 ((vs.length:Int)-1-k)/\J (dE vs k) wr/\Kq n₀ Bs W wr)
  (λ i _=>(intOf i+1).toNat)
 case atStart=>exact⟨0,Nat.zero_le _,by simp,h0,Kq.refl _ _ _⟩
 case round =>
  obtain⟨k,hk,rfl,A7,A3⟩:=hrel;have Ac:=A3.cell.trans hBs;by_cases hlt:k<vs.length
  ·obtain⟨m,hm⟩:∃ m,vs.length=m+1+k:=⟨vs.length-1-k,by omega⟩;(have A0:(vs.length:Int)-1-k=(m:Int):=by omega);rw[A0];(have A6:m<vs.length:=by omega);(have A5:(cC vs)[m]?=some (vs[m]).1:=by simp[cC,List.getElem?_eq_getElem A6]);(have A1:lZ vs k=(m,vs[m]):=by (have e:vs.length-1-k=m:=by omega);simp only[lZ,e,List.getElem?_eq_getElem A6,Option.getD_some]);obtain⟨g,cp,e1,A8,Ad,hg,_,hf,c0,c1,c2,c3⟩:=gi (l:=cC vs) (by rw[show (cC vs).length=vs.length by simp[cC]];exact hc wr A3) m _ A5;rw[show (cC vs).length=vs.length by simp[cC]] at e1 A8;cases e1;obtain⟨fn,Ab,A4,body,hy,hR⟩:=hY _ (m,vs[m]) wr A7 (by rw[oJ];exact hlt);unfold zS aW at hy;dsimp only at hy;obtain⟨v,hv⟩:∃ v,v=vs[m]:=⟨_,rfl⟩;rw[<- hv] at hy hR c0 c1 c2 c3 A1;have HV:Hid _:=A1;have HM:Hid (vs.length=m+1+k):=hm;clear A5 hv A1 hm A0;gi_wp2;refine hR.mono ?_;rintro e W3 (⟨rfl,Aa,A9⟩|⟨rfl,A2⟩)
   ·gi_wp2;go_roundw;(case rel=>exact⟨k+1,by omega,by rw[HM.out];congr 1;omega,by rw[mg,HV.out];exact Aa,A3.trans A9⟩);case measure=>simp[intOf]
   ·gi_wp2;refine bodyPost_ret (results_none rfl _ _ _) rfl ?_;exact⟨⟨_,rfl⟩,.inr ⟨_,⟨k+1,by omega,by rw[mg,HV.out]⟩,A2⟩⟩
  ·(obtain rfl:k=vs.length:=by omega);(have A0:(vs.length:Int)-1-vs.length = -1:=by omega);rw[A0];gi_wp2;go_end0;exact⟨⟨_,rfl⟩,.inl ⟨_,rfl,A7⟩⟩
theorem zb (F:Fence)(n:Nat)(h5:F.fn 138)(hro:F.round=none)(a:Option Addr)(len cap:Nat)(w:World) :
 CallsIn F n Tryz.prog 138 #[.slice a len cap] w λ e w'=>e=.returned (.func (.func 199) #[] #[.pointer (some ⟨w.heap.size,0,none⟩)])/\w'=w.alloc (.cells #[.slice a len cap] 228):=by
 refine callsIn_of_wp Tryz.func138 rfl h5 ?_ hro;simp only[Tryz.ntmps138,List.size_toArray,List.length_cons,List.length_nil,Nat.reduceAdd,Nat.reduceSub,Array.replicate_succ,Array.replicate_zero,List.push_toArray,List.append_toArray,List.nil_append,List.cons_append];gi_wp2;go_ret;exact⟨rfl,rfl⟩
theorem kJ {w x:World}{base B:Nat}{e:TypeId}{k:Nat}{v:Value}{n:Nat}{xs:List Value}(h:w.ownsRow base e k v n xs)(hB:∀ g,v.ownBlock=some g->g<B)(hb:Below B w x):x.ownsRow base e k v n xs:=by
 refine⟨h.1,?_⟩;rcases h.2 with h0|⟨g,A1,A0,hv,h1,hg,h2⟩
 ·exact Or.inl h0
 ·exact Or.inr ⟨g,A1,A0,hv,h1,(hb.block _ (hB g (by rw[hv];rfl))).trans hg,h2⟩
theorem sN (F:Fence)(n:Nat)(h7:F.fn 199)(hro:F.round=none)(hn:1<=n)(Bs n₀:Nat)(a:Option Addr)(cap:Nat)(vs:List V)(hl:vs.length<1000000)(w:World)(hBs:Bs<w.heap.size)(hn₀:n₀<=w.heap.size)
 (hc:w.cell? ⟨Bs,0,none⟩=some (.slice a vs.length cap))(hr:w.ownsRow 0 174 4 (.slice a vs.length cap) vs.length (aS (cC vs)))(hrb:∀ g,(Value.slice a vs.length cap).ownBlock=some g->g<n₀) :
 SeqStopsK F n Tryz.prog 199 #[.pointer (some ⟨Bs,0,none⟩)] zS (Kq n₀ Bs) (λ ys=>ys=dE vs vs.length) (λ pre=>∃ k,k<=vs.length/\pre=dE vs k) vs.length w:=λ l J Jx W hW _ _ hY h0 =>
 xZ F n h7 hro hn l Bs n₀ a cap vs hl J Jx hY W ((hW.cell (p:=⟨Bs,0,none⟩) hBs).trans hc) (λ _ hb=>kJ (kJ hr hrb (hW.mono hn₀)) hrb hb.low) h0
open Go.RowKit Go.Shelf
attribute [local go_sem] Oper.semAt_some
theorem iR {T e B b:Nat}{bs:List Value}{W W':World}(h:Lib.IsBuilderF T e B b bs W)(hs:∀ (k:Nat) (c:Array Value) (t:TypeId) (f:Nat×Nat),W.heap[k]?=some (Obj.cells c t f)->W'.heap[k]?=some (Obj.cells c t f)):Lib.IsBuilderF T e B b bs W':=by
 have A0:∀ v n xs,W.ownsRowF B e 1 v n xs->W'.ownsRowF B e 1 v n xs:=by
  intro v n xs h;refine⟨h.1,?_⟩;rcases h.2 with h0|⟨g,A2,A1,fz,hv,h1,hg,h2⟩
  ·exact Or.inl h0
  ·exact Or.inr ⟨g,A2,A1,fz,hv,h1,hs _ _ _ _ hg,h2⟩
 rcases h with ⟨h0,v,h1,h2,h3⟩|⟨h0,v,h1,h2,h3⟩
 ·exact Or.inl ⟨h0,v,hs _ _ _ _ h1,A0 _ _ _ h2,h3⟩
 ·exact Or.inr ⟨h0,v,hs _ _ _ _ h1,A0 _ _ _ h2,h3⟩
structure Vx (w0:World)(sl:Value)(t:List UInt8)(W:World):Prop where
 low:Below w0.heap.size w0 W
 res:W.heap[w0.heap.size]?=some (.cells #[.int .i64 0,.slice none 0 0,.string ⟨#[]⟩] 100 (0,0))
 bld:Lib.IsBuilderF 145 5 (w0.heap.size+1) (w0.heap.size+1) (Lib.byteCells t) W
 box:W.heap[w0.heap.size+2]?=some (.cells #[sl] 228 (0,0))
 sz:w0.heap.size+3<=W.heap.size
theorem Vx.grown {w0:World}{sl:Value}{t:List UInt8}{W W':World}{row:Option Nat}(h:Vx w0 sl t W)(hg:W.grownBy W' row)(hr:∀ r,row=some r->w0.heap.size+3<=r/\∃ o:Obj,W.heap[r]?=some o/\o.isCells=false):Vx w0 sl t W':=by
 have hs:∀ (k:Nat) (c:Array Value) (t:TypeId) (f:Nat×Nat),W.heap[k]?=some (Obj.cells c t f)->W'.heap[k]?=some (Obj.cells c t f):=by
  intro k c t f hk;rw[hg.block k (gL hk) ?_]
  ·exact hk
  ·intro e;obtain⟨_,o,ho,hc⟩:=hr k e.symm;rw[hk] at ho;cases ho;cases hc
 exact⟨h.low.grown hg (by have:=h.sz;omega) (λ k e=>by have:=(hr k e).1;omega),hs _ _ _ _ h.res,iR h.bld hs,hs _ _ _ _ h.box,Nat.le_trans h.sz hg.size⟩
theorem Vx.below {w0:World}{sl:Value}{t:List UInt8}{W W':World}(h:Vx w0 sl t W)(hb:Below W.heap.size W W'):Vx w0 sl t W' :=
 have hs:∀ (k:Nat) (c:Array Value) (t:TypeId) (f:Nat×Nat),W.heap[k]?=some (Obj.cells c t f)->W'.heap[k]?=some (Obj.cells c t f):=λ k _ _ _ hk=>(hb.block k (gL hk)).trans hk
 ⟨h.low.trans (hb.mono (by have:=h.sz;omega)),hs _ _ _ _ h.res,iR h.bld hs,hs _ _ _ _ h.box,Nat.le_trans h.sz hb.size⟩
theorem eF {B:Nat}{W W':World}(hb:Below W.heap.size W W'):KeepsFrom B W W':=⟨hb.size,λ k _ _ hk _=>(hb.block k (gL hk)).trans hk⟩
theorem Vx.write {w0:World}{sl:Value}{t:List UInt8}{W:World}(h:Vx w0 sl t W)(s:List UInt8)(hl:t.length+s.length<=140737488355328) :
 Calls Tryz.prog 73 #[.pointer (some ⟨w0.heap.size+1,0,none⟩),.string ⟨s.toArray⟩] W λ e W'=>(∃ v,e=.returned v)/\Vx w0 sl (t++s) W'/\KeepsFrom (w0.heap.size+3) W W'/\Kq w0.heap.size (w0.heap.size+2) W W':=by
 refine (Tryz.Builder_WriteString_k (w0.heap.size+1) (w0.heap.size+1) (Lib.byteCells t) ⟨s.toArray⟩ W h.bld (by rw[Lib.byteCells_length,Lib.size_eq];simpa using hl) (by have:=h.sz;omega)).mono ?_;rintro e W' ⟨rfl,hB,hb,hk⟩;rw[iu,<- eu] at hB;have A0:=hk _ _ h.box (by intro e;injection e;omega) (by intro c fz e;cases e);refine⟨⟨_,rfl⟩,⟨h.low.trans (hb.mono (by omega)),(hb.block _ (by omega)).trans h.res,Or.inr hB,A0,Nat.le_trans h.sz hb.size⟩,⟨hb.size,λ k o hB2 hk2 ho=>hk k o hk2 ?_ ?_⟩,⟨hb.mono (by omega),A0.trans h.box.symm⟩⟩
 ·intro e;injection e;omega
 ·intro c fz e;subst e;cases ho
theorem pL (v:V):(cg v.1).length<=60:=by
 have h1:=dO 14 v.1.num (by have:=v.2.1;omega);have h2:=dO 14 v.1.time (by have:=v.2.2.1;omega);unfold cg;simp only[List.length_append,List.length_cons,List.length_nil];split
 ·simp only[List.length_cons,List.length_nil];omega
 ·rw[cn];omega
def cw (l:List (Nat×V)):List UInt8:=l.flatMap λ x=>cg x.2.1
theorem px (l:List (Nat×V))(x:Nat×V):cw (l++[x])=cw l++cg x.2.1:=by simp[cw]
theorem rj (l:List (Nat×V)):(cw l).length<=l.length*60:=by
 induction l with
 | nil=>simp[cw]
 | cons a l ih =>have:=pL a.2;simp only[cw,List.flatMap_cons,List.length_append,List.length_cons] at ih ⊢;omega
theorem aq {P:Program}{fn:Func}{p:Tmp}{ty:TypeId}(h:fn.results=#[.cell p ty])(tmps:Array Value)(w:World)(g:Nat)(t:TypeId)(cs:Array Value)(fr:Nat×Nat)(d:TypeDesc)
 (hp:tmps.getD p undef=.pointer (some ⟨g,0,none⟩))(hg:w.heap[g]?=some (.cells cs t fr))
 (hu:P.underlying ty=some d)(hd:(match d with|.struct _|.array _ _=>true|_=>false)=true)(hi:(P.info? ty).map (·.size)=some cs.size) :
 (results fn tmps).run P w=.ok (.agg cs) w:=by
 have A0:tmps[p]?.getD undef=.pointer (some ⟨g,0,none⟩):=by simpa using hp
 simp[results,h,A0,asAddr,run_loadVar_row w g t ty cs fr d hg hu hd hi]
theorem dW:(Tryz.prog.info? 100).map (·.size)=some 3:=by kernel_rfl
theorem ry (l:List V):cw (dE l l.length)=(cC l).reverse.flatMap cg:=by
 have e:(dE l l.length).map (λ x=>x.2)=l.reverse:=by
  apply List.ext_getElem
  ·simp[dE]
  ·intro i h1 h2;(have hi:i<l.length:=by simpa [dE] using h1);(have hm:l.length-1-i<l.length:=by omega);simp[dE,lZ,hm]
 have e2:cw (dE l l.length)=((dE l l.length).map (λ x=>x.2)).flatMap (λ v=>cg v.1):=by simp[cw,List.flatMap_map]
 rw[e2,e,cC,<- List.map_reverse,List.flatMap_map]
theorem jG (p:Nat)(key:List UInt8)(last:Nat)(vs:Value)(l:List V)(w:World)(hE:al w p ⟨key,last,cC l⟩ vs)(hl:l.length<1000)(h0:l≠[])(hz:Tz w)(hT:Tab w) :
 Calls Tryz.prog 89 #[.pointer (some ⟨p,0,none⟩)] w λ e w'=>e=.returned (.agg #[.int .i64 200,.slice none 0 0,.string ⟨((cC l).reverse.flatMap cg).toArray⟩])/\Below w.heap.size w w':=by
 refine (callsIn_wide (n:=3)).1 ?_;have A8:∃ a c,vs=.slice a l.length c:=by
  (have e:(cC l).length=l.length:=by simp[cC]);rcases hE.row.2 with ⟨rfl,hz⟩|⟨g,Aj,An,hv,_⟩
  ·simp only at hz;rw[e] at hz;rw[hz];exact⟨_,_,rfl⟩
  ·simp only at hv;rw[e] at hv;exact⟨_,_,hv⟩
 obtain⟨a,c,rfl⟩:=A8;have c2:=hE.c2;have As:=hE.lt;have Ar:((l.length:Int)==0)=false:=beq_eq_false_iff_ne.2 (by have:l.length≠0:=λ e=>h0 (List.length_eq_zero_iff.1 e);omega);have HE:Hid _:=hE;clear hE;refine callsIn_of_wp_marks Tryz.func89 rfl trivial ?_ rfl;simp only[Tryz.ntmps89,List.size_toArray,List.length_cons,List.length_nil,Nat.reduceAdd,Nat.reduceSub,Array.replicate_succ,Array.replicate_zero,List.push_toArray,List.append_toArray,List.nil_append,List.cons_append];gi_wp2_with (refine⟨trivial,?_⟩;gi_at_call 138;refine (zb _ _ trivial rfl _ _ _ _).mono ?_;rintro e w' ⟨rfl,rfl⟩);obtain⟨W0,A3⟩:∃ W0,((w.alloc (.cells #[.int .i64 0,.slice none 0 0,.string ⟨#[]⟩] 100)).alloc (.cells #[.pointer none,.slice none 0 0] 145)).alloc (.cells #[.slice a l.length c] 228)=W0:=⟨_,rfl⟩;have Ag:W0.heap.size=w.heap.size+3:=by rw[<- A3];simp
 have Aa:Below w.heap.size w W0:=by rw[<- A3];exact (((Below.refl _ w).alloc (Nat.le_refl _) _).alloc (by simp) _).alloc (by simp;omega) _
 have X0:Vx w (.slice a l.length c) [] W0:=by
  refine⟨Aa,?_,Lib.IsBuilderF.of (Or.inl ⟨Nat.le_refl _,.slice none 0 0,?_,⟨rfl,Or.inl ⟨rfl,rfl⟩⟩,by simp[Value.ownBlock]⟩),?_,by omega⟩
  ·rw[<- A3,heap_alloc_old _ _ (by simp;omega),heap_alloc_old _ _ (by simp)];exact heap_alloc_new _ _
  ·rw[<- A3,heap_alloc_old _ _ (by simp)];have:=heap_alloc_new (w.alloc (.cells #[.int .i64 0,.slice none 0 0,.string ⟨#[]⟩] 100)) (.cells #[.pointer none,.slice none 0 0] 145);simpa using this
  ·rw[<- A3];have:=heap_alloc_new ((w.alloc (.cells #[.int .i64 0,.slice none 0 0,.string ⟨#[]⟩] 100)).alloc (.cells #[.pointer none,.slice none 0 0] 145)) (.cells #[.slice a l.length c] 228);simpa using this
 rw[A3];clear A3;have A7:W0.ownsRow 0 174 4 (.slice a l.length c) l.length (aS (cC l)):=by have:=bT HE.out.row Aa;simp only[show (cC l).length=l.length by simp[cC]] at this;exact this
 have Am:∀ g,(Value.slice a l.length c).ownBlock=some g->g<w.heap.size:=by
  intro g hg;rcases HE.out.row.2 with ⟨e,_⟩|⟨g',Aj,An,hv,_,Ai,_⟩
  ·rw[e] at hg;cases hg
  ·rw[hv] at hg;simp only[Value.ownBlock,Option.some.injEq] at hg;rw[<- hg];exact (gL Ai)
 refine wpIn_rangeFunc_ownH rfl (by omega) (gf:=199) (lb:=#[.pointer (some ⟨w.heap.size+1+1,0,none⟩)]) rfl trivial (enters_of Tryz.func199 (by kernel_rfl) rfl)
  (sN Fence.wide (3-1) trivial rfl (by omega) (w.heap.size+1+1) w.heap.size a c l (by omega) W0 (by omega) (by omega) (by simp[World.cell?,X0.box]) A7 Am) Kq.trans (Kq.put (by omega) (by omega)) (Below.refl _ _) (λ _=>rfl)
  (λ A2 W=>Vx w (.slice a l.length c) (cw A2) W)
  (λ _ _ _=>False)
  (λ s A B row hs hg hr=>hs.grown hg (λ r e=>⟨by have:=(hr r e).1;omega,(hr r e).2⟩))
  (λ _ _ _ _ _ hs _ _=>hs)
  X0
  (λ x a' W=>∃ Bx,w.heap.size+3<=Bx/\W.heap[Bx]?=some (.cells #[.int .i64 x.2.1.num,.int .i64 x.2.1.time,.bool x.2.1.mark,.string ⟨x.2.1.body.toArray⟩] 174 (0,0))/\a'={ tmps:=#[.pointer (some ⟨p,0,none⟩),undef,.pointer (some ⟨w.heap.size,0,none⟩),.pointer (some ⟨w.heap.size+1,0,none⟩),undef,.pointer (some ⟨Bx,0,none⟩),.pointer (some ⟨p,0,none⟩),.pointer (some ⟨p,0,none⟩),.pointer (some ⟨p,2,none⟩),.slice a l.length c,.int .i64 l.length,.bool false,undef,.pointer (some ⟨p,0,none⟩),.pointer (some ⟨p,0,none⟩),.pointer (some ⟨p,2,none⟩),.slice a l.length c,.func (.func 199) #[] #[.pointer (some ⟨w.heap.size+1+1,0,none⟩)],.int .i64 x.1,aW x.2.1,undef,undef,undef,undef,undef],defers:=[] })
  (λ x a' _ X Y row hs hg hr=>by
    obtain⟨Bx,h1,h2,h3⟩:=hs;refine⟨Bx,h1,?_,h3⟩;rw[hg.block Bx (gL h2) ?_]
    ·exact h2
    ·intro e;obtain⟨_,o,ho,hc⟩:=hr Bx e.symm;rw[h2] at ho;cases ho
     cases hc)
  ?assign ?body ?done ?stop
 case assign =>rintro l' A2 x W K hI hK;unfold zS aW at hK ⊢;gi_wp2;have A6:Below W.heap.size W (W.alloc (.cells #[.int .i64 x.2.1.num,.int .i64 x.2.1.time,.bool x.2.1.mark,.string ⟨x.2.1.body.toArray⟩] 174)):=(Below.refl _ _).alloc (Nat.le_refl _) _;have hs:=hI.sz;exact hK _ _ (eF A6) ⟨A6.mono (by omega),A6.block _ (by omega)⟩ (hI.below A6) ⟨W.heap.size,hs,heap_alloc_new _ _,rfl⟩
 case body =>rintro l' A2 x a' W At ⟨r,hr⟩ hI ⟨Bx,Aq,bX,rfl⟩ Af;(have b0:W.cell? ⟨Bx,0,none⟩=some (.int .i64 x.2.1.num):=by simp[World.cell?,bX]);(have b1:W.cell? ⟨Bx,1,none⟩=some (.int .i64 x.2.1.time):=by simp[World.cell?,bX]);(have b2:W.cell? ⟨Bx,2,none⟩=some (.bool x.2.1.mark):=by simp[World.cell?,bX]);(have b3:W.cell? ⟨Bx,3,none⟩=some (.string ⟨x.2.1.body.toArray⟩):=by simp[World.cell?,bX]);have Au:=rj A2;have Ao:=pL x.2;have HI:Hid (Vx w (.slice a l.length c) (cw A2) W):=hI;have HL:Hid _:=wZ x.2.1 W x.2.2.1 x.2.2.2.1 x.2.2.2.2 (hz.below hI.low) (hT.below hI.low);unfold aW at HL ⊢;clear hI bX;gi_wp2_with (refine⟨trivial,?_⟩;gi_at_call 139;refine (CallsIn.inRound l' (callsIn_wide.2 HL.out)).mono ?_;rintro e W1 ⟨rfl,A1⟩);refine⟨trivial,?_⟩;have X1:=HI.out.below A1;refine (CallsIn.inRound l' (callsIn_wide.2 (X1.write (cg x.2.1) (by omega)))).mono ?_;rintro e W2 ⟨⟨v2,rfl⟩,X2,k2,q2⟩;have hs:=HI.out.sz;have Ak:Hid _:=X2;have Ae:Hid (KeepsFrom (w.heap.size+3) W W2):=(eF A1).trans k2;have Ah:Hid (Kq w.heap.size (w.heap.size+2) W W2):=Kq.trans ⟨A1.mono (by omega),A1.block _ (by omega)⟩ q2;clear X1 X2 k2 q2 A1 HI;gi_wp2;rw[<- Ag] at Ae;exact⟨Ae.out,Ah.out,by show Vx w _ (cw (A2++[x])) W2;rw[px];exact Ak.out⟩
 case done =>
  rintro D zs W hD rfl hI hK;have HI:Hid _:=hI;have HK:Hid _:=hK;clear hI hK;gi_wp2_with fail;refine⟨trivial,?_⟩;refine (callsIn_wide.2 (Tryz.Builder_String_any_k (w.heap.size+1) (w.heap.size+1) _ _ HI.out.bld (by have:=HI.out.sz;omega))).mono ?_;rintro e W1 ⟨rfl,h1,A1,Ad⟩;have A0:=(A1.block w.heap.size (by omega)).trans HI.out.res;have Ab:=Ad D _ HK.out (by intro e;injection e;omega) (by intro c fz e;cases e);have A5:Below w.heap.size w W1:=HI.out.low.trans (A1.mono (by omega));(have r0:W1.cell? ⟨w.heap.size,0,none⟩=some (.int .i64 0):=by simp[World.cell?,A0]);(have r1:W1.cell? ⟨w.heap.size,1,none⟩=some (.slice none 0 0):=by simp[World.cell?,A0]);(have r2:W1.cell? ⟨w.heap.size,2,none⟩=some (.string ⟨#[]⟩):=by simp[World.cell?,A0]);(have rf:∀ j,W1.frozen? ⟨w.heap.size,j,none⟩=false:=λ j=>by simp[World.frozen?,A0]);have Ap:=rf 0;have rf1:=rf 1;have rf2:=rf 2;have HR:Hid _:=A0;have HD:Hid _:=Ab;have HL:Hid _:=A5;clear h1 A1 Ad A0 Ab A5 rf HI HK;gi_wp2;(have A4:w.heap.size≠D:=by omega);(have Ac:(((W1.setCell ⟨w.heap.size,0,none⟩ (.int .i64 200)).setCell ⟨w.heap.size,1,none⟩ (.slice none 0 0)).setCell ⟨w.heap.size,2,none⟩ (.string ⟨(cw (dE l l.length)).toArray⟩)).heap[D]?=some (.deferred (some [])):=by rw[<- HD.out];simp[World.setCell,Array.getElem?_modify,A4]);have Al:Below w.heap.size w (((W1.setCell ⟨w.heap.size,0,none⟩ (.int .i64 200)).setCell ⟨w.heap.size,1,none⟩ (.slice none 0 0)).setCell ⟨w.heap.size,2,none⟩ (.string ⟨(cw (dE l l.length)).toArray⟩)) :=
   ((HL.out.setCell (p:=⟨w.heap.size,0,none⟩) (Nat.le_refl _) _).setCell (p:=⟨w.heap.size,1,none⟩) (Nat.le_refl _) _).setCell (p:=⟨w.heap.size,2,none⟩) (Nat.le_refl _) _
  have A9:=ah (i:=2) (v:=.string ⟨(cw (dE l l.length)).toArray⟩) (ah (i:=1) (v:=.slice none 0 0) (ah (i:=0) (v:=.int .i64 200) HR.out));rw[<- ry l];refine⟨by simp,.inl ⟨_,_,rfl,run_takeDeferred Ac,?_⟩⟩;refine⟨.agg #[.int .i64 200,.slice none 0 0,.string ⟨(cw (dE l l.length)).toArray⟩],aq Tryz.results89 _ _ w.heap.size 100 _ (0,0) _ rfl ?_ Tryz.underlying100 rfl dW,rfl,Al.trans (belowK_b (w:=w) (Nat.le_refl _) _ D _ _ (by omega) Ac rfl rfl)⟩;simp only[World.putObj];rw[Array.getElem?_setIfInBounds_ne (Ne.symm A4)];exact A9
 case stop =>rintro D c A2 W _ _ h _;exact h.elim
open Go.RowKit Go.Shelf
attribute [local go_sem] Oper.semAt_some
theorem xD (n:Nat)(a:Option Addr)(len cap:Nat)(w:World) :
 CallsIn Fence.wide n Tryz.prog 133 #[.slice a len cap,.func (.func 134) #[] #[]] w λ e w'=>e=.returned (.func (.func 196) #[] #[.pointer (some ⟨w.heap.size,0,none⟩),.pointer (some ⟨w.heap.size+1,0,none⟩)])/\w'=(w.alloc (.cells #[.slice a len cap] 160)).alloc (.cells #[.func (.func 134) #[] #[]] 226):=by
 refine callsIn_of_wp Tryz.func133 rfl trivial ?_ rfl;simp only[Tryz.ntmps133,List.size_toArray,List.length_cons,List.length_nil,Nat.reduceAdd,Nat.reduceSub,Array.replicate_succ,Array.replicate_zero,List.push_toArray,List.append_toArray,List.nil_append,List.cons_append];gi_wp2;go_ret;exact⟨rfl,rfl⟩
def aU (E:Ent):Option Ver:=match E.vers.getLast? with
 | none=>none
 | some v=>if v.mark then none else some v
theorem eG (p:Nat)(E:Ent)(vs:Value)(w:World)(h:al w p E vs)(hl:E.vers.length<1000) :
 Calls Tryz.prog 135 #[.pointer (some ⟨p,0,none⟩)] w λ e w'=>(∃ v:Ver,e=.returned (.tuple #[aW v,.bool (aU E).isSome])/\(∀ u,aU E=some u->v=u))/\Below w.heap.size w w':=by
 cases hv:E.vers.getLast? with
 | none =>
   have h0:E.vers=[]:=List.getLast?_eq_none_iff.1 hv;refine (pG p E vs w h h0).mono ?_;rintro e w' ⟨rfl,hb⟩;refine⟨⟨⟨0,0,false,[]⟩,?_,λ u hu=>?_⟩,hb⟩
   ·simp[aU,hv];rfl
   ·simp[aU,hv] at hu
 | some v =>
   (have A2:E.vers≠[]:=by intro e;rw[e] at hv;simp at hv);have A1:0<E.vers.length:=List.length_pos_iff.2 A2;(have A0:E.vers[E.vers.length-1]?=some v:=by rw[<- hv,List.getLast?_eq_getElem?]);refine (oH p E vs w h v (E.vers.length-1) (by omega) A0 (by omega)).mono ?_;rintro e w' ⟨rfl,hb⟩;refine⟨⟨v,?_,λ u hu=>?_⟩,hb⟩
   ·cases hm:v.mark<;>simp[aU,hv,hm]
   ·cases hm:v.mark<;>simp[aU,hv,hm] at hu;exact hu
def ce (en:Nat->Ent)(l:List Nat):List (List UInt8×List UInt8):=l.filterMap λ q=>(aU (en q)).map λ v=>((en q).key,v.body)
def fO (x:List UInt8×List UInt8):List UInt8:=x.1++[32]++cD x.2++[10]
def bU (l:List (List UInt8×List UInt8)):List UInt8:=l.flatMap fO
def dB (l:List (List UInt8×List UInt8)):List UInt8:=match l.getLast? with|none=>[]|some x=>x.1
theorem zD {en:Nat->Ent}{l:List Nat}{q:Nat}(h:aU (en q)=none):ce en (l++[q])=ce en l:=by simp[ce,h]
theorem yE {en:Nat->Ent}{l:List Nat}{q:Nat}{v:Ver}(h:aU (en q)=some v):ce en (l++[q])=ce en l++[((en q).key,v.body)]:=by simp[ce,h]
theorem kX (l:List (List UInt8×List UInt8))(x:List UInt8×List UInt8):bU (l++[x])=bU l++fO x:=by simp[bU]
theorem sY (l:List (List UInt8×List UInt8))(x:List UInt8×List UInt8):dB (l++[x])=x.1:=by simp[dB]
theorem sb (l:List (List UInt8×List UInt8))(h:∀ x∈l,x.1.length<=100):(bU l).length<=l.length*120:=by
 induction l with
 | nil=>simp[bU]
 | cons a l ih =>have h1:=h a (by simp);have h2:=ih (λ x hx=>h x (by simp[hx]));simp only[bU,List.flatMap_cons,List.length_append,List.length_cons,fO,List.length_nil,cn] at h2 ⊢;omega
structure Tk (w:World)(fv:Value)(t:List UInt8)(n:Nat)(k:List UInt8)(W:World):Prop where
 low:Below w.heap.size w W
 res:W.heap[w.heap.size]?=some (.cells #[.int .i64 0,.slice none 0 0,.string ⟨#[]⟩] 100 (0,0))
 ans:W.heap[w.heap.size+1]?=some (.cells #[.int .i64 200,fv,.string ⟨#[]⟩] 100 (0,0))
 bld:Lib.IsBuilderF 145 5 (w.heap.size+2) (w.heap.size+2) (Lib.byteCells t) W
 cnt:W.heap[w.heap.size+3]?=some (.cells #[.int .i64 n] 3 (0,0))
 lst:W.heap[w.heap.size+4]?=some (.cells #[.string ⟨k.toArray⟩] 9 (0,0))
 sz:w.heap.size+7<=W.heap.size
theorem Tk.same {w:World}{fv:Value}{t k:List UInt8}{n:Nat}{W W':World}(h:Tk w fv t n k W)(hb:Below w.heap.size W W')(hs:∀ (k:Nat) (c:Array Value) (t:TypeId) (f:Nat×Nat),W.heap[k]?=some (Obj.cells c t f)->¬ ee t->W'.heap[k]?=some (Obj.cells c t f)):Tk w fv t n k W':=by
 refine⟨h.low.trans hb,hs _ _ _ _ h.res (by unfold ee;decide),hs _ _ _ _ h.ans (by unfold ee;decide),?_,hs _ _ _ _ h.cnt (by unfold ee;decide),hs _ _ _ _ h.lst (by unfold ee;decide),Nat.le_trans h.sz hb.size⟩;have A0:∀ v n xs,W.ownsRowF (w.heap.size+2) 5 1 v n xs->W'.ownsRowF (w.heap.size+2) 5 1 v n xs:=by
  intro v n xs h;refine⟨h.1,?_⟩;rcases h.2 with h0|⟨g,A2,A1,fz,hv,h1,hg,h2⟩
  ·exact Or.inl h0
  ·exact Or.inr ⟨g,A2,A1,fz,hv,h1,hs _ _ _ _ hg (by unfold ee;decide),h2⟩
 rcases h.bld with ⟨h0,v,h1,h2,h3⟩|⟨h0,v,h1,h2,h3⟩
 ·exact Or.inl ⟨h0,v,hs _ _ _ _ h1 (by unfold ee;decide),A0 _ _ _ h2,h3⟩
 ·exact Or.inr ⟨h0,v,hs _ _ _ _ h1 (by unfold ee;decide),A0 _ _ _ h2,h3⟩
theorem Tk.turn {w:World}{fv:Value}{t k:List UInt8}{n:Nat}{W W':World}(h:Tk w fv t n k W)(ht:jn ee (w.heap.size+7) W W'):Tk w fv t n k W' :=
 h.same ⟨ht.os,ht.tape,ht.output,ht.size,λ k hk=>ht.low k (by omega)⟩ ht.keep
theorem Tk.below {w:World}{fv:Value}{t k:List UInt8}{n:Nat}{W W':World}(h:Tk w fv t n k W)(hb:Below W.heap.size W W'):Tk w fv t n k W' :=
 h.same (hb.mono (by have:=h.sz;omega)) (λ i _ _ _ hi _=>(hb.block i (gL hi)).trans hi)
theorem rO {n₀:Nat}{W W':World}(h:n₀<=W.heap.size)(hb:Below W.heap.size W W'):Km n₀ W W':=⟨hb.mono h,λ i _ _ _ hi _=>(hb.block i (gL hi)).trans hi⟩
theorem Tk.write {w:World}{fv:Value}{t k:List UInt8}{n:Nat}{W:World}(h:Tk w fv t n k W)(s:List UInt8)(hl:t.length+s.length<=140737488355328) :
 Calls Tryz.prog 73 #[.pointer (some ⟨w.heap.size+1+1,0,none⟩),.string ⟨s.toArray⟩] W λ e W'=>e=.returned (.tuple #[.int .i64 (⟨s.toArray⟩:ByteArray).size,.nilIface])/\Tk w fv (t++s) n k W'/\KeepsFrom (w.heap.size+7) W W'/\Km w.heap.size W W':=by
 refine (Tryz.Builder_WriteString_k (w.heap.size+2) (w.heap.size+2) (Lib.byteCells t) ⟨s.toArray⟩ W h.bld (by rw[Lib.byteCells_length,Lib.size_eq];simpa using hl) (by have:=h.sz;omega)).mono ?_;rintro e W' ⟨rfl,hB,hb,hk⟩;rw[iu,<- eu] at hB;refine⟨rfl,⟨h.low.trans (hb.mono (by omega)),(hb.block _ (by omega)).trans h.res,(hb.block _ (by omega)).trans h.ans,Or.inr hB,hk _ _ h.cnt (by intro e;injection e;omega) (by intro c fz e;cases e),hk _ _ h.lst (by intro e;injection e;omega) (by intro c fz e;cases e),Nat.le_trans h.sz hb.size⟩,⟨hb.size,λ i o hi hk2 ho=>hk i o hk2 ?_ ?_⟩,⟨hb.mono (by omega),λ i c t f hi ht=>hk i _ hi ?_ ?_⟩⟩
 ·intro e;injection e;omega
 ·intro c fz e;subst e;cases ho
 ·intro e;injection e with e;subst e;rcases h.bld with ⟨_,v,h1,_⟩|⟨_,v,h1,_⟩<;>(rw[hi] at h1;injection h1 with h1;injection h1 with _ h2 _;subst h2;exact absurd ht (by unfold ee;decide))
 ·intro c' fz e;injection e with _ e2 _;subst e2;exact absurd ht (by unfold ee;decide)
open Go.RowKit
def be (n:Nat):Nat->List UInt8
 | 0=>[]
 | k+1=>UInt8.ofNat (n/256 ^ k%256)::be n k
theorem aR (n k:Nat):(be n k).length=k:=by
 induction k with
 | zero=>rfl
 | succ k ih=>simp[be,ih]
def lx (h:Nat)(c:UInt8):Nat:=(h ^^^ c.toNat)*16777619%4294967296
def cB (l:List UInt8):Nat:=l.foldl lx 2166136261
theorem rl (l:List UInt8)(c:UInt8):cB (l++[c])=lx (cB l) c:=by
 unfold cB;rw[List.foldl_append,List.foldl_cons,List.foldl_nil]
theorem zJ (h:Nat)(c:UInt8):lx h c<4294967296:=by
 unfold lx;omega
theorem oO (l:List UInt8):cB l<4294967296:=by
 suffices h:∀ (l:List UInt8) (x:Nat),x<4294967296->l.foldl lx x<4294967296 from h l _ (by omega)
 intro l;induction l with
 | nil=>exact λ x hx=>hx
 | cons c l ih=>exact λ x _=>ih _ (zJ x c)
theorem wP (H:Nat)(c:UInt8)(hH:H<4294967296):bits .xor .u32 (H:Int) ((c.toNat:Int)%4294967296)*16777619%4294967296=((lx H c:Nat):Int):=by
 have hc:=c.toNat_lt;rw[show (c.toNat:Int)%4294967296=(c.toNat:Int) by omega,u32_xor_nat H c.toNat hH (by omega)];unfold lx;omega
def u8s (l:List UInt8):List Value:=l.map λ c=>.int .u8 (c.toNat:Int)
theorem uC (a b:List UInt8):u8s (a++b)=u8s a++u8s b:=by simp[u8s]
theorem oa (l:List UInt8)(w:World)(hs:l.length<4611686018427387904) :
 Calls Tryz.prog 160 #[.string ⟨l.toArray⟩] w λ e w'=>e=.returned (.int .u32 ((cB l:Nat):Int))/\w'=w:=by
 obtain⟨s,hS⟩:∃ S:ByteArray,S=⟨l.toArray⟩:=⟨_,rfl⟩;have hd:s.data.toList=l:=by rw[hS]
 have A2:s.size=l.length:=by rw[hS];exact List.size_toArray
 rw[<- hS,<- hd];have A4:s.size<4611686018427387904:=by omega
 clear hS A2 hd hs;go_enter Tryz.func160,Tryz.ntmps160;go_wp2;go_loop [3,7] (λ hh i=>∃ k:Nat,k<=s.size/\i=.int .i64 k/\hh=.int .u32 ((cB (s.data.toList.take k):Nat):Int)) (λ _ i=>s.size-(intOf i).toNat);case atStart=>exact⟨0,Nat.zero_le _,rfl,rfl⟩
 case round =>
  obtain⟨k,hk,rfl,rfl⟩:=hrel;by_cases hlt:k<s.size
  ·have A0:=oO (s.data.toList.take k);(have HX:Hid (cB (s.data.toList.take (k+1))=lx (cB (s.data.toList.take k)) s[k]):=by show _=_;rw[aV s k hlt,rl]);obtain⟨F,hF⟩:∃ F,cB (s.data.toList.take k)=F:=⟨_,rfl⟩;rw[hF] at A0 HX ⊢;have A1:=wP F s[k] A0;obtain⟨F2,A3⟩:∃ F2,lx F s[k]=F2:=⟨_,rfl⟩;rw[A3] at HX A1;have HS:Hid _:=A1;clear A1;go_wp2;exact⟨⟨k+1,by omega,by go_num,by rw[HS.out,HX.out]⟩,by simp[intOf];omega⟩
  ·(obtain rfl:k=s.size:=by omega);rw[List.take_of_length_le (by rw[Lib.size_eq];exact Nat.le_refl _)];go_wp2;go_ret;exact⟨rfl,rfl⟩
theorem pw:(Tryz.prog.info? 5).map (λ i=>(i.zero,i.size,i.bytes))=some (some (.int .u8 0),1,1):=by kernel_rfl
def Byt (w:World)(base:Nat)(v:Value)(l:List UInt8):Prop:=w.ownsRow base 5 1 v l.length (u8s l)
theorem Byt.nil (w:World)(base:Nat):Byt w base (.slice none 0 0) []:=World.ownsRow_nil w base _ 1
theorem Byt.below {w x:World}{base:Nat}{v:Value}{l:List UInt8}(h:Byt w base v l)(hb:Below w.heap.size w x):Byt x base v l:=by
 refine⟨h.1,?_⟩;rcases h.2 with h0|⟨g,A1,A0,hv,h1,hg,h2⟩
 ·exact Or.inl h0
 ·exact Or.inr ⟨g,A1,A0,hv,h1,(hb.block g (gL hg)).trans hg,h2⟩
theorem z7 (n k:Nat):(n:Int)/2 ^ (8*k)%256=(((UInt8.ofNat (n/256 ^ k%256)).toNat:Nat):Int):=by
 rw[show (2:Int) ^ (8*k)=((256 ^ k:Nat):Int) by rw[Int.natCast_pow,Int.pow_mul];rfl];simp only[UInt8.toNat_ofNat',Nat.reducePow,Nat.mod_mod];omega
theorem bR (v:Value)(l:List UInt8)(base n size:Nat)(w:World)(hv:Byt w base v l)(hb:base<=w.heap.size)(hs:size<=8)(hl:l.length<1000000) :
 Calls Tryz.prog 305 #[v,.int .u64 (n:Int),.int .i64 (size:Int)] w λ e w'=>∃ v',e=.returned v'/\Byt w' base v' (l++be n size)/\Below base w w':=by
 obtain⟨i0,A3,Ad,A6,A7⟩:=info_parts pw;have HV:Hid _:=hv;clear hv;go_enter Tryz.func305,Tryz.ntmps305;go_wp2;go_loopw [0,7] (λ x p wx=>∃ (k:Nat) (A0:List UInt8),k+A0.length=size/\p=.int .i64 ((k:Int)-1)/\Hid (A0++be n k=be n size)/\Hid (Byt wx base x (l++A0))/\Hid (Below base w wx)) (λ _ p _=>(intOf p+1).toNat);case atStart=>exact⟨size,[],by simp,rfl,rfl,by show Byt _ _ _ _;rw[List.append_nil];exact HV.out,Below.refl _ _⟩
 case round =>
  obtain⟨k,A0,hk,rfl,HD,HB,HW⟩:=hrel;cases k with
  | zero =>go_wp2;go_ret;refine⟨_,rfl,?_,HW.out⟩;have h0:=HD.out;simp only[be,List.append_nil] at h0;rw[<- h0];exact HB.out
  | succ k =>
    (have Af:k<8:=by omega);(have A8:(((k+1:Nat):Int)-1)=(k:Int):=by omega);rw[A8];have Ac:Hid _:=z7 n k;(have Aa:(0:Int)<=(k:Int):=by omega);(have A9:(l++A0).length<1000008:=by rw[List.length_append];omega);have Ae:base<=wr.heap.size:=Nat.le_trans hb HW.out.size;go_wp2_with (at_builtin;refine wpList_append_lies _ rfl (.tmp 14) (.tmp 20) 115 rfl base 5 i0 (.int .u8 0) 1 1 Tryz.underlying115 A3 Ad A6 A7 rfl (by omega) u0 (l++A0).length (u8s (l++A0)) rfl (World.ownsRow.alloc HB.out _) ⟨wr.heap.size,0,none⟩ 1 1 [.int .u8 ((n:Int)/2 ^ (8*k)%256)] rfl rfl (World.news_of_block (cs:=#[.int .u8 ((n:Int)/2 ^ (8*k)%256)]) (t:=5) (fr:=(0,0)) (heap_alloc_new wr _)) (by intro u hu;simp at hu;subst hu;rfl) (by omega) (by unfold maxLen;omega) (by omega) (by simp;omega) _ rfl ?_;intro g2 Ab w3 A1 A2 A5 A4);refine⟨⟨k,A0++[UInt8.ofNat (n/256 ^ k%256)],by simp;omega,rfl,?_,?_,?_⟩,by simp[intOf]⟩
    ·have h0:=HD.out;show _=_;rw[<- h0,List.append_assoc];rfl
    ·show Byt _ _ _ _;(have e:u8s (l++A0)++[.int .u8 ((n:Int)/2 ^ (8*k)%256)]=u8s (l++(A0++[UInt8.ofNat (n/256 ^ k%256)])):=by rw[Ac.out];simp[u8s]);rw[e] at A1;(have e2:(l++A0).length+1=(l++(A0++[UInt8.ofNat (n/256 ^ k%256)])).length:=by simp;omega);unfold Byt;rw[<- e2];rw[List.length_append] at A1 ⊢;exact A1
    ·exact ((HW.out.alloc (Nat.le_trans hb HW.out.size) _).grown A2 (by simp;omega) (λ r hr=>(HB.out.lt r hr).1))
end Go.Proofs.YtmehkneofinmiaaGreatDoor

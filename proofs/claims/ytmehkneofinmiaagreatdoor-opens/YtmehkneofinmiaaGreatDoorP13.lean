/-part 13-/
import Derived.Test.YtmehkneofinmiaaGreatDoorP12
set_option maxRecDepth 100000
set_option maxHeartbeats 4000000
namespace Go.Proofs.YtmehkneofinmiaaGreatDoor
open Go.RowKit
theorem qr (g c n i vb:Nat)(xs:List Value)(x:Value)(w:World)(h:w.ownsRow 0 170 1 (.slice (some ⟨g,0,none⟩) n c) n xs)(h1:∀ v∈xs,v.oneCell'=true)(hx:x.oneCell'=true)(hv:w.heap[vb]?=some (.cells #[x] 170 (0,0)))(hi:i<n)(hroom:c<n+1)(hn:n<1000000) :
 Calls Tryz.prog 297 #[.slice (some ⟨g,0,none⟩) n c,.int .i64 i,.slice (some ⟨vb,0,none⟩) 1 1] w λ e w'=>∃ G ROW,e=.returned (.slice (some ⟨w.heap.size,0,none⟩) (n+1) G)/\n+1<=G/\G<=9223372036854775807/\ROW.size=G/\ROW.toList.take i=xs.take i /\
  w'=(((w.alloc (.cells ROW 170)).drew.setCells w.heap.size i [x]).drew).setCells w.heap.size (i+1) (xs.drop i):=by
 obtain⟨i0,Ah,Ax,Am,Af⟩:=info_parts yN;obtain⟨Ao,B1,Ar,As,B3,hg,Aj,Au,A0,At,Ak⟩:=jg h;have Ai:w.cell? ⟨vb,0,none⟩=some x:=by simp[World.cell?,hv]
 have Av:vb<w.heap.size:=(gL hv);have Aa:(n:Int)+1-(i:Int)=((n+1-i:Nat):Int):=by omega
 have A9:i+(n+1-i)=n+1:=by omega
 have A3:(Builtin.firstCells i0.size i (.slice (some ⟨g,0,none⟩) i c)).run Tryz.prog w.drew=.ok (xs.take i).toArray w.drew:=by
  rw[Am];exact run_firstCells_some w.drew 1 i ⟨g,0,none⟩ i c (xs.take i) (by rw[List.length_take];omega) (λ j v hj=>by
   rw[Addr.add_lit];rw[List.getElem?_take] at hj;split at hj
   ·simpa using A0 j v hj
   ·cases hj)
 have A4:∀ ty,(Builtin.append_ #[162,3] ty #[.slice (some ⟨g,0,none⟩) i c,.int .i64 ((n:Int)+1-(i:Int))]).run Tryz.prog w =
  .ok (.slice (some ⟨w.heap.size,0,none⟩) (n+1) (grownCap w (n+1) c 170)) (w.drew.alloc (.cells ((xs.take i).toArray++Builtin.zeroCells (Value.pointer none).cells (n+1-i)++Builtin.zeroCells (Value.pointer none).cells (grownCap w (n+1) c 170-(n+1))) 170)):=λ ty=>by
  have h:=Lib.run_append_grow_zeros w 162 3 ty 170 i0 _ .i64 .i64 Tryz.underlying162 Tryz.underlying3 Ah Ax (some ⟨g,0,none⟩) i c (xs.take i) A3 (n+1-i) (by omega) (by omega) (by omega) (by omega) (by rw[Af];omega) (by rw[Af,A9];exact growslice_fits hroom (by omega));rw[A9] at h;rw[Aa];exact h
 obtain⟨G,hG⟩:∃ G,G=grownCap w (n+1) c 170:=⟨_,rfl⟩;obtain⟨ROW,A1⟩:∃ ROW:Array Value,ROW=(xs.take i).toArray++Builtin.zeroCells (Value.pointer none).cells (n+1-i)++Builtin.zeroCells (Value.pointer none).cells (G-(n+1)):=⟨_,rfl⟩;rw[<- hG] at A4;rw[<- A1] at A4;have Aw:n+1<=G:=by rw[hG];exact grownCap_ge w _ _ _
 have A8:G<=9223372036854775807:=by have:=grownCap_le_maxLen w (n+1) c 170 (by unfold maxLen;omega);rw[<- hG] at this;unfold maxLen at this;omega
 have Ab:ROW.size=G:=by rw[A1];simp[Builtin.zeroCells,Value.cells];omega
 have Ad:ROW.toList.take i=xs.take i:=by rw[A1,Array.toList_append,Array.toList_append,List.append_assoc];rw[List.take_append_of_le_length (by simp;omega)];show List.take i (List.take i xs)=List.take i xs;rw[List.take_take,Nat.min_self]
 obtain⟨W1,A2⟩:∃ W1,W1=w.drew.alloc (.cells ROW 170):=⟨_,rfl⟩;rw[<- A2] at A4;have hN:∀ j,j<n+1->(W1.cell? ⟨w.heap.size,j,none⟩).isSome=true:=λ j hj=>by rw[A2,World.cell?_alloc_at (w:=w.drew) ROW _ w.heap.size j rfl,Array.getElem?_eq_getElem (by omega)];rfl
 have A5:∀ j,W1.frozen? ⟨w.heap.size,j,none⟩=false:=λ j=>by rw[A2];exact World.frozen?_alloc_at (w:=w.drew) ROW _ w.heap.size j rfl
 have Ac:∀ j v,w.cell? ⟨g,j,none⟩=some v->W1.cell? ⟨g,j,none⟩=some v:=λ j v h=>by rw[A2,World.cell?_alloc_past (w:=w.drew) _ g j As];exact h
 have Ae:W1.cell? ⟨vb,0,none⟩=some x:=by rw[A2,World.cell?_alloc_past (w:=w.drew) _ vb 0 Av];exact Ai
 have A6:∀ (W:World),(∀ x,W.cell? x=W1.cell? x)->(∀ x,W.frozen? x=W1.frozen? x)->∀ ty dc,(Builtin.copy_ #[162,162] ty #[.slice (some ⟨w.heap.size,i,none⟩) (n+1-i) dc,.slice (some ⟨vb,0,none⟩) 1 1]).run Tryz.prog W=.ok (goInt 1) (W.setCells w.heap.size i [x]):=λ W hWc hWf ty dc =>
  run_copy_cells W _ _ ty 170 w.heap.size i (n+1-i) dc ⟨vb,0,none⟩ 1 1 [x] Tryz.underlying162 t8 (by simp only[List.length_singleton,Nat.min_def];split<;>omega)
   (λ j v hj=>by
     rw[Addr.add_lit,hWc];cases j with
     | zero=>simp at hj;subst hj;exact Ae
     | succ j=>simp at hj)
   (λ j hj=>by rw[hWc];exact hN _ (by simp at hj;omega)) (λ j hj=>by rw[hWf];exact A5 _) (by simpa using hx)
 have B0:¬ (G=i):=by omega
 have Aq:¬ (G=i+1):=by omega
 have B5:¬ (c=i):=by omega
 have An:g≠w.heap.size:=by omega
 have Ap:(xs.drop i).length=n-i:=by rw[List.length_drop,Ao]
 have A7:∀ (W:World),(∀ q,W.cell? q=(W1.setCells w.heap.size i [x]).cell? q)->(∀ q,W.frozen? q=(W1.setCells w.heap.size i [x]).frozen? q)->∀ ty dc sc,(Builtin.copy_ #[162,162] ty #[.slice (some ⟨w.heap.size,i+1,none⟩) (n-i) dc,.slice (some ⟨g,i,none⟩) (n-i) sc]).run Tryz.prog W=.ok (goInt (xs.drop i).length) (W.setCells w.heap.size (i+1) (xs.drop i)):=λ W hWc hWf ty dc sc =>
  run_copy_cells W _ _ ty 170 w.heap.size (i+1) (n-i) dc ⟨g,i,none⟩ (n-i) sc (xs.drop i) Tryz.underlying162 t8 (by rw[Ap];simp only[Nat.min_def];split<;>omega)
   (λ j v hj=>by
     rw[Addr.add_lit,hWc,World.cell?_setCells_out _ _ _ _ _ (λ h _=>absurd h An)]
     exact Ac _ v (A0 (i+j) v (by rwa [List.getElem?_drop] at hj)))
   (λ j hj=>by rw[hWc];exact dI w.heap.size [x] i W1 (λ t ht=>hN _ (by simp at ht;omega)) _ (hN _ (by omega)))
   (λ j hj=>by rw[hWf,World.frozen?_setCells];exact A5 _) (λ v hv=>h1 v (List.mem_of_mem_drop hv))
 subst A2;have Al:∀ x,((w.alloc (.cells ROW 170)).drew).cell? x=(w.drew.alloc (.cells ROW 170)).cell? x:=λ x=>rfl;have Ag:∀ x,((w.alloc (.cells ROW 170)).drew).frozen? x=(w.drew.alloc (.cells ROW 170)).frozen? x:=λ x=>rfl;have hF:∀ ty dc sc,_:=A7 (((w.alloc (.cells ROW 170)).drew.setCells w.heap.size i [x]).drew) (λ x=>rfl) (λ x=>rfl);have Az:¬ ((i:Int)=(n:Int)):=by omega
 have Ay:(c:Int)<(n:Int)+1:=by omega
 have B2:IntKind.i64.wrap ((i:Int)+1)=(i:Int)+1:=by rw[IntKind.wrap_i64];omega
 have HS:Hid (ROW.size=G):=Ab;have HT:Hid (ROW.toList.take i=xs.take i):=Ad;have B4:(i:Int)<=(n:Int):=by omega
 clear Aa A9 A3 A1 hG Ab Ad hN A5 Ac Ae A0 At Ak Au Aj hg h;go_enter Tryz.func297,Tryz.ntmps297;go_wp2_with (first
  | (at_builtin;refine Lib.wpList_append_run _ rfl _ _ _ _ rfl _ _ rfl rfl _ _ (A4 _) ?_)
  | (at_builtin;refine gJ _ rfl _ _ 162 162 rfl _ _ rfl rfl (A6 _ Al Ag _ _) ?_))
 go_region;go_wp2;go_ret;exact⟨G,ROW,rfl,Aw,A8,HS.out,HT.out,rfl⟩
theorem ua (xs:List Value)(x:Value)(i j:Nat)(hi:i<=xs.length):(xs.take i++x::xs.drop i)[j]?=if j<i then xs[j]? else if j=i then some x else xs[j-1]?:=by
 by_cases h:j<i
 ·rw[if_pos h,List.getElem?_append_left (by simp;omega),List.getElem?_take_of_lt h]
 ·rw[if_neg h,List.getElem?_append_right (by simp;omega),List.length_take,Nat.min_eq_left hi];by_cases h2:j=i
  ·rw[if_pos h2,h2];simp
  ·rw[if_neg h2];obtain⟨k,rfl⟩:∃ k,j=i+1+k:=⟨j-i-1,by omega⟩;rw[show i+1+k-i=k+1 by omega,List.getElem?_cons_succ,List.getElem?_drop,show i+1+k-1=i+k by omega]
theorem ug {x:World}{e:TypeId}{g n cap:Nat}{xs:List Value}(cur:Array Value)(hg:x.heap[g]?=some (.cells cur e (0,0)))(hs:cur.size=cap)(hn:n<=cap)(hc:cap<=9223372036854775807)(hl:xs.length=n)(hx:∀ j,j<n->x.cell? ⟨g,j,none⟩=xs[j]?) :
 x.ownsRow 0 e 1 (.slice (some ⟨g,0,none⟩) n cap) n xs :=
 wE cur hg hs hn hc hl (λ j hj=>by rw[<- hx j hj];simp[World.cell?,hg])
theorem tC (es:Value)(n i:Nat)(xs:List Value)(vb:Nat)(x:Value)(w:World)(h:w.ownsRow 0 170 1 es n xs)(h1:∀ v∈xs,v.oneCell'=true)(hx:x.oneCell'=true)(hv:w.heap[vb]?=some (.cells #[x] 170 (0,0)))(hi:i<=n)(hvb:es.ownBlock≠some vb)(hn:n<1000000) :
 Calls Tryz.prog 297 #[es,.int .i64 i,.slice (some ⟨vb,0,none⟩) 1 1] w λ e w'=>∃ g cap,e=.returned (.slice (some ⟨g,0,none⟩) (n+1) cap) /\
  w'.ownsRow 0 170 1 (.slice (some ⟨g,0,none⟩) (n+1) cap) (n+1) (xs.take i++x::xs.drop i)/\(es.ownBlock=some g\/w.heap.size<=g)/\Off (λ k=>es.ownBlock=some k) w w':=by
 have As:xs.length=n:=by rw[h.1,Nat.mul_one]
 by_cases he:i=n
 ·subst he;(have e:xs.take i++x::xs.drop i=xs++[x]:=by rw[List.take_of_length_le (by omega),List.drop_of_length_le (by omega)]);rw[e];exact sZ es i xs vb x w h hx hv hn
 ·(have Af:i<n:=by omega);obtain⟨g,c,rfl⟩:∃ g c,es=.slice (some ⟨g,0,none⟩) n c:=by
   rcases h.2 with ⟨_,h0⟩|⟨g,cap,Ae,rfl,_⟩
   ·omega
   ·exact⟨g,cap,rfl⟩
  obtain⟨_,Ar,Aa,Aq,Ae,hg,Ao,At,A3,Ag,Ap⟩:=jg h;have Ak:vb≠g:=λ e=>hvb (by rw[e];rfl);(have A4:(xs.take i++x::xs.drop i).length=n+1:=by simp;omega);by_cases hr:n+1<=c
  ·refine (pA g c n i vb xs x w h h1 hx hv Af hr Ak hn).mono ?_;rintro e w' ⟨rfl,rfl⟩;have hS:(λ k=>(Value.slice (some ⟨g,0,none⟩) n c).ownBlock=some k) g:=rfl;refine⟨g,c,rfl,?_,Or.inl rfl,Off.setCells g (Or.inl hS) _ _ _ (Off.setCells g (Or.inl hS) _ _ _ (Off.refl _ w).drew)⟩;obtain⟨A1,A8,Ah⟩:=dS g (xs.drop i) (i+1) w.drew Ae _ _ hg;obtain⟨A2,Ac,Aj⟩:=dS g [x] i _ A1 _ _ A8;refine ug A2 Ac (by omega) hr Aa A4 (λ j hj=>?_);rw[ua xs x i j (by omega)];have Ad:∀ t,t<(xs.drop i).length->(w.drew.cell? ⟨g,i+1+t,none⟩).isSome=true:=λ t ht=>Ag _ (by simp at ht;omega);by_cases h2:j=i
   ·subst h2;rw[if_neg (by omega),if_pos rfl];have:=World.cell?_setCells_in g [x] j (w.drew.setCells g (j+1) (xs.drop j)) (λ t ht=>dI g _ _ _ Ad _ (Ag _ (by simp at ht;omega))) 0 (by simp);simpa using this
   ·rw[World.cell?_setCells_out g [x] i _ ⟨g,j,none⟩ (λ _ _=>by show j<i\/i+1<=j;omega)];by_cases h3:j<i
    ·rw[if_pos h3,World.cell?_setCells_out g _ _ _ ⟨g,j,none⟩ (λ _ _=>by show j<i+1\/_;omega)];have hv:=List.getElem?_eq_getElem (l:=xs) (i:=j) (by omega);rw[hv];exact A3 j _ hv
    ·rw[if_neg h3,if_neg h2];have:=World.cell?_setCells_in g (xs.drop i) (i+1) w.drew Ad (j-(i+1)) (by simp;omega);rw[show i+1+(j-(i+1))=j by omega] at this;rw[this];have hv:=List.getElem?_eq_getElem (l:=xs) (i:=j-1) (by omega);rw[hv];simp only[List.getElem_drop];congr 2;omega
  ·refine (qr g c n i vb xs x w h h1 hx hv Af (by omega) hn).mono ?_;rintro e w' ⟨G,A0,rfl,Am,A9,An,Ai,rfl⟩;refine⟨w.heap.size,G,rfl,?_,Or.inr (Nat.le_refl _),Off.setCells _ (Or.inr (Nat.le_refl _)) _ _ _ (Off.setCells _ (Or.inr (Nat.le_refl _)) _ _ _ ((Off.refl _ w).alloc _).drew).drew⟩;have A7:(w.alloc (.cells A0 170)).drew.heap[w.heap.size]?=some (.cells A0 170 (0,0)):=heap_alloc_new w _;obtain⟨A1,A8,Ah⟩:=dS w.heap.size [x] i _ A0 _ _ A7;have A6:((w.alloc (.cells A0 170)).drew.setCells w.heap.size i [x]).drew.heap[w.heap.size]?=some (.cells A1 170 (0,0)):=A8;obtain⟨A2,Ac,Aj⟩:=dS w.heap.size (xs.drop i) (i+1) _ A1 _ _ A6;(have A5:∀ j,j<n+1->((w.alloc (.cells A0 170)).drew.cell? ⟨w.heap.size,j,none⟩).isSome=true:=λ j hj=>by simp only[World.cell?,A7];rw[Array.getElem?_eq_getElem (by omega)];rfl);have Al:∀ j,j<n+1->(((w.alloc (.cells A0 170)).drew.setCells w.heap.size i [x]).drew.cell? ⟨w.heap.size,j,none⟩).isSome=true:=λ j hj=>dI w.heap.size [x] i _ (λ t ht=>A5 _ (by simp at ht;omega)) _ (A5 j hj);refine ug A2 Ac (by omega) Am A9 A4 (λ j hj=>?_);rw[ua xs x i j (by omega)];by_cases h3:j<=i
   ·rw[World.cell?_setCells_out _ _ _ _ ⟨w.heap.size,j,none⟩ (λ _ _=>by show j<i+1\/_;omega)];show ((w.alloc (.cells A0 170)).drew.setCells w.heap.size i [x]).cell? _=_;by_cases h2:j=i
    ·subst h2;rw[if_neg (by omega),if_pos rfl];have:=World.cell?_setCells_in w.heap.size [x] j (w.alloc (.cells A0 170)).drew (λ t ht=>A5 _ (by simp at ht;omega)) 0 (by simp);simpa using this
    ·(have Ab:j<i:=by omega);rw[if_pos Ab,World.cell?_setCells_out _ _ _ _ ⟨w.heap.size,j,none⟩ (λ _ _=>by show j<i\/_;omega)];simp only[World.cell?,A7];(have e1:A0[j]?=(A0.toList.take i)[j]?:=by rw[List.getElem?_take_of_lt Ab];simp);(have e2:xs[j]?=(xs.take i)[j]?:=by rw[List.getElem?_take_of_lt Ab]);rw[e2,<- Ai,<- e1];rfl
   ·rw[if_neg (by omega),if_neg (by omega)];have:=World.cell?_setCells_in w.heap.size (xs.drop i) (i+1) _ (λ t ht=>Al _ (by simp at ht;omega)) (j-(i+1)) (by simp;omega);rw[show i+1+(j-(i+1))=j by omega] at this;rw[this];have hv:=List.getElem?_eq_getElem (l:=xs) (i:=j-1) (by omega);rw[hv];simp only[List.getElem_drop];congr 2;omega
abbrev aE (a b:List UInt8):Int:=Lib.compareBytes a b
theorem bz:∀ (a b:List UInt8),aE a b = -1\/aE a b=0\/aE a b=1
 | [],[]=>Or.inr (Or.inl rfl)
 | [],_::_=>Or.inl rfl
 | _::_,[]=>Or.inr (Or.inr rfl)
 | a::ar,b::br=>by
   show Lib.compareBytes (a::ar) (b::br) = -1\/_
   unfold aE
   rw[Lib.compareBytes]
   split
   ·exact Or.inl rfl
   ·split
    ·exact Or.inr (Or.inr rfl)
    ·exact bz ar br
theorem ci:∀ a:List UInt8,aE a a=0
 | []=>rfl
 | a::ar=>by
   unfold aE
   rw[Lib.compareBytes,if_neg (UInt8.lt_irrefl a),if_neg (UInt8.lt_irrefl a)]
   exact ci ar
theorem fE:∀ (a b:List UInt8),aE a b=0->a=b
 | [],[],_=>rfl
 | [],_::_,h=>by cases h
 | _::_,[],h=>by cases h
 | a::ar,b::br,h=>by
   unfold aE at h
   rw[Lib.compareBytes] at h
   split at h
   ·cases h
   ·split at h
    ·cases h
    ·rename_i h1 h2
     have e:a=b:=UInt8.le_antisymm (UInt8.not_lt.1 h2) (UInt8.not_lt.1 h1)
     rw[e,fE ar br h]
theorem bS:∀ (a b:List UInt8),aE b a =-aE a b
 | [],[]=>rfl
 | [],_::_=>rfl
 | _::_,[]=>rfl
 | a::ar,b::br=>by
   unfold aE
   rw[Lib.compareBytes,Lib.compareBytes]
   by_cases h1:a<b
   ·have h2:¬ b<a:=UInt8.lt_asymm h1
    rw[if_pos h1,if_neg h2,if_pos h1]
    rfl
   ·by_cases h2:b<a
    ·rw[if_pos h2,if_neg h1,if_pos h2]
    ·rw[if_neg h1,if_neg h2,if_neg h1,if_neg h2]
     exact bS ar br
theorem bK:∀ (a b c:List UInt8),aE a b = -1->aE b c = -1->aE a c = -1
 | [],[],_,h,_=>by cases h
 | [],_::_,[],_,h=>by cases h
 | [],_::_,_::_,_,_=>rfl
 | _::_,[],_,h,_=>by cases h
 | _::_,_::_,[],_,h=>by cases h
 | a::ar,b::br,c::cr,h,k=>by
   unfold aE at h k ⊢
   rw[Lib.compareBytes] at h k ⊢
   by_cases h1:a<b
   ·by_cases k1:b<c
    ·rw[if_pos (UInt8.lt_trans h1 k1)]
    ·rw[if_neg k1] at k
     by_cases k2:c<b
     ·rw[if_pos k2] at k;cases k
     ·have e:b=c:=UInt8.le_antisymm (UInt8.not_lt.1 k2) (UInt8.not_lt.1 k1)
      rw[if_pos (e ▸ h1)]
   ·rw[if_neg h1] at h
    by_cases h2:b<a
    ·rw[if_pos h2] at h;cases h
    ·have e:a=b:=UInt8.le_antisymm (UInt8.not_lt.1 h2) (UInt8.not_lt.1 h1)
     rw[if_neg h2] at h
     subst e
     by_cases k1:a<c
     ·rw[if_pos k1]
     ·rw[if_neg k1] at k ⊢
      by_cases k2:c<a
      ·rw[if_pos k2] at k;cases k
      ·rw[if_neg k2] at k ⊢
       exact bK ar br cr h k
def fM (ps:List Nat):List Value:=ps.map λ p=>.pointer (some ⟨p,0,none⟩)
structure gz (w:World)(es:Value)(ps:List Nat)(K:List (List UInt8)):Prop where
 row:w.ownsRow 0 170 1 es ps.length (fM ps)
 len:K.length=ps.length
 key:∀ (i p:Nat) (k:List UInt8),ps[i]?=some p->K[i]?=some k->w.cell? ⟨p,0,none⟩=some (.string ⟨k.toArray⟩)
 lt:∀ p∈ps,p<w.heap.size
theorem gz.below {w x:World}{es:Value}{ps:List Nat}{K:List (List UInt8)}(h:gz w es ps K)(hb:Below w.heap.size w x):gz x es ps K :=
 ⟨bT h.row hb,h.len,λ i p k hp hk=>(hb.cell (p:=⟨p,0,none⟩) (h.lt p (List.mem_of_getElem? hp))).trans (h.key i p k hp hk),λ p hp=>Nat.lt_of_lt_of_le (h.lt p hp) hb.size⟩
theorem gz.at {w:World}{es:Value}{ps:List Nat}{K:List (List UInt8)}(h:gz w es ps K)(i:Nat)(hi:i<ps.length) :
 ∃ g cap p k,es=.slice (some ⟨g,0,none⟩) ps.length cap/\ps.length<=cap/\cap<=maxLen/\g<w.heap.size/\ps[i]?=some p/\K[i]?=some k /\
  w.cell? ⟨g,i,none⟩=some (.pointer (some ⟨p,0,none⟩))/\w.cell? ⟨p,0,none⟩=some (.string ⟨k.toArray⟩):=by
 have hk:i<K.length:=by rw[h.len];exact hi
 have e1:ps[i]?=some ps[i]:=List.getElem?_eq_getElem hi;have e2:K[i]?=some K[i]:=List.getElem?_eq_getElem hk;rcases h.row.2 with ⟨_,h0⟩|⟨g,cap,A1,hv,_,hg,hn,hm,hs,A0⟩
 ·omega
 ·refine⟨g,cap,ps[i],K[i],hv,hn,hm,(gL hg),e1,e2,?_,h.key i _ _ e1 e2⟩;(have:(fM ps)[i]?=some (.pointer (some ⟨ps[i],0,none⟩)):=by simp[fM,e1]);rw[<- this,<- A0,List.getElem?_take_of_lt (by omega)];simp[World.cell?,hg]
def dK (K:List (List UInt8)):Prop:=∀ (i j:Nat) (a b:List UInt8),i<j->K[i]?=some a->K[j]?=some b->aE a b = -1
structure cX (K:List (List UInt8))(t:List UInt8)(i:Nat):Prop where
 le:i<=K.length
 lo:∀ (j:Nat) (a:List UInt8),j<i->K[j]?=some a->aE a t = -1
 hi:∀ (j:Nat) (a:List UInt8),i<=j->K[j]?=some a->0<=aE a t
theorem cX.uniq {K:List (List UInt8)}{t:List UInt8}{i j:Nat}(h:cX K t i)(k:cX K t j):i=j:=by
 apply Nat.le_antisymm
 ·apply Nat.le_of_not_lt;intro A0;(have hj:j<K.length:=by have:=h.le;omega);have:=h.lo j _ A0 (List.getElem?_eq_getElem hj);have:=k.hi j _ (Nat.le_refl _) (List.getElem?_eq_getElem hj);omega
 ·apply Nat.le_of_not_lt;intro A0;(have hj:i<K.length:=by have:=k.le;omega);have:=k.lo i _ A0 (List.getElem?_eq_getElem hj);have:=h.hi i _ (Nat.le_refl _) (List.getElem?_eq_getElem hj);omega
theorem qA (p:Nat)(k t:List UInt8)(w:World)(h:w.cell? ⟨p,0,none⟩=some (.string ⟨k.toArray⟩)) :
 Calls Tryz.prog 194 #[.pointer (some ⟨p,0,none⟩),.string ⟨t.toArray⟩] w λ e w'=>e=.returned (.int .i64 (aE k t))/\w'=w:=by
 go_enter Tryz.func194,Tryz.ntmps194;go_wp2_with fail;refine (Tryz.strings_Compare ⟨k.toArray⟩ ⟨t.toArray⟩ _).mono ?_;rintro e w1 ⟨rfl,rfl⟩;go_wp2;go_ret;exact⟨rfl,rfl⟩
theorem sa (es:Value)(ps:List Nat)(K:List (List UInt8))(t:List UInt8)(w:World)(h:gz w es ps K)(hr:dK K)(hl:ps.length<1000000) :
 Calls Tryz.prog 193 #[es,.string ⟨t.toArray⟩,.func (.func 194) #[] #[]] w λ e w' =>
  (∃ i:Nat,cX K t i/\e=.returned (.tuple #[.int .i64 i,.bool (K[i]?==some t)]))/\Below w.heap.size w w':=by
 have A3:∃ a c,es=.slice a ps.length c:=by
  rcases h.row.2 with ⟨rfl,h0⟩|⟨g,A4,A8,rfl,_⟩
  ·rw[h0];exact⟨_,_,rfl⟩
  ·exact⟨_,_,rfl⟩
 have HR:Hid (gz w es ps K):=h;have HI:Hid (dK K):=hr;clear h hr;obtain⟨a,c,A1⟩:=A3;rw[A1];go_enter Tryz.func193,Tryz.ntmps193;go_wp2;go_loopw [9,10] (λ x y wx=>∃ i j:Nat,i<=j/\j<=ps.length/\x=.int .i64 i/\y=.int .i64 j/\Hid (Below w.heap.size w wx)/\Hid (∀ (k:Nat) (a:List UInt8),k<i->K[k]?=some a->aE a t = -1)/\Hid (∀ (k:Nat) (a:List UInt8),j<=k->K[k]?=some a->0<=aE a t)) (λ x y _=>(intOf y-intOf x).toNat);case atStart =>refine⟨0,ps.length,by omega,by omega,rfl,rfl,Below.refl _ _,λ k a hk=>by omega,λ k a hk hka=>?_⟩;have:=(List.getElem?_eq_some_iff.1 hka).1;rw[HR.out.len] at this;omega
 case round =>
  obtain⟨i,j,A7,hj,rfl,rfl,HB,HL,HH⟩:=hrel;by_cases hlt:i<j
  ·(have A5:(i+j)/2<ps.length:=by omega);obtain⟨g,A4,p,k,e1,hn,hc,hg,hp,hk,c0,c1⟩:=(HR.out.below HB.out).at ((i+j)/2) A5;rw[A1] at e1;cases e1;have HK:Hid (K[(i+j)/2]?=some k):=hk;(have A6:(i:Int)<(j:Int):=by omega);clear hk hp;go_wp2_with fail;refine (qA p k t _ c1).mono ?_;rintro e w2 ⟨rfl,rfl⟩;by_cases hq:aE k t<0
   ·(have A2:aE k t = -1:=by rcases bz k t with h|h|h<;>omega);obtain⟨q,A0⟩:∃ q,aE k t=q:=⟨_,rfl⟩;rw[A0] at hq A2;rw[A0];have HQ:Hid (aE k t = -1):=A0.trans A2;clear A0 A2;go_wp2;refine⟨⟨(i+j)/2+1,j,by omega,by omega,rfl,rfl,HB,λ k' a' hk' ha'=>?_,HH⟩,?_⟩
    ·by_cases e:k'=(i+j)/2
     ·subst e;rw[HK.out] at ha';cases ha';exact HQ.out
     ·exact bK _ _ _ (HI.out k' ((i+j)/2) a' k (by omega) ha' HK.out) HQ.out
    ·simp[intOf];omega
   ·obtain⟨q,A0⟩:∃ q,aE k t=q:=⟨_,rfl⟩;have HQ:Hid (0<=aE k t):=Int.not_lt.1 hq;rw[A0] at hq;rw[A0];clear A0;go_wp2;refine⟨⟨i,(i+j)/2,by omega,by omega,rfl,rfl,HB,HL,λ k' a' hk' ha'=>?_⟩,?_⟩
    ·by_cases e:k'=(i+j)/2
     ·subst e;rw[HK.out] at ha';cases ha';exact HQ.out
     ·apply Int.not_lt.1;intro hh;(have h1:aE a' t = -1:=by rcases bz a' t with h|h|h<;>omega);have h2:=bK _ _ _ (HI.out ((i+j)/2) k' k a' (by omega) HK.out ha') h1;have h3:=HQ.out;omega
    ·simp[intOf];omega
  ·(obtain rfl:i=j:=by omega);have HP:Hid (cX K t i):=⟨by rw[HR.out.len];exact hj,HL.out,HH.out⟩;clear HL HH hlt A7;by_cases hin:i<ps.length
   ·obtain⟨g,A4,p,k,e1,hn,hc,hg,hp,hk,c0,c1⟩:=(HR.out.below HB.out).at i hin;rw[A1] at e1;cases e1;have HK:Hid (K[i]?=some k):=hk;clear hk hp;go_wp2_with fail;refine (qA p k t _ c1).mono ?_;rintro e w2 ⟨rfl,rfl⟩;obtain⟨q,A0⟩:∃ q,aE k t=q:=⟨_,rfl⟩;have HQ:Hid ((K[i]?==some t)=(q==0)):=by
     rw[HK.out,Bool.eq_iff_iff,beq_iff_eq,beq_iff_eq,<- A0];constructor
     ·intro e;cases e;exact ci _
     ·intro e;rw[fE _ _ e]
    rw[A0];clear A0;go_wp2;go_ret2;refine⟨⟨i,HP.out,?_⟩,HB.out⟩;rw[HQ.out];rfl
   ·(obtain rfl:i=ps.length:=by omega);have HN:Hid (K[ps.length]?=none):=List.getElem?_eq_none (by rw[HR.out.len];exact Nat.le_refl _);go_wp2;go_ret2;refine⟨⟨ps.length,HP.out,?_⟩,HB.out⟩;rw[HN.out];rfl
theorem gG (b o:Nat)(es:Value)(ps:List Nat)(K:List (List UInt8))(t:List UInt8)(w:World)(hc:w.cell? ⟨b,o+2,none⟩=some es)(h:gz w es ps K)(hr:dK K)(hl:ps.length<1000000) :
 Calls Tryz.prog 132 #[.pointer (some ⟨b,o,none⟩),.string ⟨t.toArray⟩] w λ e w' =>
  (∃ i:Nat,cX K t i/\e=.returned (.tuple #[.int .i64 i,.bool (K[i]?==some t)]))/\Below w.heap.size w w':=by
 have HK:Hid (gz w es ps K):=h;clear h;go_enter Tryz.func132,Tryz.ntmps132;go_wp2_with fail;refine (sa es ps K t _ HK.out hr hl).mono ?_;rintro e w2 ⟨⟨i,hi,rfl⟩,A0⟩;have HI:Hid (cX K t i):=hi;obtain⟨f,hf⟩:∃ f,(K[i]?==some t)=f:=⟨_,rfl⟩;have HF:Hid ((K[i]?==some t)=f):=hf;rw[hf];clear hi hf;go_wp2;go_ret2;refine⟨⟨i,HI.out,?_⟩,A0⟩;rw[HF.out];rfl
theorem wQ (b o:Nat)(es:Value)(ps:List Nat)(K:List (List UInt8))(t:List UInt8)(i p:Nat)(w:World)(hc:w.cell? ⟨b,o+2,none⟩=some es)(h:gz w es ps K)(hr:dK K)(hl:ps.length<1000000)
 (hi:cX K t i)(hf:K[i]?=some t)(hp:ps[i]?=some p)(hlt:b<w.heap.size) :
 Calls Tryz.prog 88 #[.pointer (some ⟨b,o,none⟩),.string ⟨t.toArray⟩] w λ e w'=>e=.returned (.pointer (some ⟨p,0,none⟩))/\Below w.heap.size w w':=by
 have HK:Hid (gz w es ps K):=h;have HP:Hid (ps[i]?=some p):=hp;clear h hp;go_enter Tryz.func88,Tryz.ntmps88;go_wp2_with fail;refine (gG b o es ps K t _ hc HK.out hr hl).mono ?_;rintro e w2 ⟨⟨j,hj,rfl⟩,A0⟩;obtain rfl:=hj.uniq hi;rw[hf,show (some t==some t)=true from by simp];have A4:j<ps.length:=(List.getElem?_eq_some_iff.1 HP.out).1;obtain⟨g,A6,p',k,e1,hn,A5,hg,A1,A3,c0,c1⟩:=(HK.out.below A0).at j A4;rw[HP.out] at A1;cases A1;have A2:=(A0.cell (p:=⟨b,o+2,none⟩) hlt).trans hc;rw[e1] at A2;have HB:Hid _:=A0;clear A0 hj hi hf A3 hr;go_wp2;go_ret;exact⟨rfl,HB.out⟩
theorem yW (b o:Nat)(es:Value)(ps:List Nat)(K:List (List UInt8))(t:List UInt8)(i:Nat)(w:World)(hc:w.cell? ⟨b,o+2,none⟩=some es)(h:gz w es ps K)(hr:dK K)(hl:ps.length<1000000)
 (hi:cX K t i)(hf:K[i]?≠some t) :
 Calls Tryz.prog 88 #[.pointer (some ⟨b,o,none⟩),.string ⟨t.toArray⟩] w λ e w'=>∃ p,e=.returned (.pointer (some ⟨p,0,none⟩))/\w.heap.size<=p/\al w' p ⟨t,0,[]⟩ (.slice none 0 0)/\Below w.heap.size w w':=by
 have HK:Hid (gz w es ps K):=h;clear h;go_enter Tryz.func88,Tryz.ntmps88;go_wp2_with fail;refine (gG b o es ps K t _ hc HK.out hr hl).mono ?_;rintro e w2 ⟨⟨j,hj,rfl⟩,A0⟩;obtain rfl:=hj.uniq hi;rw[show (K[j]?==some t)=false from beq_eq_false_iff_ne.2 hf];have HB:Hid _:=A0;clear A0 hj hi hf hr;go_wp2;go_ret;exact⟨w2.heap.size,rfl,HB.out.size,⟨heap_alloc_new _ _,⟨rfl,Or.inl ⟨rfl,rfl⟩⟩⟩,HB.out.alloc HB.out.size _⟩
def ao (key:List UInt8):Nat:=key.foldl (λ h c=>(h*31+c.toNat)%4294967296) 0
theorem yB (key:List UInt8):ao key<4294967296:=by
 unfold ao;rw[<- List.reverse_reverse key,List.foldl_reverse];cases key.reverse with
 | nil=>simp
 | cons a l=>exact Nat.mod_lt _ (by omega)
theorem s7 (l:List UInt8)(c:UInt8):ao (l++[c])=(ao l*31+c.toNat)%4294967296:=by simp[ao]
theorem kp (s n cap:Nat)(a:Option Addr)(key:List UInt8)(w:World)(hc:w.cell? ⟨s,6,none⟩=some (.slice a n cap))(hn:1<=n)(hn8:n<=8)(hk:key.length<1000000) :
 Calls Tryz.prog 137 #[.pointer (some ⟨s,0,none⟩),.string ⟨key.toArray⟩] w λ e w'=>e=.returned (.int .i64 ((ao key%n:Nat):Int))/\w'=w:=by
 obtain⟨S,hS⟩:∃ S:ByteArray,S=⟨key.toArray⟩:=⟨_,rfl⟩;have hd:S.data.toList=key:=by rw[hS]
 have A2:S.size=key.length:=by rw[Lib.size_eq,hd]
 rw[<- hS,<- hd];have A4:S.size<1000000:=by omega
 clear hS A2 hd hk;go_enter Tryz.func137,Tryz.ntmps137;go_wp2;go_loop [5,9] (λ hh i=>∃ k:Nat,k<=S.size/\i=.int .i64 k/\hh=.int .u32 ((ao (S.data.toList.take k):Nat):Int)) (λ _ i=>S.size-(intOf i).toNat);case atStart=>exact⟨0,by omega,rfl,rfl⟩
 case round =>
  obtain⟨k,hk,rfl,rfl⟩:=hrel;have A0:=yB (S.data.toList.take k);by_cases hin:k<S.size
  ·have A1:=aV S k hin;(have HS:Hid (ao (S.data.toList.take (k+1))=(ao (S.data.toList.take k)*31+(S[k]).toNat)%4294967296):=by show _=_;rw[A1,s7]);obtain⟨F,hF⟩:∃ F,ao (S.data.toList.take k)=F:=⟨_,rfl⟩;rw[hF] at A0 HS ⊢;have A3:(S[k]).toNat<256:=(S[k]).toNat_lt;clear A1 hF;go_wp2;refine⟨⟨k+1,by omega,by go_num,?_⟩,by simp[intOf];omega⟩;rw[HS.out];congr 1;omega
  ·(obtain rfl:k=S.size:=by omega);rw[List.take_of_length_le (by rw[Lib.size_eq];exact Nat.le_refl _)] at A0 ⊢;obtain⟨F,hF⟩:∃ F,ao S.data.toList=F:=⟨_,rfl⟩;rw[hF] at A0 ⊢;have hm:F%n<n:=Nat.mod_lt _ (by omega);(have HW:Hid (wrap64 ((F:Int)%(n:Int))=((F%n:Nat):Int)):=by show _=_;rw[<- Int.natCast_emod];simp only[wrap64];omega);have HF:Hid (ao S.data.toList=F):=hF;clear hF;go_wp2;go_ret;refine⟨?_,rfl⟩;rw[HF.out];rfl
theorem j6 (s g n cap:Nat)(key:List UInt8)(w:World)(hc:w.cell? ⟨s,6,none⟩=some (.slice (some ⟨g,0,none⟩) n cap))(hn:1<=n)(hn8:n<=8)(hk:key.length<1000000) :
 Calls Tryz.prog 87 #[.pointer (some ⟨s,0,none⟩),.string ⟨key.toArray⟩] w λ e w'=>e=.returned (.pointer (some ⟨g,ao key%n*3,none⟩))/\Below w.heap.size w w':=by
 have hm:ao key%n<n:=Nat.mod_lt _ (by omega);go_enter Tryz.func87,Tryz.ntmps87;go_wp2_with fail;obtain⟨m,A0⟩:∃ m,ao key%n=m:=⟨_,rfl⟩;have A1:w.drew.cell? ⟨s,6,none⟩=some (.slice (some ⟨g,0,none⟩) n cap):=hc;rw[A0] at hm;go_region_with (go_at_call 137;refine (kp s n cap (some ⟨g,0,none⟩) key _ A1 hn hn8 hk).mono ?_;rintro e w' ⟨rfl,hw⟩;rw[hw,A0]);all_goals go_wp2
 all_goals go_ret
 all_goals (rw[A0];exact⟨rfl,(Below.refl _ _).drew⟩)
structure Lst (w:World)(v:Value)(qs:List Nat):Prop where
 is:∃ (a:Option Addr) (c:Nat),v=.slice a qs.length c/\qs.length<=c/\c<=maxLen /\
  ∀ (j q:Nat),qs[j]?=some q->∃ g o:Nat,a=some ⟨g,o,none⟩/\(∃ cs f,w.heap[g]?=some (.cells cs 170 f))/\w.cell? ⟨g,o+j,none⟩=some (.pointer (some ⟨q,0,none⟩))
theorem Lst.below {w x:World}{v:Value}{qs:List Nat}(h:Lst w v qs)(hb:Below w.heap.size w x):Lst x v qs:=by
 obtain⟨a,c,h1,h2,h3,h4⟩:=h.is;refine⟨⟨a,c,h1,h2,h3,λ j q hq=>?_⟩⟩;obtain⟨g,o,e1,e2,e3⟩:=h4 j q hq;obtain⟨cs,f,hc⟩:=e2;have A0:=(gL hc);exact⟨g,o,e1,⟨cs,f,(hb.block g A0).trans hc⟩,(hb.cell (p:=⟨g,o+j,none⟩) A0).trans e3⟩
theorem gz.drop {w:World}{a:Option Addr}{n c:Nat}{ps:List Nat}{K:List (List UInt8)}(h:gz w (.slice a n c) ps K)(i:Nat)(hi:i<=ps.length) :
 Lst w (.slice (if c=i then a else a.map λ x=>⟨x.block,x.off+i,none⟩) (n-i) (c-i)) (ps.drop i):=by
 rcases h.row.2 with ⟨e0,h0⟩|⟨g,A3,A2,hv,_,hg,hn,hm,hs,A0⟩
 ·cases e0;have:ps=[]:=List.length_eq_zero_iff.1 h0;subst this;refine⟨⟨_,_,by rw[List.length_drop];rfl,by simp,by simp,λ j q hq=>by simp at hq⟩⟩
 ·cases hv;refine⟨⟨_,c-i,by rw[List.length_drop],by rw[List.length_drop];omega,by omega,λ j q hq=>?_⟩⟩;rw[List.getElem?_drop] at hq;have A1:i+j<ps.length:=(List.getElem?_eq_some_iff.1 hq).1;rw[if_neg (by omega)];refine⟨g,0+i,rfl,⟨_,_,hg⟩,?_⟩;(have:(fM ps)[i+j]?=some (.pointer (some ⟨q,0,none⟩)):=by simp[fM,hq]);rw[<- this,<- A0,List.getElem?_take_of_lt (by omega)];simp[World.cell?,hg]
structure im (K:List (List UInt8))(t:List UInt8)(i:Nat):Prop where
 le:i<=K.length
 lo:∀ (j:Nat) (a:List UInt8),j<i->K[j]?=some a->aE a t<=0
 hi:∀ (j:Nat) (a:List UInt8),i<=j->K[j]?=some a->aE a t=1
theorem sA (b o:Nat)(es:Value)(ps:List Nat)(K:List (List UInt8))(t:List UInt8)(w:World)(hc:w.cell? ⟨b,o+2,none⟩=some es)(h:gz w es ps K)(hr:dK K)(hl:ps.length<1000000)(hlt:b<w.heap.size) :
 Calls Tryz.prog 85 #[.pointer (some ⟨b,o,none⟩),.string ⟨t.toArray⟩] w λ e w' =>
  (∃ (i:Nat) (v:Value),im K t i/\e=.returned v/\Lst w' v (ps.drop i))/\Below w.heap.size w w':=by
 have A2:∃ a c,es=.slice a ps.length c/\ps.length<=c:=by
  rcases h.row.2 with ⟨rfl,h0⟩|⟨g,A9,A8,rfl,_,_,hn,_⟩
  ·rw[h0];exact⟨_,_,rfl,Nat.le_refl _⟩
  ·exact⟨_,_,rfl,hn⟩
 obtain⟨a,c,rfl,Aa⟩:=A2;have HK:Hid _:=h;clear h;go_enter Tryz.func85,Tryz.ntmps85;go_wp2_with fail;refine (gG b o _ ps K t _ hc HK.out hr hl).mono ?_;rintro e w2 ⟨⟨i,hi,rfl⟩,A4⟩;have Ab:=(A4.cell (p:=⟨b,o+2,none⟩) hlt).trans hc;have A3:i<=ps.length:=by have:=hi.le;rw[HK.out.len] at this;exact this
 have HI:Hid _:=hi;have HB:Hid _:=A4;have HR:Hid _:=hr;clear A4 hi hr;have A7:Hid _:=HK.out.below HB.out;cases hf:(K[i]?==some t) with
 | true =>
   (have A1:K[i]?=some t:=by simpa using hf);(have A5:i+1<=ps.length:=by have:=(List.getElem?_eq_some_iff.1 A1).1;rw[HK.out.len] at this;exact this);have HF:Hid _:=A1;clear hf A1;have HD:Hid (im K t (i+1)):=by
    refine⟨by rw[HK.out.len];exact A5,λ j a hj ha=>?_,λ j a hj ha=>?_⟩
    ·by_cases e:j=i
     ·subst e;rw[HF.out] at ha;cases ha;rw[ci];omega
     ·have:=HI.out.lo j a (by omega) ha;omega
    ·have:=HR.out i j t a (by omega) HF.out ha;rw[bS,this];rfl
   have A0:=A7.out.drop (i+1) A5;have HL:Hid _:=A0;clear A0;by_cases hci:c=i+1
   ·subst hci;rw[if_pos rfl,show ps.length-(i+1)=0 by omega,Nat.sub_self] at HL;go_wp2;go_ret;exact⟨⟨i+1,_,HD.out,rfl,HL.out⟩,HB.out⟩
   ·rw[if_neg hci] at HL;go_wp2;go_ret;exact⟨⟨i+1,_,HD.out,rfl,HL.out⟩,HB.out⟩
 | false =>
   (have A1:K[i]?≠some t:=by simpa using hf);have HF:Hid _:=A1;clear hf A1;have HD:Hid (im K t i):=by
    refine⟨HI.out.le,λ j a hj ha=>?_,λ j a hj ha=>?_⟩
    ·have:=HI.out.lo j a hj ha;omega
    ·have h0:=HI.out.hi j a hj ha;rcases bz a t with h|h|h
     ·omega
     ·exfalso;have:=fE _ _ h;subst this;by_cases e:j=i
      ·subst e;exact HF.out ha
      ·(have A6:i<K.length:=by have:=(List.getElem?_eq_some_iff.1 ha).1;omega);have h1:=HR.out i j _ a (by omega) (List.getElem?_eq_getElem A6) ha;have h2:=HI.out.hi i _ (Nat.le_refl _) (List.getElem?_eq_getElem A6);omega
     ·exact h
   have A0:=A7.out.drop i A3;have HL:Hid _:=A0;clear A0;by_cases hci:c=i
   ·subst hci;rw[if_pos rfl,show ps.length-c=0 by omega,Nat.sub_self] at HL;go_wp2;go_ret;exact⟨⟨c,_,HD.out,rfl,HL.out⟩,HB.out⟩
   ·rw[if_neg hci] at HL;have ea:(a.map λ x=>(⟨x.block,x.off+i,none⟩:Addr))=a.map λ x=>x.add i:=by
     rcases HK.out.row.2 with ⟨e0,_⟩|⟨g,A9,A8,hv,_⟩
     ·injection e0 with e1;rw[e1];rfl
     ·injection hv with e1;rw[e1];simp[Addr.add]
    rw[ea] at HL;clear ea;go_wp2;go_ret;exact⟨⟨i,_,HD.out,rfl,HL.out⟩,HB.out⟩
end Go.Proofs.YtmehkneofinmiaaGreatDoor

/-part 5-/
import Derived.Test.YtmehkneofinmiabGreatDoorP04
import Derived.RangeFuncNested
import Derived.RangeFuncBound
import Derived.Shelf.RegionOpen
import Derived.OwnWalkIn
import Derived.LoopNIn
import Derived.Sort.LoopGhostIn
open Go.Proofs.Tryz
open Option renaming some->ID,none->IH,map_eq_some_iff->N0
open Go.Value renaming string->IF,int->I3,pointer->J1,slice->K2,bool->MT,tuple->Pi,oneCell'->Q1
open Go.Proofs.Tryz renaming prog->IR,underlying95->LO,underlying9->L5,underlying135->Nd,underlying147->Of,underlying5->Pu
open List renaming getElem?_eq_getElem->Jx,filter_cons->Kf,pairwise_cons->Ln,getElem?_take_of_lt->Lz,getElem?_eq_some_iff->LN,length_append->Mp,mem_cons_self->Mu,take_of_length_le->Mz,mem_of_getElem?->MD,mem_cons_of_mem->M1,mem_of_find?_eq_some->Nm,mem_cons->Nx,mem_append->N2,getElem?_drop->N5,append_assoc->Ok,length_take->Pa,append_nil->PF
open Go.Obj renaming cells->J0
open Nat renaming le_refl->Ks,lt_of_lt_of_le->N6,le_trans->On,mod_lt->PP
open Go.Ending renaming returned->Kx
open Go.IntKind renaming i64->K0,u8->Rd
open Go.World renaming cell?->K1,cell?_setCells_out->Ly,cell?_setCells_in->L1,setCell->NO
open Go renaming Value->Lo,World->Lq,heap_alloc_new->LL,Calls->Mb,results_none->N1,info_parts->N3,maxLen->N4,bodyPost_ret->OS,bodyPost_end->O2,wpList_store_row->PC,TypeId->Rg
open Go.Lib renaming compareBytes->Lw,wpList_append_own_string->L2,size_eq->L4,strCells->ON
open Or renaming inr->LI,inl->LS
open Bool renaming false->LR,true->NX
open Go.Builtin renaming zeroCells->L3,copy_->Q2
open Array renaming getElem?_eq_getElem->Mn,getElem?_modify->MA,ext->Rr
open UInt8 renaming ofNat->MY
set_option maxRecDepth 100000
set_option maxHeartbeats 4000000
namespace Go.Proofs.YtmehkneofinmiabGreatDoor
open Go.RowKit
variable {base i k n t:Nat}{w y:Lq}{es v v':Lo}{ps:List Nat}{K:List (List UInt8)}{l:List IP}{cs:Array Lo}{A:IP}
theorem tM (g c n i vb:Nat)(xs:List Lo)(x:Lo)(w:Lq)(h:w.ownsRow 0 143 1 (K2 (ID ⟨g,0,IH⟩) n c) n xs)(h1:∀v∈xs,v.oneCell'=NX)(hx:x.oneCell'=NX)(hv:w.heap[vb]?=ID (J0 #[x] 143 (0,0)))(hi:i<n)(hroom:c<n+1)(hn:n<1000000) :
 Mb IR 241 #[K2 (ID ⟨g,0,IH⟩) n c,I3 K0 i,K2 (ID ⟨vb,0,IH⟩) 1 1] w λe w'=>∃G ROW,e=Kx (K2 (ID ⟨w.heap.size,0,IH⟩) (n+1) G)/\n+1<=G/\G<=9223372036854775807/\ROW.size=G/\ROW.toList.take i=xs.take i /\
  w'=(((w.alloc (J0 ROW 143)).drew.setCells w.heap.size i [x]).drew).setCells w.heap.size (i+1) (xs.drop i):=by
 obtain⟨i0,Aw,Ah,As,Af⟩:=N3 CF;obtain⟨Av,B0,Ak,Ag,Az,hg,Aq,Ai,A0,Au,Am⟩:=jN h;have An:w.cell? ⟨vb,0,IH⟩=ID x:=by simp[K1,hv]
 have Aj:vb<w.heap.size:=(gL hv);have Ab:(n:Int)+1-(i:Int)=((n+1-i:Nat):Int):=by omega
 have A6:i+(n+1-i)=n+1:=by omega
 have A3:(Builtin.firstCells i0.size i (K2 (ID ⟨g,0,IH⟩) i c)).run IR w.drew=.ok (xs.take i).toArray w.drew:=by
  rw[As];exact run_firstCells_some w.drew 1 i ⟨g,0,IH⟩ i c (xs.take i) (by rw[Pa];omega) (λj v hj=>by
   rw[Addr.add_lit];rw[List.getElem?_take] at hj;split at hj
   ·simpa using A0 j v hj
   ·cases hj)
 have A4:∀ty,(Builtin.append_ #[135,3] ty #[K2 (ID ⟨g,0,IH⟩) i c,I3 K0 ((n:Int)+1-(i:Int))]).run IR w =
  .ok (K2 (ID ⟨w.heap.size,0,IH⟩) (n+1) (grownCap w (n+1) c 143)) (w.drew.alloc (J0 ((xs.take i).toArray++L3 (Value.pointer IH).cells (n+1-i)++L3 (Value.pointer IH).cells (grownCap w (n+1) c 143-(n+1))) 143)):=λty=>by
  have h:=Lib.run_append_grow_zeros w 135 3 ty 143 i0 _ K0 K0 Nd underlying3 Aw Ah (ID ⟨g,0,IH⟩) i c (xs.take i) A3 (n+1-i) (by omega) (by omega) (by omega) (by omega) (by rw[Af];omega) (by rw[Af,A6];exact growslice_fits hroom (by omega));rw[A6] at h;rw[Ab];exact h
 obtain⟨G,hG⟩:=exj (grownCap w (n+1) c 143);obtain⟨ROW,A1⟩:∃ROW:Array Lo,ROW=(xs.take i).toArray++L3 (Value.pointer IH).cells (n+1-i)++L3 (Value.pointer IH).cells (G-(n+1)):=⟨_,rfl⟩;rw[<-hG] at A4;rw[<-A1] at A4;have Ap:n+1<=G:=by rw[hG];exact grownCap_ge w _ _ _
 have A8:G<=9223372036854775807:=by have:=grownCap_le_maxLen w (n+1) c 143 (by unfold N4;omega);rw[<-hG] at this;unfold N4 at this;omega
 have Ad:ROW.size=G:=by rw[A1];simp[L3,Value.cells];omega
 have Ac:ROW.toList.take i=xs.take i:=by rw[A1,Array.toList_append,Array.toList_append,Ok];rw[List.take_append_of_le_length (by simp;omega)];show List.take i (List.take i xs)=List.take i xs;rw[List.take_take,Nat.min_self]
 obtain⟨W1,A2⟩:=exj (w.drew.alloc (J0 ROW 143));rw[<-A2] at A4;have hN:∀j,j<n+1->(W1.cell? ⟨w.heap.size,j,IH⟩).isSome=NX:=λj hj=>by rw[A2,World.cell?_alloc_at (w:=w.drew) ROW _ w.heap.size j rfl,Mn (by omega)];rfl
 have A7:∀j,W1.frozen? ⟨w.heap.size,j,IH⟩=LR:=λj=>by rw[A2];exact World.frozen?_alloc_at (w:=w.drew) ROW _ w.heap.size j rfl
 have Aa:∀j v,w.cell? ⟨g,j,IH⟩=ID v->W1.cell? ⟨g,j,IH⟩=ID v:=λj v h=>by rw[A2,World.cell?_alloc_past (w:=w.drew) _ g j Ag];exact h
 have Ae:W1.cell? ⟨vb,0,IH⟩=ID x:=by rw[A2,World.cell?_alloc_past (w:=w.drew) _ vb 0 Aj];exact An
 have A5:∀(W:Lq),(∀x,W.cell? x=W1.cell? x)->(∀x,W.frozen? x=W1.frozen? x)->∀ty dc,(Q2 #[135,135] ty #[K2 (ID ⟨w.heap.size,i,IH⟩) (n+1-i) dc,K2 (ID ⟨vb,0,IH⟩) 1 1]).run IR W=.ok (goInt 1) (W.setCells w.heap.size i [x]):=λW hWc hWf ty dc =>
  run_copy_cells W _ _ ty 143 w.heap.size i (n+1-i) dc ⟨vb,0,IH⟩ 1 1 [x] Nd xW (by simp only[List.length_singleton,Nat.min_def];split<;>omega)
   (λj v hj=>by
     rw[Addr.add_lit,hWc];cases j with
     | zero=>simp at hj;subst hj;exact Ae
     | succ j=>simp at hj)
   (λj hj=>by rw[hWc];exact hN _ (by simp at hj;omega)) (λj hj=>by rw[hWf];exact A7 _) (by simpa using hx)
 have B4:¬ (G=i):=by omega
 have Ao:¬ (G=i+1):=by omega
 have B2:¬ (c=i):=by omega
 have Ax:g≠w.heap.size:=by omega
 have Ar:(xs.drop i).length=n-i:=by rw[List.length_drop,Av]
 have A9:∀(W:Lq),(∀q,W.cell? q=(W1.setCells w.heap.size i [x]).cell? q)->(∀q,W.frozen? q=(W1.setCells w.heap.size i [x]).frozen? q)->∀ty dc sc,(Q2 #[135,135] ty #[K2 (ID ⟨w.heap.size,i+1,IH⟩) (n-i) dc,K2 (ID ⟨g,i,IH⟩) (n-i) sc]).run IR W=.ok (goInt (xs.drop i).length) (W.setCells w.heap.size (i+1) (xs.drop i)):=λW hWc hWf ty dc sc =>
  run_copy_cells W _ _ ty 143 w.heap.size (i+1) (n-i) dc ⟨g,i,IH⟩ (n-i) sc (xs.drop i) Nd xW (by rw[Ar];simp only[Nat.min_def];split<;>omega)
   (λj v hj=>by
     rw[Addr.add_lit,hWc,Ly _ _ _ _ _ (λh _=>absurd h Ax)]
     exact Aa _ v (A0 (i+j) v (by rwa [N5] at hj)))
   (λj hj=>by rw[hWc];exact isSome_setCells w.heap.size [x] i W1 (λt ht=>hN _ (by simp at ht;omega)) _ (hN _ (by omega)))
   (λj hj=>by rw[hWf,World.frozen?_setCells];exact A7 _) (λv hv=>h1 v (List.mem_of_mem_drop hv))
 subst A2;have Al:∀x,((w.alloc (J0 ROW 143)).drew).cell? x=(w.drew.alloc (J0 ROW 143)).cell? x:=λx=>rfl;have At:∀x,((w.alloc (J0 ROW 143)).drew).frozen? x=(w.drew.alloc (J0 ROW 143)).frozen? x:=λx=>rfl;have hF:∀ty dc sc,_:=A9 (((w.alloc (J0 ROW 143)).drew.setCells w.heap.size i [x]).drew) (λx=>rfl) (λx=>rfl);have Ay:¬ ((i:Int)=(n:Int)):=by omega
 have B3:(c:Int)<(n:Int)+1:=by omega
 have B1:IntKind.i64.wrap ((i:Int)+1)=(i:Int)+1:=by rw[IntKind.wrap_i64];omega
 have HS:Hid (ROW.size=G):=Ad;have HT:Hid (ROW.toList.take i=xs.take i):=Ac;have B5:(i:Int)<=(n:Int):=by omega
 clear Ab A6 A3 A1 hG Ad Ac hN A7 Aa Ae A0 Au Am Ai Aq hg h;go_enter func241,ntmps241;go_wp2_with (first
  | (at_builtin;refine Lib.wpList_append_run _ rfl _ _ _ _ rfl _ _ rfl rfl _ _ (A4 _) ?_)
  | (at_builtin;refine iI _ rfl _ _ 135 135 rfl _ _ rfl rfl (A5 _ Al At _ _) ?_))
 go_region;go_wp2;go_ret;exact⟨G,ROW,rfl,Ap,A8,HS.out,HT.out,rfl⟩
theorem xM (xs:List Lo)(x:Lo)(i j:Nat)(hi:i<=xs.length):(xs.take i++x::xs.drop i)[j]?=if j<i then xs[j]? else if j=i then ID x else xs[j-1]?:=by
 by_cases h:j<i
 ·rw[if_pos h,List.getElem?_append_left (by simp;omega),Lz h]
 ·rw[if_neg h,List.getElem?_append_right (by simp;omega),Pa,Nat.min_eq_left hi];by_cases h2:j=i
  ·rw[if_pos h2,h2];simp
  ·rw[if_neg h2];obtain⟨k,rfl⟩:∃k,j=i+1+k:=⟨j-i-1,by omega⟩;rw[show i+1+k-i=k+1 by omega,List.getElem?_cons_succ,N5,show i+1+k-1=i+k by omega]
theorem xm {x:Lq}{e:Rg}{g cap:Nat}{xs:List Lo}(cur:Array Lo)(hg:x.heap[g]?=ID (J0 cur e (0,0)))(hs:cur.size=cap)(hn:n<=cap)(hc:cap<=9223372036854775807)(hl:xs.length=n)(hx:∀j,j<n->x.cell? ⟨g,j,IH⟩=xs[j]?) :
 x.ownsRow 0 e 1 (K2 (ID ⟨g,0,IH⟩) n cap) n xs :=
 B4 cur hg hs hn hc hl (λj hj=>by rw[<-hx j hj];simp[K1,hg])
theorem vV (es:Lo)(n i:Nat)(xs:List Lo)(vb:Nat)(x:Lo)(w:Lq)(h:w.ownsRow 0 143 1 es n xs)(h1:∀v∈xs,v.oneCell'=NX)(hx:x.oneCell'=NX)(hv:w.heap[vb]?=ID (J0 #[x] 143 (0,0)))(hi:i<=n)(hvb:es.ownBlock≠ID vb)(hn:n<1000000) :
 Mb IR 241 #[es,I3 K0 i,K2 (ID ⟨vb,0,IH⟩) 1 1] w λe w'=>∃g cap,e=Kx (K2 (ID ⟨g,0,IH⟩) (n+1) cap) /\
  w'.ownsRow 0 143 1 (K2 (ID ⟨g,0,IH⟩) (n+1) cap) (n+1) (xs.take i++x::xs.drop i)/\(es.ownBlock=ID g\/w.heap.size<=g)/\Off (λk=>es.ownBlock=ID k) w w':=by
 have Am:xs.length=n:=by rw[h.1,Nat.mul_one]
 by_cases he:i=n
 ·subst he;(have e:xs.take i++x::xs.drop i=xs++[x]:=by rw[Mz (by omega),List.drop_of_length_le (by omega)]);rw[e];exact uQ es i xs vb x w h hx hv hn
 ·(have Ac:i<n:=by omega);obtain⟨g,c,rfl⟩:∃g c,es=K2 (ID ⟨g,0,IH⟩) n c:=by
   rcases h.2 with⟨_,h0⟩|⟨g,cap,Ae,rfl,_⟩
   ·omega
   ·exact⟨g,cap,rfl⟩
  obtain⟨_,Aq,A5,As,Ae,hg,Ar,An,A3,Af,Ao⟩:=jN h;have Ak:vb≠g:=λe=>hvb (by rw[e];rfl);(have A2:(xs.take i++x::xs.drop i).length=n+1:=by simp;omega);by_cases hr:n+1<=c
  ·refine(rk g c n i vb xs x w h h1 hx hv Ac hr Ak hn).mono ?_;rintro e w' ⟨rfl,rfl⟩;have hS:(λk=>(K2 (ID ⟨g,0,IH⟩) n c).ownBlock=ID k) g:=rfl;refine⟨g,c,rfl,?_,LS rfl,Off.setCells g (LS hS) _ _ _ (Off.setCells g (LS hS) _ _ _ (Off.refl _ w).drew)⟩;obtain⟨lF,Ab,Ah⟩:=ey g (xs.drop i) (i+1) w.drew Ae _ _ hg;obtain⟨A1,Aa,Aj⟩:=ey g [x] i _ lF _ _ Ab;refine xm A1 Aa (by omega) hr A5 A2 (λj hj=>?_);rw[xM xs x i j (by omega)];have Ad:∀t,t<(xs.drop i).length->(w.drew.cell? ⟨g,i+1+t,IH⟩).isSome=NX:=λt ht=>Af _ (by simp at ht;omega);by_cases h2:j=i
   ·subst h2;rw[if_neg (by omega),if_pos rfl];have:=L1 g [x] j (w.drew.setCells g (j+1) (xs.drop j)) (λt ht=>isSome_setCells g _ _ _ Ad _ (Af _ (by simp at ht;omega))) 0 (by simp);simpa using this
   ·rw[Ly g [x] i _ ⟨g,j,IH⟩ (λ_ _=>by show j<i\/i+1<=j;omega)];by_cases h3:j<i
    ·rw[if_pos h3,Ly g _ _ _ ⟨g,j,IH⟩ (λ_ _=>by show j<i+1\/_;omega)];have hv:=Jx (l:=xs) (i:=j) (by omega);rw[hv];exact A3 j _ hv
    ·rw[if_neg h3,if_neg h2];have:=L1 g (xs.drop i) (i+1) w.drew Ad (j-(i+1)) (by simp;omega);rw[show i+1+(j-(i+1))=j by omega] at this;rw[this];have hv:=Jx (l:=xs) (i:=j-1) (by omega);rw[hv];simp only[List.getElem_drop];congr 2;omega
  ·refine(tM g c n i vb xs x w h h1 hx hv Ac (by omega) hn).mono ?_;rintro e w' ⟨G,A0,rfl,Ai,A8,Ap,Ag,rfl⟩;refine⟨w.heap.size,G,rfl,?_,LI (Ks _),Off.setCells _ (LI (Ks _)) _ _ _ (Off.setCells _ (LI (Ks _)) _ _ _ ((Off.refl _ w).alloc _).drew).drew⟩;have A7:(w.alloc (J0 A0 143)).drew.heap[w.heap.size]?=ID (J0 A0 143 (0,0)):=LL w _;obtain⟨lF,Ab,Ah⟩:=ey w.heap.size [x] i _ A0 _ _ A7;have A9:((w.alloc (J0 A0 143)).drew.setCells w.heap.size i [x]).drew.heap[w.heap.size]?=ID (J0 lF 143 (0,0)):=Ab;obtain⟨A1,Aa,Aj⟩:=ey w.heap.size (xs.drop i) (i+1) _ lF _ _ A9;(have A4:∀j,j<n+1->((w.alloc (J0 A0 143)).drew.cell? ⟨w.heap.size,j,IH⟩).isSome=NX:=λj hj=>by simp only[K1,A7];rw[Mn (by omega)];rfl);have Al:∀j,j<n+1->(((w.alloc (J0 A0 143)).drew.setCells w.heap.size i [x]).drew.cell? ⟨w.heap.size,j,IH⟩).isSome=NX:=λj hj=>isSome_setCells w.heap.size [x] i _ (λt ht=>A4 _ (by simp at ht;omega)) _ (A4 j hj);refine xm A1 Aa (by omega) Ai A8 A2 (λj hj=>?_);rw[xM xs x i j (by omega)];by_cases h3:j<=i
   ·rw[Ly _ _ _ _ ⟨w.heap.size,j,IH⟩ (λ_ _=>by show j<i+1\/_;omega)];show((w.alloc (J0 A0 143)).drew.setCells w.heap.size i [x]).cell? _=_;by_cases h2:j=i
    ·subst h2;rw[if_neg (by omega),if_pos rfl];have:=L1 w.heap.size [x] j (w.alloc (J0 A0 143)).drew (λt ht=>A4 _ (by simp at ht;omega)) 0 (by simp);simpa using this
    ·(have A6:j<i:=by omega);rw[if_pos A6,Ly _ _ _ _ ⟨w.heap.size,j,IH⟩ (λ_ _=>by show j<i\/_;omega)];simp only[K1,A7];(have e1:A0[j]?=(A0.toList.take i)[j]?:=by rw[Lz A6];simp);(have e2:xs[j]?=(xs.take i)[j]?:=by rw[Lz A6]);rw[e2,<-Ag,<-e1];rfl
   ·rw[if_neg (by omega),if_neg (by omega)];have:=L1 w.heap.size (xs.drop i) (i+1) _ (λt ht=>Al _ (by simp at ht;omega)) (j-(i+1)) (by simp;omega);rw[show i+1+(j-(i+1))=j by omega] at this;rw[this];have hv:=Jx (l:=xs) (i:=j-1) (by omega);rw[hv];simp only[List.getElem_drop];congr 2;omega
abbrev cK (a b:List UInt8):Int:=Lw a b
theorem dU:∀(a b:List UInt8),cK a b = -1\/cK a b=0\/cK a b=1
 | [],[]=>LI (LS rfl)
 | [],_::_=>LS rfl
 | _::_,[]=>LI (LI rfl)
 | a::ar,b::br=>by
   show Lw (a::ar) (b::br) = -1\/_
   unfold cK
   rw[Lw]
   split
   ·exact LS rfl
   ·split
    ·exact LI (LI rfl)
    ·exact dU ar br
theorem fy:∀a:List UInt8,cK a a=0
 | []=>rfl
 | a::ar=>by
   unfold cK
   rw[Lw,if_neg (UInt8.lt_irrefl a),if_neg (UInt8.lt_irrefl a)]
   exact fy ar
theorem mR:∀(a b:List UInt8),cK a b=0->a=b
 | [],[],_=>rfl
 | [],_::_,h=>by cases h
 | _::_,[],h=>by cases h
 | a::ar,b::br,h=>by
   unfold cK at h
   rw[Lw] at h
   split at h
   ·cases h
   ·split at h
    ·cases h
    ·rename_i h1 h2
     have e:a=b:=UInt8.le_antisymm (UInt8.not_lt.1 h2) (UInt8.not_lt.1 h1)
     rw[e,mR ar br h]
theorem fC:∀(a b:List UInt8),cK b a =-cK a b
 | [],[]=>rfl
 | [],_::_=>rfl
 | _::_,[]=>rfl
 | a::ar,b::br=>by
   unfold cK
   rw[Lw,Lw]
   by_cases h1:a<b
   ·have h2:¬ b<a:=UInt8.lt_asymm h1
    rw[if_pos h1,if_neg h2,if_pos h1]
    rfl
   ·by_cases h2:b<a
    ·rw[if_pos h2,if_neg h1,if_pos h2]
    ·rw[if_neg h1,if_neg h2,if_neg h1,if_neg h2]
     exact fC ar br
theorem eG:∀(a b c:List UInt8),cK a b = -1->cK b c = -1->cK a c = -1
 | [],[],_,h,_=>by cases h
 | [],_::_,[],_,h=>by cases h
 | [],_::_,_::_,_,_=>rfl
 | _::_,[],_,h,_=>by cases h
 | _::_,_::_,[],_,h=>by cases h
 | a::ar,b::br,c::cr,h,k=>by
   unfold cK at h k ⊢
   rw[Lw] at h k ⊢
   by_cases h1:a<b
   ·by_cases k1:b<c
    ·rw[if_pos (UInt8.lt_trans h1 k1)]
    ·rw[if_neg k1] at k
     by_cases k2:c<b
     ·rw[if_pos k2] at k;cases k
     ·have e:b=c:=UInt8.le_antisymm (UInt8.not_lt.1 k2) (UInt8.not_lt.1 k1)
      rw[if_pos (e ▸ h1)]
   ·rw[if_neg h1] at h
    by_cases h2:b<a
    ·rw[if_pos h2] at h;cases h
    ·have e:a=b:=UInt8.le_antisymm (UInt8.not_lt.1 h2) (UInt8.not_lt.1 h1)
     rw[if_neg h2] at h
     subst e
     by_cases k1:a<c
     ·rw[if_pos k1]
     ·rw[if_neg k1] at k ⊢
      by_cases k2:c<a
      ·rw[if_pos k2] at k;cases k
      ·rw[if_neg k2] at k ⊢
       exact eG ar br cr h k
def gE (ps:List Nat):List Lo:=ps.map λp=>J1 (ID ⟨p,0,IH⟩)
structure Keys (w:Lq)(es:Lo)(ps:List Nat)(K:List (List UInt8)):Prop where
 row:w.ownsRow 0 143 1 es ps.length (gE ps)
 len:K.length=ps.length
 key:∀(i p:Nat) (k:List UInt8),ps[i]?=ID p->K[i]?=ID k->w.cell? ⟨p,0,IH⟩=ID (IF ⟨k.toArray⟩)
 lt:∀p∈ps,p<w.heap.size
theorem Keys.below {x:Lq}(h:Keys w es ps K)(hb:Below w.heap.size w x):Keys x es ps K :=
 ⟨dH h.row hb,h.len,λi p k hp hk=>(hb.cell (p:=⟨p,0,IH⟩) (h.lt p (MD hp))).trans (h.key i p k hp hk),λp hp=>N6 (h.lt p hp) hb.size⟩
theorem Keys.at (h:Keys w es ps K)(i:Nat)(hi:i<ps.length) :
 ∃g cap p k,es=K2 (ID ⟨g,0,IH⟩) ps.length cap/\ps.length<=cap/\cap<=N4/\g<w.heap.size/\ps[i]?=ID p/\K[i]?=ID k /\
  w.cell? ⟨g,i,IH⟩=ID (J1 (ID ⟨p,0,IH⟩))/\w.cell? ⟨p,0,IH⟩=ID (IF ⟨k.toArray⟩):=by
 have hk:i<K.length:=by rw[h.len];exact hi
 have e1:ps[i]?=ID ps[i]:=Jx hi;have e2:K[i]?=ID K[i]:=Jx hk;rcases h.row.2 with⟨_,h0⟩|⟨g,cap,A1,hv,_,hg,hn,hm,hs,A0⟩
 ·omega
 ·refine⟨g,cap,ps[i],K[i],hv,hn,hm,(gL hg),e1,e2,?_,h.key i _ _ e1 e2⟩;(have:(gE ps)[i]?=ID (J1 (ID ⟨ps[i],0,IH⟩)):=by simp[gE,e1]);rw[<-this,<-A0,Lz (by omega)];simp[K1,hg]
def er (K:List (List UInt8)):Prop:=∀(i j:Nat) (a b:List UInt8),i<j->K[i]?=ID a->K[j]?=ID b->cK a b = -1
structure cR (K:List (List UInt8))(t:List UInt8)(i:Nat):Prop where
 le:i<=K.length
 lo:∀(j:Nat) (a:List UInt8),j<i->K[j]?=ID a->cK a t = -1
 hi:∀(j:Nat) (a:List UInt8),i<=j->K[j]?=ID a->0<=cK a t
theorem cR.uniq {t:List UInt8}{j:Nat}(h:cR K t i)(k:cR K t j):i=j:=by
 apply Nat.le_antisymm
 ·apply Nat.le_of_not_lt;intro A0;(have hj:j<K.length:=by have:=h.le;omega);have:=h.lo j _ A0 (Jx hj);have:=k.hi j _ (Ks _) (Jx hj);omega
 ·apply Nat.le_of_not_lt;intro A0;(have hj:i<K.length:=by have:=k.le;omega);have:=k.lo i _ A0 (Jx hj);have:=h.hi i _ (Ks _) (Jx hj);omega
theorem sX (p:Nat)(k t:List UInt8)(w:Lq)(h:w.cell? ⟨p,0,IH⟩=ID (IF ⟨k.toArray⟩)) :
 Mb IR 138 #[J1 (ID ⟨p,0,IH⟩),IF ⟨t.toArray⟩] w λe w'=>e=Kx (I3 K0 (cK k t))/\w'=w:=by
 go_enter func138,ntmps138;go_wp2_with fail;refine(strings_Compare ⟨k.toArray⟩ ⟨t.toArray⟩ _).mono ?_;rintro e w1 ⟨rfl,rfl⟩;go_wp2;go_ret;exact⟨rfl,rfl⟩
theorem vI (es:Lo)(ps:List Nat)(K:List (List UInt8))(t:List UInt8)(w:Lq)(h:Keys w es ps K)(hr:er K)(hl:ps.length<1000000) :
 Mb IR 137 #[es,IF ⟨t.toArray⟩,.func (.func 138) #[] #[]] w λe w' =>
  (∃i:Nat,cR K t i/\e=Kx (Pi #[I3 K0 i,MT (K[i]?==ID t)]))/\Below w.heap.size w w':=by
 have A2:∃a c,es=K2 a ps.length c:=by
  rcases h.row.2 with⟨rfl,h0⟩|⟨g,A4,A8,rfl,_⟩
  ·rw[h0];exact⟨_,_,rfl⟩
  ·exact⟨_,_,rfl⟩
 have HR:Hid (Keys w es ps K):=h;have HI:Hid (er K):=hr;clear h hr;obtain⟨a,c,A3⟩:=A2;rw[A3];go_enter func137,ntmps137;go_wp2;go_loopw [9,10] (λx y wx=>∃i j:Nat,i<=j/\j<=ps.length/\x=I3 K0 i/\y=I3 K0 j/\Hid (Below w.heap.size w wx)/\Hid (∀(k:Nat) (a:List UInt8),k<i->K[k]?=ID a->cK a t = -1)/\Hid (∀(k:Nat) (a:List UInt8),j<=k->K[k]?=ID a->0<=cK a t)) (λx y _=>(intOf y-intOf x).toNat);case atStart =>refine⟨0,ps.length,by omega,by omega,rfl,rfl,Below.refl _ _,λk a hk=>by omega,λk a hk hka=>?_⟩;have:=(LN.1 hka).1;rw[HR.out.len] at this;omega
 case round =>
  obtain⟨i,j,A6,hj,rfl,rfl,HB,HL,HH⟩:=hrel;by_cases hlt:i<j
  ·(have A5:(i+j)/2<ps.length:=by omega);obtain⟨g,A4,p,k,e1,hn,hc,hg,hp,hk,c0,c1⟩:=(HR.out.below HB.out).at ((i+j)/2) A5;rw[A3] at e1;cases e1;have HK:Hid (K[(i+j)/2]?=ID k):=hk;(have A7:(i:Int)<(j:Int):=by omega);clear hk hp;go_wp2_with fail;refine(sX p k t _ c1).mono ?_;rintro e w2 ⟨rfl,rfl⟩;by_cases hq:cK k t<0
   ·(have A1:cK k t = -1:=by rcases dU k t with h|h|h<;>omega);obtain⟨q,A0⟩:=IG (cK k t);rw[A0] at hq A1;rw[A0];have HQ:Hid (cK k t = -1):=A0.trans A1;clear A0 A1;go_wp2;refine⟨⟨(i+j)/2+1,j,by omega,by omega,rfl,rfl,HB,λk' a' hk' ha'=>?_,HH⟩,?_⟩
    ·by_cases e:k'=(i+j)/2
     ·subst e;rw[HK.out] at ha';cases ha';exact HQ.out
     ·exact eG _ _ _ (HI.out k' ((i+j)/2) a' k (by omega) ha' HK.out) HQ.out
    ·simp[intOf];omega
   ·obtain⟨q,A0⟩:=IG (cK k t);have HQ:Hid (0<=cK k t):=Int.not_lt.1 hq;rw[A0] at hq;rw[A0];clear A0;go_wp2;refine⟨⟨i,(i+j)/2,by omega,by omega,rfl,rfl,HB,HL,λk' a' hk' ha'=>?_⟩,?_⟩
    ·by_cases e:k'=(i+j)/2
     ·subst e;rw[HK.out] at ha';cases ha';exact HQ.out
     ·apply Int.not_lt.1;intro hh;(have h1:cK a' t = -1:=by rcases dU a' t with h|h|h<;>omega);have h2:=eG _ _ _ (HI.out ((i+j)/2) k' k a' (by omega) HK.out ha') h1;have h3:=HQ.out;omega
    ·simp[intOf];omega
  ·(obtain rfl:i=j:=by omega);have HP:Hid (cR K t i):=⟨by rw[HR.out.len];exact hj,HL.out,HH.out⟩;clear HL HH hlt A6;by_cases hin:i<ps.length
   ·obtain⟨g,A4,p,k,e1,hn,hc,hg,hp,hk,c0,c1⟩:=(HR.out.below HB.out).at i hin;rw[A3] at e1;cases e1;have HK:Hid (K[i]?=ID k):=hk;clear hk hp;go_wp2_with fail;refine(sX p k t _ c1).mono ?_;rintro e w2 ⟨rfl,rfl⟩;obtain⟨q,A0⟩:=IG (cK k t);have HQ:Hid ((K[i]?==ID t)=(q==0)):=by
     rw[HK.out,Bool.eq_iff_iff,beq_iff_eq,beq_iff_eq,<-A0];constructor
     ·intro e;cases e;exact fy _
     ·intro e;rw[mR _ _ e]
    rw[A0];clear A0;go_wp2;go_ret2;refine⟨⟨i,HP.out,?_⟩,HB.out⟩;rw[HQ.out];rfl
   ·(obtain rfl:i=ps.length:=by omega);have HN:Hid (K[ps.length]?=IH):=List.getElem?_eq_none (by rw[HR.out.len];exact Ks _);go_wp2;go_ret2;refine⟨⟨ps.length,HP.out,?_⟩,HB.out⟩;rw[HN.out];rfl
theorem jJ (b o:Nat)(es:Lo)(ps:List Nat)(K:List (List UInt8))(t:List UInt8)(w:Lq)(hc:w.cell? ⟨b,o+2,IH⟩=ID es)(h:Keys w es ps K)(hr:er K)(hl:ps.length<1000000) :
 Mb IR 91 #[J1 (ID ⟨b,o,IH⟩),IF ⟨t.toArray⟩] w λe w' =>
  (∃i:Nat,cR K t i/\e=Kx (Pi #[I3 K0 i,MT (K[i]?==ID t)]))/\Below w.heap.size w w':=by
 have HK:Hid (Keys w es ps K):=h;clear h;go_enter func91,ntmps91;go_wp2_with fail;refine(vI es ps K t _ HK.out hr hl).mono ?_;rintro e w2 ⟨⟨i,hi,rfl⟩,A0⟩;have HI:Hid (cR K t i):=hi;obtain⟨f,hf⟩:=IG ((K[i]?==ID t));have HF:Hid ((K[i]?==ID t)=f):=hf;rw[hf];clear hi hf;go_wp2;go_ret2;refine⟨⟨i,HI.out,?_⟩,A0⟩;rw[HF.out];rfl
theorem Ax (b o:Nat)(es:Lo)(ps:List Nat)(K:List (List UInt8))(t:List UInt8)(i p:Nat)(w:Lq)(hc:w.cell? ⟨b,o+2,IH⟩=ID es)(h:Keys w es ps K)(hr:er K)(hl:ps.length<1000000)
 (hi:cR K t i)(hf:K[i]?=ID t)(hp:ps[i]?=ID p)(hlt:b<w.heap.size) :
 Mb IR 65 #[J1 (ID ⟨b,o,IH⟩),IF ⟨t.toArray⟩] w λe w'=>e=Kx (J1 (ID ⟨p,0,IH⟩))/\Below w.heap.size w w':=by
 have HK:Hid (Keys w es ps K):=h;have HP:Hid (ps[i]?=ID p):=hp;clear h hp;go_enter func65,ntmps65;go_wp2_with fail;refine(jJ b o es ps K t _ hc HK.out hr hl).mono ?_;rintro e w2 ⟨⟨j,hj,rfl⟩,A0⟩;obtain rfl:=hj.uniq hi;rw[hf,show(ID t==ID t)=NX from by simp];have A3:j<ps.length:=(LN.1 HP.out).1;obtain⟨g,A6,p',k,e1,hn,A5,hg,A1,A2,c0,c1⟩:=(HK.out.below A0).at j A3;rw[HP.out] at A1;cases A1;have A4:=(A0.cell (p:=⟨b,o+2,IH⟩) hlt).trans hc;rw[e1] at A4;have HB:=IA A0;clear A0 hj hi hf A2 hr;go_wp2;go_ret;exact⟨rfl,HB.out⟩
theorem CX (b o:Nat)(es:Lo)(ps:List Nat)(K:List (List UInt8))(t:List UInt8)(i:Nat)(w:Lq)(hc:w.cell? ⟨b,o+2,IH⟩=ID es)(h:Keys w es ps K)(hr:er K)(hl:ps.length<1000000)
 (hi:cR K t i)(hf:K[i]?≠ID t) :
 Mb IR 65 #[J1 (ID ⟨b,o,IH⟩),IF ⟨t.toArray⟩] w λe w'=>∃p,e=Kx (J1 (ID ⟨p,0,IH⟩))/\w.heap.size<=p/\ay w' p ⟨t,0,[]⟩ (K2 IH 0 0)/\Below w.heap.size w w':=by
 have HK:Hid (Keys w es ps K):=h;clear h;go_enter func65,ntmps65;go_wp2_with fail;refine(jJ b o es ps K t _ hc HK.out hr hl).mono ?_;rintro e w2 ⟨⟨j,hj,rfl⟩,A0⟩;obtain rfl:=hj.uniq hi;rw[show(K[j]?==ID t)=LR from beq_eq_false_iff_ne.2 hf];have HB:=IA A0;clear A0 hj hi hf hr;go_wp2;go_ret;exact⟨w2.heap.size,rfl,HB.out.size,⟨LL _ _,⟨rfl,LS ⟨rfl,rfl⟩⟩⟩,HB.out.alloc HB.out.size _⟩
def ao (key:List UInt8):Nat:=key.foldl (λh c=>(h*31+c.toNat)%4294967296) 0
theorem AW (key:List UInt8):ao key<4294967296:=by
 unfold ao;rw[<-List.reverse_reverse key,List.foldl_reverse];cases key.reverse with
 | nil=>simp
 | cons a l=>exact PP _ (by omega)
theorem wq (l:List UInt8)(c:UInt8):ao (l++[c])=(ao l*31+c.toNat)%4294967296:=by simp[ao]
theorem gC (s n cap:Nat)(a:Option Addr)(key:List UInt8)(w:Lq)(hc:w.cell? ⟨s,6,IH⟩=ID (K2 a n cap))(hn:1<=n)(Vq:n<=8)(hk:key.length<1000000) :
 Mb IR 96 #[J1 (ID ⟨s,0,IH⟩),IF ⟨key.toArray⟩] w λe w'=>e=Kx (I3 K0 ((ao key%n:Nat):Int))/\w'=w:=by
 obtain⟨S,hS⟩:∃S:ByteArray,S=⟨key.toArray⟩:=⟨_,rfl⟩;have hd:S.data.toList=key:=by rw[hS]
 have A2:S.size=key.length:=by rw[L4,hd]
 rw[<-hS,<-hd];have A4:S.size<1000000:=by omega
 clear hS A2 hd hk;go_enter func96,ntmps96;go_wp2;go_loop [5,9] (λhh i=>∃k:Nat,k<=S.size/\i=I3 K0 k/\hh=I3 .u32 ((ao (S.data.toList.take k):Nat):Int)) (λ_ i=>S.size-(intOf i).toNat);case atStart=>exact⟨0,by omega,rfl,rfl⟩
 case round =>
  obtain⟨k,hk,rfl,rfl⟩:=hrel;have A0:=AW (S.data.toList.take k);by_cases hin:k<S.size
  ·have A1:=cV S k hin;(have HS:Hid (ao (S.data.toList.take (k+1))=(ao (S.data.toList.take k)*31+(S[k]).toNat)%4294967296):=by show _=_;rw[A1,wq]);obtain⟨F,hF⟩:=IG (ao (S.data.toList.take k));rw[hF] at A0 HS ⊢;have A3:(S[k]).toNat<256:=(S[k]).toNat_lt;clear A1 hF;go_wp2;refine⟨⟨k+1,by omega,by go_num,?_⟩,by simp[intOf];omega⟩;rw[HS.out];congr 1;omega
  ·(obtain rfl:k=S.size:=by omega);rw[Mz (by rw[L4];exact Ks _)] at A0 ⊢;obtain⟨F,hF⟩:=IG (ao S.data.toList);rw[hF] at A0 ⊢;have hm:F%n<n:=PP _ (by omega);(have HW:Hid (wrap64 ((F:Int)%(n:Int))=((F%n:Nat):Int)):=by show _=_;rw[<-Int.natCast_emod];simp only[wrap64];omega);have HF:Hid (ao S.data.toList=F):=hF;clear hF;go_wp2;go_ret;refine⟨?_,rfl⟩;rw[HF.out];rfl
theorem ie (s g n cap:Nat)(key:List UInt8)(w:Lq)(hc:w.cell? ⟨s,6,IH⟩=ID (K2 (ID ⟨g,0,IH⟩) n cap))(hn:1<=n)(Vq:n<=8)(hk:key.length<1000000) :
 Mb IR 64 #[J1 (ID ⟨s,0,IH⟩),IF ⟨key.toArray⟩] w λe w'=>e=Kx (J1 (ID ⟨g,ao key%n*3,IH⟩))/\Below w.heap.size w w':=by
 have hm:ao key%n<n:=PP _ (by omega);go_enter func64,ntmps64;go_wp2_with fail;obtain⟨m,A0⟩:=IG (ao key%n);have A1:w.drew.cell? ⟨s,6,IH⟩=ID (K2 (ID ⟨g,0,IH⟩) n cap):=hc;rw[A0] at hm;go_region_with (go_at_call 96;refine(gC s n cap (ID ⟨g,0,IH⟩) key _ A1 hn Vq hk).mono ?_;rintro e w' ⟨rfl,hw⟩;rw[hw,A0]);all_goals go_wp2
 all_goals go_ret
 all_goals(rw[A0];exact⟨rfl,(Below.refl _ _).drew⟩)
structure Lst (w:Lq)(v:Lo)(qs:List Nat):Prop where
 is:∃(a:Option Addr) (c:Nat),v=K2 a qs.length c/\qs.length<=c/\c<=N4 /\
  ∀(j q:Nat),qs[j]?=ID q->∃g o:Nat,a=ID ⟨g,o,IH⟩/\(∃cs f,w.heap[g]?=ID (J0 cs 143 f))/\w.cell? ⟨g,o+j,IH⟩=ID (J1 (ID ⟨q,0,IH⟩))
structure Cl (K:List (List UInt8))(t:List UInt8)(i:Nat):Prop where
 le:i<=K.length
 lo:∀(j:Nat) (a:List UInt8),j<i->K[j]?=ID a->cK a t<=0
 hi:∀(j:Nat) (a:List UInt8),i<=j->K[j]?=ID a->cK a t=1
def hd (qs:List Nat):Nat:=qs.headD 0
open Go.RowKit Go.Shelf
attribute [local go_sem] Oper.semAt_some
open Go.RowKit Go.Shelf
attribute [local go_sem] Oper.semAt_some
abbrev En (A:List (List Nat)):={ q:Nat // q∈A.flatten }
def aM {A:List (List Nat)}(l:List (En A)):List Nat:=l.map (·.1)
open Go.RowKit Go.Shelf
attribute [local go_sem] Oper.semAt_some
abbrev V:={ v:IZ // v.num<1000000000000000/\v.time<1000000000000000/\v.body.length<1000000 }
instance:Inhabited V:=⟨⟨⟨0,0,LR,[]⟩,by simp⟩⟩
open Go.RowKit Go.Shelf
attribute [local go_sem] Oper.semAt_some
theorem aK {P:Program}{fn:Func}{p:Tmp}{ty:Rg}(h:fn.results=#[.cell p ty])(tmps:Array Lo)(w:Lq)(g:Nat)(t:Rg)(cs:Array Lo)(fr:Nat×Nat)(d:TypeDesc)
 (hp:tmps.getD p undef=J1 (ID ⟨g,0,IH⟩))(hg:w.heap[g]?=ID (J0 cs t fr))
 (hu:P.underlying ty=ID d)(hd:(match d with|.struct _|.array _ _=>NX|_=>LR)=NX)(hi:(P.info? ty).map (·.size)=ID cs.size) :
 (results fn tmps).run P w=.ok (.agg cs) w:=by
 have A0:tmps[p]?.getD undef=J1 (ID ⟨g,0,IH⟩):=by simpa using hp
 simp[results,h,A0,asAddr,run_loadVar_row w g t ty cs fr d hg hu hd hi]
theorem fb:(prog.info? 80).map (·.size)=ID 3:=by kernel_rfl
open Go.RowKit Go.Shelf
attribute [local go_sem] Oper.semAt_some
def ax (E:IP):Option IZ:=match E.IB.getLast? with
 | none=>IH
 | some v=>if v.mark then IH else ID v
theorem fW (p:Nat)(E:IP)(vs:Lo)(w:Lq)(h:ay w p E vs)(hl:E.IB.length<1000) :
 Mb IR 94 #[J1 (ID ⟨p,0,IH⟩)] w λe w'=>(∃v:IZ,e=Kx (Pi #[bq v,MT (ax E).isSome])/\(∀u,ax E=ID u->v=u))/\Below w.heap.size w w':=by
 cases hv:E.IB.getLast? with
 | none =>
   have h0:E.IB=[]:=List.getLast?_eq_none_iff.1 hv;refine(qD p E vs w h h0).mono ?_;rintro e w' ⟨rfl,hb⟩;refine⟨⟨⟨0,0,LR,[]⟩,?_,λu hu=>?_⟩,hb⟩
   ·simp[ax,hv];rfl
   ·simp[ax,hv] at hu
 | some v =>
   (have A1:E.IB≠[]:=by intro e;rw[e] at hv;simp at hv);have A2:0<E.IB.length:=List.length_pos_iff.2 A1;(have A0:E.IB[E.IB.length-1]?=ID v:=by rw[<-hv,List.getLast?_eq_getElem?]);refine(qF p E vs w h v (E.IB.length-1) (by omega) A0 (by omega)).mono ?_;rintro e w' ⟨rfl,hb⟩;refine⟨⟨v,?_,λu hu=>?_⟩,hb⟩
   ·cases hm:v.mark<;>simp[ax,hv,hm]
   ·cases hm:v.mark<;>simp[ax,hv,hm] at hu;exact hu
open Go.RowKit
def be (n:Nat):Nat->List UInt8
 | 0=>[]
 | k+1=>MY (n/256 ^ k%256)::be n k
theorem ib (n k:Nat):(be n k).length=k:=by
 induction k with
 | zero=>rfl
 | succ k ih=>simp[be,ih]
def qT (h:Nat)(c:UInt8):Nat:=(h ^^^ c.toNat)*16777619%4294967296
def mF (l:List UInt8):Nat:=l.foldl qT 2166136261
theorem Cg (l:List UInt8)(c:UInt8):mF (l++[c])=qT (mF l) c:=by
 unfold mF;rw[List.foldl_append,List.foldl_cons,List.foldl_nil]
theorem Dj (h:Nat)(c:UInt8):qT h c<4294967296:=by
 unfold qT;omega
theorem AK (l:List UInt8):mF l<4294967296:=by
 suffices h:∀(l:List UInt8) (x:Nat),x<4294967296->l.foldl qT x<4294967296 from h l _ (by omega)
 intro l;induction l with
 | nil=>exact λx hx=>hx
 | cons c l ih=>exact λx _=>ih _ (Dj x c)
theorem CO (H:Nat)(c:UInt8)(hH:H<4294967296):bits .xor .u32 (H:Int) ((c.toNat:Int)%4294967296)*16777619%4294967296=((qT H c:Nat):Int):=by
 have hc:=c.toNat_lt;rw[show(c.toNat:Int)%4294967296=(c.toNat:Int) by omega,u32_xor_nat H c.toNat hH (by omega)];unfold qT;omega
def Lc (l:List UInt8):List Lo:=l.map λc=>I3 Rd (c.toNat:Int)
theorem x9 (a b:List UInt8):Lc (a++b)=Lc a++Lc b:=by simp[Lc]
theorem yv (l:List UInt8)(w:Lq)(hs:l.length<4611686018427387904) :
 Mb IR 126 #[IF ⟨l.toArray⟩] w λe w'=>e=Kx (I3 .u32 ((mF l:Nat):Int))/\w'=w:=by
 obtain⟨s,hS⟩:∃S:ByteArray,S=⟨l.toArray⟩:=⟨_,rfl⟩;have hd:s.data.toList=l:=by rw[hS]
 have A3:s.size=l.length:=by rw[hS];exact List.size_toArray
 rw[<-hS,<-hd];have A4:s.size<4611686018427387904:=by omega
 clear hS A3 hd hs;go_enter func126,ntmps126;go_wp2;go_loop [3,7] (λhh i=>∃k:Nat,k<=s.size/\i=I3 K0 k/\hh=I3 .u32 ((mF (s.data.toList.take k):Nat):Int)) (λ_ i=>s.size-(intOf i).toNat);case atStart=>exact⟨0,Nat.zero_le _,rfl,rfl⟩
 case round =>
  obtain⟨k,hk,rfl,rfl⟩:=hrel;by_cases hlt:k<s.size
  ·have A0:=AK (s.data.toList.take k);(have HX:Hid (mF (s.data.toList.take (k+1))=qT (mF (s.data.toList.take k)) s[k]):=by show _=_;rw[cV s k hlt,Cg]);obtain⟨F,hF⟩:=IG (mF (s.data.toList.take k));rw[hF] at A0 HX ⊢;have A1:=CO F s[k] A0;obtain⟨F2,A2⟩:=IG (qT F s[k]);rw[A2] at HX A1;have HS:=IA A1;clear A1;go_wp2;exact⟨⟨k+1,by omega,by go_num,by rw[HS.out,HX.out]⟩,by simp[intOf];omega⟩
  ·(obtain rfl:k=s.size:=by omega);rw[Mz (by rw[L4];exact Ks _)];go_wp2;go_ret;exact⟨rfl,rfl⟩
theorem qJ:(prog.info? 5).map (λi=>(i.zero,i.size,i.bytes))=ID (ID (I3 Rd 0),1,1):=by kernel_rfl
def I4 (w:Lq)(base:Nat)(v:Lo)(l:List UInt8):Prop:=w.ownsRow base 5 1 v l.length (Lc l)
theorem I4.nil (w:Lq)(base:Nat):I4 w base (K2 IH 0 0) []:=World.ownsRow_nil w base _ 1
theorem I4.below {x:Lq}{l:List UInt8}(h:I4 w base v l)(hb:Below w.heap.size w x):I4 x base v l:=by
 refine⟨h.1,?_⟩;rcases h.2 with h0|⟨g,A1,A0,hv,h1,hg,h2⟩
 ·exact LS h0
 ·exact LI ⟨g,A1,A0,hv,h1,(hb.block g (gL hg)).trans hg,h2⟩
theorem byte_at (n k:Nat):(n:Int)/2 ^ (8*k)%256=(((MY (n/256 ^ k%256)).toNat:Nat):Int):=by
 rw[show(2:Int) ^ (8*k)=((256 ^ k:Nat):Int) by rw[Int.natCast_pow,Int.pow_mul];rfl];simp only[UInt8.toNat_ofNat',Nat.reducePow,Nat.mod_mod];omega
theorem bS (v:Lo)(l:List UInt8)(base n size:Nat)(w:Lq)(hv:I4 w base v l)(hb:base<=w.heap.size)(hs:size<=8)(hl:l.length<1000000) :
 Mb IR 214 #[v,I3 .u64 (n:Int),I3 K0 (size:Int)] w λe w'=>∃v',e=Kx v'/\I4 w' base v' (l++be n size)/\Below base w w':=by
 obtain⟨i0,Ac,A3,A7,Aa⟩:=N3 qJ;have HV:=IA hv;clear hv;go_enter func214,ntmps214;go_wp2;go_loopw [0,7] (λx p wx=>∃(k:Nat) (A0:List UInt8),k+A0.length=size/\p=I3 K0 ((k:Int)-1)/\Hid (A0++be n k=be n size)/\Hid (I4 wx base x (l++A0))/\Hid (Below base w wx)) (λ_ p _=>(intOf p+1).toNat);case atStart=>exact⟨size,[],by simp,rfl,rfl,by show I4 _ _ _ _;rw[PF];exact HV.out,Below.refl _ _⟩
 case round =>
  obtain⟨k,A0,hk,rfl,HD,HB,HW⟩:=hrel;cases k with
  | zero =>go_wp2;go_ret;refine⟨_,rfl,?_,HW.out⟩;have h0:=HD.out;simp only[be,PF] at h0;rw[<-h0];exact HB.out
  | succ k =>
    (have Af:k<8:=by omega);(have Ab:(((k+1:Nat):Int)-1)=(k:Int):=by omega);rw[Ab];have A5:=IA (byte_at n k);(have A6:(0:Int)<=(k:Int):=by omega);(have A8:(l++A0).length<1000008:=by rw[Mp];omega);have Ae:base<=wr.heap.size:=On hb HW.out.size;go_wp2_with (at_builtin;refine wpList_append_lies _ rfl (.tmp 14) (.tmp 20) 95 rfl base 5 i0 (I3 Rd 0) 1 1 LO Ac A3 A7 Aa rfl (by omega) u0 (l++A0).length (Lc (l++A0)) rfl (World.ownsRow.alloc HB.out _) ⟨wr.heap.size,0,IH⟩ 1 1 [I3 Rd ((n:Int)/2 ^ (8*k)%256)] rfl rfl (World.news_of_block (cs:=#[I3 Rd ((n:Int)/2 ^ (8*k)%256)]) (t:=5) (fr:=(0,0)) (LL wr _)) (by intro u hu;simp at hu;subst hu;rfl) (by omega) (by unfold N4;omega) (by omega) (by simp;omega) _ rfl ?_;intro g2 A9 w3 A1 A2 A4 Ad);refine⟨⟨k,A0++[MY (n/256 ^ k%256)],by simp;omega,rfl,?_,?_,?_⟩,by simp[intOf]⟩
    ·have h0:=HD.out;show _=_;rw[<-h0,Ok];rfl
    ·show I4 _ _ _ _;(have e:Lc (l++A0)++[I3 Rd ((n:Int)/2 ^ (8*k)%256)]=Lc (l++(A0++[MY (n/256 ^ k%256)])):=by rw[A5.out];simp[Lc]);rw[e] at A1;(have e2:(l++A0).length+1=(l++(A0++[MY (n/256 ^ k%256)])).length:=by simp;omega);unfold I4;rw[<-e2];rw[Mp] at A1 ⊢;exact A1
    ·exact((HW.out.alloc (On hb HW.out.size) _).grown A2 (by simp;omega) (λr hr=>(HB.out.lt r hr).1))
def vP (k t:Nat)(key:List UInt8)(n:Nat)(body:List UInt8):List UInt8:=be k 1++(be t 8++(be key.length 1++(key++(be n 4++body))))
def bG (k t:Nat)(key:List UInt8)(n:Nat)(body:List UInt8):List UInt8 :=
 be (vP k t key n body).length 2++(vP k t key n body++be (mF (vP k t key n body)) 4)
theorem uo (k t:Nat)(key:List UInt8)(n:Nat)(body:List UInt8):(vP k t key n body).length=14+key.length+body.length:=by
 simp[vP,ib];omega
theorem eW (k t:Nat)(key:List UInt8)(n:Nat)(body:List UInt8):(bG k t key n body).length=20+key.length+body.length:=by
 simp only[bG,Mp,ib,uo];omega
structure Pl (w x:Lq)(cs:Array Lo)(v:Lo)(l:List UInt8):Prop where
 lo:Below (w.heap.size+1) (w.alloc (J0 cs 108)) x
 own:I4 x (w.heap.size+1) v l
theorem Pl.size {x:Lq}{l:List UInt8}(h:Pl w x cs v l):w.heap.size+1<=x.heap.size:=by
 have:=h.lo.size;simpa using this
theorem Pl.blk {x:Lq}{l:List UInt8}(h:Pl w x cs v l):x.heap[w.heap.size]?=ID (J0 cs 108 (0,0)) :=
 (h.lo.block w.heap.size (by omega)).trans (LL _ _)
theorem Pl.low {x:Lq}{l:List UInt8}(h:Pl w x cs v l):Below w.heap.size w x :=
 ((Below.refl _ _).alloc (Ks _) _).trans (h.lo.mono (by omega))
theorem Pl.next {x:Lq}{l l':List UInt8}(h:Pl w x cs v l)(hb:Below (w.heap.size+1) x y)(hy:I4 y (w.heap.size+1) v' l'):Pl w y cs v' l':=⟨h.lo.trans hb,hy⟩
theorem kN (l:List UInt8):ON ⟨l.toArray⟩=Lc l:=by simp[ON,Lc]
theorem Pl.app {x:Lq}{l s:List UInt8}(h:Pl w x cs v l)(hr:y.ownsRow (w.heap.size+1) 5 1 v' (l.length+(⟨s.toArray⟩:ByteArray).size) (Lc l++ON ⟨s.toArray⟩))(hg:x.grownBy y v.ownBlock):Pl w y cs v' (l++s):=by
 refine⟨h.lo.grown hg h.size (λr hr=>(h.own.lt r hr).1),?_⟩;rw[L4,kN,<-x9] at hr;unfold I4;rw[Mp];exact hr
theorem I4.conv {l:List UInt8}(h:I4 w base v l):(convert 95 9 v).run IR w=.ok (IF ⟨l.toArray⟩) w:=by
 rcases h.2 with⟨rfl,h0⟩|⟨g,A0,A2,rfl,_,hg,hn,hm,hs,A1⟩
 ·rw[List.length_eq_zero_iff.1 h0];exact run_convert_bytes_nil w 95 5 LO Pu 0 0 9 L5
 ·have hx:=run_convert_bytes_arg (P:=IR) w 95 5 LO Pu g 0 l.length A0 (l.map λc=>(c.toNat:Int)) (by simp) (λi hi=>by
   (have h1:(Lc l)[i]?=ID (I3 Rd ((l[i]).toNat:Int)):=by simp[Lc,hi]);rw[<-A1,Lz (by omega)] at h1;simp only[K1,hg,Nat.zero_add]
   simpa [List.getD,hi] using h1) 9 L5
  (have e:strOfNums (l.map λc=>(c.toNat:Int))=⟨l.toArray⟩:=by apply ByteArray.ext;apply Array.ext';rw[strOfNums_data,List.map_map];(have h1:((λn:Int=>MY n.toNat) ∘ λc:UInt8=>(c.toNat:Int))=id:=by funext c;simp);rw[h1,List.map_id]);rw[hx,e]
theorem uL (k t n:Nat)(key body:List UInt8)(w:Lq)(hk:k<256)(ht:t<9223372036854775807)(hn:n<9223372036854775807)(hkl:key.length<100000)(hbl:body.length<100000) :
 Mb IR 213 #[.agg #[I3 Rd k,I3 K0 t,IF ⟨key.toArray⟩,I3 K0 n,IF ⟨body.toArray⟩]] w λe w'=>e=Kx (IF ⟨(vP k t key n body).toArray⟩)/\Below w.heap.size w w':=by
 obtain⟨i0,A8,A0,A1,A3⟩:=N3 qJ;go_enter func213,ntmps213;have P0:Pl w (w.alloc (J0 #[I3 Rd k,I3 K0 t,IF ⟨key.toArray⟩,I3 K0 n,IF ⟨body.toArray⟩] 108)) #[I3 Rd k,I3 K0 t,IF ⟨key.toArray⟩,I3 K0 n,IF ⟨body.toArray⟩] (K2 IH 0 0) []:=⟨Below.refl _ _,I4.nil _ _⟩;go_wp2_with fail;refine(bS _ [] (w.heap.size+1) k 1 _ P0.own (by simp) (by omega) (by simp)).mono ?_;rintro e x1 ⟨v1,rfl,y1,b1⟩;have P1:=P0.next b1 y1;have A6:=P1.blk;have c1:x1.cell? ⟨w.heap.size,1,IH⟩=ID (I3 K0 t):=by simp[K1,A6]
 have H1:=IA P1;clear P0 P1 A6 y1 b1;go_wp2_with fail;refine(bS _ _ (w.heap.size+1) t 8 _ H1.out.own H1.out.size (by omega) (by simp[ib])).mono ?_;rintro e x2 ⟨v2,rfl,y2,b2⟩;have P2:=H1.out.next b2 y2;have A4:=P2.blk;have c2:x2.cell? ⟨w.heap.size,2,IH⟩=ID (IF ⟨key.toArray⟩):=by simp[K1,A4]
 have H2:=IA P2;clear P2 A4 y2 b2 c1;go_wp2_with fail;refine(bS _ _ (w.heap.size+1) key.length 1 _ H2.out.own H2.out.size (by omega) (by simp[ib])).mono ?_;rintro e x3 ⟨v3,rfl,y3,b3⟩;have P3:=H2.out.next b3 y3;have A7:=P3.blk;have c3:x3.cell? ⟨w.heap.size,2,IH⟩=ID (IF ⟨key.toArray⟩):=by simp[K1,A7]
 have H3:=IA P3;clear P3 A7 y3 b3 c2;have Ab:([]++be k 1++be t 8++be key.length 1:List UInt8).length<300000:=by simp[ib]
 have A9:(⟨key.toArray⟩:ByteArray).size<100000:=by rw[L4];exact hkl
 go_wp2_with (at_builtin;refine L2 _ rfl (.tmp 19) (.tmp 21) 95 9 rfl (w.heap.size+1) 5 i0 LO L5 A8 A0 A1 A3 _ _ _ rfl H3.out.own _ rfl (by unfold N4;omega) (by omega) H3.out.size ?_;intro v4 x4 y4 g4 _;have P4:=H3.out.app (s:=key) y4 g4;have A5:=P4.blk;have c4:x4.cell? ⟨w.heap.size,3,IH⟩=ID (I3 K0 n):=(by simp[K1,A5]);have H4:Hid _:=P4;clear P4 A5 y4 g4);refine(bS _ _ (w.heap.size+1) n 4 _ H4.out.own H4.out.size (by omega) (by simp[ib];omega)).mono ?_;rintro e x5 ⟨v5,rfl,y5,b5⟩;have P5:=H4.out.next b5 y5;have A2:=P5.blk;have c5:x5.cell? ⟨w.heap.size,4,IH⟩=ID (IF ⟨body.toArray⟩):=by simp[K1,A2]
 have H5:=IA P5;clear P5 A2 y5 b5 c4;have Ac:([]++be k 1++be t 8++be key.length 1++key++be n 4:List UInt8).length<300000:=by simp[ib];omega
 have Aa:(⟨body.toArray⟩:ByteArray).size<100000:=by rw[L4];exact hbl
 go_wp2_with (at_builtin;refine L2 _ rfl (.tmp 28) (.tmp 30) 95 9 rfl (w.heap.size+1) 5 i0 LO L5 A8 A0 A1 A3 _ _ _ rfl H5.out.own _ rfl (by unfold N4;omega) (by omega) H5.out.size ?_;intro v6 x6 y6 g6 _;have P6:=H5.out.app (s:=body) y6 g6;have H6:Hid _:=P6;have cv:=P6.own.conv;clear P6 y6 g6);go_ret;exact⟨rfl,H6.out.low⟩
theorem sO (k t n:Nat)(key body:List UInt8)(w:Lq)(hk:k<256)(ht:t<9223372036854775807)(hn:n<9223372036854775807)(hkl:key.length<100000)(hbl:body.length<100000) :
 Mb IR 173 #[.agg #[I3 Rd k,I3 K0 t,IF ⟨key.toArray⟩,I3 K0 n,IF ⟨body.toArray⟩]] w λe w'=>e=Kx (IF ⟨(bG k t key n body).toArray⟩)/\Below w.heap.size w w':=by
 obtain⟨i0,A5,A1,A2,A3⟩:=N3 qJ;go_enter func173,ntmps173;have P0:Pl w (w.alloc (J0 #[I3 Rd k,I3 K0 t,IF ⟨key.toArray⟩,I3 K0 n,IF ⟨body.toArray⟩] 108)) #[I3 Rd k,I3 K0 t,IF ⟨key.toArray⟩,I3 K0 n,IF ⟨body.toArray⟩] (K2 IH 0 0) []:=⟨Below.refl _ _,I4.nil _ _⟩;go_wp2_with fail;refine(uL k t n key body _ hk ht hn hkl hbl).mono ?_;rintro e x1 ⟨rfl,b1⟩;have A0:=uo k t key n body;obtain⟨p,hp⟩:=IG (vP k t key n body);have P1:=P0.next (b1.mono (by simp)) (I4.nil x1 _);have HR:Hid (bG k t key n body=be p.length 2++(p++be (mF p) 4)):=by show _=_;rw[<-hp];rfl
 rw[hp] at A0 ⊢;have A4:p.length<300000:=by omega
 have H1:=IA P1;clear P0 P1 b1 hp A0;go_wp2_with fail;refine(bS _ _ (w.heap.size+1) p.length 2 _ H1.out.own H1.out.size (by omega) (by simp)).mono ?_;rintro e x2 ⟨v2,rfl,y2,b2⟩;have P2:=H1.out.next b2 y2;have H2:=IA P2;clear P2 y2 b2;have A7:([]++be p.length 2:List UInt8).length<300000:=by simp[ib]
 have A6:(⟨p.toArray⟩:ByteArray).size<300000:=by rw[L4];exact A4
 go_wp2_with (at_builtin;refine L2 _ rfl (.tmp 11) (.tmp 12) 95 9 rfl (w.heap.size+1) 5 i0 LO L5 A5 A1 A2 A3 _ _ _ rfl H2.out.own _ rfl (by unfold N4;omega) (by omega) H2.out.size ?_;intro v3 x3 y3 g3 _;have P3:=H2.out.app (s:=p) y3 g3;have H3:Hid _:=P3;clear P3 y3 g3);refine(yv p _ (by omega)).mono ?_;rintro e x4 ⟨rfl,rfl⟩;have hc:=AK p;obtain⟨C,hC⟩:=IG (mF p);rw[hC] at hc HR ⊢;clear hC;go_wp2_with fail;refine(bS _ _ (w.heap.size+1) C 4 _ H3.out.own H3.out.size (by omega) (by simp[ib];omega)).mono ?_;rintro e x5 ⟨v5,rfl,y5,b5⟩;have cv:=y5.conv;have P5:=H3.out.next b5 y5;have H5:=IA P5;clear P5 y5 b5;go_wp2;go_ret;refine⟨?_,H5.out.low⟩;rw[HR.out];rfl
def aX (E:IP)(k n:Nat):Nat :=
 if k=3 then(if(eu E.IB n).isSome then 0 else 404)
 else if k=2/\(ax E).isSome=LR then 404
 else if 20<=E.IB.length then 507 else 0
def bN (E:IP)(k:Nat):Nat:=if k=1 then(if(ax E).isSome then 200 else 201) else 204
abbrev ev (k t:Nat) (key:List UInt8) (n:Nat) (body:List UInt8):Lo:=.agg #[I3 Rd k,I3 K0 t,IF ⟨key.toArray⟩,I3 K0 n,IF ⟨body.toArray⟩]
theorem uu (p:Nat)(E:IP)(vs:Lo)(w:Lq)(h:ay w p E vs)(hl:E.last<4611686018427387904) :
 Mb IR 106 #[J1 (ID ⟨p,0,IH⟩)] w λe w'=>e=Kx (I3 K0 ((E.last+1:Nat):Int))/\w'=w:=by
 have h2:=h.c1;go_enter func106,ntmps106;go_wp2;go_ret;exact⟨rfl,rfl⟩
theorem eU (p:Nat)(E:IP)(vs:Lo)(k:Nat)(w:Lq)(h:ay w p E vs)(hl:E.IB.length<1000) :
 Mb IR 151 #[J1 (ID ⟨p,0,IH⟩),I3 Rd (k:Int)] w λe w'=>e=Kx (I3 K0 (bN E k:Nat))/\Below w.heap.size w w':=by
 have HE:=IA h;clear h;by_cases hk:k=1
 ·subst hk;cases hc:(ax E).isSome with
  | false =>go_enter func151,ntmps151;go_wp2_with fail;refine(fW p E vs _ HE.out hl).mono ?_;rintro e w1 ⟨⟨v,rfl,_⟩,A0⟩;rw[hc];unfold bq;go_wp2;go_ret;exact⟨by simp[bN,hc],A0.alloc A0.size _⟩
  | true =>go_enter func151,ntmps151;go_wp2_with fail;refine(fW p E vs _ HE.out hl).mono ?_;rintro e w1 ⟨⟨v,rfl,_⟩,A0⟩;rw[hc];unfold bq;go_wp2;go_ret;exact⟨by simp[bN,hc],A0.alloc A0.size _⟩
 ·have A1:((k:Int)==1)=LR:=beq_eq_false_iff_ne.2 (by omega);go_enter func151,ntmps151;go_wp2;go_ret;exact⟨by simp[bN,hk],Below.refl _ _⟩
theorem cE (p:Nat)(E:IP)(vs:Lo)(k t n:Nat)(key body:List UInt8)(w:Lq)(h:ay w p E vs)(hl:E.IB.length<1000) :
 Mb IR 149 #[J1 (ID ⟨p,0,IH⟩),ev k t key n body] w λe w'=>e=Kx (I3 K0 (aX E k n:Nat))/\Below w.heap.size w w':=by
 have A6:Below w.heap.size w (w.alloc (J0 #[I3 Rd k,I3 K0 t,IF ⟨key.toArray⟩,I3 K0 n,IF ⟨body.toArray⟩] 108)):=(Below.refl _ _).alloc (Ks _) _;have HE:=IA (h.below A6);have HA:=IA A6;clear h A6;by_cases hk:k=3
 ·subst hk;go_enter func149,ntmps149;go_wp2_with fail;refine(jw p E vs n _ HE.out (by omega)).mono ?_;rintro e w1 ⟨rfl,A0⟩;have HB:Hid (Below w.heap.size w w1):=HA.out.trans (A0.mono (by simp));clear A0;cases hv:eu E.IB n with
  | none =>rw[kh hv];go_wp2;go_ret;exact⟨by simp[aX,hv],HB.out⟩
  | some i =>rw[il hv];(have A9:((i:Int)<0)=False:=by simp);go_wp2;go_ret;exact⟨by simp[aX,hv],HB.out⟩
 ·have Aa:((k:Int)==3)=LR:=beq_eq_false_iff_ne.2 (by omega);go_enter func149,ntmps149;go_wp2_with fail;refine(fW p E vs _ HE.out hl).mono ?_;rintro e w1 ⟨⟨v,rfl,_⟩,A0⟩;have A5:w1.heap[w.heap.size]?=ID (J0 #[I3 Rd k,I3 K0 t,IF ⟨key.toArray⟩,I3 K0 n,IF ⟨body.toArray⟩] 108 (0,0)):=(A0.block _ (by simp)).trans (LL _ _);(have r0:w1.cell? ⟨w.heap.size,0,IH⟩=ID (I3 Rd k):=by simp[K1,A5]);have A3:=HE.out.below A0;have A7:=A3.lt;have A8:w.heap.size<w1.heap.size:=(gL A5);have HB:Hid (Below w.heap.size w w1):=HA.out.trans (A0.mono (by simp));have A2:=IA (A3.below ((Below.refl _ _).alloc (Ks _) (J0 #[I3 K0 v.num,I3 K0 v.time,MT v.mark,IF ⟨v.body.toArray⟩] 147)));clear A0 A5 A3;unfold bq;obtain⟨c,hc⟩:=IG ((ax E).isSome);rw[hc];have HC:=IA hc;clear hc;by_cases hf:20<=E.IB.length
  ·(have A1:decide (20<=(E.IB.length:Int))=NX:=by simp;omega);by_cases hk2:k=2
   ·subst hk2;cases c with
    | false =>go_wp2;go_ret;exact⟨by simp[aX,HC.out],HB.out.alloc HB.out.size _⟩
    | true =>go_wp2_with fail;refine(gT p E vs _ A2.out).mono ?_;rintro e w2 ⟨rfl,rfl⟩;rw[A1];go_wp2;go_ret;exact⟨by simp[aX,HC.out,hf],HB.out.alloc HB.out.size _⟩
   ·have A4:((k:Int)==2)=LR:=beq_eq_false_iff_ne.2 (by omega);go_wp2_with fail;refine(gT p E vs _ A2.out).mono ?_;rintro e w2 ⟨rfl,rfl⟩;rw[A1];go_wp2;go_ret;exact⟨by simp[aX,hk,hk2,hf],HB.out.alloc HB.out.size _⟩
  ·(have A1:decide (20<=(E.IB.length:Int))=LR:=by simp;omega);by_cases hk2:k=2
   ·subst hk2;cases c with
    | false =>go_wp2;go_ret;exact⟨by simp[aX,HC.out],HB.out.alloc HB.out.size _⟩
    | true =>go_wp2_with fail;refine(gT p E vs _ A2.out).mono ?_;rintro e w2 ⟨rfl,rfl⟩;rw[A1];go_wp2;go_ret;exact⟨by simp[aX,HC.out,hf],HB.out.alloc HB.out.size _⟩
   ·have A4:((k:Int)==2)=LR:=beq_eq_false_iff_ne.2 (by omega);go_wp2_with fail;refine(gT p E vs _ A2.out).mono ?_;rintro e w2 ⟨rfl,rfl⟩;rw[A1];go_wp2;go_ret;exact⟨by simp[aX,hk,hk2,hf],HB.out.alloc HB.out.size _⟩
def numOf (E:IP)(n:Nat):Option IZ:=match E.IB.find? (λv=>v.num==n) with
 | none=>IH
 | some v=>if v.mark then IH else ID v
def dA (E:IP)(t:Jg):Option IZ:=if t.kind=2 then numOf E t.num else ax E
theorem ys (l:List IZ)(n:Nat):(match eu l n with|some i=>l[i]?|none=>IH)=l.find? (λv=>v.num==n):=by
 induction l with
 | nil=>rfl
 | cons a l ih =>
   unfold eu at ih ⊢;rw[List.findIdx?_cons,List.find?_cons];by_cases h:a.num=n
   ·simp[h]
   ·have h1:((a.num:Int)==(n:Int))=LR:=beq_eq_false_iff_ne.2 (by omega);have h2:(a.num==n)=LR:=beq_eq_false_iff_ne.2 h;rw[h1,h2,if_neg (by simp)];rw[<-ih];cases List.findIdx? (λv:IZ=>(v.num:Int)==(n:Int)) l<;>rfl
theorem qv (p:Nat)(E:IP)(vs:Lo)(n:Nat)(w:Lq)(h:ay w p E vs)(hl:E.IB.length<1000) :
 Mb IR 99 #[J1 (ID ⟨p,0,IH⟩),I3 K0 n] w λe w'=>(∃v:IZ,e=Kx (Pi #[bq v,MT (numOf E n).isSome])/\(∀u,numOf E n=ID u->v=u))/\Below w.heap.size w w':=by
 have hf:=ys E.IB n;cases hv:eu E.IB n with
 | none =>
   rw[hv] at hf;refine(pC p E vs n w h (by omega) hv).mono ?_;rintro e w' ⟨rfl,hb⟩;refine⟨⟨⟨0,0,LR,[]⟩,?_,λu hu=>?_⟩,hb⟩
   ·simp only[numOf,<-hf];rfl
   ·simp[numOf,<-hf] at hu
 | some i =>
   obtain⟨v,A0,_⟩:=ku hv;rw[hv] at hf;simp only[A0] at hf;refine(pq p E vs n w h (by omega) i v hv A0).mono ?_;rintro e w' ⟨rfl,hb⟩;refine⟨⟨v,?_,λu hu=>?_⟩,hb⟩
   ·cases hm:v.mark<;>simp[numOf,<-hf,hm]
   ·cases hm:v.mark<;>simp[numOf,<-hf,hm] at hu;exact hu
theorem yf (p:Nat)(E:IP)(vs:Lo)(t:Jg)(w:Lq)(h:ay w p E vs)(hl:E.IB.length<1000) :
 Mb IR 67 #[J1 (ID ⟨p,0,IH⟩),QN t] w λe w'=>(∃v:IZ,e=Kx (Pi #[bq v,MT (dA E t).isSome])/\(∀u,dA E t=ID u->v=u))/\Below w.heap.size w w':=by
 have HE:=IA h;clear h;unfold QN;by_cases hk:t.kind=2
 ·(have A4:((t.kind:Int)==2)=NX:=by rw[hk];rfl);(have ha:dA E t=numOf E t.num:=by simp[dA,hk]);rw[ha];clear ha;go_enter func67,ntmps67;go_wp2_with fail;have A2:Below w.heap.size w ((w.alloc (J0 #[I3 K0 2,IF ⟨t.key.toArray⟩,I3 K0 (t.num:Int)] 68)).alloc (J0 #[I3 K0 0,I3 K0 0,MT LR,IF ⟨#[]⟩] 147)):=((Below.refl _ _).alloc (Ks _) _).alloc (by simp) _;refine(qv p E vs t.num _ (HE.out.below A2) hl).mono ?_;rintro e w1 ⟨⟨v,rfl,hv⟩,A1⟩;(have hz:w1.heap[w.heap.size+1]?=ID (J0 #[I3 K0 0,I3 K0 0,MT LR,IF ⟨#[]⟩] 147 (0,0)):=by refine(A1.block _ (by simp)).trans ?_;have:=LL (w.alloc (J0 #[I3 K0 2,IF ⟨t.key.toArray⟩,I3 K0 (t.num:Int)] 68)) (J0 #[I3 K0 0,I3 K0 0,MT LR,IF ⟨#[]⟩] 147);simpa using this);have HB:Hid (Below w.heap.size w w1):=A2.trans (A1.mono (by simp;omega));have HV:=IA hv;have HZ:=IA hz;obtain⟨cc,A0⟩:=IG ((numOf E t.num).isSome);have A3:=IA A0;rw[A0];clear A1 A2 hv hz A0;unfold bq;go_wp2_with (refine PC rfl 147 (.tmp 4) (.tmp 13) rfl (w.heap.size+1) #[I3 K0 v.num,I3 K0 v.time,MT v.mark,IF ⟨v.body.toArray⟩] rfl rfl 147 #[I3 K0 0,I3 K0 0,MT LR,IF ⟨#[]⟩] HZ.out kT rfl (by simp[Q1]) ?_);refine OS (v:=Pi #[bq v,MT cc]) (bm results67 _ _ (w.heap.size+1) _ _ _ _ rfl (setRow_heap _ _ _ _ _ _ HZ.out) Of rfl kT) rfl ⟨⟨v,by rw[A3.out],HV.out⟩,below_setRow HB.out (by omega) _⟩
 ·have A4:((t.kind:Int)==2)=LR:=beq_eq_false_iff_ne.2 (by omega);(have ha:dA E t=ax E:=by simp[dA,hk]);rw[ha];clear ha;go_enter func67,ntmps67;go_wp2_with fail;have A2:Below w.heap.size w ((w.alloc (J0 #[I3 K0 (t.kind:Int),IF ⟨t.key.toArray⟩,I3 K0 (t.num:Int)] 68)).alloc (J0 #[I3 K0 0,I3 K0 0,MT LR,IF ⟨#[]⟩] 147)):=((Below.refl _ _).alloc (Ks _) _).alloc (by simp) _;refine(fW p E vs _ (HE.out.below A2) hl).mono ?_;rintro e w1 ⟨⟨v,rfl,hv⟩,A1⟩;(have hz:w1.heap[w.heap.size+1]?=ID (J0 #[I3 K0 0,I3 K0 0,MT LR,IF ⟨#[]⟩] 147 (0,0)):=by refine(A1.block _ (by simp)).trans ?_;have:=LL (w.alloc (J0 #[I3 K0 (t.kind:Int),IF ⟨t.key.toArray⟩,I3 K0 (t.num:Int)] 68)) (J0 #[I3 K0 0,I3 K0 0,MT LR,IF ⟨#[]⟩] 147);simpa using this);have HB:Hid (Below w.heap.size w w1):=A2.trans (A1.mono (by simp;omega));have HV:=IA hv;have HZ:=IA hz;obtain⟨cc,A0⟩:=IG ((ax E).isSome);have A3:=IA A0;rw[A0];clear A1 A2 hv hz A0;unfold bq;go_wp2_with (refine PC rfl 147 (.tmp 4) (.tmp 17) rfl (w.heap.size+1) #[I3 K0 v.num,I3 K0 v.time,MT v.mark,IF ⟨v.body.toArray⟩] rfl rfl 147 #[I3 K0 0,I3 K0 0,MT LR,IF ⟨#[]⟩] HZ.out kT rfl (by simp[Q1]) ?_);refine OS (v:=Pi #[bq v,MT cc]) (bm results67 _ _ (w.heap.size+1) _ _ _ _ rfl (setRow_heap _ _ _ _ _ _ HZ.out) Of rfl kT) rfl ⟨⟨v,by rw[A3.out],HV.out⟩,below_setRow HB.out (by omega) _⟩
structure St where
 time:Nat
 Iz:List IP
 log:List UInt8
def cG (l:List IP):Prop:=l.Pairwise λa b=>cK a.key b.key = -1
structure mr (E:IP):Prop where
 key:aW E.key=NX
 last:0<E.last
 len:E.IB.length<=20
 num:∀v∈E.IB,v.num<=E.last
 rise:E.IB.Pairwise λa b=>a.num<b.num
 time:∀v∈E.IB,v.time<=253402300799
 body:∀v∈E.IB,v.body.length<=400
def ae (l:List IP)(key:List UInt8):IP:=(l.find? λE=>E.key==key).getD ⟨key,0,[]⟩
def bT:List IP->IP->List IP
 | [],E=>[E]
 | a::l,E=>if a.key=E.key then E::l else if cK E.key a.key = -1 then E::a::l else a::bT l E
def bn (E:IP)(k t n:Nat)(body:List UInt8):IP :=
 if k=3 then⟨E.key,E.last,E.IB.eraseIdx ((eu E.IB n).getD 0)⟩ else⟨E.key,n,E.IB++[⟨n,t,k==2,body⟩]⟩
def dS (σ:St)(key:List UInt8)(k n:Nat)(body:List UInt8):Nat×Option St :=
 if aX (ae σ.Iz key) k n≠0 then(aX (ae σ.Iz key) k n,IH)
 else if(ae σ.Iz key).last=0/\60<=σ.Iz.length then(507,IH)
 else(bN (ae σ.Iz key) k,ID ⟨σ.time,bT σ.Iz (bn (ae σ.Iz key) k σ.time n body),σ.log++bG k σ.time key n body⟩)
theorem cx (l:List IP)(key:List UInt8):(ae l key).key=key:=by
 unfold ae;cases h:l.find? λE=>E.key==key with
 | none=>rfl
 | some E =>have:=List.find?_some h;simpa using this
theorem iE (E:IP)(k t n:Nat)(body:List UInt8):(bn E k t n body).key=E.key:=by
 unfold bn;split<;>rfl
theorem ee {key:List UInt8}(h:(ae l key).last≠0):ae l key∈l:=by
 unfold ae at h ⊢;cases h':l.find? λE=>E.key==key with
 | none=>rw[h'] at h;exact absurd rfl h
 | some E=>exact Nm h'
theorem bV {key:List UInt8}(hok:∀E∈l,0<E.last)(h:(ae l key).last=0):(∀E∈l,E.key≠key)/\ae l key=⟨key,0,[]⟩:=by
 unfold ae at h ⊢;cases h':l.find? λE=>E.key==key with
 | none =>refine⟨λE hE e=>?_,rfl⟩;have:=List.find?_eq_none.1 h' E hE;simp[e] at this
 | some E =>rw[h'] at h;have:=hok E (Nm h');simp at h;omega
theorem el {E:IP}(h:A∈bT l E):A=E\/A∈l:=by
 induction l with
 | nil=>simpa [bT] using h
 | cons a l ih =>
   unfold bT at h;split at h
   ·rcases Nx.1 h with h|h
    ·exact LS h
    ·exact LI (M1 _ h)
   ·split at h
    ·rcases Nx.1 h with h|h
     ·exact LS h
     ·exact LI h
    ·rcases Nx.1 h with h|h
     ·exact LI (by rw[h];exact Mu)
     ·exact(ih h).imp_right (M1 _)
theorem pV (h:cG l)(E:IP):cG (bT l E):=by
 induction l with
 | nil=>simp[bT,cG]
 | cons a l ih =>
   have⟨h1,h2⟩:=Ln.1 h;unfold bT;split
   ·rename_i e;exact Ln.2 ⟨λb hb=>by rw[<-e];exact h1 b hb,h2⟩
   ·split
    ·rename_i e;refine Ln.2 ⟨λb hb=>?_,h⟩;rcases Nx.1 hb with rfl|hb
     ·exact e
     ·exact eG _ _ _ e (h1 b hb)
    ·rename_i e1 e2;refine Ln.2 ⟨λb hb=>?_,ih h2⟩;rcases el hb with h0|hb
     ·rw[h0];rcases dU E.key a.key with h|h|h
      ·exact absurd h e2
      ·exact absurd (mR _ _ h).symm e1
      ·rw[fC,h]
     ·exact h1 b hb
theorem rG {a b:List UInt8}(h:cK a b = -1):a≠b:=by
 intro e;rw[e,fy] at h;cases h
theorem xp {E:IP}(hr:cG l)(h:l[i]?=ID A)(hk:A.key=E.key):bT l E=l.set i E:=by
 induction l generalizing i with
 | nil=>simp at h
 | cons a l ih =>
   have⟨h1,h2⟩:=Ln.1 hr;unfold bT;cases i with
   | zero =>simp at h;rw[h,if_pos hk];rfl
   | succ i =>(have hA:l[i]?=ID A:=by simpa using h);have A0:=h1 A (MD hA);rw[if_neg (by rw[<-hk];exact rG A0),if_neg (by rw[<-hk,fC,A0];decide),ih h2 hA];rfl
theorem tj {E:IP}(hr:cG l)(hp:cR (l.map IP.key) E.key i)(hn:∀A∈l,A.key≠E.key):bT l E=l.take i++E::l.drop i:=by
 induction l generalizing i with
 | nil=>simp[bT]
 | cons a l ih =>
   have⟨h1,h2⟩:=Ln.1 hr;unfold bT;rw[if_neg (hn a Mu)];cases i with
   | zero =>
     have h0:=hp.hi 0 a.key (Ks _) (by simp);have:cK E.key a.key = -1:=by
      rcases dU E.key a.key with h|h|h
      ·exact h
      ·exact absurd (mR _ _ h).symm (hn a Mu)
      ·rw[fC,h] at h0;omega
     rw[if_pos this];rfl
   | succ i =>have h0:=hp.lo 0 a.key (by omega) (by simp);rw[if_neg (by rw[fC,h0];decide)];rw[ih h2 (i:=i) ⟨by have:=hp.le;simp at this ⊢;omega,λj b hj hb=>hp.lo (j+1) b (by omega) (by simpa using hb),λj b hj hb=>hp.hi (j+1) b (by omega) (by simpa using hb)⟩ (λA hA=>hn A (M1 _ hA))];rfl
theorem oG (hr:cG l)(t:List UInt8):∃i,cR (l.map IP.key) t i:=by
 induction l with
 | nil=>exact⟨0,by simp,λj a hj=>by omega,λj a _ h=>by simp at h⟩
 | cons a l ih =>
   have⟨h1,h2⟩:=Ln.1 hr;by_cases ha:cK a.key t = -1
   ·obtain⟨i,hi⟩:=ih h2;refine⟨i+1,by have:=hi.le;simp at this ⊢;omega,λj b hj hb=>?_,λj b hj hb=>?_⟩
    ·cases j with
     | zero=>simp at hb;rw[<-hb];exact ha
     | succ j=>exact hi.lo j b (by omega) (by simpa using hb)
    ·cases j with
     | zero=>omega
     | succ j=>exact hi.hi j b (by omega) (by simpa using hb)
   ·refine⟨0,by simp,λj b hj=>by omega,λj b _ hb=>?_⟩;(have A0:0<=cK a.key t:=by rcases dU a.key t with h|h|h<;>omega);cases j with
    | zero=>simp at hb;rw[<-hb];exact A0
    | succ j =>
      (have A2:(l.map IP.key)[j]?=ID b:=by simpa using hb);obtain⟨B,hB,rfl⟩:=List.mem_map.1 (MD A2);have A1:=h1 B hB;rcases dU B.key t with h|h|h
      ·have:=eG _ _ _ A1 h;omega
      ·omega
      ·omega
theorem cG.rising (h:cG l):er (l.map IP.key):=by
 intro i j a b A0 ha hb;rw[List.getElem?_map] at ha hb;obtain⟨A,hA,rfl⟩:=N0.1 ha;obtain⟨B,hB,rfl⟩:=N0.1 hb;obtain⟨hi,rfl⟩:=LN.1 hA;obtain⟨hj,rfl⟩:=LN.1 hB;exact List.pairwise_iff_getElem.1 h i j hi hj A0
theorem cG.filter (h:cG l)(P:IP->Bool):cG (l.filter P):=List.Pairwise.filter _ h
theorem eg (a:IP)(l:List IP)(E:IP):bT (a::l) E=if a.key=E.key then E::l else if cK E.key a.key = -1 then E::a::l else a::bT l E:=rfl
theorem iK (hr:cG l)(E:IP)(P:List UInt8->Bool)(hp:P E.key=NX):(bT l E).filter (λA=>P A.key)=bT (l.filter λA=>P A.key) E:=by
 induction l with
 | nil=>simp[bT,hp]
 | cons a l ih =>
   have⟨h1,h2⟩:=Ln.1 hr;rw[eg];by_cases e:a.key=E.key
   ·rw[if_pos e,Kf,if_pos hp,Kf,if_pos (by rw[e];exact hp),];simp[eg,e]
   ·rw[if_neg e];by_cases hlt:cK E.key a.key = -1
    ·rw[if_pos hlt,Kf,if_pos hp];by_cases ha:P a.key=NX
     ·rw[Kf,if_pos ha];simp[eg,e,hlt]
     ·rw[Kf,if_neg ha];cases hf:l.filter λA=>P A.key with
      | nil=>rfl
      | cons b r =>have hb:b∈l:=(List.mem_filter.1 (by rw[hf];exact Mu:b∈l.filter λA=>P A.key)).1;have A0:=eG _ _ _ hlt (h1 b hb);simp[eg,A0,(rG A0).symm]
    ·rw[if_neg hlt,Kf];by_cases ha:P a.key=NX
     ·rw[if_pos ha,ih h2,Kf,if_pos ha];simp[eg,e,hlt]
     ·rw[if_neg ha,ih h2,Kf,if_neg ha]
theorem iQ (E:IP)(P:List UInt8->Bool)(hp:P E.key=LR):(bT l E).filter (λA=>P A.key)=l.filter λA=>P A.key:=by
 induction l with
 | nil=>simp[bT,hp]
 | cons a l ih =>
   rw[eg];by_cases e:a.key=E.key
   ·rw[if_pos e,Kf,Kf,e,hp];simp
   ·rw[if_neg e];by_cases hlt:cK E.key a.key = -1
    ·rw[if_pos hlt,Kf,hp];simp
    ·rw[if_neg hlt,Kf,ih,Kf]
theorem jj {E:IP}(h:aX E k n=0):(k=3->∃i,eu E.IB n=ID i)/\(k≠3->E.IB.length<20):=by
 unfold aX at h;refine⟨λhk=>?_,λhk=>?_⟩
 ·rw[if_pos hk] at h;cases hv:eu E.IB n with
  | none=>rw[hv] at h;simp at h
  | some i=>exact⟨i,rfl⟩
 ·rw[if_neg hk] at h;split at h
  ·omega
  ·split at h
   ·omega
   ·omega
theorem qi {E:IP}{body:List UInt8}(hkey:aW E.key=NX)(JJ:∀v∈E.IB,v.num<=E.last)(hrise:E.IB.Pairwise λa b=>a.num<b.num)(Oz:∀v∈E.IB,v.time<=253402300799)(hbody:∀v∈E.IB,v.body.length<=400)(hlen:E.IB.length<=20)
 (ho:aX E k n=0)(h3:k=3->0<E.last)(hn:k≠3->n=E.last+1)(ht:t<=253402300799)(hb:body.length<=400):mr (bn E k t n body):=by
 have⟨o1,o2⟩:=jj ho;unfold bn;split
 ·rename_i hk;have A0:∀v∈E.IB.eraseIdx ((eu E.IB n).getD 0),v∈E.IB:=λv hv=>List.mem_of_mem_eraseIdx hv;refine⟨hkey,h3 hk,?_,λv hv=>JJ v (A0 v hv),?_,λv hv=>Oz v (A0 v hv),λv hv=>hbody v (A0 v hv)⟩
  ·exact On (List.length_eraseIdx_le _ _) hlen
  ·exact hrise.sublist (List.eraseIdx_sublist _ _)
 ·rename_i hk;have A1:=hn hk;have hl:=o2 hk;refine⟨hkey,by show 0<n;omega,by show(E.IB++_).length<=20;simp;omega,λv hv=>?_,?_,λv hv=>?_,λv hv=>?_⟩
  ·rcases N2.1 hv with hv|hv
   ·have:=JJ v hv;show v.num<=n;omega
   ·simp at hv;rw[hv];exact Ks _
  ·refine List.pairwise_append.2 ⟨hrise,by simp,λa ha b hb=>?_⟩;simp at hb;rw[hb];have:=JJ a ha;show a.num<n;omega
  ·rcases N2.1 hv with hv|hv
   ·exact Oz v hv
   ·simp at hv;rw[hv];exact ht
  ·rcases N2.1 hv with hv|hv
   ·exact hbody v hv
   ·simp at hv;rw[hv];exact hb
theorem rR {E:IP}{body:List UInt8}(hn:k≠3->n=E.last+1):(bn E k t n body).last<=E.last+1:=by
 unfold bn;split
 ·exact Nat.le_succ _
 ·rename_i hk;rw[hn hk];exact Ks _
open Go.RowKit
theorem vq {a:Addr}(h:w.cell? a=ID v):w.setCell a v=w:=by
 cases w with|mk heap tape drawn os output =>
 simp only[NO,World.mk.injEq,and_true];apply Rr
 ·simp
 ·intro i h1 h2;simp only[Array.getElem_modify];split
  ·rename_i e;subst e;simp only[K1] at h;rw[Mn h2] at h;revert h;cases heap[a.block] with
   | cells c t f =>
     intro h;simp only at h;cases hs:a.spot with
     | some _=>rw[hs] at h;simp at h
     | none =>
       rw[hs] at h;simp only[Option.isSome_none,Bool.false_eq_true,if_false] at h ⊢;have A0:a.off<c.size:=(gL h);have hv:c[a.off]=v:=(Array.getElem?_eq_some_iff.1 h).2;congr 1;apply Rr
       ·simp
       ·intro j j1 j2;by_cases hj:a.off=j
        ·subst hj;simp[hv]
        ·exact Array.getElem_setIfInBounds_ne (by simpa using j1) hj
   | _=>intro _;rfl
  ·rfl
theorem qY (h:v∈gE ps):v.oneCell'=NX:=by
 simp only[gE,List.mem_map] at h;obtain⟨p,_,rfl⟩:=h;rfl
theorem AT (ps:List Nat)(i p:Nat):(gE ps).take i++J1 (ID ⟨p,0,IH⟩)::(gE ps).drop i=gE (ps.take i++p::ps.drop i):=by
 simp[gE,List.map_take,List.map_drop]
theorem tz (b o p:Nat)(cs:Array Lo)(T:Rg)(es:Lo)(ps:List Nat)(K:List (List UInt8))(E:IP)(vs:Lo)(i:Nat)(w:Lq)
 (hb:w.heap[b]?=ID (J0 cs T (0,0)))(hc:cs[o+2]?=ID es)(hE:ay w p E vs)(hk:Keys w es ps K)(hr:er K)(hl:ps.length<1000000)(hkl:E.key.length<1000000)
 (hi:cR K E.key i)(hbp:b≠p)(hbe:es.ownBlock≠ID b)(hpe:es.ownBlock≠ID p)(hvb:vs.ownBlock≠ID b)(MS:∀g,vs.ownBlock=ID g->es.ownBlock≠ID g) :
 Mb IR 201 #[J1 (ID ⟨b,o,IH⟩),J1 (ID ⟨p,0,IH⟩)] w λe w'=>∃g cap,(∃v,e=Kx v) /\
  w'.heap[b]?=ID (J0 (cs.setIfInBounds (o+2) (K2 (ID ⟨g,0,IH⟩) (ps.length+1) cap)) T (0,0)) /\
  w'.ownsRow 0 143 1 (K2 (ID ⟨g,0,IH⟩) (ps.length+1) cap) (ps.length+1) (gE (ps.take i++p::ps.drop i))/\(es.ownBlock=ID g\/w.heap.size<=g) /\
  ay w' p E vs/\Off (λk=>k=b\/k=p\/es.ownBlock=ID k) w w':=by
 have HB:=IA hb;have HC:=IA hc;have HE:=IA hE;have HK:=IA hk;have HI:=IA hi;clear hb hc hE hk hi;have c0:=HE.out.c0;have f0:=HE.out.fz 0;have Ak:=HE.out.lt;have A6:b<w.heap.size:=(gL HB.out);go_enter func201,ntmps201;go_wp2_with fail;refine(je ⟨E.key.toArray⟩ _ (by rw[L4];simp;omega)).mono ?_;rintro e w1 ⟨rfl,A5⟩;have c1:=(A5.cell (p:=⟨p,0,IH⟩) Ak).trans c0;have f1:w1.frozen? ⟨p,0,IH⟩=LR:=(HE.out.below A5).fz 0;have At:=vq c1;have Aa:Hid (Below w.heap.size w w1):=A5;have Ah:w1.cell? ⟨b,o+2,IH⟩=ID es:=by have:=(A5.block b A6).trans HB.out;simp[K1,this,HC.out]
 have Ac:p<w1.heap.size:=(HE.out.below A5).lt;clear A5 c0 f0;go_wp2_with fail;refine(jJ b o es ps K E.key _ Ah (HK.out.below Aa.out) hr hl).mono ?_;rintro e w2 ⟨⟨j,hj,rfl⟩,Ae⟩;obtain rfl:=hj.uniq HI.out;obtain⟨fd,Aj⟩:=IG ((K[j]?==ID E.key));rw[Aj];have A3:Hid (Below w.heap.size w w2):=Aa.out.trans (Ae.mono Aa.out.size);have A2:w2.heap[b]?=ID (J0 cs T (0,0)):=(A3.out.block b A6).trans HB.out;have Ar:w2.cell? ⟨b,o+2,IH⟩=ID es:=by simp[K1,A2,HC.out]
 have Ap:p<w2.heap.size:=N6 Ac Ae.size;have A7:b<w2.heap.size:=(gL A2);have Ao:j<=ps.length:=by have:=HI.out.le;rw[HK.out.len] at this;exact this
 have Al:=IA A2;clear A2 Ae hj Aj Aa Ah c1 f1 At;go_wp2_with fail;have Ag:Below w2.heap.size w2 (w2.alloc (J0 #[J1 (ID ⟨p,0,IH⟩)] 143)):=(Below.refl _ _).alloc (Ks _) _;have Ai:=HK.out.below A3.out;have As:es.ownBlock≠ID w2.heap.size:=by
  intro e;rcases HK.out.row.2 with⟨rfl,_⟩|⟨g,cap,A4,rfl,_,hg,_⟩
  ·cases e
  ·have h1:g<w.heap.size:=(gL hg);have h2:=A3.out.size;simp only[Value.ownBlock,Option.some.injEq] at e;omega
 refine(vV es ps.length j (gE ps) w2.heap.size (J1 (ID ⟨p,0,IH⟩)) _ (dH Ai.row Ag) (λv hv=>qY hv) rfl (LL _ _) Ao As hl).mono ?_;rintro e w3 ⟨g,cap,rfl,A8,hg,A0⟩;have Ab:w3.heap[b]?=ID (J0 cs T (0,0)):=by rw[A0.block b (by simp;omega) hbe,heap_alloc_old _ _ A7];exact Al.out
 have c3:w3.cell? ⟨b,o+2,IH⟩=ID es:=by simp[K1,Ab,HC.out]
 have f3:w3.frozen? ⟨b,o+2,IH⟩=LR:=by simp[World.frozen?,Ab]
 have HO:Hid (Off (λk=>k=b\/k=p\/es.ownBlock=ID k) w w3):=((Off.of_below A3.out).alloc _).trans' A0 (λk _ hk=>LI (LI hk));have HR:=IA A8;have HG:=IA hg;have An:=IA Ab;have Ad:Hid (ay w3 p E vs):=by
  have Af:=(HE.out.below A3.out).below Ag;refine⟨(A0.block p (by simp;omega) hpe).trans Af.blk,Af.row.1,?_⟩;rcases Af.row.2 with h0|⟨g',A1,A4,hv,h1,A9,h2⟩
  ·exact LS h0
  ·refine LI ⟨g',A1,A4,hv,h1,?_,h2⟩;exact(A0.block g' (gL A9) (MS g' (by rw[hv];rfl))).trans A9
 clear A8 hg Ab A0 Ag Ai;go_wp2;have Aq:g≠b:=by
  intro e;rcases HG.out with h|h
  ·exact hbe (e ▸ h)
  ·have h1:w.heap.size<=w2.heap.size:=A3.out.size;simp at h;omega
 have Au:g≠p:=by
  intro e;rcases HG.out with h|h
  ·exact hpe (e ▸ h)
  ·simp at h;omega
 refine O2 (N1 results201 _ _ _) rfl ⟨g,cap,⟨_,rfl⟩,heap_set An.out,?_,?_,?_,HO.out.set b _ _ (LS (LS rfl))⟩
 ·have h0:=HR.out;rw[AT] at h0;refine⟨h0.1,?_⟩;rcases h0.2 with⟨hc,_⟩|⟨g',A1,A4,hv,h1,hg,h2⟩
  ·cases hc
  ·cases hv;refine LI ⟨g,cap,A4,rfl,h1,?_,h2⟩;rw[<-hg];simp[NO,MA,Ne.symm Aq]
 ·rcases HG.out with h|h
  ·exact LS h
  ·have:=A3.out.size;simp at h;exact LI (by omega)
 ·refine⟨?_,Ad.out.row.1,?_⟩
  ·rw[<-Ad.out.blk];simp[NO,MA,hbp]
  ·rcases Ad.out.row.2 with h0|⟨g',A1,A4,hv,h1,A9,h2⟩
   ·exact LS h0
   ·refine LI ⟨g',A1,A4,hv,h1,?_,h2⟩;(have Am:b≠g':=λe=>by subst e;apply hvb;rw[hv];rfl);rw[<-A9];simp[NO,MA,Am]
theorem ay.off {x:Lq}{p:Nat}{E:IP}{vs:Lo}{S:Nat->Prop}(h:ay w p E vs)(ho:Off S w x)(hp:¬ S p)(hv:∀g,vs.ownBlock=ID g->¬ S g):ay x p E vs:=by
 refine⟨(ho.block p h.lt hp).trans h.blk,h.row.1,?_⟩;rcases h.row.2 with h0|⟨g,A2,A1,A0,h1,hg,h2⟩
 ·exact LS h0
 ·exact LI ⟨g,A2,A1,A0,h1,(ho.block g (gL hg) (hv g (by rw[A0];rfl))).trans hg,h2⟩
theorem BM (b o p:Nat)(E:IP)(vs:Lo)(t n:Nat)(key body:List UInt8)(w:Lq)(h:ay w p E vs)(hp:vs.ownBlock≠ID p)(hl:E.IB.length<1000000)(i:Nat)(hn:eu E.IB n=ID i) :
 Mb IR 152 #[J1 (ID ⟨b,o,IH⟩),J1 (ID ⟨p,0,IH⟩),ev 3 t key n body] w λe w'=>(∃v,e=Kx v)/\∃vs',ay w' p ⟨E.key,E.last,E.IB.eraseIdx i⟩ vs'/\vs'.ownBlock=vs.ownBlock/\Off (λk=>k=p\/vs.ownBlock=ID k) w w':=by
 have A0:Below w.heap.size w (w.alloc (J0 #[I3 Rd 3,I3 K0 t,IF ⟨key.toArray⟩,I3 K0 n,IF ⟨body.toArray⟩] 108)):=(Below.refl _ _).alloc (Ks _) _;have HE:=IA (h.below A0);have HA:=IA A0;clear h A0;go_enter func152,ntmps152;go_wp2_with fail;refine(wZ p E vs n _ HE.out hp hl i hn).mono ?_;rintro e w1 ⟨⟨v,rfl⟩,vs',A2,A3,A1⟩;have H1:=IA A2;have H2:=IA A1;clear A2 A1;go_wp2;exact OS (N1 results152 _ _ _) rfl ⟨⟨_,rfl⟩,vs',H1.out,A3,(Off.of_below HA.out).trans H2.out⟩
theorem mh (b o p:Nat)(E:IP)(vs:Lo)(k t n:Nat)(key body:List UInt8)(w:Lq)(h:ay w p E vs)(hp:vs.ownBlock≠ID p)(hl:E.IB.length<1000000)(hb:body.length<1000000)(hk:k≠3)(hla:0<E.last) :
 Mb IR 152 #[J1 (ID ⟨b,o,IH⟩),J1 (ID ⟨p,0,IH⟩),ev k t key n body] w λe w'=>(∃v,e=Kx v)/\∃g cap,ay w' p ⟨E.key,n,E.IB++[⟨n,t,k==2,body⟩]⟩ (K2 (ID ⟨g,0,IH⟩) (E.IB.length+1) cap)/\(vs.ownBlock=ID g\/w.heap.size<=g)/\Off (λk=>k=p\/vs.ownBlock=ID k) w w':=by
 have A0:Below w.heap.size w (w.alloc (J0 #[I3 Rd k,I3 K0 t,IF ⟨key.toArray⟩,I3 K0 n,IF ⟨body.toArray⟩] 108)):=(Below.refl _ _).alloc (Ks _) _;have HE:=IA (h.below A0);have HA:=IA A0;clear h A0;have A5:((k:Int)==3)=LR:=beq_eq_false_iff_ne.2 (by omega);have A3:decide (0<E.last)=NX:=by simpa using hla
 go_enter func152,ntmps152;go_wp2_with fail;refine(cz p E vs _ HE.out).mono ?_;rintro e w1 ⟨rfl,rfl⟩;rw[A3];go_wp2_with fail;refine(uj p E vs k t n key body _ HE.out hp hl hb).mono ?_;rintro e w2 ⟨g,cap,⟨v,rfl⟩,A1,A4,A2⟩;have H1:=IA A1;have H2:=IA A2;clear A1 A2;go_wp2;exact O2 (N1 results152 _ _ _) rfl ⟨⟨_,rfl⟩,g,cap,H1.out,A4.imp_right (λh=>by simp at h;omega),(Off.of_below HA.out).trans H2.out⟩
theorem qe (b o p:Nat)(cs:Array Lo)(T:Rg)(es:Lo)(ps:List Nat)(K:List (List UInt8))(E:IP)(vs:Lo)(i:Nat)(k t n:Nat)(key body:List UInt8)(w:Lq)
 (hbk:w.heap[b]?=ID (J0 cs T (0,0)))(hc:cs[o+2]?=ID es)(hE:ay w p E vs)(Oh:Keys w es ps K)(hr:er K)(hl:ps.length<1000000)(hkl:E.key.length<1000000)
 (hi:cR K E.key i)(hbp:b≠p)(hbe:es.ownBlock≠ID b)(hpe:es.ownBlock≠ID p)(hvb:vs.ownBlock≠ID b)(MS:∀g,vs.ownBlock=ID g->es.ownBlock≠ID g)
 (hp:vs.ownBlock≠ID p)(hl2:E.IB.length<1000000)(hbl:body.length<1000000)(hk:k≠3)(hla:E.last=0) :
 Mb IR 152 #[J1 (ID ⟨b,o,IH⟩),J1 (ID ⟨p,0,IH⟩),ev k t key n body] w λe w'=>(∃v,e=Kx v)/\∃g cap g2 cap2,
  w'.heap[b]?=ID (J0 (cs.setIfInBounds (o+2) (K2 (ID ⟨g,0,IH⟩) (ps.length+1) cap)) T (0,0)) /\
  w'.ownsRow 0 143 1 (K2 (ID ⟨g,0,IH⟩) (ps.length+1) cap) (ps.length+1) (gE (ps.take i++p::ps.drop i))/\(es.ownBlock=ID g\/w.heap.size<=g) /\
  ay w' p ⟨E.key,n,E.IB++[⟨n,t,k==2,body⟩]⟩ (K2 (ID ⟨g2,0,IH⟩) (E.IB.length+1) cap2)/\(vs.ownBlock=ID g2\/w.heap.size<=g2) /\
  Off (λk=>k=b\/k=p\/es.ownBlock=ID k\/vs.ownBlock=ID k) w w':=by
 have A4:Below w.heap.size w (w.alloc (J0 #[I3 Rd k,I3 K0 t,IF ⟨key.toArray⟩,I3 K0 n,IF ⟨body.toArray⟩] 108)):=(Below.refl _ _).alloc (Ks _) _;have HE:=IA (hE.below A4);have HK:=IA (Oh.below A4);have A6:b<w.heap.size:=(gL hbk);have Am:=IA ((A4.block b A6).trans hbk);have HA:=IA A4;have HI:=IA hi;have HR:=IA hr;have A3:∀g,vs.ownBlock=ID g->g<w.heap.size:=λg h=>(hE.row.lt g h).2;have An:=IA A3;have Ag:p<w.heap.size:=hE.lt;have Aj:Hid (es.ownBlock≠ID w.heap.size):=λe=>absurd (Oh.row.lt _ e).2 (Nat.lt_irrefl _);clear hE A4 Oh hbk hi hr A3;have Ao:((k:Int)==3)=LR:=beq_eq_false_iff_ne.2 (by omega);have Af:decide (0<E.last)=LR:=by simp[hla]
 go_enter func152,ntmps152;go_wp2_with fail;refine(cz p E vs _ HE.out).mono ?_;rintro e w1 ⟨rfl,rfl⟩;rw[Af];go_wp2_with fail;refine(tz b o p cs T es ps K E vs i _ Am.out hc HE.out HK.out HR.out hl hkl HI.out hbp hbe hpe hvb MS).mono ?_;rintro e w2 ⟨g,cap,⟨v,rfl⟩,Ac,A1,A7,Ad,A9⟩;have Aa:w2.heap[w.heap.size]?=ID (J0 #[I3 Rd k,I3 K0 t,IF ⟨key.toArray⟩,I3 K0 n,IF ⟨body.toArray⟩] 108 (0,0)) :=
  (A9.block w.heap.size (by simp) (by rintro(h|h|h);omega;omega;exact Aj.out h)).trans (LL _ _)
 obtain⟨r0,r1,r2,r3,r4⟩:=Ku Aa;have H1:=IA Ac;have H2:=IA A1;have H3:=IA Ad;have H4:=IA A9;clear Ac A1 Ad A9 Aa;go_wp2_with fail;refine(uj p E vs k t n key body _ H3.out hp hl2 hbl).mono ?_;rintro e w3 ⟨g3,A8,⟨v3,rfl⟩,Ab,Ai,A5⟩;have A2:b<w2.heap.size:=(gL H1.out);have Ae:=(A5.block b A2 (by rintro(h|h);exact hbp h;exact hvb h)).trans H1.out;have Ak:g≠p:=by
  intro e;rcases A7 with h|h
  ·exact hpe (e ▸ h)
  ·simp at h;omega
 have A0:w3.ownsRow 0 143 1 (K2 (ID ⟨g,0,IH⟩) (ps.length+1) cap) (ps.length+1) (gE (ps.take i++p::ps.drop i)):=by
  refine⟨H2.out.1,?_⟩;rcases H2.out.2 with h0|⟨g',Ah,Al,hv,h1,hg,h2⟩
  ·exact LS h0
  ·cases hv;refine LI ⟨g,cap,Al,rfl,h1,?_,h2⟩;refine(A5.block g (gL hg) ?_).trans hg;rintro(h|h)
   ·exact Ak h
   ·rcases A7 with h'|h'
    ·exact MS g h h'
    ·have:=An.out g h;simp at h';omega
 have H5:=IA Ab;have H6:=IA Ae;have H7:=IA A0;have H8:=IA A5;clear Ab Ae A0 A5;go_wp2;refine O2 (N1 results152 _ _ _) rfl ⟨⟨_,rfl⟩,g,cap,g3,A8,H6.out,H7.out,A7.imp_right (λh=>by simp at h;omega),H5.out,Ai.imp_right (λh=>?_),?_⟩
 ·have h5:=H4.out.size;simp at h5;omega
 ·refine((Off.of_below HA.out).trans' H4.out (λk _ h=>?_)).trans' H8.out (λk _ h=>?_)
  ·rcases h with h|h|h
   ·exact LS h
   ·exact LI (LS h)
   ·exact LI (LI (LS h))
  ·rcases h with h|h
   ·exact LI (LS h)
   ·exact LI (LI (LI h))
end Go.Proofs.YtmehkneofinmiabGreatDoor

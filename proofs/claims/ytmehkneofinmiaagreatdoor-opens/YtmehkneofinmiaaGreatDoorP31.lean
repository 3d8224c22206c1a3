/-part 31-/
import Derived.Test.YtmehkneofinmiaaGreatDoorP30
set_option maxRecDepth 100000
set_option maxHeartbeats 4000000
namespace Go.Proofs.YtmehkneofinmiaaGreatDoor
open Go.RowKit
structure Itm where
 key:List UInt8
 num:Nat
 time:Nat
 mark:Bool
 body:List UInt8
 gone:Bool
def cW (v:Itm):List Value:=[.string ⟨v.key.toArray⟩,.int .i64 v.num,.int .i64 v.time,.bool v.mark,.string ⟨v.body.toArray⟩,.bool v.gone]
def eA (l:List Itm):List Value:=l.flatMap cW
theorem tj (l:List Itm)(i:Nat)(v:Itm)(h:l[i]?=some v)(j:Nat)(hj:j<6):(eA l)[i*6+j]?=(cW v)[j]?:=by
 induction l generalizing i with
 | nil=>simp at h
 | cons a l ih =>
   simp only[eA,List.flatMap_cons];cases i with
   | zero =>simp at h;subst h;rw[List.getElem?_append_left (by simp[cW];omega)];simp
   | succ i =>rw[List.getElem?_append_right (by simp[cW];omega)];(have e:(i+1)*6+j-(cW a).length=i*6+j:=by simp[cW];omega);rw[e];exact ih i (by simpa using h)
structure aC (w:World)(p:Nat)(t:Nat)(l:List Itm)(J:List UInt8)(vs:Value):Prop where
 blk:w.heap[p]?=some (.cells #[.int .i64 t,vs,.string ⟨J.toArray⟩] 78 (0,0))
 row:w.ownsRow 0 199 6 vs l.length (eA l)
 few:l.length<1000000000000
theorem aC.c0 {w:World}{p t:Nat}{l:List Itm}{J:List UInt8}{vs:Value}(h:aC w p t l J vs):w.cell? ⟨p,0,none⟩=some (.int .i64 t):=by simp[World.cell?,h.blk]
theorem aC.c1 {w:World}{p t:Nat}{l:List Itm}{J:List UInt8}{vs:Value}(h:aC w p t l J vs):w.cell? ⟨p,1,none⟩=some vs:=by simp[World.cell?,h.blk]
theorem aC.c2 {w:World}{p t:Nat}{l:List Itm}{J:List UInt8}{vs:Value}(h:aC w p t l J vs):w.cell? ⟨p,2,none⟩=some (.string ⟨J.toArray⟩):=by simp[World.cell?,h.blk]
theorem aC.lt {w:World}{p t:Nat}{l:List Itm}{J:List UInt8}{vs:Value}(h:aC w p t l J vs):p<w.heap.size:=(gL h.blk)
def ig (w:World)(a:Option Addr)(l:List Itm):Prop :=
 ∀ i v,l[i]?=some v->∃ g,a=some ⟨g,0,none⟩/\g<w.heap.size/\w.cell? ⟨g,i*6,none⟩=some (.string ⟨v.key.toArray⟩)/\w.cell? ⟨g,i*6+1,none⟩=some (.int .i64 v.num)/\w.cell? ⟨g,i*6+2,none⟩=some (.int .i64 v.time)/\w.cell? ⟨g,i*6+3,none⟩=some (.bool v.mark)/\w.cell? ⟨g,i*6+4,none⟩=some (.string ⟨v.body.toArray⟩)/\w.cell? ⟨g,i*6+5,none⟩=some (.bool v.gone)
theorem aC.itms {w:World}{p t:Nat}{l:List Itm}{J:List UInt8}{vs:Value}(h:aC w p t l J vs):∃ a c,vs=.slice a l.length c/\ig w a l:=by
 rcases h.row.2 with ⟨hv,h0⟩|⟨g,A1,A4,hv,_,hg,hn,hm,hs,A2⟩
 ·have:l=[]:=List.eq_nil_of_length_eq_zero h0;subst this;exact⟨none,0,hv,λ i v hi=>by simp at hi⟩
 ·refine⟨_,A1,hv,λ i v hi=>⟨g,rfl,(gL hg),?_⟩⟩;have A3:i<l.length:=(List.getElem?_eq_some_iff.1 hi).1;(have A0:∀ j,j<6->w.cell? ⟨g,i*6+j,none⟩=(cW v)[j]?:=by intro j hj;rw[<- tj l i v hi j hj,<- A2,List.getElem?_take_of_lt (by omega)];simp[World.cell?,hg]);exact⟨A0 0 (by omega),A0 1 (by omega),A0 2 (by omega),A0 3 (by omega),A0 4 (by omega),A0 5 (by omega)⟩
def iA (l:List Itm):Nat:=l.countP λ v=>v.num==1
theorem kM {α:Type}(q:α->Bool)(l:List α)(k:Nat)(v:α)(h:l[k]?=some v):(l.take (k+1)).countP q=(l.take k).countP q+(if q v then 1 else 0):=by
 rw[List.take_add_one,h];simp[List.countP_append,List.countP_cons]
theorem oE (p t:Nat)(l:List Itm)(J:List UInt8)(vs:Value)(w:World)(h:aC w p t l J vs) :
 Calls Tryz.prog 218 #[.pointer (some ⟨p,0,none⟩)] w λ e w'=>e=.returned (.int .i64 (iA l))/\w'=w:=by
 have h2:=h.c1;have hf:=h.few;obtain⟨a,c,rfl,hI⟩:=h.itms;have HI:Hid (ig w a l):=hI;clear h hI;go_enter Tryz.func218,Tryz.ntmps218;go_wp2;go_loop [3,4] (λ n i=>∃ k:Nat,k<=l.length/\i=.int .i64 k/\n=.int .i64 ((l.take k).countP λ v=>v.num==1:Nat)) (λ _ i=>l.length-(intOf i).toNat);case atStart=>exact⟨0,Nat.zero_le _,rfl,rfl⟩
 case round =>
  obtain⟨k,hk,rfl,rfl⟩:=hrel;have A0:((l.take k).countP λ v=>v.num==1)<=k:=Nat.le_trans List.countP_le_length (by simp;omega);by_cases hlt:k<l.length
  ·obtain⟨v,hv⟩:∃ v,l[k]?=some v:=⟨_,List.getElem?_eq_getElem hlt⟩;obtain⟨g,rfl,hg,i0,i1,_,_,_,i5⟩:=HI.out k v hv;have HC:Hid _:=kM (λ v:Itm=>v.num==1) l k v hv;clear hv;obtain⟨C,hC⟩:∃ C,((l.take k).countP λ v=>v.num==1)=C:=⟨_,rfl⟩;rw[hC] at HC A0 ⊢;clear hC;go_wp2;(all_goals refine⟨⟨k+1,by omega,by go_num,?_⟩,by simp[intOf];omega⟩);(all_goals rename_i hq);all_goals rw[HC.out]
   ·rw[if_pos (by simp only[beq_iff_eq] at hq ⊢;omega)];go_num
   ·rw[if_neg (by simp only[beq_iff_eq,beq_eq_false_iff_ne,ne_eq] at hq ⊢;omega)];rfl
  ·(have:k=l.length:=by omega);subst this;rw[List.take_length];go_wp2;go_ret;exact⟨rfl,rfl⟩
def uJ (key:List UInt8)(l:List Itm):Nat:=l.countP λ v=>v.key==key&&!v.gone
theorem pP (p t:Nat)(l:List Itm)(J:List UInt8)(vs:Value)(key:List UInt8)(w:World)(h:aC w p t l J vs) :
 Calls Tryz.prog 219 #[.pointer (some ⟨p,0,none⟩),.string ⟨key.toArray⟩] w λ e w'=>e=.returned (.int .i64 (uJ key l))/\w'=w:=by
 have h2:=h.c1;have hf:=h.few;obtain⟨a,c,rfl,hI⟩:=h.itms;have HI:Hid (ig w a l):=hI;clear h hI;go_enter Tryz.func219,Tryz.ntmps219;go_wp2;go_loop [5,6] (λ n i=>∃ k:Nat,k<=l.length/\i=.int .i64 k/\n=.int .i64 ((l.take k).countP λ v=>v.key==key&&!v.gone:Nat)) (λ _ i=>l.length-(intOf i).toNat);case atStart=>exact⟨0,Nat.zero_le _,rfl,rfl⟩
 case round =>
  obtain⟨k,hk,rfl,rfl⟩:=hrel;have A0:((l.take k).countP λ v=>v.key==key&&!v.gone)<=k:=Nat.le_trans List.countP_le_length (by simp;omega);by_cases hlt:k<l.length
  ·obtain⟨v,hv⟩:∃ v,l[k]?=some v:=⟨_,List.getElem?_eq_getElem hlt⟩;obtain⟨g,rfl,hg,i0,i1,_,_,_,i5⟩:=HI.out k v hv;have HC:Hid _:=kM (λ v:Itm=>v.key==key&&!v.gone) l k v hv;clear hv;obtain⟨C,hC⟩:∃ C,((l.take k).countP λ v=>v.key==key&&!v.gone)=C:=⟨_,rfl⟩;rw[hC] at HC A0 ⊢;clear hC;go_wp2;(all_goals refine⟨⟨k+1,by omega,by go_num,?_⟩,by simp[intOf];omega⟩);all_goals rw[HC.out]
   ·rw[if_pos (by simp_all)];go_num
   ·rw[if_neg (by simp_all)];rfl
   ·rw[if_neg (by simp_all)];rfl
  ·(have:k=l.length:=by omega);subst this;rw[List.take_length];go_wp2;go_ret;exact⟨rfl,rfl⟩
def mD (key:List UInt8)(n:Nat)(v:Itm):Nat:=if v.key=key/\n<v.num then v.num else n
def aH (key:List UInt8)(l:List Itm):Nat:=l.foldl (mD key) 0
theorem tL (key:List UInt8)(l:List Itm)(k:Nat)(v:Itm)(h:l[k]?=some v):aH key (l.take (k+1))=mD key (aH key (l.take k)) v:=by
 rw[List.take_add_one,h];simp[aH,List.foldl_append]
theorem fG (p t:Nat)(l:List Itm)(J:List UInt8)(vs:Value)(key:List UInt8)(w:World)(h:aC w p t l J vs) :
 Calls Tryz.prog 113 #[.pointer (some ⟨p,0,none⟩),.string ⟨key.toArray⟩] w λ e w'=>e=.returned (.int .i64 (aH key l))/\w'=w:=by
 have h2:=h.c1;have hf:=h.few;obtain⟨a,c,rfl,hI⟩:=h.itms;have HI:Hid (ig w a l):=hI;clear h hI;go_enter Tryz.func113,Tryz.ntmps113;go_wp2;go_loop [5,6] (λ n i=>∃ k:Nat,k<=l.length/\i=.int .i64 k/\n=.int .i64 (aH key (l.take k):Nat)) (λ _ i=>l.length-(intOf i).toNat);case atStart=>exact⟨0,Nat.zero_le _,rfl,rfl⟩
 case round =>
  obtain⟨k,hk,rfl,rfl⟩:=hrel;by_cases hlt:k<l.length
  ·obtain⟨v,hv⟩:∃ v,l[k]?=some v:=⟨_,List.getElem?_eq_getElem hlt⟩;obtain⟨g,rfl,hg,i0,i1,_,_,_,i5⟩:=HI.out k v hv;have HC:Hid _:=tL key l k v hv;clear hv;obtain⟨C,hC⟩:∃ C,aH key (l.take k)=C:=⟨_,rfl⟩;rw[hC] at HC ⊢;clear hC;go_wp2;(all_goals refine⟨⟨k+1,by omega,by go_num,?_⟩,by simp[intOf];omega⟩);(all_goals rw[HC.out]);(all_goals (unfold mD;split));all_goals first|rfl|(exfalso;simp_all;done)|(exfalso;simp_all;omega)
  ·(have:k=l.length:=by omega);subst this;rw[List.take_length];go_wp2;go_ret;exact⟨rfl,rfl⟩
def jH (key:List UInt8)(n:Nat)(v:Itm):Nat:=if v.key=key/\n<v.num/\v.gone=false then v.num else n
def cR (key:List UInt8)(l:List Itm):Nat:=l.foldl (jH key) 0
theorem pF (key:List UInt8)(l:List Itm)(k:Nat)(v:Itm)(h:l[k]?=some v):cR key (l.take (k+1))=jH key (cR key (l.take k)) v:=by
 rw[List.take_add_one,h];simp[cR,List.foldl_append]
theorem iV (p t:Nat)(l:List Itm)(J:List UInt8)(vs:Value)(key:List UInt8)(w:World)(h:aC w p t l J vs) :
 Calls Tryz.prog 173 #[.pointer (some ⟨p,0,none⟩),.string ⟨key.toArray⟩] w λ e w'=>e=.returned (.int .i64 (cR key l))/\w'=w:=by
 have h2:=h.c1;have hf:=h.few;obtain⟨a,c,rfl,hI⟩:=h.itms;have HI:Hid (ig w a l):=hI;clear h hI;go_enter Tryz.func173,Tryz.ntmps173;go_wp2;go_loop [5,6] (λ n i=>∃ k:Nat,k<=l.length/\i=.int .i64 k/\n=.int .i64 (cR key (l.take k):Nat)) (λ _ i=>l.length-(intOf i).toNat);case atStart=>exact⟨0,Nat.zero_le _,rfl,rfl⟩
 case round =>
  obtain⟨k,hk,rfl,rfl⟩:=hrel;by_cases hlt:k<l.length
  ·obtain⟨v,hv⟩:∃ v,l[k]?=some v:=⟨_,List.getElem?_eq_getElem hlt⟩;obtain⟨g,rfl,hg,i0,i1,_,_,_,i5⟩:=HI.out k v hv;have HC:Hid _:=pF key l k v hv;clear hv;obtain⟨C,hC⟩:∃ C,cR key (l.take k)=C:=⟨_,rfl⟩;rw[hC] at HC ⊢;clear hC;go_wp2;(all_goals refine⟨⟨k+1,by omega,by go_num,?_⟩,by simp[intOf];omega⟩);(all_goals rw[HC.out]);(all_goals (unfold jH;split));all_goals first|rfl|(exfalso;simp_all;done)|(exfalso;simp_all;omega)
  ·(have:k=l.length:=by omega);subst this;rw[List.take_length];go_wp2;go_ret;exact⟨rfl,rfl⟩
def bH (key:List UInt8)(n:Int)(l:List Itm):Option Nat:=l.findIdx? λ v=>v.key==key&&((v.num:Int)==n)&&!v.gone
def dR:Option Nat->Int
 | none => -1
 | some i=>i
theorem db (p t:Nat)(l:List Itm)(J:List UInt8)(vs:Value)(key:List UInt8)(n:Int)(w:World)(h:aC w p t l J vs) :
 Calls Tryz.prog 114 #[.pointer (some ⟨p,0,none⟩),.string ⟨key.toArray⟩,.int .i64 n] w λ e w'=>e=.returned (.int .i64 (dR (bH key n l)))/\w'=w:=by
 have h2:=h.c1;have hf:=h.few;obtain⟨a,c,rfl,hI⟩:=h.itms;have HI:Hid (ig w a l):=hI;clear h hI;go_enter Tryz.func114,Tryz.ntmps114;go_wp2;go_loop [7] (λ i=>∃ k:Nat,k<=l.length/\i=.int .i64 k/\Hid (∀ v∈l.take k,(v.key==key&&((v.num:Int)==n)&&!v.gone)=false)) (λ i=>l.length-(intOf i).toNat);case atStart=>exact⟨0,Nat.zero_le _,rfl,λ v hv=>by simp at hv⟩
 case round =>
  obtain⟨k,hk,rfl,A0⟩:=hrel;by_cases hlt:k<l.length
  ·obtain⟨v,hv⟩:∃ v,l[k]?=some v:=⟨_,List.getElem?_eq_getElem hlt⟩;obtain⟨g,rfl,hg,i0,i1,_,_,_,i5⟩:=HI.out k v hv;have HY:Hid ((v.key==key&&((v.num:Int)==n)&&!v.gone)=true->bH key n l=some k):=by
    intro hy;unfold bH;rw[List.findIdx?_eq_some_iff_getElem];refine⟨hlt,?_,?_⟩
    ·rw[(List.getElem?_eq_some_iff.1 hv).2];exact hy
    ·intro j hj;have:=A0.out (l[j]'(by omega)) (List.mem_take_iff_getElem.2 ⟨j,by omega,rfl⟩);simp only[this,Bool.false_eq_true,not_false_eq_true]
   have HN:Hid ((v.key==key&&((v.num:Int)==n)&&!v.gone)=false->∀ v∈l.take (k+1),(v.key==key&&((v.num:Int)==n)&&!v.gone)=false):=by
    intro hn u hu;rw[List.take_add_one,hv] at hu;rcases List.mem_append.1 hu with hu|hu
    ·exact A0.out u hu
    ·simp at hu;subst hu;exact hn
   clear hv A0;go_wp2;all_goals first
    | exact⟨⟨k+1,by omega,by go_num,HN.out (by simp_all)⟩,by simp[intOf];omega⟩
    | (go_ret;rw[HY.out (by simp_all)];exact⟨rfl,rfl⟩)
  ·(have A1:k=l.length:=by omega);subst A1;(have HF:Hid (bH key n l=none):=by show _=_;unfold bH;rw[List.findIdx?_eq_none_iff];intro v hv;exact A0.out v (by simpa using hv));go_wp2;go_ret;rw[HF.out];exact⟨rfl,rfl⟩
def bg (key:List UInt8)(l:List Itm):Option Nat :=
 match bH key (cR key l) l with
 | none=>none
 | some i=>match l[i]? with
   | none=>none
   | some v=>if v.mark then none else some i
theorem dZ {key:List UInt8}{n:Int}{l:List Itm}{i:Nat}(h:bH key n l=some i):i<l.length:=by
 unfold bH at h;exact (List.findIdx?_eq_some_iff_getElem.1 h).1
theorem bl (p t:Nat)(l:List Itm)(J:List UInt8)(vs:Value)(key:List UInt8)(w:World)(h:aC w p t l J vs) :
 Calls Tryz.prog 110 #[.pointer (some ⟨p,0,none⟩),.string ⟨key.toArray⟩] w λ e w'=>e=.returned (.int .i64 (dR (bg key l)))/\w'=w:=by
 have h2:=h.c1;have hf:=h.few;obtain⟨a,c,A0,hI⟩:=h.itms;have HI:Hid (ig w a l):=hI;have HR:Hid (aC w p t l J vs):=h;subst A0;clear h hI;cases hfi:bH key (cR key l) l with
 | none =>
   (have HS:Hid (bg key l=none):=by show _=_;unfold bg;rw[hfi]);have HF:Hid (bH key (cR key l) l=none):=hfi;clear hfi;go_enter Tryz.func110,Tryz.ntmps110;go_wp2_with (first
    | (go_at_call 173;refine (iV p t l J _ key _ HR.out).mono ?_;rintro e w' ⟨rfl,rfl⟩)
    | (go_at_call 114;refine (db p t l J _ key _ _ HR.out).mono ?_;rintro e w' ⟨rfl,rfl⟩;rw[HF.out];simp only[dR]))
   (all_goals go_ret);(all_goals rw[HS.out]);all_goals exact⟨rfl,rfl⟩
 | some i =>
   have A1:=dZ hfi;obtain⟨v,hv⟩:∃ v,l[i]?=some v:=⟨_,List.getElem?_eq_getElem A1⟩;obtain⟨g,rfl,hg,i0,i1,_,i3,_,i5⟩:=HI.out i v hv;(have HS:Hid (bg key l=if v.mark then none else some i):=by show _=_;unfold bg;rw[hfi];simp only[hv]);have HF:Hid (bH key (cR key l) l=some i):=hfi;clear hfi hv;cases hm:v.mark;all_goals
    rw[hm] at i3 HS;clear hm;go_enter Tryz.func110,Tryz.ntmps110;go_wp2_with (first
     | (go_at_call 173;refine (iV p t l J _ key _ HR.out).mono ?_;rintro e w' ⟨rfl,rfl⟩)
     | (go_at_call 114;refine (db p t l J _ key _ _ HR.out).mono ?_;rintro e w' ⟨rfl,rfl⟩;rw[HF.out];simp only[dR]))
    go_ret;rw[HS.out];exact⟨rfl,rfl⟩
def g7 (key:List UInt8)(l:List Itm):Bool:=(decide (0<aH key l)||decide (iA l<60))&&decide (uJ key l<20)
theorem iz (p t:Nat)(l:List Itm)(J:List UInt8)(vs:Value)(key:List UInt8)(w:World)(h:aC w p t l J vs) :
 Calls Tryz.prog 164 #[.pointer (some ⟨p,0,none⟩),.string ⟨key.toArray⟩] w λ e w'=>e=.returned (.bool (g7 key l))/\w'=w:=by
 have HR:Hid (aC w p t l J vs):=h;clear h;unfold g7;go_enter Tryz.func164,Tryz.ntmps164;go_wp2_with (first
  | (go_at_call 113;refine (fG p t l J _ key _ HR.out).mono ?_;rintro e w' ⟨rfl,rfl⟩)
  | (go_at_call 218;refine (oE p t l J _ _ HR.out).mono ?_;rintro e w' ⟨rfl,rfl⟩)
  | (go_at_call 219;refine (pP p t l J _ key _ HR.out).mono ?_;rintro e w' ⟨rfl,rfl⟩))
 all_goals go_ret
 all_goals refine⟨aw ?_,rfl⟩
 all_goals (rw[Bool.eq_iff_iff];simp_all)
 all_goals omega
theorem sz (l:List UInt8):(⟨l.toArray⟩:ByteArray).size=l.length:=Lib.size_eq _
theorem bp (a b:List UInt8)(w:World)(ha:a.length<1000000)(hb:b.length<1000000) :
 Calls Tryz.prog 112 #[.string ⟨a.toArray⟩,.string ⟨b.toArray⟩] w λ e w'=>e=.returned (.string ⟨(au ⟨a,b⟩).toArray⟩)/\w'=w:=by
 have h1:=sz a;have h2:=sz b;go_enter Tryz.func112,Tryz.ntmps112;go_wp2;go_ret;refine⟨aM ?_,rfl⟩;apply ByteArray.ext;simp[au,ByteArray.data_append]
theorem dG (body:List UInt8)(w:World)(hb:body.length<1000000) :
 Calls Tryz.prog 111 #[.string ⟨body.toArray⟩] w λ e w'=>e=.returned (.string ⟨(cD body).toArray⟩)/\Below w.heap.size w w':=by
 have h1:=sz body;obtain⟨H,hH⟩:∃ H,bQ 16 (fnv body)=H:=⟨_,rfl⟩;have A0:H.length=16:=by rw[<- hH];exact fZ 16 _
 have HH:Hid _:=hH;have hs:(⟨H.toArray⟩:ByteArray).size=16:=by rw[Lib.size_eq];exact A0
 have HT:Hid (∀ w,Calls Tryz.prog 115 #[.string ⟨body.toArray⟩] w λ e w'=>e=.returned (.string ⟨H.toArray⟩)/\Below w.heap.size w w'):=by
  intro w;have:=tl ⟨body.toArray⟩ w (by omega)
  rwa [show (ByteArray.mk body.toArray).data.toList=body from rfl,hH] at this
 clear hH A0;go_enter Tryz.func111,Tryz.ntmps111;go_wp2_with (go_at_call 115;refine (HT.out _).mono ?_;rintro e w1 ⟨rfl,A1⟩);go_ret;refine⟨aM ?_,A1⟩;unfold cD;rw[HH.out];apply ByteArray.ext;simp[ByteArray.data_append]
theorem ay (code:Nat)(fs body:List UInt8)(w:World)(hT:Tab w)(hc:code<100000)(hf:fs.length<100000)(hb:body.length<1000000000000000) :
 Calls Tryz.prog 55 #[.int .i64 code,.string ⟨fs.toArray⟩,.string ⟨body.toArray⟩] w λ e w'=>e=.returned (.string ⟨(Lib.decDigits code++[13,10]++fs++[13,10]++body).toArray⟩)/\Below w.heap.size w w':=by
 have h1:=sz fs;have h2:=sz body;obtain⟨D,hD⟩:∃ D,Lib.decDigits code=D:=⟨_,rfl⟩;have hl:D.length<=5:=by rw[<- hD];exact ut code hc
 have h3:=sz D;have HI:Hid (∀ x,Below w.heap.size w x->Calls Tryz.prog 17 #[.int .i64 code] x λ e w'=>e=.returned (.string ⟨D.toArray⟩)/\Below x.heap.size x w'):=by intro x hx;rw[<- hD];exact fX code x (by omega) (hT.below hx)
 rw[hD];clear hD hT;go_enter Tryz.func55,Tryz.ntmps55;go_wp2_with (go_at_call 17;refine (HI.out _ (by first|exact Below.refl _ _|exact (Below.refl _ _).drew)).mono ?_;rintro e w1 ⟨rfl,A0⟩);go_ret;refine⟨aM ?_,A0⟩;apply ByteArray.ext;simp[ByteArray.data_append]
def dH (l:List Itm)(after best:List UInt8)(v:Itm):List UInt8 :=
 if Op.bytesLess after v.key&&(best.isEmpty||Op.bytesLess v.key best)&&(bg v.key l).isSome then v.key else best
def ij (l:List Itm)(after:List UInt8):List UInt8:=l.foldl (dH l after) []
theorem sw (l m:List Itm)(after:List UInt8)(k:Nat)(v:Itm)(h:m[k]?=some v):(m.take (k+1)).foldl (dH l after) []=dH l after ((m.take k).foldl (dH l after) []) v:=by
 rw[List.take_add_one,h];simp[List.foldl_append]
theorem xy (a b:List UInt8):Op.bytesLess a b=(!Op.bytesLess b a&&!(b==a)):=by
 rw[fN,fN,bS b a];by_cases e:b=a
 ·subst e;rw[ci];simp
 ·rcases bz b a with h|h|h
  ·rw[h];rfl
  ·exact absurd (fE _ _ h) e
  ·rw[h];simp[e]
theorem lh (p t:Nat)(l:List Itm)(J:List UInt8)(vs:Value)(after:List UInt8)(w:World)(h:aC w p t l J vs) :
 Calls Tryz.prog 109 #[.pointer (some ⟨p,0,none⟩),.string ⟨after.toArray⟩] w λ e w'=>e=.returned (.string ⟨(ij l after).toArray⟩)/\w'=w:=by
 have h2:=h.c1;have hf:=h.few;obtain⟨a,c,A0,hI⟩:=h.itms;have HI:Hid (ig w a l):=hI;have HR:Hid (aC w p t l J vs):=h;subst A0;clear h hI;unfold ij;go_enter Tryz.func109,Tryz.ntmps109;go_wp2;go_loop [5,6] (λ n i=>∃ k:Nat,k<=l.length/\i=.int .i64 k/\n=.string ⟨((l.take k).foldl (dH l after) []).toArray⟩) (λ _ i=>l.length-(intOf i).toNat);case atStart=>exact⟨0,Nat.zero_le _,rfl,rfl⟩
 case round =>
  obtain⟨k,hk,rfl,rfl⟩:=hrel;by_cases hlt:k<l.length
  ·obtain⟨v,hv⟩:∃ v,l[k]?=some v:=⟨_,List.getElem?_eq_getElem hlt⟩;obtain⟨g,rfl,hg,i0,i1,_,_,_,i5⟩:=HI.out k v hv;have HC:Hid _:=sw l l after k v hv;clear hv;obtain⟨C,hC⟩:∃ C,(l.take k).foldl (dH l after) []=C:=⟨_,rfl⟩;rw[hC] at HC ⊢;clear hC;have HA:Hid (Op.bytesLess after v.key=(!Op.bytesLess v.key after&&!(v.key==after))):=xy _ _;obtain⟨S,hs⟩:∃ S,bg v.key l=S:=⟨_,rfl⟩;have HS:Hid (bg v.key l=S):=hs;clear hs;cases h1:Op.bytesLess v.key after;(all_goals by_cases h3:v.key=after);(all_goals cases h4:Op.bytesLess v.key C);(all_goals by_cases h5:C=[]);(all_goals cases S);(all_goals go_wp2_with (go_at_call 110;refine (bl p t l J _ v.key _ HR.out).mono ?_;rintro e w' ⟨rfl,rfl⟩;rw[HS.out];simp only[dR]));(all_goals refine⟨⟨k+1,by omega,by go_num,?_⟩,by simp[intOf];omega⟩);(all_goals (rw[HC.out];unfold dH;rw[HS.out,HA.out]));all_goals first|rfl|(simp_all;done)
  ·(have:k=l.length:=by omega);subst this;rw[List.take_length];go_wp2;go_ret;exact⟨rfl,rfl⟩
theorem aC.below {w x:World}{p t:Nat}{l:List Itm}{J:List UInt8}{vs:Value}(h:aC w p t l J vs)(hb:Below w.heap.size w x):aC x p t l J vs:=⟨(hb.block _ h.lt).trans h.blk,bT h.row hb,h.few⟩
theorem ta (l:List Itm)(after:List UInt8)(m:List Itm)(hm:∀ v∈m,v∈l):∀ b,(b=[]\/((bg b l).isSome/\∃ v∈l,v.key=b))->(m.foldl (dH l after) b=[]\/((bg (m.foldl (dH l after) b) l).isSome/\∃ v∈l,v.key=m.foldl (dH l after) b)):=by
 induction m with
 | nil=>exact λ b h=>h
 | cons a m ih =>
   intro b h;refine ih (λ v hv=>hm v (List.mem_cons_of_mem _ hv)) _ ?_;unfold dH;split
   ·rename_i hq;simp only[Bool.and_eq_true] at hq;exact Or.inr ⟨hq.2,a,hm a (List.mem_cons_self ..),rfl⟩
   ·exact h
theorem nh (l:List Itm)(after:List UInt8):ij l after=[]\/((bg (ij l after) l).isSome/\∃ v∈l,v.key=ij l after):=ta l after l (λ _ h=>h) [] (Or.inl rfl)
def i6 (l:List Itm)(k:List UInt8):List UInt8:=match bg k l with
 | none=>[]
 | some i=>match l[i]? with
   | none=>[]
   | some v=>v.body
structure Pg where
 out:List UInt8
 last:List UInt8
 k:List UInt8
def pgS (l:List Itm)(s:Pg):Pg:=if s.k=[] then s else ⟨s.out++s.k++[32]++cD (i6 l s.k)++[10],s.k,ij l s.k⟩
def pgF (l:List Itm)(after:List UInt8):Nat->Pg
 | 0=>⟨[],[],ij l after⟩
 | n+1=>pgS l (pgF l after n)
theorem xG (l:List Itm)(after:List UInt8)(n:Nat)(h:(pgF l after n).k=[]):∀ m,n<=m->pgF l after m=pgF l after n:=by
 intro m hm;induction m with
 | zero=>rw[Nat.le_zero.1 hm]
 | succ m ih =>
   by_cases e:n=m+1
   ·rw[e]
   ·rw[pgF,ih (by omega),pgS,if_pos h]
theorem pO (l:List Itm)(after:List UInt8)(n:Nat):(pgF l after n).k=[]\/((bg (pgF l after n).k l).isSome/\∃ v∈l,v.key=(pgF l after n).k):=by
 induction n with
 | zero=>exact nh l after
 | succ n ih =>
   rw[pgF,pgS];split
   ·exact ih
   ·exact nh l _
theorem z8 (l:List Itm)(after:List UInt8)(hl:∀ v∈l,v.key.length<=40)(n:Nat):(pgF l after n).out.length<=n*100/\(pgF l after n).k.length<=40/\(pgF l after n).last.length<=40:=by
 have hk:∀ n,(pgF l after n).k.length<=40:=by
  intro n;rcases pO l after n with h|⟨_,v,hv,he⟩
  ·rw[h];simp
  ·rw[<- he];exact hl v hv
 induction n with
 | zero=>exact⟨by simp[pgF],hk 0,by simp[pgF]⟩
 | succ n ih =>
   refine⟨?_,hk _,?_⟩
   ·rw[pgF,pgS];split
    ·have:=ih.1;omega
    ·have:=ih.1;have:=ih.2.1;simp[cn];omega
   ·rw[pgF,pgS];split
    ·exact ih.2.2
    ·exact ih.2.1
def iZ (l:List Itm)(after:List UInt8):List UInt8 :=
 let s:=pgF l after 50
 ap 200 (if s.k=[] then [] else [⟨[77,111,114,101],s.last⟩]) s.out
theorem zh {l:List Itm}{k:List UInt8}(h:(bg k l).isSome):∃ i v,bg k l=some i/\l[i]?=some v/\i6 l k=v.body:=by
 obtain⟨i,hi⟩:=Option.isSome_iff_exists.1 h;have A0:=hi;unfold bg at A0;split at A0
 ·simp at A0
 ·rename_i j hj;split at A0
  ·simp at A0
  ·rename_i v hv;split at A0
   ·simp at A0
   ·simp at A0;subst A0;exact⟨j,v,hi,hv,by unfold i6;rw[hi];simp only[hv]⟩
theorem pY (p t:Nat)(l:List Itm)(J:List UInt8)(vs:Value)(after:List UInt8)(w:World)(h:aC w p t l J vs)(hT:Tab w)(hl:∀ v∈l,v.key.length<=40/\v.body.length<1000000) :
 Calls Tryz.prog 56 #[.pointer (some ⟨p,0,none⟩),.string ⟨after.toArray⟩] w λ e w'=>e=.returned (.string ⟨(iZ l after).toArray⟩)/\Below w.heap.size w w':=by
 have HR:Hid (∀ x,Below w.heap.size w x->aC x p t l J vs):=λ x hx=>h.below hx;have HT:Hid (∀ x,Below w.heap.size w x->Tab x):=λ x hx=>hT.below hx;have HL:Hid _:=hl;have hB:Hid (Below w.heap.size w w):=Below.refl _ _;clear h hT hl;go_enter Tryz.func56,Tryz.ntmps56;go_wp2_with (go_at_call 109;refine (lh p t l J _ after _ (HR.out _ hB.out)).mono ?_;rintro e w' ⟨rfl,rfl⟩);go_loopw [5,6,7,8] (λ o la k n wx=>∃ m:Nat,m<=50/\n=.int .i64 m/\o=.string ⟨(pgF l after m).out.toArray⟩/\la=.string ⟨(pgF l after m).last.toArray⟩/\k=.string ⟨(pgF l after m).k.toArray⟩/\Hid (Below w'.heap.size w' wx)) (λ _ _ _ n _=>50-(intOf n).toNat);case atStart=>exact⟨0,Nat.zero_le _,rfl,rfl,rfl,rfl,Below.refl _ _⟩
 case round =>
  obtain⟨m,hm,rfl,rfl,rfl,rfl,A0⟩:=hrel;rename_i wx;have HN:Hid (pgF l after (m+1)=pgS l (pgF l after m)):=rfl;have HZ:Hid (m=50\/(pgF l after m).k=[]->pgF l after 50=pgF l after m):=by
   rintro (rfl|e)
   ·rfl
   ·exact xG l after m e 50 hm
  have A2:=z8 l after (λ v hv=>(HL.out v hv).1) m;have HG:Hid _:=pO l after m;obtain⟨S,hS⟩:∃ S,pgF l after m=S:=⟨_,rfl⟩;rw[hS] at HN HZ A2 HG ⊢;clear hS;obtain⟨out,last,k⟩:=S;obtain⟨l1,l2,l3⟩:=A2;simp only at l1 l2 l3 HG HZ ⊢;have s1:=sz out;have s2:=sz last;have s3:=sz k;by_cases hk:k=[]
  ·subst hk;(have HF:Hid (iZ l after=Lib.decDigits 200++[13,10]++[]++[13,10]++out):=by show _=_;unfold iZ;rw[HZ.out (Or.inr rfl)];simp[ap]);clear HZ HG HN;have HP:Hid _:=ay 200 [] out;go_wp2_with (go_at_call 55;refine (HP.out _ (HT.out _ A0.out) (by omega) (by simp) (by omega)).mono ?_;rintro e w2 ⟨rfl,A1⟩);(all_goals go_ret);all_goals exact⟨aM (by rw[HF.out];simp),A0.out.trans (A1.mono A0.out.size)⟩
  ·(have Ae:k.isEmpty=false:=by simpa using hk);have Ac:(k=[])=False:=eq_false hk;by_cases h50:m=50
   ·(have HF:Hid (iZ l after=Lib.decDigits 200++[13,10]++au ⟨[77,111,114,101],last⟩++[13,10]++out):=by show _=_;unfold iZ;rw[HZ.out (Or.inl h50)];simp[ap,hk]);have A7:Hid _:=bp [77,111,114,101] last;(have A9:(au ⟨[77,111,114,101],last⟩).length<=50:=by simp[au];omega);obtain⟨ft,A6⟩:∃ ft,au ⟨[77,111,114,101],last⟩=ft:=⟨_,rfl⟩;rw[A6] at A7 HF A9;subst h50;clear A6 HZ HG HN;have HP:Hid _:=ay 200 ft out;go_wp2_with (first
     | (go_at_call 112;refine (A7.out _ (by simp) (by omega)).mono ?_;rintro e w1 ⟨rfl,rfl⟩)
     | (go_at_call_of 55 (Value.string ⟨ft.toArray⟩);refine (HP.out _ (HT.out _ A0.out) (by omega) (by omega) (by omega)).mono ?_;rintro e w2 ⟨rfl,A1⟩)
     | (exfalso;simp_all;done))
    (all_goals go_ret);all_goals exact⟨aM (by rw[HF.out];simp),A0.out.trans (A1.mono A0.out.size)⟩
   ·obtain⟨i,v,hi,hv,A8⟩:=zh ((HG.out.resolve_left hk).1);have A4:=HL.out v (List.mem_of_getElem? hv);obtain⟨a,c,Aa,hI⟩:=(HR.out _ A0.out).itms;have Ad:i<l.length:=(List.getElem?_eq_some_iff.1 hv).1;have Ab:=(HR.out _ A0.out).few;have h2:=(HR.out _ A0.out).c1;obtain⟨g,rfl,hg,i0,i1,_,_,i4,i5⟩:=hI i v hv;subst Aa;have HS:Hid (bg k l=some i):=hi;have hq:=cn v.body;have HQ:Hid (∀ x,Calls Tryz.prog 111 #[.string ⟨v.body.toArray⟩] x λ e w'=>e=.returned (.string ⟨(cD v.body).toArray⟩)/\Below x.heap.size x w'):=λ x=>dG v.body x A4.2;(have A3:Hid (pgF l after (m+1)=⟨out++k++[32]++cD v.body++[10],k,ij l k⟩):=by show _=_;rw[HN.out,pgS,if_neg hk];simp only[A8]);obtain⟨q,A5⟩:∃ q,cD v.body=q:=⟨_,rfl⟩;rw[A5] at hq HQ A3;have s4:=sz q;clear A5 HN HZ HG hI hv hi A8 A4;go_wp2_with (first
     | (go_at_call 110;refine (bl p t l J _ k _ (HR.out _ A0.out)).mono ?_;rintro e w1 ⟨rfl,rfl⟩;rw[HS.out];simp only[dR])
     | (go_at_call 111;refine (HQ.out _).mono ?_;rintro e w2 ⟨rfl,A1⟩)
     | (go_at_call 109;refine (lh p t l J _ k _ (HR.out _ (A0.out.trans (A1.mono A0.out.size)))).mono ?_;rintro e w3 ⟨rfl,rfl⟩))
    ·refine⟨⟨m+1,by omega,by go_num,?_,?_,?_,A0.out.trans (A1.mono A0.out.size)⟩,by simp[intOf];omega⟩
     ·rw[A3.out];exact congrArg Value.string (by apply ByteArray.ext;simp[ByteArray.data_append])
     ·rw[A3.out]
     ·rw[A3.out]
    all_goals (exfalso;simp_all;done)
end Go.Proofs.YtmehkneofinmiaaGreatDoor

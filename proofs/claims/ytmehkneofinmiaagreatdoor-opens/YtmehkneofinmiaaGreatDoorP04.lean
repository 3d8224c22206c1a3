/-part 4-/
import Derived.Test.YtmehkneofinmiaaGreatDoorP03
import Derived.Deep.Heap
set_option maxHeartbeats 1000000
namespace Go.Proofs.YtmehkneofinmiaaGreatDoor
open Go.RowKit
structure Cst where
 hm:Bool
 am:Bool
 lm:Value
 hn:Bool
 an:Bool
 ln:Value
 hs:Bool
 si:Int
 hu:Bool
 ul:Int
 s0:Bool
 s1:Bool
 s2:Bool
 s3:Bool
def Cst.cell (c:Cst):Nat->Value
 | 1=>.bool c.hm
 | 2=>.bool c.am
 | 3=>c.lm
 | 4=>.bool c.hn
 | 5=>.bool c.an
 | 6=>c.ln
 | 7=>.bool c.hs
 | 8=>.int .i64 c.si
 | 9=>.bool c.hu
 | 10=>.int .i64 c.ul
 | 12=>.string ⟨#[]⟩
 | 13=>.int .i64 0
 | 14=>.bool c.s0
 | 15=>.bool c.s1
 | 16=>.bool c.s2
 | 17=>.bool c.s3
 | _=>.bool false
structure Cm (x:World)(g:Nat)(c:Cst):Prop where
 c:∀ i,i<18->x.cell? ⟨g,i,none⟩=some (c.cell i)
 f:∀ i,i<18->x.frozen? ⟨g,i,none⟩=false
theorem Cm.lt {x:World}{g:Nat}{c:Cst}(h:Cm x g c):g<x.heap.size:=World.block_lt_of_cell? _ _ (h.c 0 (by omega))
theorem Cm.below {x y:World}{g:Nat}{c:Cst}(h:Cm x g c)(hb:Below x.heap.size x y):Cm y g c :=
 ⟨λ i hi=>(hb.cell (p:=⟨g,i,none⟩) h.lt).trans (h.c i hi),λ i hi=>(hb.frozen (p:=⟨g,i,none⟩) h.lt).trans (h.f i hi)⟩
theorem Cm.set {x:World}{g:Nat}{c d:Cst}(h:Cm x g c)(i:Nat)(v:Value)(hi:i<18)(hv:d.cell i=v)(hd:∀ j,j<18->j≠i->d.cell j=c.cell j):Cm (x.setCell ⟨g,i,none⟩ v) g d:=by
 refine⟨λ j hj=>?_,λ j hj=>?_⟩
 ·by_cases e:j=i
  ·subst e;rw[World.cell?_setCell_same _ _ _ (h.c j hj),hv]
  ·rw[World.cell?_setCell_other _ _ _ _ (by intro q;injection q;omega),h.c j hj,hd j hj e]
 ·rw[World.frozen?_setCell];exact h.f j hj
theorem j18 {j:Nat}(h:j<18):j=0\/j=1\/j=2\/j=3\/j=4\/j=5\/j=6\/j=7\/j=8\/j=9\/j=10\/j=11\/j=12\/j=13\/j=14\/j=15\/j=16\/j=17:=by omega
theorem uR (c:Cst)(x:Bool)(j:Nat)(hj:j<18)(hne:j≠1):({ c with hm:=x }:Cst).cell j=c.cell j:=by
 rcases (j18 hj) with rfl|rfl|rfl|rfl|rfl|rfl|rfl|rfl|rfl|rfl|rfl|rfl|rfl|rfl|rfl|rfl|rfl|rfl<;>first|rfl|exact absurd rfl hne
theorem t6 (c:Cst)(x:Bool)(j:Nat)(hj:j<18)(hne:j≠2):({ c with am:=x }:Cst).cell j=c.cell j:=by
 rcases (j18 hj) with rfl|rfl|rfl|rfl|rfl|rfl|rfl|rfl|rfl|rfl|rfl|rfl|rfl|rfl|rfl|rfl|rfl|rfl<;>first|rfl|exact absurd rfl hne
theorem uj (c:Cst)(x:Value)(j:Nat)(hj:j<18)(hne:j≠3):({ c with lm:=x }:Cst).cell j=c.cell j:=by
 rcases (j18 hj) with rfl|rfl|rfl|rfl|rfl|rfl|rfl|rfl|rfl|rfl|rfl|rfl|rfl|rfl|rfl|rfl|rfl|rfl<;>first|rfl|exact absurd rfl hne
theorem tZ (c:Cst)(x:Bool)(j:Nat)(hj:j<18)(hne:j≠4):({ c with hn:=x }:Cst).cell j=c.cell j:=by
 rcases (j18 hj) with rfl|rfl|rfl|rfl|rfl|rfl|rfl|rfl|rfl|rfl|rfl|rfl|rfl|rfl|rfl|rfl|rfl|rfl<;>first|rfl|exact absurd rfl hne
theorem um (c:Cst)(x:Bool)(j:Nat)(hj:j<18)(hne:j≠5):({ c with an:=x }:Cst).cell j=c.cell j:=by
 rcases (j18 hj) with rfl|rfl|rfl|rfl|rfl|rfl|rfl|rfl|rfl|rfl|rfl|rfl|rfl|rfl|rfl|rfl|rfl|rfl<;>first|rfl|exact absurd rfl hne
theorem uo (c:Cst)(x:Value)(j:Nat)(hj:j<18)(hne:j≠6):({ c with ln:=x }:Cst).cell j=c.cell j:=by
 rcases (j18 hj) with rfl|rfl|rfl|rfl|rfl|rfl|rfl|rfl|rfl|rfl|rfl|rfl|rfl|rfl|rfl|rfl|rfl|rfl<;>first|rfl|exact absurd rfl hne
theorem tW (c:Cst)(x:Bool)(j:Nat)(hj:j<18)(hne:j≠7):({ c with hs:=x }:Cst).cell j=c.cell j:=by
 rcases (j18 hj) with rfl|rfl|rfl|rfl|rfl|rfl|rfl|rfl|rfl|rfl|rfl|rfl|rfl|rfl|rfl|rfl|rfl|rfl<;>first|rfl|exact absurd rfl hne
theorem ui (c:Cst)(x:Int)(j:Nat)(hj:j<18)(hne:j≠8):({ c with si:=x }:Cst).cell j=c.cell j:=by
 rcases (j18 hj) with rfl|rfl|rfl|rfl|rfl|rfl|rfl|rfl|rfl|rfl|rfl|rfl|rfl|rfl|rfl|rfl|rfl|rfl<;>first|rfl|exact absurd rfl hne
theorem ux (c:Cst)(x:Bool)(j:Nat)(hj:j<18)(hne:j≠9):({ c with hu:=x }:Cst).cell j=c.cell j:=by
 rcases (j18 hj) with rfl|rfl|rfl|rfl|rfl|rfl|rfl|rfl|rfl|rfl|rfl|rfl|rfl|rfl|rfl|rfl|rfl|rfl<;>first|rfl|exact absurd rfl hne
theorem uO (c:Cst)(x:Int)(j:Nat)(hj:j<18)(hne:j≠10):({ c with ul:=x }:Cst).cell j=c.cell j:=by
 rcases (j18 hj) with rfl|rfl|rfl|rfl|rfl|rfl|rfl|rfl|rfl|rfl|rfl|rfl|rfl|rfl|rfl|rfl|rfl|rfl<;>first|rfl|exact absurd rfl hne
theorem ue (c:Cst)(x:Bool)(j:Nat)(hj:j<18)(hne:j≠14):({ c with s0:=x }:Cst).cell j=c.cell j:=by
 rcases (j18 hj) with rfl|rfl|rfl|rfl|rfl|rfl|rfl|rfl|rfl|rfl|rfl|rfl|rfl|rfl|rfl|rfl|rfl|rfl<;>first|rfl|exact absurd rfl hne
theorem uI (c:Cst)(x:Bool)(j:Nat)(hj:j<18)(hne:j≠15):({ c with s1:=x }:Cst).cell j=c.cell j:=by
 rcases (j18 hj) with rfl|rfl|rfl|rfl|rfl|rfl|rfl|rfl|rfl|rfl|rfl|rfl|rfl|rfl|rfl|rfl|rfl|rfl<;>first|rfl|exact absurd rfl hne
theorem uE (c:Cst)(x:Bool)(j:Nat)(hj:j<18)(hne:j≠16):({ c with s2:=x }:Cst).cell j=c.cell j:=by
 rcases (j18 hj) with rfl|rfl|rfl|rfl|rfl|rfl|rfl|rfl|rfl|rfl|rfl|rfl|rfl|rfl|rfl|rfl|rfl|rfl<;>first|rfl|exact absurd rfl hne
theorem uw (c:Cst)(x:Bool)(j:Nat)(hj:j<18)(hne:j≠17):({ c with s3:=x }:Cst).cell j=c.cell j:=by
 rcases (j18 hj) with rfl|rfl|rfl|rfl|rfl|rfl|rfl|rfl|rfl|rfl|rfl|rfl|rfl|rfl|rfl|rfl|rfl|rfl<;>first|rfl|exact absurd rfl hne
structure Kp (g:Nat)(w x:World):Prop where
 b:Below g w x
 o:∀ k,k≠g->k<w.heap.size->x.heap[k]?=w.heap[k]?
theorem Kp.trans {g:Nat}{w x y:World}(h:Kp g w x)(h':Kp g x y):Kp g w y :=
 ⟨h.b.trans h'.b,λ k hk hl=>(h'.o k hk (Nat.lt_of_lt_of_le hl h.b.size)).trans (h.o k hk hl)⟩
theorem Kp.of_below {g:Nat}{w x:World}(hg:g<=w.heap.size)(h:Below w.heap.size w x):Kp g w x:=⟨h.mono hg,λ k _ hl=>h.block k hl⟩
theorem Kp.set {g:Nat}{w x:World}(h:Kp g w x)(i:Nat)(v:Value):Kp g w (x.setCell ⟨g,i,none⟩ v) :=
 ⟨h.b.setCell (Nat.le_refl _) _,λ k hk hl=>by
   rw[<- h.o k hk hl]
   exact Deep.blk_setCell_other x ⟨g,i,none⟩ v k (by show k≠g;omega)⟩
theorem As (g:Nat)(c:Cst)(w:World)(h:Cm w g c):Calls Tryz.prog 284 #[.pointer (some ⟨g,0,none⟩),.int .i64 0] w λ e w'=>e=.returned (.bool (!c.s0))/\w'=w.setCell ⟨g,14,none⟩ (.bool true):=by
 have c1:=h.c 14 (by omega);have f1:=h.f 14 (by omega);simp only[Cst.cell] at c1;go_enter Tryz.func284,Tryz.ntmps284;go_wp2;go_ret;exact⟨rfl,rfl⟩
theorem AN (g:Nat)(c:Cst)(w:World)(h:Cm w g c):Calls Tryz.prog 284 #[.pointer (some ⟨g,0,none⟩),.int .i64 1] w λ e w'=>e=.returned (.bool (!c.s1))/\w'=w.setCell ⟨g,15,none⟩ (.bool true):=by
 have c1:=h.c 15 (by omega);have f1:=h.f 15 (by omega);simp only[Cst.cell] at c1;go_enter Tryz.func284,Tryz.ntmps284;go_wp2;go_ret;exact⟨rfl,rfl⟩
theorem A7 (g:Nat)(c:Cst)(w:World)(h:Cm w g c):Calls Tryz.prog 284 #[.pointer (some ⟨g,0,none⟩),.int .i64 2] w λ e w'=>e=.returned (.bool (!c.s2))/\w'=w.setCell ⟨g,16,none⟩ (.bool true):=by
 have c1:=h.c 16 (by omega);have f1:=h.f 16 (by omega);simp only[Cst.cell] at c1;go_enter Tryz.func284,Tryz.ntmps284;go_wp2;go_ret;exact⟨rfl,rfl⟩
theorem Aq (g:Nat)(c:Cst)(w:World)(h:Cm w g c):Calls Tryz.prog 284 #[.pointer (some ⟨g,0,none⟩),.int .i64 3] w λ e w'=>e=.returned (.bool (!c.s3))/\w'=w.setCell ⟨g,17,none⟩ (.bool true):=by
 have c1:=h.c 17 (by omega);have f1:=h.f 17 (by omega);simp only[Cst.cell] at c1;go_enter Tryz.func284,Tryz.ntmps284;go_wp2;go_ret;exact⟨rfl,rfl⟩
def wJ (l:List UInt8):Bool×Bool×dz :=
 if l=[42] then (true,true,[]) else match ct (l.length+1) l with
  | none=>(false,false,[])
  | some a=>(false,true,a)
def aT (value:List UInt8):Bool×Bool×dz:=wJ (Lib.trimS value [32,9])
theorem jN (l:List UInt8):(Lib.trimS l [32,9]).length<=l.length:=by
 unfold Lib.trimS Lib.trimLeftS Lib.trimRightS;have h1:=(List.dropWhile_suffix (λ c=>[32,9].contains c) (l:=(l.reverse.dropWhile λ c=>[32,9].contains c).reverse)).length_le;have h2:=(List.dropWhile_suffix (λ c=>[32,9].contains c) (l:=l.reverse)).length_le;rw[List.length_reverse] at h1 h2;omega
theorem yh (value:List UInt8)(w:World)(hM:bP w)(hs:value.length<=67108864) :
 Calls Tryz.prog 283 #[.string ⟨value.toArray⟩] w λ e w'=>Below w.heap.size w w'/\∃ o cp,e=.returned (.tuple #[.agg #[.bool (aT value).1,.slice o (aT value).2.2.length cp],.bool (aT value).2.1])/\w'.ownsRow (w.heap.size+1) 303 2 (.slice o (aT value).2.2.length cp) (aT value).2.2.length (bW (aT value).2.2):=by
 have hz:(⟨value.toArray⟩:ByteArray).size=value.length:=by rw[Lib.size_eq]
 refine (xl ⟨value.toArray⟩ (Lib.trimS value [32,9]) w hM rfl (by rw[hz];exact hs) (by rw[hz];exact jN _)).mono ?_;unfold aT wJ;generalize Lib.trimS value [32,9]=l;rintro e w' ⟨hb,⟨hl,rfl⟩|⟨hl,⟨hn,rfl⟩|⟨a,v,ha,rfl,ho⟩⟩⟩
 ·rw[if_pos hl];exact⟨hb,none,0,rfl,rfl,Or.inl ⟨rfl,rfl⟩⟩
 ·rw[if_neg hl,hn];exact⟨hb,none,0,rfl,rfl,Or.inl ⟨rfl,rfl⟩⟩
 ·rw[if_neg hl,ha];rcases ho.2 with ⟨rfl,h0⟩|⟨g,A0,A1,rfl,r⟩
  ·have:a=[]:=List.eq_nil_of_length_eq_zero h0;subst this;exact⟨hb,none,0,rfl,ho⟩
  ·exact⟨hb,some ⟨g,0,none⟩,A0,rfl,ho⟩
def d8:List UInt8:=[105,102,45,109,97,116,99,104]
def fm:List UInt8:=[105,102,45,110,111,110,101,45,109,97,116,99,104]
def dV:List UInt8:=[105,102,45,109,111,100,105,102,105,101,100,45,115,105,110,99,101]
def cZ:List UInt8:=[105,102,45,117,110,109,111,100,105,102,105,101,100,45,115,105,110,99,101]
theorem fT (name:List UInt8)(w:World)(hs:name.length<=140737488355328)(ha:∀ (j:Nat) (b:UInt8),name[j]?=some b->b.toNat<128) :
 Calls Tryz.prog 282 #[.string ⟨name.toArray⟩] w λ e w'=>e=.returned (.string ⟨(Lib.toLowerA name).toArray⟩)/\Below w.heap.size w w' :=
 Tryz.strings_ToLower_ascii ⟨name.toArray⟩ w (by rw[Lib.size_eq];simpa using hs) (by simpa using ha)
theorem er {w:World}{base base':Nat}{e:TypeId}{size:Nat}{v:Value}{n:Nat}{xs:List Value}(h:w.ownsRow base e size v n xs)(hb:base'<=base):w.ownsRow base' e size v n xs :=
 ⟨h.1,h.2.imp id λ ⟨g,cap,cur,hv,hg,r⟩=>⟨g,cap,cur,hv,Nat.le_trans hb hg,r⟩⟩
theorem tD (g:Nat)(c:Cst)(name value:List UInt8)(w:World)(hM:bP w)(hC:Cm w g c)(hn:name.length<=140737488355328)(ha:∀ (j:Nat) (b:UInt8),name[j]?=some b->b.toNat<128)(hl:Lib.toLowerA name=d8)(hv:value.length<=67108864) :
 Calls Tryz.prog 241 #[.pointer (some ⟨g,0,none⟩),.string ⟨name.toArray⟩,.string ⟨value.toArray⟩] w λ e w'=>e=.returned (.bool (!c.s0&&(aT value).2.1))/\Kp g w w'/\∃ o cp,
  Cm w' g { c with hm:=(aT value).2.1,am:=(aT value).1,lm:=.slice o (aT value).2.2.length cp,s0:=true }/\w'.ownsRow (w.heap.size+1) 303 2 (.slice o (aT value).2.2.length cp) (aT value).2.2.length (bW (aT value).2.2):=by
 have Ac:=hC.lt;go_enter Tryz.func241,Tryz.ntmps241;go_wp2_with fail;refine (fT name _ hn ha).mono ?_;rintro e w1 ⟨rfl,A3⟩;rw[hl];unfold d8;have k1:=Kp.of_below (Nat.le_of_lt Ac) A3;have A6:=hC.below A3;have Ab:=hM.below A3;have Ad:=A3.size;clear hl ha A3;go_wp2_with fail;refine (yh value _ Ab hv).mono ?_;obtain⟨⟨A1,A0,a⟩,hT⟩:∃ t,aT value=t:=⟨_,rfl⟩;rw[hT];simp only;rintro e w2 ⟨A7,o,cp,rfl,A9⟩;have k2:=k1.trans (Kp.of_below (Nat.le_of_lt A6.lt) A7);have A2:=A6.below A7;have c1:=A2.c 1 (by omega);have c2:=A2.c 2 (by omega);have c3:=A2.c 3 (by omega);have f1:=A2.f 1 (by omega);have f2:=A2.f 2 (by omega);have f3:=A2.f 3 (by omega);simp only[Cst.cell] at c1 c2 c3;clear A7 k1 A6 Ab;have A5:Cm (((w2.setCell ⟨g,2,none⟩ (.bool A1)).setCell ⟨g,3,none⟩ (.slice o a.length cp)).setCell ⟨g,1,none⟩ (.bool A0)) g { c with hm:=A0,am:=A1,lm:=.slice o a.length cp }:=by have s1:Cm (w2.setCell ⟨g,2,none⟩ (.bool A1)) g { c with am:=A1 }:=A2.set 2 _ (by omega) rfl (t6 c A1);have s2:Cm ((w2.setCell ⟨g,2,none⟩ (.bool A1)).setCell ⟨g,3,none⟩ (.slice o a.length cp)) g { c with am:=A1,lm:=.slice o a.length cp }:=s1.set 3 _ (by omega) rfl (uj { c with am:=A1 } (.slice o a.length cp));exact s2.set 1 _ (by omega) rfl (uR { c with am:=A1,lm:=.slice o a.length cp } A0)
 have k3:=((k2.set 2 (.bool A1)).set 3 (.slice o a.length cp)).set 1 (.bool A0);go_wp2_with fail;refine (As g _ _ A5).mono ?_;rintro e w3 ⟨rfl,A4⟩;have A8:Cm w3 g { c with hm:=A0,am:=A1,lm:=.slice o a.length cp,s0:=true }:=by rw[A4];exact A5.set 14 _ (by omega) rfl (ue { c with hm:=A0,am:=A1,lm:=.slice o a.length cp } true)
 have k4:Kp g w w3:=by rw[A4];exact k3.set 14 _
 have Aa:w3.ownsRow (w.heap.size+1) 303 2 (.slice o a.length cp) a.length (bW a):=by rw[A4];exact er (aZ (aZ (aZ (aZ A9 (by show g<_;omega)) (by show g<_;omega)) (by show g<_;omega)) (by show g<_;omega)) (by omega)
 have c4:=A8.c 1 (by omega);simp only[Cst.cell] at c4;clear A4 A5 k3 A2 k2 A9 c1 c2 c3 f1 f2 f3;cases hs0:c.s0 with
 | true =>go_wp2;go_ret;rw[hT];exact⟨aw (by rw[hs0];rfl),k4,o,cp,A8,Aa⟩
 | false =>go_wp2;go_ret;rw[hT];exact⟨aw (by rw[hs0];simp),k4,o,cp,A8,Aa⟩
theorem wf (g:Nat)(c:Cst)(name value:List UInt8)(w:World)(hM:bP w)(hC:Cm w g c)(hn:name.length<=140737488355328)(ha:∀ (j:Nat) (b:UInt8),name[j]?=some b->b.toNat<128)(hl:Lib.toLowerA name=fm)(hv:value.length<=67108864) :
 Calls Tryz.prog 241 #[.pointer (some ⟨g,0,none⟩),.string ⟨name.toArray⟩,.string ⟨value.toArray⟩] w λ e w'=>e=.returned (.bool (!c.s1&&(aT value).2.1))/\Kp g w w'/\∃ o cp,
  Cm w' g { c with hn:=(aT value).2.1,an:=(aT value).1,ln:=.slice o (aT value).2.2.length cp,s1:=true }/\w'.ownsRow (w.heap.size+1) 303 2 (.slice o (aT value).2.2.length cp) (aT value).2.2.length (bW (aT value).2.2):=by
 have Ac:=hC.lt;go_enter Tryz.func241,Tryz.ntmps241;go_wp2_with fail;refine (fT name _ hn ha).mono ?_;rintro e w1 ⟨rfl,A3⟩;rw[hl];unfold fm;have k1:=Kp.of_below (Nat.le_of_lt Ac) A3;have A6:=hC.below A3;have Ab:=hM.below A3;have Ad:=A3.size;clear hl ha A3;go_wp2_with fail;refine (yh value _ Ab hv).mono ?_;obtain⟨⟨A1,A0,a⟩,hT⟩:∃ t,aT value=t:=⟨_,rfl⟩;rw[hT];simp only;rintro e w2 ⟨A7,o,cp,rfl,A9⟩;have k2:=k1.trans (Kp.of_below (Nat.le_of_lt A6.lt) A7);have A2:=A6.below A7;have c1:=A2.c 4 (by omega);have c2:=A2.c 5 (by omega);have c3:=A2.c 6 (by omega);have f1:=A2.f 4 (by omega);have f2:=A2.f 5 (by omega);have f3:=A2.f 6 (by omega);simp only[Cst.cell] at c1 c2 c3;clear A7 k1 A6 Ab;have A5:Cm (((w2.setCell ⟨g,5,none⟩ (.bool A1)).setCell ⟨g,6,none⟩ (.slice o a.length cp)).setCell ⟨g,4,none⟩ (.bool A0)) g { c with hn:=A0,an:=A1,ln:=.slice o a.length cp }:=by have s1:Cm (w2.setCell ⟨g,5,none⟩ (.bool A1)) g { c with an:=A1 }:=A2.set 5 _ (by omega) rfl (um c A1);have s2:Cm ((w2.setCell ⟨g,5,none⟩ (.bool A1)).setCell ⟨g,6,none⟩ (.slice o a.length cp)) g { c with an:=A1,ln:=.slice o a.length cp }:=s1.set 6 _ (by omega) rfl (uo { c with an:=A1 } (.slice o a.length cp));exact s2.set 4 _ (by omega) rfl (tZ { c with an:=A1,ln:=.slice o a.length cp } A0)
 have k3:=((k2.set 5 (.bool A1)).set 6 (.slice o a.length cp)).set 4 (.bool A0);go_wp2_with fail;refine (AN g _ _ A5).mono ?_;rintro e w3 ⟨rfl,A4⟩;have A8:Cm w3 g { c with hn:=A0,an:=A1,ln:=.slice o a.length cp,s1:=true }:=by rw[A4];exact A5.set 15 _ (by omega) rfl (uI { c with hn:=A0,an:=A1,ln:=.slice o a.length cp } true)
 have k4:Kp g w w3:=by rw[A4];exact k3.set 15 _
 have Aa:w3.ownsRow (w.heap.size+1) 303 2 (.slice o a.length cp) a.length (bW a):=by rw[A4];exact er (aZ (aZ (aZ (aZ A9 (by show g<_;omega)) (by show g<_;omega)) (by show g<_;omega)) (by show g<_;omega)) (by omega)
 have c4:=A8.c 4 (by omega);simp only[Cst.cell] at c4;clear A4 A5 k3 A2 k2 A9 c1 c2 c3 f1 f2 f3;cases hs1:c.s1 with
 | true =>go_wp2;go_ret;rw[hT];exact⟨aw (by rw[hs1];rfl),k4,o,cp,A8,Aa⟩
 | false =>go_wp2;go_ret;rw[hT];exact⟨aw (by rw[hs1];simp),k4,o,cp,A8,Aa⟩
theorem rW (g:Nat)(name value:List UInt8)(w:World)(hn:name.length<=140737488355328)(ha:∀ (j:Nat) (b:UInt8),name[j]?=some b->b.toNat<128)
 (h1:Lib.toLowerA name≠d8)(h2:Lib.toLowerA name≠fm)(h3:Lib.toLowerA name≠dV)(h4:Lib.toLowerA name≠cZ) :
 Calls Tryz.prog 241 #[.pointer (some ⟨g,0,none⟩),.string ⟨name.toArray⟩,.string ⟨value.toArray⟩] w λ e w'=>e=.returned (.bool true)/\Below w.heap.size w w':=by
 go_enter Tryz.func241,Tryz.ntmps241;go_wp2_with fail;refine (fT name _ hn ha).mono ?_;rintro e w1 ⟨rfl,A0⟩;obtain⟨L,hL⟩:∃ L,Lib.toLowerA name=L:=⟨_,rfl⟩;rw[hL] at h1 h2 h3 h4 ⊢;unfold d8 at h1;unfold fm at h2;unfold dV at h3;unfold cZ at h4;have b1:=beq_false_of_ne h1;have b2:=beq_false_of_ne h2;have b3:=beq_false_of_ne h3;have b4:=beq_false_of_ne h4;clear h1 h2 h3 h4 ha;go_wp2;go_ret;exact⟨rfl,A0⟩
theorem xS {a b:Int}{c:Bool}(h:a=b):Ending.returned (.tuple #[.int .i64 a,.bool c])=.returned (.tuple #[.int .i64 b,.bool c]):=by rw[h]
theorem Bi (d:Int)(h:0<=d):Cal.ahead (1970+d/366)<=d:=by unfold Cal.ahead Cal.lya;omega
theorem gW (y:Int)(h0:1970<=y)(h1:y<=10000):0<=Cal.ahead y/\Cal.ahead y<=2932897:=by
 have a:=Cal.ahead_mono h0;have b:=Cal.ahead_mono h1;rw[Cal.ahead_1970] at a;rw[Cal.ahead_10000] at b;exact⟨a,b⟩
theorem na (y:Int)(m:Nat)(h:m<=12):0<=Cal.cum y m/\Cal.cum y m<=366:=by
 have a:=Cal.cum_nonneg y m;have b:=Cal.cum_le y h;rw[Cal.cum_12] at b;have c:=Cal.ylen_bd y;omega
theorem vu (d:Int)(w:World)(h0:0<=d)(h1:d<=2932896) :
 Calls Tryz.prog 48 #[.int .i64 d] w λ e w'=>(∃ (y:Int) (m:Nat) (k:Int),Cal.Sp d y m k/\e=.returned (.tuple #[.int .i64 y,.int .i64 m,.int .i64 (k+1)]))/\w'=w:=by
 have g:=Bi d h0;go_enter Tryz.func48,Tryz.ntmps48;go_wp2;go_loop [2] (λ t=>∃ y:Int,1970<=y/\y<=9999/\Cal.ahead y<=d/\t=.int .i64 y) (λ t=>(10000-intOf t).toNat);case atStart=>exact⟨_,by omega,by omega,g,rfl⟩
 case round =>
  obtain⟨y,A3,A4,A6,rfl⟩:=hrel;have ab:=gW y A3 (by omega);by_cases hc:Cal.ahead (y+1)<=d
  ·have hy:y+1<=9999:=by
    by_cases e:y=9999
    ·subst e;have:=Cal.ahead_10000;rw[show (9999:Int)+1=10000 by rfl] at hc;omega
    ·omega
   go_wp2_with (go_at_call 96;refine (kz _ _ (by omega) (by omega)).mono ?_;rintro e w' ⟨rfl,rfl⟩);go_round;(case rel=>exact⟨y+1,by omega,by omega,hc,rfl⟩);case measure=>simp[intOf];omega
  ·have A0:=Cal.ahead_succ y;have A2:=Cal.ylen_bd y;clear g;go_wp2_with (go_at_call 96;refine (kz _ _ (by omega) (by omega)).mono ?_;rintro e w' ⟨rfl,rfl⟩);go_loop [3,5] (λ mo r=>∃ m:Nat,m<12/\mo=.int .i64 m/\0<=d-Cal.ahead y-Cal.cum y m/\r=.int .i64 (d-Cal.ahead y-Cal.cum y m)) (λ mo _=>(12-intOf mo).toNat);(case atStart=>exact⟨0,by omega,rfl,by simp[Cal.cum];omega,by simp[Cal.cum]⟩);case round =>
    obtain⟨m,hm,rfl,hr,rfl⟩:=hrel;have mb:=Cal.ml_bd y m;have cb:=na y m (by omega);have cs:Hid (Cal.cum y (m+1)=Cal.cum y m+Cal.ml y m):=rfl;by_cases hl:Cal.ml y m<=d-Cal.ahead y-Cal.cum y m
    ·have A1:m+1<12:=by
      by_cases e:m=11
      ·subst e;have:=Cal.cum_12 y;have A5:Cal.cum y 12=Cal.cum y 11+Cal.ml y (11:Nat):=rfl;omega
      ·omega
     clear hc A0 A2;go_wp2_with (go_at_call 97;refine (dA _ _ _ (by omega) (by omega)).mono ?_;rintro e w' ⟨rfl,rfl⟩);go_round;(case rel=>exact⟨m+1,A1,by go_num,by rw[cs.out];omega,by rw[cs.out];go_num⟩);case measure=>simp[intOf];omega
    ·have sp:Cal.Sp d y m (d-Cal.ahead y-Cal.cum y m):=⟨A3,hm,hr,by omega,by omega⟩;clear hc A0 A2;go_wp2_with (go_at_call 97;refine (dA _ _ _ (by omega) (by omega)).mono ?_;rintro e w' ⟨rfl,rfl⟩);go_ret3;exact⟨⟨y,m,_,sp,rfl⟩,rfl⟩
theorem kT (s t:ByteArray)(n:Nat)(w:World)(hs:s.size=3*n)(hn:n<=12) :
 Calls Tryz.prog 338 #[.string s,.string t] w λ e w'=>((∃ i:Nat,i<n/\Cal.nm s.data.toList i=t.data.toList/\e=.returned (.tuple #[.int .i64 i,.bool true])) \/
  ((∀ i,i<n->Cal.nm s.data.toList i≠t.data.toList)/\e=.returned (.tuple #[.int .i64 0,.bool false])))/\w'=w:=by
 go_enter Tryz.func338,Tryz.ntmps338;go_wp2;go_loop [10] (λ i=>∃ k:Nat,k<=n/\i=.int .i64 k/\Hid (∀ j,j<k->Cal.nm s.data.toList j≠t.data.toList)) (λ i=>n-(intOf i).toNat);case atStart=>exact⟨0,Nat.zero_le _,rfl,λ j hj=>absurd hj (by omega)⟩
 case round =>
  obtain⟨k,hk,rfl,hh⟩:=hrel;by_cases hlt:k<n
  ·go_wp2_with (go_at_call 49;refine (jo _ _ _ (by omega) (by omega) (by omega)).mono ?_;rintro e w' ⟨rfl,rfl⟩)
   ·go_ret2;exact⟨Or.inl ⟨k,hlt,by have:=‹(_==_)=true›;simpa [Lib.toList_data] using this,rfl⟩,rfl⟩
   ·refine⟨⟨k+1,by omega,by go_num,λ j hj=>?_⟩,by simp[intOf];omega⟩;by_cases e:j=k
    ·subst e;have:=‹(_==_)=false›;simpa [Lib.toList_data] using this
    ·exact hh.out j (by omega)
  ·go_wp2;go_ret2;exact⟨Or.inr ⟨λ i hi=>hh.out i (by omega),rfl⟩,rfl⟩
def kK:ByteArray:=⟨#[74,97,110,70,101,98,77,97,114,65,112,114,77,97,121,74,117,110,74,117,108,65,117,103,83,101,112,79,99,116,78,111,118,68,101,99]⟩
theorem fQ:kK.data.toList=Cal.months:=rfl
theorem oy (t:ByteArray)(i:Nat)(w:World)(hi:i<12)(h:Cal.nm Cal.months i=t.data.toList) :
 Calls Tryz.prog 338 #[.string kK,.string t] w λ e w'=>e=.returned (.tuple #[.int .i64 i,.bool true])/\w'=w:=by
 refine (kT kK t 12 w rfl (by omega)).mono ?_;rintro e w' ⟨⟨j,hj,h',rfl⟩|⟨h',_⟩,rfl⟩
 ·rw[fQ] at h';have:=Cal.nm_months_inj ⟨i,hi⟩ ⟨j,hj⟩ (h.trans h'.symm);simp at this;subst this;exact⟨rfl,rfl⟩
 ·rw[fQ] at h';exact absurd h (h' i hi)
theorem xk (t:ByteArray)(w:World)(h:∀ i,i<12->Cal.nm Cal.months i≠t.data.toList) :
 Calls Tryz.prog 338 #[.string kK,.string t] w λ e w'=>e=.returned (.tuple #[.int .i64 0,.bool false])/\w'=w:=by
 refine (kT kK t 12 w rfl (by omega)).mono ?_;rintro e w' ⟨⟨j,hj,h',rfl⟩|⟨h',rfl⟩,rfl⟩
 ·exact absurd h' (h j hj)
 ·exact⟨rfl,rfl⟩
theorem wv (a b c:ByteArray)(w:World)(ha:a.size<=4)(hb:b.size<=4)(hc:c.size<=4)(h1:num a.data.toList<=23)(h2:num b.data.toList<=59)(h3:num c.data.toList<=59) :
 Calls Tryz.prog 318 #[.string a,.string b,.string c] w λ e w'=>e=.returned (.tuple #[.int .i64 (num a.data.toList*3600+num b.data.toList*60+num c.data.toList),.bool true])/\w'=w:=by
 have ba:=eO a.data.toList ha;have bb:=eO b.data.toList hb;have bc:=eO c.data.toList hc;go_enter Tryz.func318,Tryz.ntmps318;go_wp2_with fail;refine (aO _ _ ha).mono ?_;rintro e w1 ⟨rfl,rfl⟩;go_wp2_with fail;refine (aO _ _ hb).mono ?_;rintro e w1 ⟨rfl,rfl⟩;go_wp2_with fail;refine (aO _ _ hc).mono ?_;rintro e w1 ⟨rfl,rfl⟩;go_wp2;go_ret2;exact⟨rfl,rfl⟩
theorem xh (a b c:ByteArray)(w:World)(ha:a.size<=4)(hb:b.size<=4)(hc:c.size<=4)(h:¬ (num a.data.toList<=23/\num b.data.toList<=59/\num c.data.toList<=59)) :
 Calls Tryz.prog 318 #[.string a,.string b,.string c] w λ e w'=>e=.returned (.tuple #[.int .i64 0,.bool false])/\w'=w:=by
 have ba:=eO a.data.toList ha;have bb:=eO b.data.toList hb;have bc:=eO c.data.toList hc;go_enter Tryz.func318,Tryz.ntmps318;go_wp2_with fail;refine (aO _ _ ha).mono ?_;rintro e w1 ⟨rfl,rfl⟩;go_wp2_with fail;refine (aO _ _ hb).mono ?_;rintro e w1 ⟨rfl,rfl⟩;go_wp2_with fail;refine (aO _ _ hc).mono ?_;rintro e w1 ⟨rfl,rfl⟩;have HN:Hid _:=h;clear h;go_wp2;all_goals first|(exact absurd ⟨by omega,by omega,by omega⟩ HN.out)|(go_ret2;exact⟨rfl,rfl⟩)
def jx (c f:Int):Bool:=if f=63 then true else if f=48 then decide (48<=c)&&decide (c<=57) else c==f
theorem pi (c f:Int)(w:World) :
 Calls Tryz.prog 336 #[.int .u8 c,.int .u8 f] w λ e w'=>e=.returned (.bool (jx c f))/\w'=w:=by
 go_enter Tryz.func336,Tryz.ntmps336;go_wp2;all_goals go_ret
 all_goals refine⟨aw ?_,rfl⟩
 all_goals first|(simp_all [jx];done)|(simp_all [jx];omega)
theorem yS (a b c:ByteArray)(w:World)(i:Nat)(ha:a.size<=4)(hc:c.size<=4)(hi:i<12)(hm:Cal.nm Cal.months i=b.data.toList)(hy:1970<=num c.data.toList)(hy1:num c.data.toList<=9999)
 (hd:1<=num a.data.toList)(hd1:num a.data.toList<=Cal.ml (num c.data.toList) i) :
 Calls Tryz.prog 317 #[.string a,.string b,.string c] w λ e w'=>e=.returned (.tuple #[.int .i64 (Cal.ahead (num c.data.toList)+Cal.cum (num c.data.toList) i+(num a.data.toList-1)),.bool true])/\w'=w:=by
 have ba:=eO a.data.toList ha;have bm:=Cal.ml_bd (num c.data.toList) i;have bA:=gW (num c.data.toList) hy (by omega);have HM:Hid _:=hm;clear hm;go_enter Tryz.func317,Tryz.ntmps317;go_wp2_with fail;refine (aO _ _ hc).mono ?_;rintro e w1 ⟨rfl,rfl⟩;go_wp2_with fail;refine (aO _ _ ha).mono ?_;rintro e w1 ⟨rfl,rfl⟩;go_wp2_with fail;refine (oy _ i _ hi HM.out).mono ?_;rintro e w1 ⟨rfl,rfl⟩;go_wp2_with (first|(go_at_call 97;refine (dA _ _ _ (by omega) (by omega)).mono ?_;rintro e w' ⟨rfl,rfl⟩)|(go_at_call 96;refine (kz _ _ (by omega) (by omega)).mono ?_;rintro e w' ⟨rfl,rfl⟩));go_loop [12,46] (λ n t=>∃ k:Nat,k<=i/\t=.int .i64 k/\n=.int .i64 (Cal.ahead (num c.data.toList)+num a.data.toList-1+Cal.cum (num c.data.toList) k)) (λ _ t=>i-(intOf t).toNat);case atStart=>exact⟨0,Nat.zero_le _,rfl,by simp[Cal.cum]⟩
 case round =>
  obtain⟨k,hk,rfl,rfl⟩:=hrel;have cb:=na (num c.data.toList) k (by omega);by_cases hlt:k<i
  ·have mb:=Cal.ml_bd (num c.data.toList) k;have cs:Hid (Cal.cum (num c.data.toList) (k+1)=Cal.cum (num c.data.toList) k+Cal.ml (num c.data.toList) k):=rfl;go_wp2_with (go_at_call 97;refine (dA _ _ _ (by omega) (by omega)).mono ?_;rintro e w' ⟨rfl,rfl⟩);exact⟨⟨k+1,by omega,by go_num,by rw[cs.out];go_num⟩,by simp[intOf];omega⟩
  ·go_wp2;go_ret2;(obtain rfl:k=i:=by omega);exact⟨xS (by omega),rfl⟩
theorem AF (a b c:ByteArray)(w:World)(ha:a.size<=4)(hc:c.size<=4)(hy1:num c.data.toList<=9999)
 (h:¬ ∃ i,i<12/\Cal.nm Cal.months i=b.data.toList/\1970<=num c.data.toList/\1<=num a.data.toList/\num a.data.toList<=Cal.ml (num c.data.toList) i) :
 Calls Tryz.prog 317 #[.string a,.string b,.string c] w λ e w'=>e=.returned (.tuple #[.int .i64 0,.bool false])/\w'=w:=by
 have ba:=eO a.data.toList ha;have bc:=eO c.data.toList hc;by_cases hm:∃ i,i<12/\Cal.nm Cal.months i=b.data.toList
 ·obtain⟨i,hi,hm⟩:=hm;have HN:Hid (¬ (1970<=num c.data.toList/\1<=num a.data.toList/\num a.data.toList<=Cal.ml (num c.data.toList) i)):=λ k=>h ⟨i,hi,hm,k⟩;have HM:Hid _:=hm;clear hm h;go_enter Tryz.func317,Tryz.ntmps317;go_wp2_with fail;refine (aO _ _ hc).mono ?_;rintro e w1 ⟨rfl,rfl⟩;go_wp2_with fail;refine (aO _ _ ha).mono ?_;rintro e w1 ⟨rfl,rfl⟩;go_wp2_with fail;refine (oy _ i _ hi HM.out).mono ?_;rintro e w1 ⟨rfl,rfl⟩;by_cases h1:num c.data.toList<1970
  ·go_wp2;go_ret2;exact⟨rfl,rfl⟩
  by_cases h2:num a.data.toList<1
  ·go_wp2;go_ret2;exact⟨rfl,rfl⟩
  (have h3:Cal.ml (num c.data.toList) i<num a.data.toList:=by have:=HN.out;omega);have bm:=Cal.ml_bd (num c.data.toList) i;go_wp2_with (go_at_call 97;refine (dA _ _ _ (by omega) (by omega)).mono ?_;rintro e w' ⟨rfl,rfl⟩);go_ret2;exact⟨rfl,rfl⟩
 ·have HM:Hid (∀ i,i<12->Cal.nm Cal.months i≠b.data.toList):=λ i hi e=>hm ⟨i,hi,e⟩;clear hm h;go_enter Tryz.func317,Tryz.ntmps317;go_wp2_with fail;refine (aO _ _ hc).mono ?_;rintro e w1 ⟨rfl,rfl⟩;go_wp2_with fail;refine (aO _ _ ha).mono ?_;rintro e w1 ⟨rfl,rfl⟩;go_wp2_with fail;refine (xk _ _ HM.out).mono ?_;rintro e w1 ⟨rfl,rfl⟩;go_wp2;go_ret2;exact⟨rfl,rfl⟩
end Go.Proofs.YtmehkneofinmiaaGreatDoor

/-part 30-/
import Derived.Test.YtmehkneofinmiaaGreatDoorP29
set_option maxRecDepth 100000
set_option maxHeartbeats 2000000
namespace Go.Proofs.YtmehkneofinmiaaGreatDoor
def fx (h:Nat->Nat):Nat:=h 0+h 1*65536+h 2*4294967296+h 3*281474976710656
def pt:Nat->Nat
 | 0=>435
 | 2=>256
 | _=>0
theorem jS (q r b:Nat)(hr:r<256)(hb:b<256):(256*q+r) ^^^ b=256*q+(r ^^^ b):=by
 have hx:r ^^^ b<2 ^ 8:=Nat.xor_lt_two_pow (n:=8) hr hb;apply Nat.eq_of_testBit_eq;intro i;rw[show (256:Nat)=2 ^ 8 from rfl,Nat.testBit_xor,Nat.testBit_two_pow_mul_add _ (show r<2 ^ 8 from hr),Nat.testBit_two_pow_mul_add _ hx];split
 ·rw[Nat.testBit_xor]
 ·have:b.testBit i=false:=Nat.testBit_lt_two_pow (Nat.lt_of_lt_of_le hb (Nat.pow_le_pow_right (n:=2) (by decide) (show 8<=i by omega)));rw[this];simp
def nAt (h:Nat->Nat):Nat->Nat->Nat->Nat
 | 0,b,i=>if i<b then h 0*pt i else 0
 | a+1,b,i=>nAt h a (4-a) i+(if a+1<=i/\i-(a+1)<b then h (a+1)*pt (i-(a+1)) else 0)
theorem wS (h:Nat->Nat)(a b i:Nat):nAt h a (b+1) i=nAt h a b i+(if i=a+b then h a*pt b else 0):=by
 cases a with
 | zero =>
   simp only[nAt];by_cases e:i=0+b
   ·rw[if_pos e,if_pos (by omega),if_neg (by omega),show i=b by omega];simp
   ·rw[if_neg e];by_cases e2:i<b
    ·rw[if_pos e2,if_pos (by omega)];simp
    ·rw[if_neg e2,if_neg (by omega)]
 | succ a =>
   simp only[nAt];by_cases e:i=a+1+b
   ·rw[if_pos e,if_pos (by omega),if_neg (by omega),show i-(a+1)=b by omega];omega
   ·rw[if_neg e];by_cases e2:a+1<=i/\i-(a+1)<b
    ·rw[if_pos e2,if_pos (by omega)];simp
    ·rw[if_neg e2,if_neg (by omega)]
theorem p9 (h:Nat->Nat)(a b i:Nat)(hb:a+b=4):nAt h (a+1) 0 i=nAt h a b i:=by
 rw[nAt,show 4-a=b by omega,if_neg (by omega)];simp
theorem wi (h:Nat->Nat)(i:Nat):nAt h 0 0 i=0:=by rw[nAt,if_neg (by omega)]
theorem zk (h:Nat->Nat):nAt h 3 1 0=h 0*435/\nAt h 3 1 1=h 1*435/\nAt h 3 1 2=h 0*256+h 2*435/\nAt h 3 1 3=h 1*256+h 3*435:=by
 refine⟨?_,?_,?_,?_⟩<;>simp[nAt,pt]
theorem wN (h:Nat->Nat)(hh:∀ i,h i<65536)(a b i:Nat)(ha:a<4):nAt h a b i<=(a+1)*28507725:=by
 have hp:∀ (x j:Nat),h x*pt j<=28507725:=λ x j=>by have h1:=hh x;(have h2:pt j<=435:=by unfold pt;split<;>omega);have h3:h x*pt j<=65535*435:=Nat.mul_le_mul (by omega) h2;omega
 induction a generalizing b with
 | zero =>
   simp only[nAt];split
   ·have:=hp 0 i;omega
   ·omega
 | succ a ih =>
   have:=ih (4-a) (by omega);simp only[nAt];split
   ·have h4:=hp (a+1) (i-(a+1));rw[Nat.add_mul (a+1) 1,Nat.one_mul];exact Nat.add_le_add this h4
   ·rw[Nat.add_zero];exact Nat.le_trans this (Nat.mul_le_mul_right _ (by omega))
theorem Ac (h n g:Nat->Nat)(c1 c2 c3 c4:Nat)(hn0:n 0=h 0*435)(hn1:n 1=h 1*435)(hn2:n 2=h 0*256+h 2*435)(hn3:n 3=h 1*256+h 3*435)
 (e0:g 0+c1*65536=n 0)(e1:g 1+c2*65536=n 1+c1)(e2:g 2+c3*65536=n 2+c2)(e3:g 3+c4*65536=n 3+c3)(hg:∀ i,g i<65536) :
 fx g=fx h*1099511628211%18446744073709551616:=by
 have g0:=hg 0;have g1:=hg 1;have g2:=hg 2;have g3:=hg 3;unfold fx;omega
theorem xd (h:Nat->Nat)(hh:∀ i,h i<65536):bQ 16 (fx h)=bQ 4 (h 3)++(bQ 4 (h 2)++(bQ 4 (h 1)++bQ 4 (h 0))):=by
 have g0:=hh 0;have g1:=hh 1;have g2:=hh 2;have g3:=hh 3;have e:∀ u,bQ 4 u=bQ 0 (u/65536)++bQ 4 (u%65536):=gE 0;rw[show (16:Nat)=12+4 from rfl,gE 12,show (12:Nat)=8+4 from rfl,gE 8,show (8:Nat)=4+4 from rfl,gE 4];have v0:fx h%65536=h 0:=by unfold fx;omega
 have v1:fx h/65536%65536=h 1:=by unfold fx;omega
 have v2:fx h/65536/65536%65536=h 2:=by unfold fx;omega
 have v3:fx h/65536/65536/65536=h 3:=by unfold fx;omega
 rw[v0,v1,v2,v3];simp
open Go.RowKit
structure Hv (w x:World)(h:Nat->Nat):Prop where
 b:Below w.heap.size w x
 hc:∀ i,i<4->x.cell? ⟨w.heap.size,i,none⟩=some (.int .i64 (h i:Int))
 hf:∀ i,i<4->x.frozen? ⟨w.heap.size,i,none⟩=false
 pc:∀ i,i<4->x.cell? ⟨w.heap.size+1,i,none⟩=some (.int .i64 (pt i:Int))
 lt:w.heap.size+1<x.heap.size
theorem Hv.below {w x y:World}{h:Nat->Nat}(v:Hv w x h)(hb:Below x.heap.size x y):Hv w y h:=by
 have lt:=v.lt;have l2:w.heap.size<x.heap.size:=by omega
 exact⟨v.b.trans (hb.mono v.b.size),λ i hi=>(hb.cell (p:=⟨_,i,none⟩) l2).trans (v.hc i hi),λ i hi=>(hb.frozen (p:=⟨_,i,none⟩) l2).trans (v.hf i hi),λ i hi=>(hb.cell (p:=⟨_,i,none⟩) lt).trans (v.pc i hi),by have:=hb.size;omega⟩
theorem Hv.set {w x:World}{h:Nat->Nat}(v:Hv w x h)(i n:Nat)(hi:i<4):Hv w (x.setCell ⟨w.heap.size,i,none⟩ (.int .i64 (n:Int))) (λ j=>if j=i then n else h j):=by
 have A0:=World.cell?_setCell_same x ⟨w.heap.size,i,none⟩ (.int .i64 (n:Int)) (v.hc i hi);refine⟨v.b.setCell (Nat.le_refl _) _,λ j hj=>?_,λ j hj=>?_,λ j hj=>?_,by simpa [World.setCell] using v.lt⟩
 ·by_cases e:j=i
  ·subst e;rw[A0,if_pos rfl]
  ·rw[World.cell?_setCell_other _ _ _ _ (by intro q;injection q;omega),v.hc j hj,if_neg e]
 ·rw[World.frozen?_setCell];exact v.hf j hj
 ·rw[World.cell?_setCell_other _ _ _ _ (by intro q;injection q;omega),v.pc j hj]
theorem Hv.drew {w x:World}{h:Nat->Nat}(v:Hv w x h):Hv w x.drew h:=⟨v.b.drew,v.hc,v.hf,v.pc,v.lt⟩
theorem Hv.congr {w x:World}{h g:Nat->Nat}(v:Hv w x h)(e:∀ i,i<4->h i=g i):Hv w x g:=⟨v.b,λ i hi=>by rw[v.hc i hi,e i hi],v.hf,v.pc,v.lt⟩
structure Nv (w x:World)(h:Nat->Nat)(g:Nat)(n:Nat->Nat):Prop where
 v:Hv w x h
 nc:∀ i,i<4->x.cell? ⟨g,i,none⟩=some (.int .i64 (n i:Int))
 nf:∀ i,i<4->x.frozen? ⟨g,i,none⟩=false
 gl:w.heap.size+1<g
 lt:g<x.heap.size
theorem Nv.set {w x:World}{h n:Nat->Nat}{g:Nat}(v:Nv w x h g n)(i z:Nat)(hi:i<4):Nv w (x.setCell ⟨g,i,none⟩ (.int .i64 (z:Int))) h g (λ j=>if j=i then z else n j):=by
 have A0:=World.cell?_setCell_same x ⟨g,i,none⟩ (.int .i64 (z:Int)) (v.nc i hi);have gl:=v.gl;have ob:∀ (b o:Nat),b≠g->(x.setCell ⟨g,i,none⟩ (.int .i64 (z:Int))).cell? ⟨b,o,none⟩=x.cell? ⟨b,o,none⟩:=λ b o hb=>World.cell?_setCell_other _ _ _ _ (by intro q;injection q;omega);refine⟨⟨v.v.b.setCell (by show w.heap.size<=g;omega) _,λ j hj=>?_,λ j hj=>?_,λ j hj=>?_,by simpa [World.setCell] using v.v.lt⟩,λ j hj=>?_,λ j hj=>?_,gl,by simpa [World.setCell] using v.lt⟩
 ·rw[ob _ _ (by omega)];exact v.v.hc j hj
 ·rw[World.frozen?_setCell];exact v.v.hf j hj
 ·rw[ob _ _ (by omega)];exact v.v.pc j hj
 ·by_cases e:j=i
  ·subst e;rw[A0,if_pos rfl]
  ·rw[World.cell?_setCell_other _ _ _ _ (by intro q;injection q;omega),v.nc j hj,if_neg e]
 ·rw[World.frozen?_setCell];exact v.nf j hj
theorem Nv.drew {w x:World}{h n:Nat->Nat}{g:Nat}(v:Nv w x h g n):Nv w x.drew h g n:=⟨v.v.drew,v.nc,v.nf,v.gl,v.lt⟩
theorem Nv.congr {w x:World}{h n m:Nat->Nat}{g:Nat}(v:Nv w x h g n)(e:∀ i,i<4->n i=m i):Nv w x h g m:=⟨v.v,λ i hi=>by rw[v.nc i hi,e i hi],v.nf,v.gl,v.lt⟩
theorem Nv.setH {w x:World}{h n:Nat->Nat}{g:Nat}(v:Nv w x h g n)(i z:Nat)(hi:i<4):Nv w (x.setCell ⟨w.heap.size,i,none⟩ (.int .i64 (z:Int))) (λ j=>if j=i then z else h j) g n:=by
 have gl:=v.gl;refine⟨v.v.set i z hi,λ j hj=>?_,λ j hj=>?_,gl,by simpa [World.setCell] using v.lt⟩
 ·rw[World.cell?_setCell_other _ _ _ _ (by intro q;injection q;omega)];exact v.nc j hj
 ·rw[World.frozen?_setCell];exact v.nf j hj
theorem qM (a b:Nat)(ha:a<256)(hb:b<256):bits .xor .i64 (a:Int) (b:Int)=((a ^^^ b:Nat):Int):=by
 have hx:a ^^^ b<2 ^ 8:=Nat.xor_lt_two_pow (n:=8) ha hb;have h1:(BitVec.ofInt 64 (a:Int)).toNat=a:=by rw[BitVec.ofInt_natCast,BitVec.toNat_ofNat];exact Nat.mod_eq_of_lt (by omega)
 have h2:(BitVec.ofInt 64 (b:Int)).toNat=b:=by rw[BitVec.ofInt_natCast,BitVec.toNat_ofNat];exact Nat.mod_eq_of_lt (by omega)
 show IntKind.i64.wrap ((BitVec.ofInt 64 (a:Int) ^^^ BitVec.ofInt 64 (b:Int)).toNat:Int)=_;rw[BitVec.toNat_xor,h1,h2,IntKind.wrap_i64];omega
theorem t7 (H:Nat)(c:UInt8)(h:H<65536):wrap64 ((H:Int)-(H:Int)%256+bits .xor .i64 ((H:Int)%256) (wrap64 (c.toNat:Int)))=((H ^^^ c.toNat:Nat):Int)/\H ^^^ c.toNat<65536:=by
 have hc:=c.toNat_lt;have e1:wrap64 (c.toNat:Int)=(c.toNat:Int):=by unfold wrap64;omega
 have e2:(H:Int)%256=((H%256:Nat):Int):=by omega
 have hx:H%256 ^^^ c.toNat<2 ^ 8:=Nat.xor_lt_two_pow (n:=8) (by omega) (by omega);have e3:=jS (H/256) (H%256) c.toNat (by omega) (by omega);rw[Nat.div_add_mod] at e3;rw[e1,e2,qM _ _ (by omega) (by omega),e3];unfold wrap64;omega
theorem Nv.made {w x:World}{h:Nat->Nat}(v:Hv w x h):Nv w (x.alloc (.cells #[.int .i64 0,.int .i64 0,.int .i64 0,.int .i64 0] 263)) h x.heap.size (nAt h 0 0):=by
 refine⟨v.below ((Below.refl _ _).alloc (Nat.le_refl _) _),λ i hi=>?_,λ i hi=>?_,v.lt,by simp⟩
 ·rw[wi];rcases (by omega:i=0\/i=1\/i=2\/i=3) with rfl|rfl|rfl|rfl<;>simp
 ·rcases (by omega:i=0\/i=1\/i=2\/i=3) with rfl|rfl|rfl|rfl<;>simp
def cr (n:Nat->Nat):Nat->Nat
 | 0=>0
 | a+1=>(n a+cr n a)/65536
def gp (n:Nat->Nat)(a:Nat):Nat:=(n a+cr n a)%65536
theorem Am (n:Nat->Nat)(a:Nat):gp n a<65536:=by unfold gp;omega
theorem Bt (n:Nat->Nat)(hn:∀ i,n i<=114030900)(a:Nat):cr n a<=2000:=by
 induction a with
 | zero=>simp[cr]
 | succ a ih =>have:=hn a;simp only[cr];omega
theorem product (h:Nat->Nat):fx (gp (nAt h 3 1))=fx h*1099511628211%18446744073709551616:=by
 obtain⟨e0,e1,e2,e3⟩:=zk h;refine Ac h (nAt h 3 1) (gp (nAt h 3 1)) (cr (nAt h 3 1) 1) (cr (nAt h 3 1) 2) (cr (nAt h 3 1) 3) (cr (nAt h 3 1) 4) e0 e1 e2 e3 ?_ ?_ ?_ ?_ (Am _)
 ·show (nAt h 3 1 0+0)%65536+(nAt h 3 1 0+0)/65536*65536=_;omega
 ·show (nAt h 3 1 1+cr (nAt h 3 1) 1)%65536+(nAt h 3 1 1+cr (nAt h 3 1) 1)/65536*65536=_;omega
 ·show (nAt h 3 1 2+cr (nAt h 3 1) 2)%65536+(nAt h 3 1 2+cr (nAt h 3 1) 2)/65536*65536=_;omega
 ·show (nAt h 3 1 3+cr (nAt h 3 1) 3)%65536+(nAt h 3 1 3+cr (nAt h 3 1) 3)/65536*65536=_;omega
theorem xO (h:Nat->Nat)(c:UInt8)(X:Nat)(hX:h 0 ^^^ c.toNat=X):fx (λ j=>if j=0 then X else h j)=fx h ^^^ c.toNat:=by
 have hc:=c.toNat_lt;have e1:=jS (h 0/256) (h 0%256) c.toNat (by omega) (by omega);rw[Nat.div_add_mod,hX] at e1;have e2:=jS (h 0/256+h 1*256+h 2*16777216+h 3*1099511627776) (h 0%256) c.toNat (by omega) (by omega);have e3:256*(h 0/256+h 1*256+h 2*16777216+h 3*1099511627776)+h 0%256=fx h:=by unfold fx;omega
 rw[e3] at e2;rw[e2,e1];show (256*(h 0/256)+(h 0%256 ^^^ c.toNat))+h 1*65536+h 2*4294967296+h 3*281474976710656=_;generalize h 0%256 ^^^ c.toNat=y;omega
def hz:Nat->Nat
 | 0=>8997
 | 1=>33826
 | 2=>40164
 | 3=>52210
 | _=>0
theorem Bc (i:Nat):hz i<65536:=by
 unfold hz;split<;>omega
theorem A5:fx hz=fnv []:=by
 unfold fx hz fnv;rfl
theorem Hv.made (w:World):Hv w ((w.alloc (.cells #[.int .i64 8997,.int .i64 33826,.int .i64 40164,.int .i64 52210] 263)).alloc (.cells #[.int .i64 435,.int .i64 0,.int .i64 256,.int .i64 0] 263)) hz:=by
 refine⟨((Below.refl _ _).alloc (Nat.le_refl _) _).alloc (by simp) _,λ i hi=>?_,λ i hi=>?_,λ i hi=>?_,by simp⟩
 ·rcases (by omega:i=0\/i=1\/i=2\/i=3) with rfl|rfl|rfl|rfl<;>simp[hz]
 ·rcases (by omega:i=0\/i=1\/i=2\/i=3) with rfl|rfl|rfl|rfl<;>simp
 ·rcases (by omega:i=0\/i=1\/i=2\/i=3) with rfl|rfl|rfl|rfl<;>simp[pt]
def ph (h:Nat->Nat):Nat->List UInt8
 | 0=>[]
 | j+1=>ph h j++bQ 4 (h (3-j))
theorem wH (h:Nat->Nat)(j:Nat):(ph h j).length=4*j:=by
 induction j with
 | zero=>rfl
 | succ j ih =>rw[ph,List.length_append,ih,fZ];omega
theorem vJ (u m:Nat)(hm:m<4):(bQ 4 u).take (m+1)=(bQ 4 u).take m++[dw (u/(4096/16 ^ m)%16)]:=by
 have e:bQ 4 u=[dw (u/4096%16),dw (u/256%16),dw (u/16%16),dw (u%16)]:=by show ((([]++[dw (u/16/16/16%16)])++[dw (u/16/16%16)])++[dw (u/16%16)])++[dw (u%16)]=_;rw[show u/16/16/16=u/4096 by omega,show u/16/16=u/256 by omega];rfl
 rw[e];rcases (by omega:m=0\/m=1\/m=2\/m=3) with rfl|rfl|rfl|rfl
 ·rfl
 ·rfl
 ·rfl
 ·show _=[_,_,_]++[dw (u/1%16)];rw[Nat.div_one];rfl
def Ba:ByteArray:=⟨#[48,49,50,51,52,53,54,55,56,57,97,98,99,100,101,102]⟩
theorem zn:∀ k:Fin 16,(Ba.data.toList.drop k.val).take 1=[dw k.val]:=by decide
theorem jw (O O2:List UInt8)(u m d:Nat)(hd:d<16)(e:d=u/(4096/16 ^ m)%16)(hm:m<4)(hO2:O++(bQ 4 u).take m=O2) :
 Value.string ((⟨O2.toArray⟩:ByteArray)++Ba.extract d (d+1))=.string ⟨(O++(bQ 4 u).take (m+1)).toArray⟩:=by
 rw[Lib.extract_eq,show d+1-d=1 by omega,zn ⟨d,hd⟩,vJ u m hm,<- List.append_assoc,hO2,<- e];refine congrArg Value.string ?_;apply ByteArray.ext;simp[ByteArray.data_append]
theorem tl (s:ByteArray)(w:World)(hs:s.size<=9223372036854775807):Calls Tryz.prog 115 #[.string s] w λ e w'=>e=.returned (.string ⟨(bQ 16 (fnv s.data.toList)).toArray⟩)/\Below w.heap.size w w':=by
 go_enter Tryz.func115,Tryz.ntmps115;go_wp2;go_loopw [5] (λ i wr=>∃ (k:Nat) (h:Nat->Nat),k<=s.size/\i=.int .i64 k/\(∀ i,h i<65536)/\Hid (fx h=fnv (s.data.toList.take k))/\Hv w wr h) (λ i _=>s.size-(intOf i).toNat);case atStart=>exact⟨0,hz,Nat.zero_le _,rfl,Bc,A5,Hv.made w⟩
 case round =>
  obtain⟨k,h,hk,rfl,hh,hv,hw⟩:=hrel;by_cases hlt:k<s.size
  ·have h0:=hh 0;have c0:=hw.hc 0 (by omega);have f0:=hw.hf 0 (by omega);obtain⟨H0,Ad⟩:∃ H0,h 0=H0:=⟨_,rfl⟩;rw[Ad] at h0 c0;go_wp2;go_region;obtain⟨hX,Ak⟩:=t7 H0 s[k] h0;rw[hX];obtain⟨X,Ai⟩:∃ X,H0 ^^^ s[k].toNat=X:=⟨_,rfl⟩;rw[Ai] at Ak ⊢;obtain⟨w1,A9⟩:∃ w1,w1=(wr.setCell ⟨w.heap.size,0,none⟩ (.int .i64 (X:Int))).drew:=⟨_,rfl⟩;(have A6:Hv w w1 (λ j=>if j=0 then X else h j):=by rw[A9];exact (hw.set 0 X (by omega)).drew);rw[<- A9];obtain⟨h1,Ac⟩:∃ h1,h1=(λ j=>if j=0 then X else h j):=⟨_,rfl⟩;rw[<- Ac] at A6;have A8:∀ i,h1 i<65536:=by
    intro i;rw[Ac];show (if i=0 then X else h i)<65536;split
    ·exact Ak
    ·exact hh i
   clear A9 hX c0 f0;have Af:=Nv.made A6;go_wp2;go_loopw [8] (λ a wz=>∃ a':Nat,a'<=4/\a=.int .i64 a'/\Nv w wz h1 w1.heap.size (nAt h1 a' 0)) (λ a _=>4-(intOf a).toNat);(case atStart=>exact⟨0,by omega,rfl,Af⟩);case round =>
    obtain⟨a,ha,rfl,Ab⟩:=hrel;by_cases ha4:a<4
    ·go_wp2;go_loopw [9] (λ b wz=>∃ b':Nat,a+b'<=4/\b=.int .i64 b'/\Nv w wz h1 w1.heap.size (nAt h1 a b')) (λ b _=>4-(intOf b).toNat);(case atStart=>exact⟨0,by omega,rfl,Ab⟩);case round =>
      obtain⟨b,Ar,rfl,A2⟩:=hrel;by_cases hab4:a+b<4
      ·have c1:=A2.nc (a+b) hab4;have f1:=A2.nf (a+b) hab4;have c2:=A2.v.hc a ha4;have c3:=A2.v.pc b (by omega);have l1:=wN h1 A8 a b (a+b) ha4;have l2:=A8 a;(have l3:pt b<=435:=by unfold pt;split<;>omega);have l4:h1 a*pt b<=65535*435:=Nat.mul_le_mul (by omega) l3;obtain⟨N1,An⟩:∃ N1,nAt h1 a b (a+b)=N1:=⟨_,rfl⟩;obtain⟨A1,Ah⟩:∃ A1,h1 a=A1:=⟨_,rfl⟩;obtain⟨P1,Al⟩:∃ P1,pt b=P1:=⟨_,rfl⟩;rw[An] at c1 l1;rw[Ah] at c2 l2 l4;rw[Al] at c3 l3 l4;(have l5:(A1:Int)*(P1:Int)<=28507725:=by have:((A1*P1:Nat):Int)<=((65535*435:Nat):Int):=Int.ofNat_le.2 l4;simpa using this);have l6:0<=(A1:Int)*(P1:Int):=Int.mul_nonneg (by omega) (by omega);(have l7:(N1:Int)<=114030900:=by omega);go_wp2;go_region;rw[show (N1:Int)+(A1:Int)*(P1:Int)=((N1+A1*P1:Nat):Int) by simp];obtain⟨w2,A7⟩:∃ w2,w2=(wr.setCell ⟨w1.heap.size,a+b,none⟩ (.int .i64 ((N1+A1*P1:Nat):Int))).drew:=⟨_,rfl⟩;have Aq:Nv w w2 h1 w1.heap.size (nAt h1 a (b+1)):=by
        rw[A7];refine ((A2.set (a+b) (N1+A1*P1) hab4).drew).congr (λ i _=>?_);rw[wS];by_cases e:i=a+b
        ·rw[if_pos e,if_pos e,e,An,Ah,Al]
        ·rw[if_neg e,if_neg e,Nat.add_zero]
       rw[<- A7];clear A7 c1 c2 c3 f1 l1 l4 l5 l6 l7;go_wp2;exact⟨⟨b+1,by omega,by go_num,Aq⟩,by simp[intOf];omega⟩
      ·go_wp2;exact⟨⟨a+1,by omega,by go_num,A2.congr (λ i _=>(p9 h1 a b i (by omega)).symm)⟩,by simp[intOf];omega⟩
    ·have Aj:Nv w wr h1 w1.heap.size (nAt h1 3 1):=Ab.congr (λ i _=>by rw[show a=3+1 by omega];exact p9 h1 3 1 i rfl);have Aa:∀ i,nAt h1 3 1 i<=114030900:=λ i=>wN h1 A8 3 1 i (by omega);(have HV:Hid (fx (gp (nAt h1 3 1))=fnv (s.data.toList.take (k+1))):=by show _=_;rw[product,aV s k hlt,pM,<- hv.out,Ac,xO h s[k] X (by rw[Ad];exact Ai)];rfl);obtain⟨n,hn⟩:∃ n,nAt h1 3 1=n:=⟨_,rfl⟩;rw[hn] at Aj Aa HV;clear Ab Af A6;go_wp2;go_loopw [10,11] (λ c a wz=>∃ a':Nat,a'<=4/\c=.int .i64 ((cr n a':Nat):Int)/\a=.int .i64 a'/\Nv w wz (λ i=>if i<a' then gp n i else h1 i) w1.heap.size n) (λ _ a _=>4-(intOf a).toNat);(case atStart=>exact⟨0,by omega,rfl,rfl,by simpa using Aj⟩);case round =>
      obtain⟨a2,As,rfl,rfl,A4⟩:=hrel;by_cases ha24:a2<4
      ·have c1:=A4.nc a2 ha24;have c2:=A4.v.hc a2 ha24;have f2:=A4.v.hf a2 ha24;have l1:=Aa a2;have l2:=Bt n Aa a2;have HC:Hid (cr n (a2+1)=(n a2+cr n a2)/65536/\gp n a2=(n a2+cr n a2)%65536):=⟨rfl,rfl⟩;have HS:Hid _:=λ z=>A4.setH a2 z ha24;obtain⟨N2,Ag⟩:∃ N2,n a2=N2:=⟨_,rfl⟩;obtain⟨C2,Ae⟩:∃ C2,cr n a2=C2:=⟨_,rfl⟩;rw[Ag,Ae] at HC;rw[Ag] at c1 l1;rw[Ae] at l2 ⊢;obtain⟨V,hV⟩:∃ V:Int,((if a2<a2 then gp n a2 else h1 a2:Nat):Int)=V:=⟨_,rfl⟩;rw[hV] at c2;go_wp2;refine⟨⟨a2+1,by omega,?_,by go_num,?_⟩,by simp[intOf];omega⟩
       ·rw[HC.out.1];congr 1
       ·rw[show ((N2:Int)+(C2:Int))%65536=((gp n a2:Nat):Int) by rw[HC.out.2];omega];have:=HS.out (gp n a2);rw[show (λ j=>if j=a2 then gp n a2 else (if j<a2 then gp n j else h1 j))=(λ i=>if i<a2+1 then gp n i else h1 i) from ?_] at this
        ·exact this
        ·funext j;by_cases e:j=a2
         ·rw[if_pos e,if_pos (by omega),e]
         ·rw[if_neg e];by_cases e2:j<a2
          ·rw[if_pos e2,if_pos (by omega)]
          ·rw[if_neg e2,if_neg (by omega)]
      ·go_wp2;exact⟨⟨k+1,gp n,by omega,by go_num,Am n,HV.out,A4.v.congr (λ i hi=>if_pos (by omega))⟩,by simp[intOf];omega⟩
  ·(obtain rfl:k=s.size:=by omega);rw[List.take_of_length_le (by rw[Lib.size_eq];exact Nat.le_refl _)] at hv;(have HO:Hid (bQ 16 (fnv s.data.toList)=ph h 4):=by show _=_;rw[<- hv.out,xd h hh];simp[ph]);have Ao:=hw.b;go_wp2;go_loop [13,14] (λ out a=>∃ j:Nat,j<=4/\out=.string ⟨(ph h j).toArray⟩/\a=.int .i64 (3-(j:Int))) (λ _ a=>(intOf a+1).toNat);(case atStart=>exact⟨0,by omega,rfl,rfl⟩);case round =>
    obtain⟨j,hj,rfl,rfl⟩:=hrel;by_cases hj4:j<4
    ·have c1:=hw.hc (3-j) (by omega);have l1:=hh (3-j);have HN:Hid (ph h (j+1)=ph h j++bQ 4 (h (3-j))):=rfl;obtain⟨u,hu⟩:∃ u,h (3-j)=u:=⟨_,rfl⟩;rw[hu] at c1 l1 HN;obtain⟨q,hq⟩:∃ q:Nat,3-j=q:=⟨_,rfl⟩;rw[show (3:Int)-(j:Int)=(q:Int) by omega];rw[hq] at c1;have Ap:=wH h j;obtain⟨O,hO⟩:∃ O,ph h j=O:=⟨_,rfl⟩;rw[hO] at Ap HN ⊢;go_wp2;go_loop [13,15] (λ out kk=>∃ m:Nat,m<=4/\out=.string ⟨(O++(bQ 4 u).take m).toArray⟩/\kk=.int .i64 ((4096/16 ^ m:Nat):Int)) (λ _ kk=>(intOf kk).toNat);(case atStart=>exact⟨0,by omega,by simp,rfl⟩);case round =>
      obtain⟨m,hm,rfl,rfl⟩:=hrel;(have A3:(O++(bQ 4 u).take m).length<=20:=by simp[fZ];omega);obtain⟨O2,A0⟩:∃ O2,O++(bQ 4 u).take m=O2:=⟨_,rfl⟩;rcases (by omega:m=0\/m=1\/m=2\/m=3\/m=4) with rfl|rfl|rfl|rfl|rfl
      ·rw[A0] at A3 ⊢;go_wp2;exact⟨⟨1,by omega,jw O O2 u 0 (u/4096%16) (by omega) rfl (by omega) A0,rfl⟩,by simp[intOf]⟩
      ·rw[A0] at A3 ⊢;go_wp2;exact⟨⟨2,by omega,jw O O2 u 1 (u/256%16) (by omega) rfl (by omega) A0,rfl⟩,by simp[intOf]⟩
      ·rw[A0] at A3 ⊢;go_wp2;exact⟨⟨3,by omega,jw O O2 u 2 (u/16%16) (by omega) rfl (by omega) A0,rfl⟩,by simp[intOf]⟩
      ·rw[A0] at A3 ⊢;go_wp2;exact⟨⟨4,by omega,jw O O2 u 3 (u%16) (by omega) (by show _=u/1%16;rw[Nat.div_one]) (by omega) A0,rfl⟩,by simp[intOf]⟩
      ·have h4:(bQ 4 u).take 4=bQ 4 u:=List.take_of_length_le (by rw[fZ];exact Nat.le_refl _);rw[h4] at A0 A3 ⊢;rw[A0] at A3 ⊢;go_wp2;refine⟨⟨j+1,by omega,by rw[HN.out,A0],?_⟩,by simp[intOf];try omega⟩;congr 1;omega
    ·(obtain rfl:j=4:=by omega);go_wp2;go_ret;exact⟨aM (by rw[HO.out]),Ao⟩
theorem yZ (h l:Nat)(c:UInt8)(_hh:h<65536)(hl:l<65536):lx (h*65536+l) c=((h*403+(l ^^^ c.toNat)*256+(l ^^^ c.toNat)*403/65536)%65536)*65536+(l ^^^ c.toNat)*403%65536/\l ^^^ c.toNat<65536:=by
 have hc:=c.toNat_lt;have e1:=jS (h*256+l/256) (l%256) c.toNat (by omega) (by omega);have e2:=jS (l/256) (l%256) c.toNat (by omega) (by omega);rw[show 256*(h*256+l/256)+l%256=h*65536+l by omega] at e1;rw[show 256*(l/256)+l%256=l by omega] at e2;have hx:l%256 ^^^ c.toNat<2 ^ 8:=Nat.xor_lt_two_pow (n:=8) (by omega) (by omega);unfold lx;rw[e1,e2];have hy:l/256<256:=by omega
 generalize l%256 ^^^ c.toNat=x at hx;generalize l/256=y at hy;omega
theorem AT (h l:Nat)(_hh:h<65536)(hl:l<65536):be (h*65536+l) 4=be h 2++be l 2:=by
 show [UInt8.ofNat ((h*65536+l)/256 ^ 3%256),UInt8.ofNat ((h*65536+l)/256 ^ 2%256),UInt8.ofNat ((h*65536+l)/256 ^ 1%256),UInt8.ofNat ((h*65536+l)/256 ^ 0%256)]=[UInt8.ofNat (h/256 ^ 1%256),UInt8.ofNat (h/256 ^ 0%256),UInt8.ofNat (l/256 ^ 1%256),UInt8.ofNat (l/256 ^ 0%256)];rw[show (h*65536+l)/256 ^ 3%256=h/256 ^ 1%256 by omega,show (h*65536+l)/256 ^ 2%256=h/256 ^ 0%256 by omega,show (h*65536+l)/256 ^ 1%256=l/256 ^ 1%256 by omega,show (h*65536+l)/256 ^ 0%256=l/256 ^ 0%256 by omega]
theorem jZ (l:List UInt8)(w:World)(hs:l.length<4611686018427387904) :
 Calls Tryz.prog 103 #[.string ⟨l.toArray⟩] w λ e w'=>e=.returned (.string ⟨(be (cB l) 4).toArray⟩)/\Below w.heap.size w w':=by
 obtain⟨s,hS⟩:∃ S:ByteArray,S=⟨l.toArray⟩:=⟨_,rfl⟩;have hd:s.data.toList=l:=by rw[hS]
 have A6:s.size=l.length:=by rw[hS];exact List.size_toArray
 rw[<- hS,<- hd];have A8:s.size<4611686018427387904:=by omega
 clear hS A6 hd hs;go_enter Tryz.func103,Tryz.ntmps103;go_wp2;go_loop [3,4,5] (λ hv lv i=>∃ (k h l:Nat),k<=s.size/\i=.int .i64 k/\h<65536/\l<65536/\hv=.int .i64 h/\lv=.int .i64 l/\Hid (cB (s.data.toList.take k)=h*65536+l)) (λ _ _ i=>s.size-(intOf i).toNat);case atStart=>exact⟨0,33052,40389,Nat.zero_le _,rfl,by omega,by omega,rfl,rfl,rfl⟩
 case round =>
  obtain⟨k,h,l,hk,rfl,hh,hl,rfl,rfl,hc⟩:=hrel;by_cases hlt:k<s.size
  ·have Aa:=s[k].toNat_lt;have h2:=yZ h l s[k] hh hl;(have HX:Hid (cB (s.data.toList.take (k+1))=lx (h*65536+l) s[k]):=by show _=_;rw[aV s k hlt,rl,hc.out]);have A4:=(t7 l s[k] hl).1;obtain⟨X,hX⟩:∃ X,l ^^^ s[k].toNat=X:=⟨_,rfl⟩;rw[hX] at h2 A4;have A7:Hid _:=HX.out.trans h2.1;have A9:=h2.2;rw[show wrap64 (s[k].toNat:Int)=(s[k].toNat:Int) by unfold wrap64;omega] at A4;clear h2 HX hX hc;go_wp2;exact⟨⟨k+1,(h*403+X*256+X*403/65536)%65536,X*403%65536,by omega,by go_num,Nat.mod_lt _ (by omega),Nat.mod_lt _ (by omega),congrArg (Value.int .i64) (by rw[show (X:Int)*403/65536=((X*403/65536:Nat):Int) by omega];generalize X*403/65536=z;omega),congrArg (Value.int .i64) (by omega),A7.out⟩,by simp[intOf];omega⟩
  ·(have HC:Hid (cB s.data.toList=h*65536+l):=by have:=hc.out;rw[List.take_of_length_le (by rw[Array.length_toList];show s.size<=k;omega)] at this;exact this);have A0:Hid _:=AT h l hh hl;have b1:=aR h 2;have b2:=aR l 2;have A3:Hid _:=λ x=>cP h 2 x (by omega) (by omega);have A1:Hid _:=λ x=>cP l 2 x (by omega) (by omega);obtain⟨A,hA⟩:∃ A,be h 2=A:=⟨_,rfl⟩;obtain⟨B,hB⟩:∃ B,be l 2=B:=⟨_,rfl⟩;rw[hA] at A0 b1 A3;rw[hB] at A0 b2 A1;(have s1:(⟨A.toArray⟩:ByteArray).size=2:=by rw[Lib.size_eq];exact b1);(have s2:(⟨B.toArray⟩:ByteArray).size=2:=by rw[Lib.size_eq];exact b2);clear hc hA hB b1 b2;go_wp2_with (first
    | (go_at_call_of 163 (Value.int .i64 h);refine Calls.mono (A3.out _) ?_;rintro e w1 ⟨rfl,A2⟩)
    | (go_at_call_of 163 (Value.int .i64 l);refine Calls.mono (A1.out _) ?_;rintro e w2 ⟨rfl,A5⟩))
   go_ret;refine⟨aM ?_,A2.trans (A5.mono A2.size)⟩;rw[HC.out,A0.out];apply ByteArray.ext;simp[ByteArray.data_append]
theorem sz0 (l:List UInt8):(⟨l.toArray⟩:ByteArray).size=l.length:=Lib.size_eq _
theorem fj (a b:List UInt8)(h:a.length+b.length<=1000000000000000):∀ w:World,(Op.stringOp .add ⟨a.toArray⟩ ⟨b.toArray⟩).run Tryz.prog w=.ok (.string ⟨(a++b).toArray⟩) w:=by
 intro w;have:=run_string_add_sum (P:=Tryz.prog) w ⟨a.toArray⟩ ⟨b.toArray⟩ (by simp[ByteArray.size];omega);have e:(⟨a.toArray⟩:ByteArray)++⟨b.toArray⟩=⟨(a++b).toArray⟩:=by apply ByteArray.ext;simp[ByteArray.data_append]
 rw[e] at this;exact this
theorem iY (k t n:Nat)(key body:List UInt8)(w:World)(hk:k<4611686018427387904)(ht:t<4611686018427387904)(hn:n<4611686018427387904)(hkl:key.length<=1000)(hbl:body.length<=1000) :
 Calls Tryz.prog 220 #[.int .i64 k,.int .i64 t,.string ⟨key.toArray⟩,.int .i64 n,.string ⟨body.toArray⟩] w λ e w'=>e=.returned (.string ⟨(aF k t key n body).toArray⟩)/\Below w.heap.size w w':=by
 have l1:=aR k 1;have l2:=aR t 8;have l3:=aR key.length 1;have l4:=aR n 4;have H1:Hid _:=λ x=>cP k 1 x hk (by omega);have H2:Hid _:=λ x=>cP t 8 x ht (by omega);have H3:Hid _:=λ x=>cP key.length 1 x (by omega) (by omega);have H4:Hid _:=λ x=>cP n 4 x hn (by omega);have HP:Hid (eU k t key n body=be k 1++be t 8++be key.length 1++key++be n 4++body):=by show _=_;simp[eU]
 have HR:Hid (aF k t key n body=be (eU k t key n body).length 2++eU k t key n body++be (cB (eU k t key n body)) 4):=by show _=_;simp[aF]
 obtain⟨p1,e1⟩:∃ p,be k 1=p:=⟨_,rfl⟩;obtain⟨p2,e2⟩:∃ p,be t 8=p:=⟨_,rfl⟩;obtain⟨p3,e3⟩:∃ p,be key.length 1=p:=⟨_,rfl⟩;obtain⟨p4,e4⟩:∃ p,be n 4=p:=⟨_,rfl⟩;rw[e1] at l1 H1 HP;rw[e2] at l2 H2 HP;rw[e3] at l3 H3 HP;rw[e4] at l4 H4 HP;clear e1 e2 e3 e4;have A7:=sz0 key;obtain⟨q1,f1⟩:∃ q,p1++p2=q:=⟨_,rfl⟩;obtain⟨q2,f2⟩:∃ q,q1++p3=q:=⟨_,rfl⟩;obtain⟨q3,f3⟩:∃ q,q2++key=q:=⟨_,rfl⟩;obtain⟨q4,f4⟩:∃ q,q3++p4=q:=⟨_,rfl⟩;obtain⟨P,f5⟩:∃ q,q4++body=q:=⟨_,rfl⟩;have m1:q1.length=9:=by rw[<- f1,List.length_append];omega
 have m2:q2.length=10:=by rw[<- f2,List.length_append];omega
 have m3:q3.length=10+key.length:=by rw[<- f3,List.length_append];omega
 have m4:q4.length=14+key.length:=by rw[<- f4,List.length_append];omega
 have lP:P.length=14+key.length+body.length:=by rw[<- f5,List.length_append];omega
 have a1:=fj p1 p2 (by omega);have a2:=fj q1 p3 (by omega);have a3:=fj q2 key (by omega);have a4:=fj q3 p4 (by omega);have a5:=fj q4 body (by omega);rw[f1] at a1 HP;rw[f2] at a2 HP;rw[f3] at a3 HP;rw[f4] at a4 HP;rw[f5] at a5 HP;rw[HP.out] at HR;have A6:=sz0 P;have H5:Hid _:=λ x=>cP P.length 2 x (by omega) (by omega);have H6:Hid _:=λ x=>jZ P x (by omega);have l5:=aR P.length 2;have l6:=aR (cB P) 4;obtain⟨p5,e5⟩:∃ p,be P.length 2=p:=⟨_,rfl⟩;obtain⟨p6,e6⟩:∃ p,be (cB P) 4=p:=⟨_,rfl⟩;rw[e5] at l5 H5 HR;rw[e6] at l6 H6 HR;obtain⟨q5,f6⟩:∃ q,p5++P=q:=⟨_,rfl⟩;have m5:q5.length=P.length+2:=by rw[<- f6,List.length_append];omega
 have a6:=fj p5 P (by omega);have a7:=fj q5 p6 (by omega);obtain⟨q6,f7⟩:∃ q,q5++p6=q:=⟨_,rfl⟩;rw[f6] at a6 HR;rw[f7] at a7 HR;have A8:P.length<=3000:=by omega
 clear e5 e6 HP hk ht hn f1 f2 f3 f4 f5 f6 f7 m1 m2 m3 m4 m5 l1 l2 l3 l4 l5 l6 lP hbl;go_enter Tryz.func220,Tryz.ntmps220;go_wp2_with fail;refine Calls.mono (H1.out _) ?_;rintro e w1 ⟨rfl,A2⟩;go_wp2_with fail;refine Calls.mono (H2.out _) ?_;rintro e w2 ⟨rfl,A5⟩;go_wp2_with fail;refine Calls.mono (H3.out _) ?_;rintro e w3 ⟨rfl,A4⟩;go_wp2_with fail;refine Calls.mono (H4.out _) ?_;rintro e w4 ⟨rfl,A3⟩;go_wp2_with fail;refine Calls.mono (H5.out _) ?_;rintro e w5 ⟨rfl,A1⟩;go_wp2_with fail;refine Calls.mono (H6.out _) ?_;rintro e w6 ⟨rfl,A0⟩;have HB:Hid (Below w.heap.size w w6):=by have g1:=A2;have g2:=g1.trans (A5.mono g1.size);have g3:=g2.trans (A4.mono g2.size);have g4:=g3.trans (A3.mono g3.size);have g5:=g4.trans (A1.mono g4.size);exact g5.trans (A0.mono g5.size)
 go_wp2;go_ret;exact⟨aM (by rw[HR.out]),HB.out⟩
end Go.Proofs.YtmehkneofinmiaaGreatDoor

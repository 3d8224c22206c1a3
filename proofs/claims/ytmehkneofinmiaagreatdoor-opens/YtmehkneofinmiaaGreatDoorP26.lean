/-part 26-/
import Derived.Test.YtmehkneofinmiaaGreatDoorP07
set_option maxRecDepth 1000000
set_option maxHeartbeats 8000000
namespace Go.Proofs.YtmehkneofinmiaaGreatDoor
open Go.RowKit
theorem mc (r:Int)(w:World)(h0:128<=r)(h1:r<=2147483647) :
 Calls Tryz.prog 308 #[.string ⟨#[13,10]⟩,.int .i32 r] w λ e w'=>e=.returned (.int .i64 (-1))/\Below w.heap.size w w':=by
 by_cases hE:r=65533
 ·subst hE;go_enter Tryz.func308,Tryz.ntmps308;go_wp2_with fail;go_loopg [5,6] 2 (λ g _ _ wx=>∃ i:Nat,i+g=2/\wx=w.iter ⟨#[13,10]⟩ i);(case atStart=>exact⟨0,by omega,rfl⟩);case round =>
   obtain⟨i,A9,rfl⟩:=hrel;cases gk with
   | zero =>(obtain rfl:i=2:=by omega);have A3:=λ ty=>run_next_end (P:=Tryz.prog) w ⟨#[13,10]⟩ 2 ty (by decide);go_wp2;go_ret;exact⟨rfl,(Below.refl _ _).alloc (Nat.le_refl _) _⟩
   | succ g =>
     (have A6:i=0\/i=1:=by omega);rcases A6 with rfl|rfl
     ·have A3:=λ ty=>run_next_ascii (P:=Tryz.prog) w ⟨#[13,10]⟩ 0 ty (by decide) (by decide);go_wp2;go_roundg g;(case measure=>omega);case rel=>exact⟨1,by omega,rfl⟩
     ·have A3:=λ ty=>run_next_ascii (P:=Tryz.prog) w ⟨#[13,10]⟩ 1 ty (by decide) (by decide);go_wp2;go_roundg g;(case measure=>omega);case rel=>exact⟨2,by omega,rfl⟩
 ·have Ab:(r==65533)=false:=beq_eq_false_iff_ne.2 hE;(have Ad:¬ (r<128):=by omega);go_enter Tryz.func308,Tryz.ntmps308;go_wp2_with fail;refine (Tryz.utf8_ValidRune r _).mono ?_;rintro e w1 ⟨rfl,rfl⟩;cases hv:Lib.validRune r with
  | false =>go_wp2;go_ret;exact⟨rfl,Below.refl _ _⟩
  | true =>
    (have A0:Utf8.valid r=true:=by unfold Lib.validRune at hv;unfold Utf8.valid;simp at hv ⊢;omega);obtain⟨A5,A4,A2⟩:=encode_facts r A0 (by omega);obtain⟨rs,A1⟩:∃ rs,Utf8.encode r=rs:=⟨_,rfl⟩;rw[A1] at A5 A4 A2;(have Aa:∀ w:World,(convert 21 9 (.int .i32 r)).run Tryz.prog w=.ok (.string rs) w:=by intro w;rw[run_convert_int_string w 21 9 .i32 r (by rw[Tryz.underlying21];rfl) Tryz.underlying9,A1]);clear A0 hv A1;go_wp2_with fail;go_step3;go_wp2_with fail;go_loopg [9] 1 (λ g x wx=>x=.int .i64 ((rs.size:Int)-1)/\wx=w1);(case atStart=>exact⟨rfl,rfl⟩);case round =>
     obtain⟨rfl,rfl⟩:=hrel;by_cases h3:rs.size=2
     ·(have A8:128<=(rs[1]'(by omega)).toNat:=by have:=A2 (by omega);simpa [h3] using this);obtain⟨c,hc⟩:∃ c:UInt8,rs[1]'(by omega)=c:=⟨_,rfl⟩;rw[hc] at A8;(have hI:(rs.size:Int)-1=1:=by omega);rw[hI];have Ac:((10:Int)==(c.toNat:Int))=false:=beq_eq_false_iff_ne.2 (by omega);clear A2 A4 A5;(have A7:(1:Int)<(rs.size:Int):=by omega);(have e1:∀ w:World,(Instr.index 9 (.string ⟨#[13,10]⟩) (.int .i64 1)).run Tryz.prog w=.ok (.int .u8 10) w:=by intro w;rw[run_index_string _ 9 ⟨#[13,10]⟩ .i64 1 Tryz.underlying9,dif_pos ⟨by omega,by decide⟩];rfl);(have e2:∀ w:World,(Instr.index 9 (.string rs) (.int .i64 1)).run Tryz.prog w=.ok (.int .u8 c.toNat) w:=by intro w;rw[run_index_string _ 9 rs .i64 1 Tryz.underlying9,dif_pos ⟨by omega,by omega⟩];rw[<- hc];rfl);(have e3:∀ w:World,(Instr.slice 9 (.string ⟨#[13,10]⟩) (some (.int .i64 2)) none none).run Tryz.prog w=.ok (.string ⟨#[]⟩) w:=by intro w;rw[run_slice_string_from_if _ 9 ⟨#[13,10]⟩ .i64 2 Tryz.underlying9,if_pos ⟨by omega,by decide⟩];rfl);go_wp2_with fail;go_step3;go_wp2_with fail;go_region;go_wp2_with fail;go_region_with (go_at_call 328;refine (Tryz.strings_IndexByte ⟨#[]⟩ c.toNat _).mono ?_;rintro e w9 ⟨rfl,rfl⟩;rw[show Lib.indexByte (⟨#[]⟩:ByteArray).data.toList (c.toNat:Int).toNat.toUInt8 = -1 from rfl]);(all_goals (go_wp2_with fail));(all_goals (rw[Exit.noGoto_ret];go_wp2;rw[Exit.noGoto_ret];go_wp2));(all_goals go_ret);all_goals exact⟨rfl,Below.drew (Below.drew (Below.refl _ _))⟩
     ·(have Ae:¬ ((rs.size:Int)-1<2):=by omega);go_wp2;go_ret;exact⟨rfl,Below.refl _ _⟩
def A3 (l:List UInt8)(i:Nat):Prop:=∀ j b,j<i->l[j]?=some b->aK b=false
theorem A3.end' {l:List UInt8}(h:A3 l l.length):l.any aK=false:=by
 rw[List.any_eq_false];intro b hb;obtain⟨j,hj,e⟩:=List.getElem_of_mem hb;simp[h j b hj (by rw[List.getElem?_eq_getElem hj,e])]
theorem hit {l:List UInt8}{i:Nat}{b:UInt8}(h:l[i]?=some b)(hb:aK b=true):l.any aK=true :=
 List.any_eq_true.2 ⟨b,List.mem_of_getElem? h,hb⟩
theorem pX (s:ByteArray)(i:Nat)(h:i<s.size)(ha:128<=(s[i]'h).toNat) :
 i+(Utf8.decode s i).2<=s.size/\∀ j b,i<=j->j<i+(Utf8.decode s i).2->s.data.toList[j]?=some b->128<=b.toNat:=by
 have hn:¬ (s[i]'h).toNat<128:=by omega
 have A1:∀ k (hk:i+k<s.size),s.get! (i+k)=s[i+k]'hk:=by intro k hk;simp[ByteArray.get!,getElem!_pos,hk];rfl
 have h0:∀ b,s.data.toList[i]?=some b->128<=b.toNat:=by intro b hb;have:=Lib.data_getElem? s i h;rw[this] at hb;cases hb;exact ha
 have hc:∀ k,(decide (i+k<s.size)&&(s.get! (i+k)).toNat/64==2)=true->i+k<s.size/\∀ b,s.data.toList[i+k]?=some b->128<=b.toNat:=by intro k hk;simp only[Bool.and_eq_true,decide_eq_true_eq,beq_iff_eq] at hk;refine⟨hk.1,λ b hb=>?_⟩;have:=Lib.data_getElem? s (i+k) hk.1;rw[this] at hb;cases hb;have h2:=hk.2;rw[A1 k hk.1] at h2;omega
 have A0:i+1<=s.size/\∀ j b,i<=j->j<i+1->s.data.toList[j]?=some b->128<=b.toNat:=by refine⟨h,λ j b h1 h2 hb=>?_⟩;(obtain rfl:j=i:=by omega);exact h0 b hb
 simp only[Utf8.decode,get_at s i h,hn,if_false];split
 ·rename_i h1;simp only[Bool.and_eq_true] at h1;have c1:=hc 1 (by simpa using h1.2);split
  ·refine⟨c1.1,λ j b h1 h2 hb=>?_⟩;obtain rfl|rfl:j=i\/j=i+1:=by omega
   ·exact h0 b hb
   ·exact c1.2 b hb
  ·exact A0
 ·split
  ·rename_i h1;simp only[Bool.and_eq_true] at h1;have c1:=hc 1 (by simpa using h1.1.2);have c2:=hc 2 (by simpa using h1.2);split
   ·refine⟨c2.1,λ j b h1 h2 hb=>?_⟩;obtain rfl|rfl|rfl:j=i\/j=i+1\/j=i+2:=by omega
    ·exact h0 b hb
    ·exact c1.2 b hb
    ·exact c2.2 b hb
   ·exact A0
  ·split
   ·rename_i h1;simp only[Bool.and_eq_true] at h1;have c1:=hc 1 (by simpa using h1.1.1.2);have c2:=hc 2 (by simpa using h1.1.2);have c3:=hc 3 (by simpa using h1.2);split
    ·refine⟨c3.1,λ j b h1 h2 hb=>?_⟩;obtain rfl|rfl|rfl|rfl:j=i\/j=i+1\/j=i+2\/j=i+3:=by omega
     ·exact h0 b hb
     ·exact c1.2 b hb
     ·exact c2.2 b hb
     ·exact c3.2 b hb
    ·exact A0
   ·exact A0
def fF (w:World)(k:Nat)(s:ByteArray)(pos:Nat):World:={ w with heap:=w.heap.setIfInBounds k (.stringIter s pos) }
theorem tY {P:Program}(w:World)(k:Nat)(s:ByteArray)(pos:Nat)(ty:TypeId)(hk:w.heap[k]?=some (.stringIter s pos))(h:pos<s.size) :
 (Instr.next (.pointer (some ⟨k,0,none⟩)) true ty).run P w =
   .ok (.tuple #[.bool true,.int .i64 pos,.int .i32 (Utf8.decode s pos).1]) (fF w k s (pos+(Utf8.decode s pos).2)):=by
 simp only[Instr.next,getObj,setObj,Sem.run_bind,Sem.run,hk,Result.andThen,h,if_true];simp[goInt,fF]
theorem vA {P:Program}(w:World)(k:Nat)(s:ByteArray)(pos:Nat)(ty:TypeId)(hk:w.heap[k]?=some (.stringIter s pos))(h:¬ pos<s.size) :
 (Instr.next (.pointer (some ⟨k,0,none⟩)) true ty).run P w=.ok (.tuple #[.bool false]) w:=by
 simp[Instr.next,getObj,Sem.run,hk,h]
theorem m8 (w:World)(k:Nat)(s:ByteArray)(pos:Nat)(hk:k<w.heap.size):(fF w k s pos).heap[k]?=some (.stringIter s pos):=by
 simp[fF,hk]
theorem kU {w0 w:World}{B k:Nat}{s:ByteArray}{pos:Nat}(h:Below B w0 w)(hk:B<=k):Below B w0 (fF w k s pos):=by
 refine⟨h.os,h.tape,h.output,?_,?_⟩
 ·simpa [fF] using h.size
 ·intro j hj;rw[<- h.block j hj];simp only[fF];rw[Array.getElem?_setIfInBounds_ne (by omega)]
theorem BA (x:UInt8):decide ((0:Int)<=Lib.indexByte [13,10] (x.toNat:Int).toNat.toUInt8)=aK x:=by
 have:(x.toNat:Int).toNat.toUInt8=x:=by simp
 rw[this,<- Lib.contains_iff_indexByte];unfold aK;simp only[List.contains_cons,List.contains_nil,Bool.or_false]
theorem m6 (v:List UInt8)(w:World)(h8:v.length<=8) :
 Calls Tryz.prog 281 #[.string ⟨v.toArray⟩,.string ⟨#[13,10]⟩] w λ e w'=>(∃ n:Int,e=.returned (.int .i64 n)/\decide (0<=n)=v.any aK)/\Below w.heap.size w w':=by
 obtain⟨s,hs⟩:∃ s:ByteArray,s=⟨v.toArray⟩:=⟨_,rfl⟩;have hd:s.data.toList=v:=by rw[hs]
 have Ag:s.size=v.length:=by rw[Lib.size_eq,hd]
 rw[<- hs];have HD:Hid (s.data.toList=v):=hd;clear hs hd;have Am:decide ((8:Int)<(s.size:Int))=false:=decide_eq_false (by omega);have HS:Hid (s.size=v.length):=Ag;clear Ag;go_enter Tryz.func281,Tryz.ntmps281;go_wp2_with (go_at_call 309;refine (Tryz.strings_shouldUseASCIISet _ _).mono ?_;rintro e w' ⟨rfl,hw⟩;rw[hw,Am]);go_loopg [9,10] s.size (λ g _ _ wx=>∃ i:Nat,i+g=s.size/\Hid (wx.heap[w.heap.size]?=some (.stringIter s i))/\Hid (Below w.heap.size w wx)/\Hid (A3 v i));case atStart=>exact⟨0,by omega,World.iter_heap w s 0,(Below.refl _ _).alloc (Nat.le_refl _) _,λ j b h=>by omega⟩
 case round =>
  obtain⟨i,Ao,HI,HB,HN⟩:=hrel;cases gk with
  | zero =>(obtain rfl:i=s.size:=by omega);have A1:=λ ty=>vA (P:=Tryz.prog) wr w.heap.size s s.size ty HI.out (by omega);go_wp2;go_ret;refine⟨⟨-1,rfl,?_⟩,HB.out⟩;rw[HS.out] at HN;rw[HN.out.end'];rfl
  | succ g =>
    (have hi:i<s.size:=by omega);obtain⟨x,hx⟩:∃ x:UInt8,s[i]'hi=x:=⟨_,rfl⟩;(have Hx:Hid (v[i]?=some x):=by have:=Lib.data_getElem? s i hi;rw[HD.out,hx] at this;exact this);have A8:w.heap.size<wr.heap.size:=(gL HI.out);by_cases hx8:x.toNat<128
    ·have A1:=λ ty=>tY (P:=Tryz.prog) wr w.heap.size s i ty HI.out hi;rw[decode_ascii s i hi (by rw[hx];exact hx8),hx] at A1;simp only at A1;have A4:Hid (Below w.heap.size w (fF wr w.heap.size s (i+1))):=kU HB.out (Nat.le_refl _);have A2:Hid ((fF wr w.heap.size s (i+1)).heap[w.heap.size]?=some (.stringIter s (i+1))):=m8 _ _ _ _ A8;have A6:=BA x;obtain⟨w2,A7⟩:∃ w2,fF wr w.heap.size s (i+1)=w2:=⟨_,rfl⟩;rw[A7] at A1 A4 A2;obtain⟨n,hn⟩:∃ n,Lib.indexByte [13,10] (x.toNat:Int).toNat.toUInt8=n:=⟨_,rfl⟩;rw[hn] at A6;have Ae:Hid (Lib.indexByte [13,10] (x.toNat:Int).toNat.toUInt8=n):=hn;clear hn A7 hx;cases hc:aK x with
     | true =>rw[hc] at A6;have An:(0:Int)<=n:=of_decide_eq_true A6;have HC:Hid (aK x=true):=hc;clear A6 hc;go_wp2_with (go_at_call 308;refine (Tryz.strings_IndexRune_ascii ⟨#[13,10]⟩ _ _ (by omega) (by omega)).mono ?_;rintro e w' ⟨rfl,hw⟩;rw[hw,show (ByteArray.mk #[13,10]).data.toList=[13,10] from rfl,Ae.out]);go_ret;refine⟨⟨i,rfl,?_⟩,A4.out⟩;rw[hit Hx.out HC.out];simp
     | false =>
       rw[hc] at A6;have An:¬ ((0:Int)<=n):=of_decide_eq_false A6;have HC:Hid (aK x=false):=hc;clear A6 hc;go_wp2_with (go_at_call 308;refine (Tryz.strings_IndexRune_ascii ⟨#[13,10]⟩ _ _ (by omega) (by omega)).mono ?_;rintro e w' ⟨rfl,hw⟩;rw[hw,show (ByteArray.mk #[13,10]).data.toList=[13,10] from rfl,Ae.out]);go_roundg g;(case measure=>omega);case rel =>
        refine⟨i+1,by omega,A2,A4,λ j b hj hb=>?_⟩;by_cases hji:j=i
        ·subst hji;rw[Hx.out] at hb;cases hb;exact HC.out
        ·exact HN.out j b (by omega) hb
    ·(have A5:128<=(s[i]'hi).toNat:=by rw[hx];omega);obtain⟨Ah,Af⟩:=decode_high s i hi A5;have Ad:=decode_le s i;obtain⟨Ab,A9⟩:=pX s i hi A5;have A1:=λ ty=>tY (P:=Tryz.prog) wr w.heap.size s i ty HI.out hi;obtain⟨⟨r,d⟩,Ac⟩:∃ p,Utf8.decode s i=p:=⟨_,rfl⟩;rw[Ac] at Ah Af Ad Ab A9 A1;simp only at Ah Af Ad Ab A9 A1;have A4:Hid (Below w.heap.size w (fF wr w.heap.size s (i+d))):=kU HB.out (Nat.le_refl _);have A2:Hid ((fF wr w.heap.size s (i+d)).heap[w.heap.size]?=some (.stringIter s (i+d))):=m8 _ _ _ _ A8;have A0:w.heap.size<(fF wr w.heap.size s (i+d)).heap.size:=(gL A2.out);obtain⟨w2,A7⟩:∃ w2,fF wr w.heap.size s (i+d)=w2:=⟨_,rfl⟩;rw[A7] at A1 A4 A2 A0;rw[HD.out] at A9;have HK:Hid (∀ j b,i<=j->j<i+d->v[j]?=some b->128<=b.toNat):=A9;clear A9 A7 hx Ac hx8 A5;go_wp2_with fail;refine (mc r _ (by omega) (by omega)).mono ?_;rintro e w3 ⟨rfl,Aa⟩;have Aj:Hid (Below w.heap.size w w3):=A4.out.trans (Aa.mono (Nat.le_of_lt A0));have Ak:Hid (w3.heap[w.heap.size]?=some (.stringIter s (i+d))):=(Aa.block _ A0).trans A2.out;clear Aa A4 A2 A0 A1;go_wp2;go_roundg (s.size-(i+d));(case measure=>omega);case rel =>
      refine⟨i+d,by omega,Ak,Aj,λ j b hj hb=>?_⟩;by_cases hji:j<i
      ·exact HN.out j b hji hb
      ·have:=HK.out j b (by omega) hj hb;unfold aK;(have Ai:b≠13:=λ e=>by rw[e] at this;simp at this);(have Al:b≠10:=λ e=>by rw[e] at this;simp at this);simp[Ai,Al]
theorem pn (l:List UInt8):(0:Int)<=Lib.indexAny l [13,10] ↔ l.any aK=true:=by
 induction l with
 | nil=>simp[Lib.indexAny]
 | cons b l ih =>
   (have hc:([13,10]:List UInt8).contains b=aK b:=by unfold aK;simp only[List.contains_cons,List.contains_nil,Bool.or_false]);have A0:=Lib.indexAny_ge [13,10] l;(have e:Lib.indexAny (b::l) [13,10]=if aK b then 0 else if Lib.indexAny l [13,10] == -1 then -1 else Lib.indexAny l [13,10]+1:=by rw[<- hc];rfl);rw[e,List.any_cons];cases aK b with
   | true=>simp
   | false =>
     simp only[Bool.false_eq_true,if_false,Bool.false_or];rw[<- ih];by_cases h1:Lib.indexAny l [13,10] = -1
     ·simp[h1]
     ·have:(Lib.indexAny l [13,10] == -1)=false:=beq_eq_false_iff_ne.2 h1;rw[this];simp only[Bool.false_eq_true,if_false];omega
theorem qt (l:List UInt8):decide ((0:Int)<=Lib.indexAny l [13,10])=l.any aK:=by
 rw[Bool.eq_iff_iff,decide_eq_true_iff];exact pn l
theorem po (v:List UInt8)(w:World)(hv:v.length<=4000) :
 Calls Tryz.prog 281 #[.string ⟨v.toArray⟩,.string ⟨#[13,10]⟩] w λ e w'=>(∃ n:Int,e=.returned (.int .i64 n)/\decide (0<=n)=v.any aK)/\Below w.heap.size w w':=by
 by_cases h8:v.length<=8
 ·exact m6 v w h8
 ·(have A0:(⟨v.toArray⟩:ByteArray).size=v.length:=by rw[Lib.size_eq]);refine (Tryz.strings_IndexAny_long (zero_of_info Tryz.set64).1 ⟨v.toArray⟩ ⟨#[13,10]⟩ w (by decide) (by omega) (by omega) (by decide) (ascii_of_all (by decide))).mono ?_;rintro e w' ⟨rfl,rfl⟩;exact⟨⟨_,rfl,qt v⟩,((Below.refl _ _).alloc (Nat.le_refl _) _).alloc (by simp) _⟩
theorem BJ:rA:=by
 intro v w hv;go_enter Tryz.func240,Tryz.ntmps240;go_wp2_with fail;refine (po v w hv).mono ?_;rintro e w1 ⟨⟨n,rfl,hn⟩,hb⟩;have HN:Hid (decide (0<=n)=v.any aK):=hn;clear hn;go_wp2;go_ret;refine⟨?_,hb⟩;rw[<- HN.out];rfl
end Go.Proofs.YtmehkneofinmiaaGreatDoor

/-
 Texts of this proof, part 30.
-/
import Derived.Test.YtmehkneofinmiaaGreatDoorP08
set_option maxRecDepth 1000000
set_option maxHeartbeats 8000000
namespace Go.Proofs.YtmehkneofinmiaaGreatDoor
open Go.RowKit
theorem indexRune_high (r:Int)(w:World)(h0:128<=r)(h1:r<=2147483647) :
 Calls Tryz.prog 308 #[.string ⟨#[13,10]⟩,.int .i32 r] w fun e w'=>e=.returned (.int .i64 (-1))/\Below w.heap.size w w':=by
 by_cases hE:r=65533
 ·subst hE
  go_enter Tryz.func308,Tryz.ntmps308
  go_wp2_with fail
  go_loopg [5,6] 2 (fun g _ _ wx=>∃ i:Nat,i+g=2/\wx=w.iter ⟨#[13,10]⟩ i)
  case atStart=>exact⟨0,by omega,rfl⟩
  case round =>
   obtain⟨i,hig,rfl⟩:=hrel
   cases gk with
   | zero =>
     obtain rfl:i=2:=by omega
     have hnx:=fun ty=>run_next_end (P:=Tryz.prog) w ⟨#[13,10]⟩ 2 ty (by decide)
     go_wp2
     go_ret
     exact⟨rfl,(Below.refl _ _).alloc (Nat.le_refl _) _⟩
   | succ g =>
     have hi2:i=0\/i=1:=by omega
     rcases hi2 with rfl|rfl
     ·have hnx:=fun ty=>run_next_ascii (P:=Tryz.prog) w ⟨#[13,10]⟩ 0 ty (by decide) (by decide)
      go_wp2
      go_roundg g
      case measure=>omega
      case rel=>exact⟨1,by omega,rfl⟩
     ·have hnx:=fun ty=>run_next_ascii (P:=Tryz.prog) w ⟨#[13,10]⟩ 1 ty (by decide) (by decide)
      go_wp2
      go_roundg g
      case measure=>omega
      case rel=>exact⟨2,by omega,rfl⟩
 ·have hE':(r==65533)=false:=beq_eq_false_iff_ne.2 hE
  have hlt:¬ (r<128):=by omega
  go_enter Tryz.func308,Tryz.ntmps308
  go_wp2_with fail
  refine (Tryz.utf8_ValidRune r _).mono ?_
  rintro e w1 ⟨rfl,rfl⟩
  cases hv:Lib.validRune r with
  | false =>
    go_wp2
    go_ret
    exact⟨rfl,Below.refl _ _⟩
  | true =>
    have hval:Utf8.valid r=true:=by
     unfold Lib.validRune at hv
     unfold Utf8.valid
     simp at hv ⊢
     omega
    obtain⟨hr2,hr4,hr8⟩:=encode_facts r hval (by omega)
    obtain⟨rs,hrs⟩:∃ rs,Utf8.encode r=rs:=⟨_,rfl⟩
    rw[hrs] at hr2 hr4 hr8
    have hcv:∀ w:World,(convert 21 9 (.int .i32 r)).run Tryz.prog w=.ok (.string rs) w:=by
     intro w
     rw[run_convert_int_string w 21 9 .i32 r (by rw[Tryz.underlying21];rfl) Tryz.underlying9,hrs]
    clear hval hv hrs
    go_wp2_with fail
    go_step3
    go_wp2_with fail
    go_loopg [9] 1 (fun g x wx=>x=.int .i64 ((rs.size:Int)-1)/\wx=w1)
    case atStart=>exact⟨rfl,rfl⟩
    case round =>
     obtain⟨rfl,rfl⟩:=hrel
     by_cases h3:rs.size=2
     ·have hb1:128<=(rs[1]'(by omega)).toNat:=by
       have:=hr8 (by omega)
       simpa [h3] using this
      obtain⟨c,hc⟩:∃ c:UInt8,rs[1]'(by omega)=c:=⟨_,rfl⟩
      rw[hc] at hb1
      have hI:(rs.size:Int)-1=1:=by omega
      rw[hI]
      have hcI:((10:Int)==(c.toNat:Int))=false:=beq_eq_false_iff_ne.2 (by omega)
      clear hr8 hr4 hr2
      have hlt1:(1:Int)<(rs.size:Int):=by omega
      have e1:∀ w:World,(Instr.index 9 (.string ⟨#[13,10]⟩) (.int .i64 1)).run Tryz.prog w=.ok (.int .u8 10) w:=by
       intro w
       rw[run_index_string _ 9 ⟨#[13,10]⟩ .i64 1 Tryz.underlying9,dif_pos ⟨by omega,by decide⟩]
       rfl
      have e2:∀ w:World,(Instr.index 9 (.string rs) (.int .i64 1)).run Tryz.prog w=.ok (.int .u8 c.toNat) w:=by
       intro w
       rw[run_index_string _ 9 rs .i64 1 Tryz.underlying9,dif_pos ⟨by omega,by omega⟩]
       rw[<- hc]
       rfl
      have e3:∀ w:World,(Instr.slice 9 (.string ⟨#[13,10]⟩) (some (.int .i64 2)) none none).run Tryz.prog w=.ok (.string ⟨#[]⟩) w:=by
       intro w
       rw[run_slice_string_from_if _ 9 ⟨#[13,10]⟩ .i64 2 Tryz.underlying9,if_pos ⟨by omega,by decide⟩]
       rfl
      go_wp2_with fail
      go_step3
      go_wp2_with fail
      go_region
      go_wp2_with fail
      go_region_with (go_at_call 328;refine (Tryz.strings_IndexByte ⟨#[]⟩ c.toNat _).mono ?_;rintro e w9 ⟨rfl,rfl⟩;rw[show Lib.indexByte (⟨#[]⟩:ByteArray).data.toList (c.toNat:Int).toNat.toUInt8 = -1 from rfl])
      all_goals (go_wp2_with fail)
      all_goals (rw[Exit.noGoto_ret];go_wp2;rw[Exit.noGoto_ret];go_wp2)
      all_goals go_ret
      all_goals exact⟨rfl,Below.drew (Below.drew (Below.refl _ _))⟩
     ·have hgt:¬ ((rs.size:Int)-1<2):=by omega
      go_wp2
      go_ret
      exact⟨rfl,Below.refl _ _⟩
def NoCr (l:List UInt8)(i:Nat):Prop:=∀ j b,j<i->l[j]?=some b->crlfB b=false
theorem NoCr.end' {l:List UInt8}(h:NoCr l l.length):l.any crlfB=false:=by
 rw[List.any_eq_false]
 intro b hb
 obtain⟨j,hj,e⟩:=List.getElem_of_mem hb
 simp[h j b hj (by rw[List.getElem?_eq_getElem hj,e])]
theorem hit {l:List UInt8}{i:Nat}{b:UInt8}(h:l[i]?=some b)(hb:crlfB b=true):l.any crlfB=true :=
 List.any_eq_true.2 ⟨b,List.mem_of_getElem? h,hb⟩
theorem decode_skip (s:ByteArray)(i:Nat)(h:i<s.size)(ha:128<=(s[i]'h).toNat) :
 i+(Utf8.decode s i).2<=s.size/\∀ j b,i<=j->j<i+(Utf8.decode s i).2->s.data.toList[j]?=some b->128<=b.toNat:=by
 have hn:¬ (s[i]'h).toNat<128:=by omega
 have hat:∀ k (hk:i+k<s.size),s.get! (i+k)=s[i+k]'hk:=by
  intro k hk
  simp[ByteArray.get!,getElem!_pos,hk]
  rfl
 have h0:∀ b,s.data.toList[i]?=some b->128<=b.toNat:=by
  intro b hb
  have:=Lib.data_getElem? s i h
  rw[this] at hb
  cases hb
  exact ha
 have hc:∀ k,(decide (i+k<s.size)&&(s.get! (i+k)).toNat/64==2)=true->i+k<s.size/\∀ b,s.data.toList[i+k]?=some b->128<=b.toNat:=by
  intro k hk
  simp only[Bool.and_eq_true,decide_eq_true_eq,beq_iff_eq] at hk
  refine⟨hk.1,fun b hb=>?_⟩
  have:=Lib.data_getElem? s (i+k) hk.1
  rw[this] at hb
  cases hb
  have h2:=hk.2
  rw[hat k hk.1] at h2
  omega
 have one:i+1<=s.size/\∀ j b,i<=j->j<i+1->s.data.toList[j]?=some b->128<=b.toNat:=by
  refine⟨h,fun j b h1 h2 hb=>?_⟩
  obtain rfl:j=i:=by omega
  exact h0 b hb
 simp only[Utf8.decode,get_at s i h,hn,if_false]
 split
 ·rename_i h1
  simp only[Bool.and_eq_true] at h1
  have c1:=hc 1 (by simpa using h1.2)
  split
  ·refine⟨c1.1,fun j b h1 h2 hb=>?_⟩
   obtain rfl|rfl:j=i\/j=i+1:=by omega
   ·exact h0 b hb
   ·exact c1.2 b hb
  ·exact one
 ·split
  ·rename_i h1
   simp only[Bool.and_eq_true] at h1
   have c1:=hc 1 (by simpa using h1.1.2)
   have c2:=hc 2 (by simpa using h1.2)
   split
   ·refine⟨c2.1,fun j b h1 h2 hb=>?_⟩
    obtain rfl|rfl|rfl:j=i\/j=i+1\/j=i+2:=by omega
    ·exact h0 b hb
    ·exact c1.2 b hb
    ·exact c2.2 b hb
   ·exact one
  ·split
   ·rename_i h1
    simp only[Bool.and_eq_true] at h1
    have c1:=hc 1 (by simpa using h1.1.1.2)
    have c2:=hc 2 (by simpa using h1.1.2)
    have c3:=hc 3 (by simpa using h1.2)
    split
    ·refine⟨c3.1,fun j b h1 h2 hb=>?_⟩
     obtain rfl|rfl|rfl|rfl:j=i\/j=i+1\/j=i+2\/j=i+3:=by omega
     ·exact h0 b hb
     ·exact c1.2 b hb
     ·exact c2.2 b hb
     ·exact c3.2 b hb
    ·exact one
   ·exact one
def setIt (w:World)(k:Nat)(s:ByteArray)(pos:Nat):World:={ w with heap:=w.heap.setIfInBounds k (.stringIter s pos) }
theorem next_at {P:Program}(w:World)(k:Nat)(s:ByteArray)(pos:Nat)(ty:TypeId)(hk:w.heap[k]?=some (.stringIter s pos))(h:pos<s.size) :
 (Instr.next (.pointer (some ⟨k,0,none⟩)) true ty).run P w =
   .ok (.tuple #[.bool true,.int .i64 pos,.int .i32 (Utf8.decode s pos).1]) (setIt w k s (pos+(Utf8.decode s pos).2)):=by
 simp only[Instr.next,getObj,setObj,Sem.run_bind,Sem.run,hk,Result.andThen,h,if_true]
 simp[goInt,setIt]
theorem next_stop {P:Program}(w:World)(k:Nat)(s:ByteArray)(pos:Nat)(ty:TypeId)(hk:w.heap[k]?=some (.stringIter s pos))(h:¬ pos<s.size) :
 (Instr.next (.pointer (some ⟨k,0,none⟩)) true ty).run P w=.ok (.tuple #[.bool false]) w:=by
 simp[Instr.next,getObj,Sem.run,hk,h]
theorem setIt_heap (w:World)(k:Nat)(s:ByteArray)(pos:Nat)(hk:k<w.heap.size):(setIt w k s pos).heap[k]?=some (.stringIter s pos):=by
 simp[setIt,hk]
theorem setIt_below {w0 w:World}{B k:Nat}{s:ByteArray}{pos:Nat}(h:Below B w0 w)(hk:B<=k):Below B w0 (setIt w k s pos):=by
 refine⟨h.os,h.tape,h.output,?_,?_⟩
 ·simpa [setIt] using h.size
 ·intro j hj
  rw[<- h.block j hj]
  simp only[setIt]
  rw[Array.getElem?_setIfInBounds_ne (by omega)]
theorem crIdx (x:UInt8):decide ((0:Int)<=Lib.indexByte [13,10] (x.toNat:Int).toNat.toUInt8)=crlfB x:=by
 have:(x.toNat:Int).toNat.toUInt8=x:=by simp
 rw[this,<- Lib.contains_iff_indexByte]
 unfold crlfB
 simp only[List.contains_cons,List.contains_nil,Bool.or_false]
theorem indexAny_short (v:List UInt8)(w:World)(h8:v.length<=8) :
 Calls Tryz.prog 281 #[.string ⟨v.toArray⟩,.string ⟨#[13,10]⟩] w fun e w'=>(∃ n:Int,e=.returned (.int .i64 n)/\decide (0<=n)=v.any crlfB)/\Below w.heap.size w w':=by
 obtain⟨s,hs⟩:∃ s:ByteArray,s=⟨v.toArray⟩:=⟨_,rfl⟩
 have hd:s.data.toList=v:=by rw[hs]
 have hsz:s.size=v.length:=by rw[Lib.size_eq,hd]
 rw[<- hs]
 have HD:Hid (s.data.toList=v):=hd
 clear hs hd
 have h8z:decide ((8:Int)<(s.size:Int))=false:=decide_eq_false (by omega)
 have HS:Hid (s.size=v.length):=hsz
 clear hsz
 go_enter Tryz.func281,Tryz.ntmps281
 go_wp2_with (go_at_call 309;refine (Tryz.strings_shouldUseASCIISet _ _).mono ?_;rintro e w' ⟨rfl,hw⟩;rw[hw,h8z])
 go_loopg [9,10] s.size (fun g _ _ wx=>∃ i:Nat,i+g=s.size/\Hid (wx.heap[w.heap.size]?=some (.stringIter s i))/\Hid (Below w.heap.size w wx)/\Hid (NoCr v i))
 case atStart=>exact⟨0,by omega,World.iter_heap w s 0,(Below.refl _ _).alloc (Nat.le_refl _) _,fun j b h=>by omega⟩
 case round =>
  obtain⟨i,hig,HI,HB,HN⟩:=hrel
  cases gk with
  | zero =>
    obtain rfl:i=s.size:=by omega
    have hnx:=fun ty=>next_stop (P:=Tryz.prog) wr w.heap.size s s.size ty HI.out (by omega)
    go_wp2
    go_ret
    refine⟨⟨-1,rfl,?_⟩,HB.out⟩
    rw[HS.out] at HN
    rw[HN.out.end']
    rfl
  | succ g =>
    have hi:i<s.size:=by omega
    obtain⟨x,hx⟩:∃ x:UInt8,s[i]'hi=x:=⟨_,rfl⟩
    have Hx:Hid (v[i]?=some x):=by
     have:=Lib.data_getElem? s i hi
     rw[HD.out,hx] at this
     exact this
    have hlt0:w.heap.size<wr.heap.size:=(Array.getElem?_eq_some_iff.1 HI.out).1
    by_cases hx8:x.toNat<128
    ·have hnx:=fun ty=>next_at (P:=Tryz.prog) wr w.heap.size s i ty HI.out hi
     rw[decode_ascii s i hi (by rw[hx];exact hx8),hx] at hnx
     simp only at hnx
     have HB2:Hid (Below w.heap.size w (setIt wr w.heap.size s (i+1))):=setIt_below HB.out (Nat.le_refl _)
     have HI2:Hid ((setIt wr w.heap.size s (i+1)).heap[w.heap.size]?=some (.stringIter s (i+1))):=setIt_heap _ _ _ _ hlt0
     have hcr:=crIdx x
     obtain⟨w2,hw2⟩:∃ w2,setIt wr w.heap.size s (i+1)=w2:=⟨_,rfl⟩
     rw[hw2] at hnx HB2 HI2
     obtain⟨n,hn⟩:∃ n,Lib.indexByte [13,10] (x.toNat:Int).toNat.toUInt8=n:=⟨_,rfl⟩
     rw[hn] at hcr
     have HN2:Hid (Lib.indexByte [13,10] (x.toNat:Int).toNat.toUInt8=n):=hn
     clear hn hw2 hx
     cases hc:crlfB x with
     | true =>
       rw[hc] at hcr
       have hge:(0:Int)<=n:=of_decide_eq_true hcr
       have HC:Hid (crlfB x=true):=hc
       clear hcr hc
       go_wp2_with (go_at_call 308;refine (Tryz.strings_IndexRune_ascii ⟨#[13,10]⟩ _ _ (by omega) (by omega)).mono ?_;rintro e w' ⟨rfl,hw⟩;rw[hw,show (ByteArray.mk #[13,10]).data.toList=[13,10] from rfl,HN2.out])
       go_ret
       refine⟨⟨i,rfl,?_⟩,HB2.out⟩
       rw[hit Hx.out HC.out]
       simp
     | false =>
       rw[hc] at hcr
       have hge:¬ ((0:Int)<=n):=of_decide_eq_false hcr
       have HC:Hid (crlfB x=false):=hc
       clear hcr hc
       go_wp2_with (go_at_call 308;refine (Tryz.strings_IndexRune_ascii ⟨#[13,10]⟩ _ _ (by omega) (by omega)).mono ?_;rintro e w' ⟨rfl,hw⟩;rw[hw,show (ByteArray.mk #[13,10]).data.toList=[13,10] from rfl,HN2.out])
       go_roundg g
       case measure=>omega
       case rel =>
        refine⟨i+1,by omega,HI2,HB2,fun j b hj hb=>?_⟩
        by_cases hji:j=i
        ·subst hji
         rw[Hx.out] at hb
         cases hb
         exact HC.out
        ·exact HN.out j b (by omega) hb
    ·have hx8':128<=(s[i]'hi).toNat:=by rw[hx];omega
     obtain⟨hd1,hd2⟩:=decode_high s i hi hx8'
     have hd3:=decode_le s i
     obtain⟨hk1,hk2⟩:=decode_skip s i hi hx8'
     have hnx:=fun ty=>next_at (P:=Tryz.prog) wr w.heap.size s i ty HI.out hi
     obtain⟨⟨r,d⟩,hrd⟩:∃ p,Utf8.decode s i=p:=⟨_,rfl⟩
     rw[hrd] at hd1 hd2 hd3 hk1 hk2 hnx
     simp only at hd1 hd2 hd3 hk1 hk2 hnx
     have HB2:Hid (Below w.heap.size w (setIt wr w.heap.size s (i+d))):=setIt_below HB.out (Nat.le_refl _)
     have HI2:Hid ((setIt wr w.heap.size s (i+d)).heap[w.heap.size]?=some (.stringIter s (i+d))):=setIt_heap _ _ _ _ hlt0
     have hlt2:w.heap.size<(setIt wr w.heap.size s (i+d)).heap.size:=(Array.getElem?_eq_some_iff.1 HI2.out).1
     obtain⟨w2,hw2⟩:∃ w2,setIt wr w.heap.size s (i+d)=w2:=⟨_,rfl⟩
     rw[hw2] at hnx HB2 HI2 hlt2
     rw[HD.out] at hk2
     have HK:Hid (∀ j b,i<=j->j<i+d->v[j]?=some b->128<=b.toNat):=hk2
     clear hk2 hw2 hx hrd hx8 hx8'
     go_wp2_with fail
     refine (indexRune_high r _ (by omega) (by omega)).mono ?_
     rintro e w3 ⟨rfl,hb3⟩
     have HB3:Hid (Below w.heap.size w w3):=HB2.out.trans (hb3.mono (Nat.le_of_lt hlt2))
     have HI3:Hid (w3.heap[w.heap.size]?=some (.stringIter s (i+d))):=(hb3.block _ hlt2).trans HI2.out
     clear hb3 HB2 HI2 hlt2 hnx
     go_wp2
     go_roundg (s.size-(i+d))
     case measure=>omega
     case rel =>
      refine⟨i+d,by omega,HI3,HB3,fun j b hj hb=>?_⟩
      by_cases hji:j<i
      ·exact HN.out j b hji hb
      ·have:=HK.out j b (by omega) hj hb
       unfold crlfB
       have h13:b≠13:=fun e=>by rw[e] at this;simp at this
       have h10:b≠10:=fun e=>by rw[e] at this;simp at this
       simp[h13,h10]
theorem indexAny_iff (l:List UInt8):(0:Int)<=Lib.indexAny l [13,10] ↔ l.any crlfB=true:=by
 induction l with
 | nil=>simp[Lib.indexAny]
 | cons b l ih =>
   have hc:([13,10]:List UInt8).contains b=crlfB b:=by
    unfold crlfB
    simp only[List.contains_cons,List.contains_nil,Bool.or_false]
   have hge:=Lib.indexAny_ge [13,10] l
   have e:Lib.indexAny (b::l) [13,10]=if crlfB b then 0 else if Lib.indexAny l [13,10] == -1 then -1 else Lib.indexAny l [13,10]+1:=by rw[<- hc];rfl
   rw[e,List.any_cons]
   cases crlfB b with
   | true=>simp
   | false =>
     simp only[Bool.false_eq_true,if_false,Bool.false_or]
     rw[<- ih]
     by_cases h1:Lib.indexAny l [13,10] = -1
     ·simp[h1]
     ·have:(Lib.indexAny l [13,10] == -1)=false:=beq_eq_false_iff_ne.2 h1
      rw[this]
      simp only[Bool.false_eq_true,if_false]
      omega
theorem indexAny_cr (l:List UInt8):decide ((0:Int)<=Lib.indexAny l [13,10])=l.any crlfB:=by
 rw[Bool.eq_iff_iff,decide_eq_true_iff]
 exact indexAny_iff l
theorem indexAny_any (v:List UInt8)(w:World)(hv:v.length<=4000) :
 Calls Tryz.prog 281 #[.string ⟨v.toArray⟩,.string ⟨#[13,10]⟩] w fun e w'=>(∃ n:Int,e=.returned (.int .i64 n)/\decide (0<=n)=v.any crlfB)/\Below w.heap.size w w':=by
 by_cases h8:v.length<=8
 ·exact indexAny_short v w h8
 ·have hsz:(⟨v.toArray⟩:ByteArray).size=v.length:=by rw[Lib.size_eq]
  refine (Tryz.strings_IndexAny_long (zero_of_info Tryz.set64).1 ⟨v.toArray⟩ ⟨#[13,10]⟩ w (by decide) (by omega) (by omega) (by decide) (ascii_of_all (by decide))).mono ?_
  rintro e w' ⟨rfl,rfl⟩
  exact⟨⟨_,rfl,indexAny_cr v⟩,((Below.refl _ _).alloc (Nat.le_refl _) _).alloc (by simp) _⟩
theorem anyIs:AnyIs:=by
 intro v w hv
 go_enter Tryz.func240,Tryz.ntmps240
 go_wp2_with fail
 refine (indexAny_any v w hv).mono ?_
 rintro e w1 ⟨⟨n,rfl,hn⟩,hb⟩
 have HN:Hid (decide (0<=n)=v.any crlfB):=hn
 clear hn
 go_wp2
 go_ret
 refine⟨?_,hb⟩
 rw[<- HN.out]
 rfl
end Go.Proofs.YtmehkneofinmiaaGreatDoor

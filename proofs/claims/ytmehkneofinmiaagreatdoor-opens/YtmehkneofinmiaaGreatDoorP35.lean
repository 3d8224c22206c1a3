/-part 35-/
import Derived.Test.YtmehkneofinmiaaGreatDoorP34
set_option maxRecDepth 100000
set_option maxHeartbeats 4000000
namespace Go.Proofs.YtmehkneofinmiaaGreatDoor
open Go.RowKit
theorem rF (l:List UInt8)(h:l.all isD=true):∀ n,n<=l.length->0<=num (l.take n)/\num (l.take n)<10 ^ n
 | 0,_=>⟨by simp[num],by simp[num]⟩
 | n+1,hn=>by
   obtain⟨h1,h2⟩:=rF l h n (by omega)
   obtain⟨c,hc⟩:∃ c,l[n]?=some c:=⟨_,List.getElem?_eq_getElem (by omega)⟩
   have hd:=List.all_eq_true.1 h c (List.mem_of_getElem? hc)
   simp[isD] at hd
   rw[List.take_add_one,hc,Option.toList_some,gY,Int.pow_succ]
   unfold dv
   omega
theorem zc (l:List UInt8)(h:l.all isD=true):0<=num l/\num l<10 ^ l.length:=by
 have:=rF l h l.length (Nat.le_refl _);rw[List.take_length] at this;exact this
theorem qe (s:ByteArray)(w:World)(hs:s.size<=100000) :
 Calls Tryz.prog 221 #[.string s] w λ e w'=>(∃ z:Int,e=.returned (.int .i64 z)/\(s.size<=9->z=dgs s.data.toList))/\w'=w:=by
 go_enter Tryz.func221,Tryz.ntmps221;go_wp2;go_loop [3,4] (λ n i=>∃ (k:Nat) (z:Int),k<=s.size/\i=.int .i64 k/\n=.int .i64 z/\Hid (k<=9->z=num (s.data.toList.take k))/\Hid ((s.data.toList.take k).all isD=true)) (λ _ i=>s.size-(intOf i).toNat);case atStart=>exact⟨0,0,Nat.zero_le _,rfl,rfl,λ _=>rfl,rfl⟩
 case round =>
  obtain⟨k,z,hk,rfl,rfl,hz,ha⟩:=hrel;by_cases hlt:k<s.size
  ·have A4:=s[k].toNat_lt;(have HS:Hid (num (s.data.toList.take (k+1))=10*num (s.data.toList.take k)+dv s[k]):=by rw[aV s k hlt];exact gY _ _);(have HA:Hid ((s.data.toList.take (k+1)).all isD=isD s[k]):=by have:=ha.out;show _=_;rw[aV s k hlt,List.all_append,this];simp);unfold dv at HS;have HN:Hid (isD s[k]=false->dgs s.data.toList = -1):=λ h=>j9 (xm hlt h);by_cases hk9:k<9
   ·have A1:=hz.out (by omega);have hb:=zc (s.data.toList.take k) ha.out;(have A0:(s.data.toList.take k).length=k:=by rw[List.length_take,Array.length_toList];exact Nat.min_eq_left hk);rw[A0,<- A1] at hb;(have hp:(10:Int) ^ k<=100000000:=by (have:k=0\/k=1\/k=2\/k=3\/k=4\/k=5\/k=6\/k=7\/k=8:=by omega);rcases this with h|h|h|h|h|h|h|h|h<;>rw[h]<;>decide);have A2:=hb.1;(have A3:z<100000000:=by omega);have HZ:Hid _:=A1;clear A1 hb A0 hp hz;go_wp2;all_goals first
     | (go_ret;exact⟨⟨_,rfl,λ _=>(HN.out (by simp[isD];omega)).symm⟩,rfl⟩)
     | exact⟨⟨k+1,_,by omega,by go_num,rfl,λ _=>by rw[HS.out,<- HZ.out];omega,HA.out.trans (by simp[isD];omega)⟩,by simp[intOf];omega⟩
   ·clear hz HS;go_wp2;all_goals first
     | (go_ret;exact⟨⟨_,rfl,λ _=>(HN.out (by simp[isD];omega)).symm⟩,rfl⟩)
     | exact⟨⟨k+1,_,by omega,by go_num,rfl,λ h=>by omega,HA.out.trans (by simp[isD];omega)⟩,by simp[intOf];omega⟩
  ·go_wp2;go_ret;have h1:=ha.out;rw[List.take_of_length_le (by rw[Array.length_toList];show s.size<=k;omega)] at h1;refine⟨⟨z,rfl,λ h9=>?_⟩,rfl⟩;have h2:=hz.out (by omega);rw[List.take_of_length_le (by rw[Array.length_toList];show s.size<=k;omega)] at h2;rw[h2,eC h1]
theorem jt (p:UInt8->Bool):∀ (l:List UInt8) (c:UInt8),c∈l.takeWhile p->p c=true
 | [],_,h=>by simp at h
 | a::l,c,h=>by
   rw[List.takeWhile_cons] at h
   split at h
   ·rename_i ha
    rcases List.mem_cons.1 h with rfl|h2
    ·exact ha
    ·exact jt p l c h2
   ·simp at h
structure TgR where
 tg:Nat
 key:List UInt8
 after:List UInt8
 v:Int
def fL:List UInt8:=[47,63,97,102,116,101,114,61]
def d7 (c:UInt8):Bool:=c != 63
def wW:List UInt8:=[63,118,101,114,115,105,111,110,115]
def gLr (key rest:List UInt8):Option TgR :=
 if aA key=false then none
 else if rest=[] then some ⟨2,key,[],0⟩
 else if rest=wW then some ⟨3,key,[],0⟩
 else if rest.take 3=[63,118,61] then (if 4<=rest.length/\rest.length<=12/\0<dgs (rest.drop 3)/\rest[3]?≠some 48 then some ⟨4,key,[],dgs (rest.drop 3)⟩ else none)
 else none
def jj (s:List UInt8):Option TgR :=
 if s=[47] then some ⟨1,[],[],0⟩
 else if s.take 8=fL then (if aA (s.drop 8) then some ⟨1,[],s.drop 8,0⟩ else none)
 else if s.length<2\/s.head?≠some 47 then none
 else gLr ((s.drop 1).takeWhile d7) ((s.drop 1).dropWhile d7)
structure ix (g:Nat)(RC RC':Array Value)(w w':World):Prop where
 blk:w'.heap[g]?=some (.cells RC' 130 (0,0))
 size:RC'.size=RC.size
 same:∀ i,i≠1->i≠2->i≠3->i≠4->i≠5->RC'[i]?=RC[i]?
 off:Off (λ k=>k=g) w w'
def xV (g:Nat)(RC:Array Value)(o:Option TgR)(w:World)(e:Ending)(w':World):Prop :=
 ∃ RC',ix g RC RC' w w'/\RC'[1]?=RC[1]?/\e=.returned (.bool o.isSome)/\∀ x,o=some x->RC'[2]?=some (.int .i64 (x.tg:Int))/\RC'[3]?=some (.string ⟨x.key.toArray⟩)/\RC'[4]?=some (.string ⟨x.after.toArray⟩)/\RC'[5]?=some (.int .i64 x.v)
theorem ix.refl {g:Nat}{RC:Array Value}{w:World}(h:w.heap[g]?=some (.cells RC 130 (0,0))):ix g RC RC w w:=⟨h,rfl,λ _ _ _ _ _ _=>rfl,Off.refl _ _⟩
theorem ix.set {g:Nat}{RC RC':Array Value}{w w':World}(h:ix g RC RC' w w')(i:Nat)(v:Value)(hi:i=1\/i=2\/i=3\/i=4\/i=5):ix g RC (RC'.setIfInBounds i v) w (w'.setCell ⟨g,i,none⟩ v):=by
 refine⟨ah h.blk,by rw[Array.size_setIfInBounds];exact h.size,λ j h1 h2 h3 h4 h5=>?_,h.off.set g i v (Or.inl rfl)⟩;rw[Array.getElem?_setIfInBounds_ne (by rintro rfl;omega)];exact h.same j h1 h2 h3 h4 h5
theorem ns (g:Nat)(RC:Array Value)(l:List UInt8)(w:World)(h:w.heap[g]?=some (.cells RC 130 (0,0)))(hs:RC.size=21)(h3:RC[3]?=some (.string ⟨#[]⟩))(h4:RC[4]?=some (.string ⟨#[]⟩))(h5:RC[5]?=some (.int .i64 0))(hl:l.length<=100000) :
 Calls Tryz.prog 168 #[.pointer (some ⟨g,0,none⟩),.string ⟨l.toArray⟩] w (xV g RC (jj l) w):=by
 have Am:Hid _:=fI l fL w (by omega) (by decide);have Aq:Hid _:=ix.refl h;have hg:=(gL h);have Ah:(⟨l.toArray⟩:ByteArray).size=l.length:=Lib.size_eq _;have Ad:∀ i,i<21->∃ v,w.cell? ⟨g,i,none⟩=some v:=λ i hi=>by simp only[World.cell?,h];exact⟨RC[i]'(by omega),Array.getElem?_eq_getElem (by omega)⟩
 obtain⟨u2,c2⟩:=Ad 2 (by omega);have c3:w.cell? ⟨g,3,none⟩=some (.string ⟨#[]⟩):=by simp only[World.cell?,h];exact h3
 have c4:w.cell? ⟨g,4,none⟩=some (.string ⟨#[]⟩):=by simp only[World.cell?,h];exact h4
 have c5:w.cell? ⟨g,5,none⟩=some (.int .i64 0):=by simp only[World.cell?,h];exact h5
 have fz:∀ i,w.frozen? ⟨g,i,none⟩=false:=λ i=>by simp[World.frozen?,h]
 have f2:=fz 2;have f3:=fz 3;have f4:=fz 4;have f5:=fz 5;obtain⟨O,hO⟩:∃ O,jj l=O:=⟨_,rfl⟩;have HO:Hid _:=hO;rw[hO];clear hO Ad fz h;unfold fL at Am;by_cases hr:l=[47]
 ·(have HX:Hid (O=some ⟨1,[],[],0⟩):=by show _=_;rw[<- HO.out];unfold jj;rw[if_pos hr]);subst hr;go_enter Tryz.func168,Tryz.ntmps168;go_wp2_with (go_at_call 167;refine Calls.mono Am.out ?_;rintro e w1 ⟨rfl,A6⟩;rw[A6];clear A6);go_ret;rw[HX.out];refine⟨_,Aq.out.set 2 _ (by omega),by simp,rfl,λ x hx=>?_⟩;cases hx;refine⟨by simp[hs],?_,?_,?_⟩
  ·rw[Array.getElem?_setIfInBounds_ne (by omega)];exact h3
  ·rw[Array.getElem?_setIfInBounds_ne (by omega)];exact h4
  ·rw[Array.getElem?_setIfInBounds_ne (by omega)];exact h5
 ·have B4:(l==[47])=false:=beq_eq_false_iff_ne.2 hr;have Bf:(l=[47])=False:=eq_false hr;by_cases ha:l.take 8=[47,63,97,102,116,101,114,61]
  ·(have Bw:8<=l.length:=by have:=congrArg List.length ha;rw[List.length_take] at this;simp at this;omega);(have HX:Hid (O=if aA (l.drop 8) then some ⟨1,[],l.drop 8,0⟩ else none):=by show _=_;rw[<- HO.out];unfold jj fL;rw[if_neg hr,if_pos ha]);(have Ba:(l.take 8==[47,63,97,102,116,101,114,61])=true:=by rw[ha];rfl);(have Bi:(⟨l.toArray⟩:ByteArray).extract 8 l.length=⟨(l.drop 8).toArray⟩:=by apply ByteArray.ext;apply Array.toList_inj.1;rw[Lib.extract_data];show ((l.drop 8).take (l.length-8))=l.drop 8;rw[List.take_of_length_le (by rw[List.length_drop];exact Nat.le_refl _)]);obtain⟨af,B1⟩:∃ a,l.drop 8=a:=⟨_,rfl⟩;rw[B1] at HX Bi;have Ae:Hid _:=λ y=>jp ⟨af.toArray⟩ y (by rw[Lib.size_eq];show af.length<=_;rw[<- B1,List.length_drop];omega);(have Be:(8:Int)<=(l.length:Int):=by omega);(have A5:Hid (Calls Tryz.prog 167 #[.string ⟨l.toArray⟩,.string ⟨#[47,63,97,102,116,101,114,61]⟩] w λ e w'=>e=.returned (.bool true)/\w'=w):=by have:=Am.out;rw[show ([47,63,97,102,116,101,114,61]:List UInt8).length=8 from rfl,Ba] at this;exact this);clear ha Ba B1 Am;go_enter Tryz.func168,Tryz.ntmps168;go_wp2_with (first
    | (go_at_call 167;refine Calls.mono A5.out ?_;rintro e w1 ⟨rfl,A6⟩;rw[A6];clear A6)
    | (go_at_call 102;refine Calls.mono (Ae.out _) ?_;rintro e w2 ⟨rfl,A1⟩;rw[A1];clear A1))
   go_ret;rw[HX.out];refine⟨_,(Aq.out.set 2 _ (by omega)).set 4 _ (by omega),by simp,?_,λ x hx=>?_⟩
   ·cases aA af<;>rfl
   ·cases hko:aA af with
    | false=>rw[hko] at hx;cases hx
    | true =>
      rw[hko] at hx;cases hx;refine⟨by simp[hs],?_,by simp[hs],?_⟩
      ·rw[Array.getElem?_setIfInBounds_ne (by omega),Array.getElem?_setIfInBounds_ne (by omega)];exact h3
      ·rw[Array.getElem?_setIfInBounds_ne (by omega),Array.getElem?_setIfInBounds_ne (by omega)];exact h5
  ·(have A5:Hid (Calls Tryz.prog 167 #[.string ⟨l.toArray⟩,.string ⟨#[47,63,97,102,116,101,114,61]⟩] w λ e w'=>e=.returned (.bool false)/\w'=w):=by have:=Am.out;rw[show ([47,63,97,102,116,101,114,61]:List UInt8).length=8 from rfl,show (l.take 8==[47,63,97,102,116,101,114,61])=false from beq_eq_false_iff_ne.2 ha] at this;exact this);clear Am B4 Bf;by_cases hp:l.length<2\/l.head?≠some 47
   ·(have HX:Hid (O=none):=by show _=_;rw[<- HO.out];unfold jj fL;rw[if_neg hr,if_neg ha,if_pos hp]);have Aa:(decide (l.length<2)=true)\/(decide (l.length<2)=false/\∀ h:0<(⟨l.toArray⟩:ByteArray).size,¬ (((⟨l.toArray⟩:ByteArray)[0]).toNat:Int)=47):=by
     by_cases hp2:l.length<2
     ·exact Or.inl (decide_eq_true hp2)
     ·refine Or.inr ⟨decide_eq_false hp2,λ h e=>?_⟩;have h1:=hp.resolve_left hp2;cases l with
      | nil=>simp at hp2
      | cons c t =>apply h1;(have:c.toNat=47:=by have e2:(((⟨(c::t).toArray⟩:ByteArray)[0]).toNat:Int)=(c.toNat:Int):=rfl;omega);have:c=47:=UInt8.toNat_inj.1 this;rw[this];rfl
    obtain⟨S,hS⟩:∃ S:ByteArray,(⟨l.toArray⟩:ByteArray)=S:=⟨_,rfl⟩;(have B4:(S.toList==(⟨#[47]⟩:ByteArray).toList)=false:=by rw[beq_eq_false_iff_ne];intro e;rw[<- hS,ByteArray.toList_eq,ByteArray.toList_eq] at e;exact hr (by simpa using e));(have B0:(S.toList==[47])=false:=by rw[beq_eq_false_iff_ne];intro e;rw[<- hS,ByteArray.toList_eq] at e;exact hr (by simpa using e));rw[hS] at Ah Aa A5 ⊢;obtain⟨n,hn⟩:∃ n,l.length=n:=⟨_,rfl⟩;rw[hn] at Ah Aa;clear hS hr ha hp hn;rcases Aa with Aa|⟨Aa,h0⟩
    ·(have B2:(n:Int)<2:=by have:=of_decide_eq_true Aa;omega);clear Aa;go_enter Tryz.func168,Tryz.ntmps168;go_wp2_with (go_at_call 167;refine Calls.mono A5.out ?_;rintro e w1 ⟨rfl,A6⟩;rw[A6];clear A6);go_ret;rw[HX.out];exact⟨RC,Aq.out,rfl,rfl,λ x hx=>by cases hx⟩
    ·have Bd:¬ n<2:=of_decide_eq_false Aa;(have B2:¬ (n:Int)<2:=by omega);(have Bb:0<S.size:=by omega);have Ar:=h0 Bb;(have b0:((S[0].toNat:Int) != 47)=true:=by rw[bne_iff_ne];exact Ar);clear Aa h0;go_enter Tryz.func168,Tryz.ntmps168;go_wp2_with (go_at_call 167;refine Calls.mono A5.out ?_;rintro e w1 ⟨rfl,A6⟩;rw[A6];clear A6);go_ret;rw[HX.out];exact⟨RC,Aq.out,rfl,rfl,λ x hx=>by cases hx⟩
   ·(have HX:Hid (O=gLr ((l.drop 1).takeWhile d7) ((l.drop 1).dropWhile d7)):=by show _=_;rw[<- HO.out];unfold jj fL;rw[if_neg hr,if_neg ha,if_neg hp]);obtain⟨A3,Ac⟩:∃ k,(l.drop 1).takeWhile d7=k:=⟨_,rfl⟩;obtain⟨A0,A7⟩:∃ k,(l.drop 1).dropWhile d7=k:=⟨_,rfl⟩;have Aj:l=47::(A3++A0):=by
     rw[<- Ac,<- A7,List.takeWhile_append_dropWhile];cases l with
     | nil=>exact absurd (Or.inl (by simp)) hp
     | cons c t =>have:¬ (c::t).head?≠some 47:=λ h=>hp (Or.inr h);(have hc:c=47:=by simpa using this);rw[hc];rfl
    (have An:∀ c∈A3,d7 c=true:=λ c hc=>by rw[<- Ac] at hc;exact jt _ _ _ hc);have Ax:A0=[]\/∃ r,A0=63::r:=by
     cases hrr:A0 with
     | nil=>exact Or.inl rfl
     | cons c r =>have h2:=List.head?_dropWhile_not d7 (l.drop 1);rw[A7,hrr] at h2;simp[d7] at h2;exact Or.inr ⟨r,by rw[h2]⟩
    rw[Ac,A7] at HX;have Bd:2<=l.length:=by
     rcases Nat.lt_or_ge l.length 2 with h|h
     ·exact absurd (Or.inl h) hp
     ·exact h
    obtain⟨K,hK⟩:∃ K,1+A3.length=K:=⟨_,rfl⟩;(have A2:l.length=K+A0.length:=by rw[Aj,<- hK];simp;omega);obtain⟨n,hn⟩:∃ n,l.length=n:=⟨_,rfl⟩;(have Af:∀ a,1<=a->a<K->∀ h:a<(⟨l.toArray⟩:ByteArray).size,¬ (((⟨l.toArray⟩:ByteArray)[a]).toNat:Int)=63:=λ a h1 h2 h e=>by have e1:l[a]?=some ((⟨l.toArray⟩:ByteArray)[a]):=List.getElem?_eq_getElem (by rw[Ah] at h;exact h);generalize (⟨l.toArray⟩:ByteArray)[a]=bb at e e1;rw[Aj,show a=(a-1)+1 by omega,List.getElem?_cons_succ,List.getElem?_append_left (by omega)] at e1;have e2:=An _ (List.mem_of_getElem? e1);unfold d7 at e2;rw[bne_iff_ne] at e2;exact e2 (UInt8.toNat_inj.1 (by show _=63;omega)));(have Ag:A0≠[]->∀ h:K<(⟨l.toArray⟩:ByteArray).size,(((⟨l.toArray⟩:ByteArray)[K]).toNat:Int)=63:=λ hne h=>by obtain⟨r,Bn⟩:=Ax.resolve_left hne;have e1:l[K]?=some ((⟨l.toArray⟩:ByteArray)[K]):=List.getElem?_eq_getElem (by rw[Ah] at h;exact h);generalize (⟨l.toArray⟩:ByteArray)[K]=bb at e1 ⊢;rw[Aj,show K=A3.length+1 by omega,List.getElem?_cons_succ,List.getElem?_append_right (Nat.le_refl _),Nat.sub_self,Bn] at e1;(have e2:(63:UInt8)=bb:=by simpa using e1);rw[<- e2];rfl);(have B7:∀ h:0<(⟨l.toArray⟩:ByteArray).size,(((⟨l.toArray⟩:ByteArray)[0]).toNat:Int)=47:=λ h=>by have e1:l[0]?=some ((⟨l.toArray⟩:ByteArray)[0]):=List.getElem?_eq_getElem (by rw[Ah] at h;exact h);generalize (⟨l.toArray⟩:ByteArray)[0]=bb at e1 ⊢;rw[Aj] at e1;(have e2:(47:UInt8)=bb:=by simpa using e1);rw[<- e2];rfl);(have Av:(⟨l.toArray⟩:ByteArray).extract 1 K=⟨A3.toArray⟩:=by apply ByteArray.ext;apply Array.toList_inj.1;rw[Lib.extract_data];show ((l.drop 1).take (K-1))=A3;rw[Aj,List.drop_succ_cons,List.drop_zero,show K-1=A3.length by omega,List.take_left]);(have B6:(⟨l.toArray⟩:ByteArray).extract K n=⟨A0.toArray⟩:=by apply ByteArray.ext;apply Array.toList_inj.1;rw[Lib.extract_data];show ((l.drop K).take (n-K))=A0;rw[Aj,show K=A3.length+1 by omega,List.drop_succ_cons,List.drop_left,List.take_of_length_le (by omega)]);obtain⟨S,hS⟩:∃ S:ByteArray,(⟨l.toArray⟩:ByteArray)=S:=⟨_,rfl⟩;(have B4:(S.toList==(⟨#[47]⟩:ByteArray).toList)=false:=by rw[beq_eq_false_iff_ne];intro e;rw[<- hS,ByteArray.toList_eq,ByteArray.toList_eq] at e;exact hr (by simpa using e));(have B0:(S.toList==[47])=false:=by rw[beq_eq_false_iff_ne];intro e;rw[<- hS,ByteArray.toList_eq] at e;exact hr (by simpa using e));rw[hS] at Ah Af Ag B7 Av B6 A5 ⊢;rw[hn] at Ah A2 Bd hl;have Ae:Hid _:=λ y=>jp ⟨A3.toArray⟩ y (by rw[Lib.size_eq];show A3.length<=_;omega);have As:Hid _:=λ y=>fI A0 [63,118,61] y (by omega) (by decide);have Ar:=B7 (by omega);have HG:Hid _:=Af;have Bk:Hid _:=Ag;(have Bg:¬ (n:Int)<2:=by omega);(have Bb:(0:Int)<(n:Int):=by omega);have b0:((S[0]'(by omega)).toNat:Int)=47:=Ar;have Ap:Hid _:=A2;(have Bt:K<=n:=by omega);clear hS hr ha hp hn Aj An Ac A7 Af Ag B7 Ar A2;go_enter Tryz.func168,Tryz.ntmps168;go_wp2_with (go_at_call 167;refine Calls.mono A5.out ?_;rintro e w1 ⟨rfl,A6⟩;rw[A6];clear A6);go_loop [6] (λ iv=>∃ a:Nat,1<=a/\a<=K/\iv=.int .i64 a) (λ iv=>n-(intOf iv).toNat);(case atStart=>exact⟨1,by omega,by omega,rfl⟩);case round =>
     obtain⟨a,Bj,Bq,rfl⟩:=hrel;by_cases hak:a<K
     ·(have Bz:(a:Int)<(n:Int):=by omega);have hb:=HG.out a Bj hak (by omega);(have Bp:(((S[a]'(by omega)).toNat:Int) != 63)=true:=by rw[bne_iff_ne];exact hb);go_wp2;exact⟨⟨a+1,by omega,by omega,by go_num⟩,by simp[intOf];omega⟩
     ·(obtain rfl:a=K:=by omega);have A2:=Ap.out;have A9:(A0=[]/\¬ (a:Int)<(n:Int))\/(A0≠[]/\(a:Int)<(n:Int)):=by
       cases hrr:A0 with
       | nil=>left;rw[hrr] at A2;simp at A2;exact⟨rfl,by omega⟩
       | cons c r=>right;rw[hrr] at A2;simp at A2;exact⟨by simp,by omega⟩
      (have hA:(a:Int)<=(n:Int):=by omega);(have Bu:(1:Int)<=(a:Int):=by omega);have Au:Hid _:=A9;clear A2;have Al:Hid _:=Aq.out.set 3 (.string ⟨A3.toArray⟩) (by omega);(have Ak:Hid ((RC.setIfInBounds 3 (.string ⟨A3.toArray⟩))[1]?=RC[1]?):=by show _=_;rw[Array.getElem?_setIfInBounds_ne (by omega)]);rcases Au.out with ⟨Ai,Bm⟩|⟨Ai,Bm⟩
      ·subst Ai;have Ao:Hid (∀ y,Calls Tryz.prog 167 #[.string ⟨#[]⟩,.string ⟨#[63,118,61]⟩] y λ e w'=>e=.returned (.bool false)/\w'=y):=λ y=>As.out y;clear As A9 Au;cases hko:aA A3 with
       | false =>
         (have A8:Hid (O=none):=by show _=_;rw[HX.out];unfold gLr;rw[if_pos hko]);go_wp2_with (first
         | (go_at_call 102;refine Calls.mono (Ae.out _) ?_;rintro e w2 ⟨rfl,A1⟩;rw[A1,hko];clear A1)
         | (go_at_call 167;refine Calls.mono (Ao.out _) ?_;rintro e w3 ⟨rfl,A4⟩;rw[A4];clear A4))
         go_ret;rw[A8.out];exact⟨_,Al.out,Ak.out,rfl,λ x hx=>by cases hx⟩
       | true =>
         (have A8:Hid (O=some ⟨2,A3,[],0⟩):=by show _=_;rw[HX.out];unfold gLr;rw[if_neg (by rw[hko];simp),if_pos rfl]);go_wp2_with (first
         | (go_at_call 102;refine Calls.mono (Ae.out _) ?_;rintro e w2 ⟨rfl,A1⟩;rw[A1,hko];clear A1)
         | (go_at_call 167;refine Calls.mono (Ao.out _) ?_;rintro e w3 ⟨rfl,A4⟩;rw[A4];clear A4))
         go_ret;rw[A8.out];refine⟨_,Al.out.set 2 _ (by omega),by rw[Array.getElem?_setIfInBounds_ne (by omega)];exact Ak.out,rfl,λ x hx=>?_⟩;cases hx;refine⟨by simp[hs],by simp[hs],?_,?_⟩
         ·rw[Array.getElem?_setIfInBounds_ne (by omega),Array.getElem?_setIfInBounds_ne (by omega)];exact h4
         ·rw[Array.getElem?_setIfInBounds_ne (by omega),Array.getElem?_setIfInBounds_ne (by omega)];exact h5
      ·have hb:=Bk.out Ai (by omega);(have Bp:(((S[a]'(by omega)).toNat:Int) != 63)=false:=by rw[bne_eq_false_iff_eq];exact hb);have Bv:(⟨A0.toArray⟩:ByteArray).size=A0.length:=Lib.size_eq _;have Bh:(A0==[])=false:=beq_eq_false_iff_ne.2 Ai;obtain⟨vb,B5⟩:∃ b,(A0.take 3==[63,118,61])=b:=⟨_,rfl⟩;(have Ab:Hid (∀ y,Calls Tryz.prog 167 #[.string ⟨A0.toArray⟩,.string ⟨#[63,118,61]⟩] y λ e w'=>e=.returned (.bool vb)/\w'=y):=λ y=>by have:=As.out y;rw[show ([63,118,61]:List UInt8).length=3 from rfl,B5] at this;exact this);have Ay:Hid _:=B5;clear As B5;clear A9 Au hb;cases hko:aA A3 with
       | false =>
         (have A8:Hid (O=none):=by show _=_;rw[HX.out];unfold gLr;rw[if_pos hko]);go_wp2_with (first
         | (go_at_call 102;refine Calls.mono (Ae.out _) ?_;rintro e w2 ⟨rfl,A1⟩;rw[A1,hko];clear A1)
         | (go_at_call 167;refine Calls.mono (Ab.out _) ?_;rintro e w3 ⟨rfl,A4⟩;rw[A4];clear A4))
         go_ret;rw[A8.out];exact⟨_,Al.out,Ak.out,rfl,λ x hx=>by cases hx⟩
       | true =>
         by_cases hve:A0=wW
         ·(have A8:Hid (O=some ⟨3,A3,[],0⟩):=by show _=_;rw[HX.out];unfold gLr;rw[if_neg (by rw[hko];simp),if_neg Ai,if_pos hve]);(have B3:(A0==[63,118,101,114,115,105,111,110,115])=true:=by rw[hve];rfl);clear hve;go_wp2_with (first
         | (go_at_call 102;refine Calls.mono (Ae.out _) ?_;rintro e w2 ⟨rfl,A1⟩;rw[A1,hko];clear A1)
         | (go_at_call 167;refine Calls.mono (Ab.out _) ?_;rintro e w3 ⟨rfl,A4⟩;rw[A4];clear A4))
          go_ret;rw[A8.out];refine⟨_,Al.out.set 2 _ (by omega),by rw[Array.getElem?_setIfInBounds_ne (by omega)];exact Ak.out,rfl,λ x hx=>?_⟩;cases hx;refine⟨by simp[hs],by simp[hs],?_,?_⟩
          ·rw[Array.getElem?_setIfInBounds_ne (by omega),Array.getElem?_setIfInBounds_ne (by omega)];exact h4
          ·rw[Array.getElem?_setIfInBounds_ne (by omega),Array.getElem?_setIfInBounds_ne (by omega)];exact h5
         ·have B3:(A0==[63,118,101,114,115,105,111,110,115])=false:=beq_eq_false_iff_ne.2 hve;cases vb with
          | false =>
            (have A8:Hid (O=none):=by show _=_;rw[HX.out];unfold gLr;rw[if_neg (by rw[hko];simp),if_neg Ai,if_neg hve,if_neg (beq_eq_false_iff_ne.1 Ay.out)]);go_wp2_with (first
         | (go_at_call 102;refine Calls.mono (Ae.out _) ?_;rintro e w2 ⟨rfl,A1⟩;rw[A1,hko];clear A1)
         | (go_at_call 167;refine Calls.mono (Ab.out _) ?_;rintro e w3 ⟨rfl,A4⟩;rw[A4];clear A4))
            go_ret;rw[A8.out];exact⟨_,Al.out,Ak.out,rfl,λ x hx=>by cases hx⟩
          | true =>
            have B8:=beq_iff_eq.1 Ay.out;(have Bs:3<=A0.length:=by have:=congrArg List.length B8;rw[List.length_take] at this;simp at this;omega);(have Az:(⟨A0.toArray⟩:ByteArray).extract 3 A0.length=⟨(A0.drop 3).toArray⟩:=by apply ByteArray.ext;apply Array.toList_inj.1;rw[Lib.extract_data];show ((A0.drop 3).take (A0.length-3))=A0.drop 3;rw[List.take_of_length_le (by rw[List.length_drop];exact Nat.le_refl _)]);obtain⟨dg,At⟩:∃ d,A0.drop 3=d:=⟨_,rfl⟩;rw[At] at Az;(have By:dg.length=A0.length-3:=by rw[<- At,List.length_drop]);(have Br:A0.length<=100000:=by have:=Ap.out;omega);(have Bl:Hid (∀ y,Calls Tryz.prog 221 #[.string ⟨dg.toArray⟩] y λ e w'=>(∃ z:Int,e=.returned (.int .i64 z)/\(dg.length<=9->z=dgs dg))/\w'=y):=λ y=>by have:=qe ⟨dg.toArray⟩ y (by rw[Lib.size_eq];show dg.length<=_;omega);rw[Lib.size_eq] at this;exact this);(have A8:Hid (O=if 4<=A0.length/\A0.length<=12/\0<dgs dg/\A0[3]?≠some 48 then some ⟨4,A3,[],dgs dg⟩ else none):=by show _=_;rw[HX.out];unfold gLr;rw[if_neg (by rw[hko];simp),if_neg Ai,if_neg hve,if_pos B8,At]);(have Bx:(3:Int)<=(A0.length:Int):=by omega);have Aw:Hid (∀ (zz:Int) (O':Bool),(O'=true->O=some ⟨4,A3,[],zz⟩)->(O'=false->O=none)->xV g RC O w (.returned (.bool O')) (((w.setCell ⟨g,3,none⟩ (.string ⟨A3.toArray⟩)).setCell ⟨g,2,none⟩ (.int .i64 4)).setCell ⟨g,5,none⟩ (.int .i64 zz))):=λ zz O' h1 h2=>by
             refine⟨_,(Al.out.set 2 _ (by omega)).set 5 _ (by omega),by rw[Array.getElem?_setIfInBounds_ne (by omega),Array.getElem?_setIfInBounds_ne (by omega)];exact Ak.out,?_,λ x hx=>?_⟩
             ·cases O' with
              | true=>rw[h1 rfl];rfl
              | false=>rw[h2 rfl];rfl
             ·cases O' with
              | false=>rw[h2 rfl] at hx;cases hx
              | true =>rw[h1 rfl] at hx;cases hx;refine⟨by simp[hs],by simp[hs],?_,by simp[hs]⟩;rw[Array.getElem?_setIfInBounds_ne (by omega),Array.getElem?_setIfInBounds_ne (by omega),Array.getElem?_setIfInBounds_ne (by omega)];exact h4
            clear B8 At Ay hve HX;go_wp2_with (first
         | (go_at_call 102;refine Calls.mono (Ae.out _) ?_;rintro e w2 ⟨rfl,A1⟩;rw[A1,hko];clear A1)
         | (go_at_call 167;refine Calls.mono (Ab.out _) ?_;rintro e w3 ⟨rfl,A4⟩;rw[A4];clear A4)
         | (go_at_call 221;refine Calls.mono (Bl.out _) ?_;rintro e w4 ⟨⟨zz,rfl,Bc⟩,B9⟩;rw[B9];clear B9))
            all_goals
             go_ret;refine Aw.out zz _ (λ h=>?_) (λ h=>?_)
             ·first
               | (exfalso;exact Bool.false_ne_true h)
               | (have Bo:¬ ((⟨A0.toArray⟩:ByteArray)[3]'(by omega)).toNat=48:=by
                   intro e;rw[bne_iff_ne] at h;exact h (by omega)
                  have hz:=Bc (by omega);rw[A8.out,if_pos ⟨by omega,by omega,by omega,λ e=>Bo (by
                   have e1:A0[3]?=some ((⟨A0.toArray⟩:ByteArray)[3]'(by omega)):=List.getElem?_eq_getElem (by omega);rw[e1] at e;rw[Option.some.inj e]
                   rfl)⟩,hz])
             ·rw[A8.out,if_neg];rintro ⟨q1,q2,q3,q4⟩;have hz:=Bc (by omega);first
               | omega
               | (have e1:A0[3]?=some ((⟨A0.toArray⟩:ByteArray)[3]'(by omega)):=List.getElem?_eq_getElem (by omega)
                  apply q4;rw[bne_eq_false_iff_eq] at h;rw[e1]
                  exact congrArg some (UInt8.toNat_inj.1 (by show _=48;omega)))
def nmR:Nat->List UInt8
 | 0=>[71,69,84,32]
 | 1=>[72,69,65,68,32]
 | 2=>[80,85,84,32]
 | _=>[68,69,76,69,84,69,32]
def fJ (l:List UInt8)(i:Nat):Nat->Option (Nat×TgR)
 | 0=>none
 | n+1=>if l.take (nmR i).length=nmR i then (jj (l.drop (nmR i).length)).map λ t=>(i+1,t) else fJ l (i+1) n
def gn (l:List UInt8):Option (Nat×TgR):=fJ l 0 4
def AP (g:Nat)(RC:Array Value)(o:Option (Nat×TgR))(w:World)(e:Ending)(w':World):Prop :=
 ∃ RC',ix g RC RC' w w'/\e=.returned (.bool o.isSome)/\∀ x,o=some x->RC'[1]?=some (.int .i64 (x.1:Int))/\RC'[2]?=some (.int .i64 (x.2.tg:Int))/\RC'[3]?=some (.string ⟨x.2.key.toArray⟩)/\RC'[4]?=some (.string ⟨x.2.after.toArray⟩)/\RC'[5]?=some (.int .i64 x.2.v)
theorem pj (g:Nat)(RC:Array Value)(l:List UInt8)(w:World)(h:w.heap[g]?=some (.cells RC 130 (0,0)))(hs:RC.size=21)(h3:RC[3]?=some (.string ⟨#[]⟩))(h4:RC[4]?=some (.string ⟨#[]⟩))(h5:RC[5]?=some (.int .i64 0))(hl:l.length<=100000) :
 Calls Tryz.prog 106 #[.pointer (some ⟨g,0,none⟩),.string ⟨l.toArray⟩] w (AP g RC (gn l) w):=by
 have hg:=(gL h);have HH:Hid _:=h;obtain⟨O,hO⟩:∃ O,gn l=O:=⟨_,rfl⟩;have HO:Hid _:=hO;rw[hO];clear hO h;go_enter Tryz.func106,Tryz.ntmps106;go_wp2;obtain⟨X,hX⟩:∃ X,w.alloc (.cells #[.string ⟨#[71,69,84,32]⟩,.string ⟨#[72,69,65,68,32]⟩,.string ⟨#[80,85,84,32]⟩,.string ⟨#[68,69,76,69,84,69,32]⟩] 9)=X:=⟨_,rfl⟩;have A6:Below w.heap.size w X:=by rw[<- hX];exact (Below.refl _ _).alloc (Nat.le_refl _) _
 have Aa:Hid (∀ i,i<4->X.cell? ⟨w.heap.size,i,none⟩=some (.string ⟨(nmR i).toArray⟩)):=λ i hi=>by rw[<- hX];(have:i=0\/i=1\/i=2\/i=3:=by omega);rcases this with rfl|rfl|rfl|rfl<;>simp[nmR]
 have A4:Hid (X.heap[g]?=some (.cells RC 130 (0,0))):=(A6.block g hg).trans HH.out;have Ah:w.heap.size<X.heap.size:=by rw[<- hX];simp
 have A8:Hid _:=A6;rw[hX];clear hX A6 HH;go_loopw [6] (λ iv wr=>∃ i:Nat,i<=4/\iv=.int .i64 i/\Hid (O=fJ l i (4-i))/\wr=X) (λ iv _=>4-(intOf iv).toNat);case atStart=>exact⟨0,by omega,rfl,HO.out.symm,rfl⟩
 case round =>
  obtain⟨i,hi,rfl,ho,rfl⟩:=hrel;by_cases hi4:i<4
  ·(have Ag:(i:Int)<4:=by omega);have cN:=Aa.out i hi4;(have A9:Hid ((nmR i).length<=7):=by (have:i=0\/i=1\/i=2\/i=3:=by omega);rcases this with rfl|rfl|rfl|rfl<;>(show _<=_;decide));(have A0:Hid (fJ l i (4-i)=if l.take (nmR i).length=nmR i then (jj (l.drop (nmR i).length)).map λ t=>(i+1,t) else fJ l (i+1) (4-(i+1))):=by show _=_;rw[show 4-i=(4-(i+1))+1 by omega];rfl);obtain⟨N,hN⟩:∃ N,nmR i=N:=⟨_,rfl⟩;rw[hN] at cN A9 A0;have Ak:(⟨N.toArray⟩:ByteArray).size=N.length:=Lib.size_eq _;have Aj:(⟨l.toArray⟩:ByteArray).size=l.length:=Lib.size_eq _;have A5:Hid _:=fI l N wr (by omega) (by have:=A9.out;omega);clear hN;by_cases hb:l.take N.length=N
   ·(have A3:Hid (O=(jj (l.drop N.length)).map λ t=>(i+1,t)):=by show _=_;rw[ho.out,A0.out,if_pos hb]);have A1:(l.take N.length==N)=true:=beq_iff_eq.2 hb;(have Al:N.length<=l.length:=by have:=congrArg List.length hb;rw[List.length_take] at this;omega);(have Ab:(N.length:Int)<=(l.length:Int):=by omega);rw[A1] at A5;(have Ad:(⟨l.toArray⟩:ByteArray).extract N.length l.length=⟨(l.drop N.length).toArray⟩:=by apply ByteArray.ext;apply Array.toList_inj.1;rw[Lib.extract_data];show ((l.drop N.length).take (l.length-N.length))=l.drop N.length;rw[List.take_of_length_le (by rw[List.length_drop];exact Nat.le_refl _)]);have A7:Hid _:=ns g (RC.setIfInBounds 1 (.int .i64 ((i:Int)+1))) (l.drop N.length) (wr.setCell ⟨g,1,none⟩ (.int .i64 ((i:Int)+1))) (ah A4.out) (by simpa using hs) (by rw[Array.getElem?_setIfInBounds_ne (by omega)];exact h3) (by rw[Array.getElem?_setIfInBounds_ne (by omega)];exact h4) (by rw[Array.getElem?_setIfInBounds_ne (by omega)];exact h5) (by rw[List.length_drop];omega);obtain⟨D,hD⟩:∃ D,l.drop N.length=D:=⟨_,rfl⟩;rw[hD] at Ad A7 A3;(have c1:∃ v,wr.cell? ⟨g,1,none⟩=some v:=by simp only[World.cell?,A4.out];exact⟨RC[1]'(by omega),Array.getElem?_eq_getElem (by omega)⟩);obtain⟨v1,c1⟩:=c1;(have f1:wr.frozen? ⟨g,1,none⟩=false:=by simp[World.frozen?,A4.out]);(have Ae:g≠w.heap.size:=by omega);(have Ai:(wr.setCell ⟨g,1,none⟩ (.int .i64 ((i:Int)+1))).cell? ⟨w.heap.size,i,none⟩=some (.string ⟨N.toArray⟩):=by rw[World.cell?_setCell_other _ _ _ _ (by intro q;injection q with q1;exact Ae q1)];exact cN);clear hb A1 hD ho A0;go_wp2_with (first
     | (go_at_call 167;refine Calls.mono A5.out ?_;rintro e w1 ⟨rfl,A2⟩;rw[A2];clear A2)
     | (go_at_call 168;refine Calls.mono A7.out ?_;rintro e w2 ⟨Ac,hk,Af,rfl,hx⟩))
    go_ret;rw[A3.out];refine⟨Ac,⟨hk.blk,?_,λ q a1 a2 a3 a4 a5=>?_,?_⟩,?_,λ x hxx=>?_⟩
    ·rw[hk.size,Array.size_setIfInBounds]
    ·rw[hk.same q a1 a2 a3 a4 a5,Array.getElem?_setIfInBounds_ne (by omega)]
    ·exact Off.trans ((Off.of_below (S:=λ k=>k=g) A8.out).set g _ _ (Or.inl rfl)) hk.off
    ·cases jj D<;>rfl
    ·cases ht:jj D with
     | none=>rw[ht] at hxx;cases hxx
     | some y =>rw[ht] at hxx;cases hxx;refine⟨?_,hx y ht⟩;rw[Af];simp[hs]
   ·(have A3:Hid (O=fJ l (i+1) (4-(i+1))):=by show _=_;rw[ho.out,A0.out,if_neg hb]);have A1:(l.take N.length==N)=false:=beq_eq_false_iff_ne.2 hb;rw[A1] at A5;clear hb A1 ho A0;go_wp2_with (go_at_call 167;refine Calls.mono A5.out ?_;rintro e w1 ⟨rfl,A2⟩;rw[A2];clear A2);exact⟨⟨i+1,by omega,by go_num,A3,trivial⟩,by simp[intOf];omega⟩
  ·(obtain rfl:i=4:=by omega);go_wp2;go_ret;rw[ho.out];exact⟨RC,⟨A4.out,rfl,λ _ _ _ _ _ _=>rfl,Off.of_below A8.out⟩,rfl,λ x hx=>by cases hx⟩
end Go.Proofs.YtmehkneofinmiaaGreatDoor

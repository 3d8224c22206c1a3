/-
 Texts of this proof, part 39.
-/
import Derived.Test.YtmehkneofinmiaaGreatDoorP38
set_option maxRecDepth 100000
set_option maxHeartbeats 4000000
namespace Go.Proofs.YtmehkneofinmiaaGreatDoor
open Go.RowKit
theorem num_digs (l:List UInt8)(h:l.all isD=true):∀ n,n<=l.length->0<=num (l.take n)/\num (l.take n)<10 ^ n
 | 0,_=>⟨by simp[num],by simp[num]⟩
 | n+1,hn=>by
   obtain⟨h1,h2⟩:=num_digs l h n (by omega)
   obtain⟨c,hc⟩:∃ c,l[n]?=some c:=⟨_,List.getElem?_eq_getElem (by omega)⟩
   have hd:=List.all_eq_true.1 h c (List.mem_of_getElem? hc)
   simp[isD] at hd
   rw[List.take_add_one,hc,Option.toList_some,num_snoc,Int.pow_succ]
   unfold dv
   omega
theorem num_dig (l:List UInt8)(h:l.all isD=true):0<=num l/\num l<10 ^ l.length:=by
 have:=num_digs l h l.length (Nat.le_refl _)
 rw[List.take_length] at this
 exact this
theorem digits_long (s:ByteArray)(w:World)(hs:s.size<=100000) :
 Calls Tryz.prog 221 #[.string s] w fun e w'=>(∃ z:Int,e=.returned (.int .i64 z)/\(s.size<=9->z=dgs s.data.toList))/\w'=w:=by
 go_enter Tryz.func221,Tryz.ntmps221
 go_wp2
 go_loop [3,4] (fun n i=>∃ (k:Nat) (z:Int),k<=s.size/\i=.int .i64 k/\n=.int .i64 z/\Hid (k<=9->z=num (s.data.toList.take k))/\Hid ((s.data.toList.take k).all isD=true)) (fun _ i=>s.size-(intOf i).toNat)
 case atStart=>exact⟨0,0,Nat.zero_le _,rfl,rfl,fun _=>rfl,rfl⟩
 case round =>
  obtain⟨k,z,hk,rfl,rfl,hz,ha⟩:=hrel
  by_cases hlt:k<s.size
  ·have hct:=s[k].toNat_lt
   have HS:Hid (num (s.data.toList.take (k+1))=10*num (s.data.toList.take k)+dv s[k]):=by rw[take_snoc s k hlt];exact num_snoc _ _
   have HA:Hid ((s.data.toList.take (k+1)).all isD=isD s[k]):=by
    have:=ha.out
    show _=_
    rw[take_snoc s k hlt,List.all_append,this];simp
   unfold dv at HS
   have HN:Hid (isD s[k]=false->dgs s.data.toList = -1):=fun h=>dgs_no (all_no hlt h)
   by_cases hk9:k<9
   ·have hz':=hz.out (by omega)
    have hb:=num_dig (s.data.toList.take k) ha.out
    have hlen:(s.data.toList.take k).length=k:=by rw[List.length_take,Array.length_toList];exact Nat.min_eq_left hk
    rw[hlen,<- hz'] at hb
    have hp:(10:Int) ^ k<=100000000:=by
     have:k=0\/k=1\/k=2\/k=3\/k=4\/k=5\/k=6\/k=7\/k=8:=by omega
     rcases this with h|h|h|h|h|h|h|h|h<;>rw[h]<;>decide
    have hb0:=hb.1
    have hb1:z<100000000:=by omega
    have HZ:Hid _:=hz'
    clear hz' hb hlen hp hz
    go_wp2
    all_goals first
     | (go_ret;exact⟨⟨_,rfl,fun _=>(HN.out (by simp[isD];omega)).symm⟩,rfl⟩)
     | exact⟨⟨k+1,_,by omega,by go_num,rfl,fun _=>by rw[HS.out,<- HZ.out];omega,HA.out.trans (by simp[isD];omega)⟩,by simp[intOf];omega⟩
   ·clear hz HS
    go_wp2
    all_goals first
     | (go_ret;exact⟨⟨_,rfl,fun _=>(HN.out (by simp[isD];omega)).symm⟩,rfl⟩)
     | exact⟨⟨k+1,_,by omega,by go_num,rfl,fun h=>by omega,HA.out.trans (by simp[isD];omega)⟩,by simp[intOf];omega⟩
  ·go_wp2
   go_ret
   have h1:=ha.out
   rw[List.take_of_length_le (by rw[Array.length_toList];show s.size<=k;omega)] at h1
   refine⟨⟨z,rfl,fun h9=>?_⟩,rfl⟩
   have h2:=hz.out (by omega)
   rw[List.take_of_length_le (by rw[Array.length_toList];show s.size<=k;omega)] at h2
   rw[h2,dgs_yes h1]
theorem tw_mem (p:UInt8->Bool):∀ (l:List UInt8) (c:UInt8),c∈l.takeWhile p->p c=true
 | [],_,h=>by simp at h
 | a::l,c,h=>by
   rw[List.takeWhile_cons] at h
   split at h
   ·rename_i ha
    rcases List.mem_cons.1 h with rfl|h2
    ·exact ha
    ·exact tw_mem p l c h2
   ·simp at h
structure TgR where
 tg:Nat
 key:List UInt8
 after:List UInt8
 v:Int
def afterR:List UInt8:=[47,63,97,102,116,101,114,61]
def not63 (c:UInt8):Bool:=c != 63
def versR:List UInt8:=[63,118,101,114,115,105,111,110,115]
def restR (key rest:List UInt8):Option TgR :=
 if keyOK key=false then none
 else if rest=[] then some ⟨2,key,[],0⟩
 else if rest=versR then some ⟨3,key,[],0⟩
 else if rest.take 3=[63,118,61] then (if 4<=rest.length/\rest.length<=12/\0<dgs (rest.drop 3)/\rest[3]?≠some 48 then some ⟨4,key,[],dgs (rest.drop 3)⟩ else none)
 else none
def tgtR (s:List UInt8):Option TgR :=
 if s=[47] then some ⟨1,[],[],0⟩
 else if s.take 8=afterR then (if keyOK (s.drop 8) then some ⟨1,[],s.drop 8,0⟩ else none)
 else if s.length<2\/s.head?≠some 47 then none
 else restR ((s.drop 1).takeWhile not63) ((s.drop 1).dropWhile not63)
structure RqKept (g:Nat)(RC RC':Array Value)(w w':World):Prop where
 blk:w'.heap[g]?=some (.cells RC' 130 (0,0))
 size:RC'.size=RC.size
 same:∀ i,i≠1->i≠2->i≠3->i≠4->i≠5->RC'[i]?=RC[i]?
 off:Off (fun k=>k=g) w w'
def TgPost (g:Nat)(RC:Array Value)(o:Option TgR)(w:World)(e:Ending)(w':World):Prop :=
 ∃ RC',RqKept g RC RC' w w'/\RC'[1]?=RC[1]?/\e=.returned (.bool o.isSome)/\∀ x,o=some x->RC'[2]?=some (.int .i64 (x.tg:Int))/\RC'[3]?=some (.string ⟨x.key.toArray⟩)/\RC'[4]?=some (.string ⟨x.after.toArray⟩)/\RC'[5]?=some (.int .i64 x.v)
theorem RqKept.refl {g:Nat}{RC:Array Value}{w:World}(h:w.heap[g]?=some (.cells RC 130 (0,0))):RqKept g RC RC w w:=⟨h,rfl,fun _ _ _ _ _ _=>rfl,Off.refl _ _⟩
theorem RqKept.set {g:Nat}{RC RC':Array Value}{w w':World}(h:RqKept g RC RC' w w')(i:Nat)(v:Value)(hi:i=1\/i=2\/i=3\/i=4\/i=5):RqKept g RC (RC'.setIfInBounds i v) w (w'.setCell ⟨g,i,none⟩ v):=by
 refine⟨heap_set h.blk,by rw[Array.size_setIfInBounds];exact h.size,fun j h1 h2 h3 h4 h5=>?_,h.off.set g i v (Or.inl rfl)⟩
 rw[Array.getElem?_setIfInBounds_ne (by rintro rfl;omega)]
 exact h.same j h1 h2 h3 h4 h5
theorem refTarget_any (g:Nat)(RC:Array Value)(l:List UInt8)(w:World)(h:w.heap[g]?=some (.cells RC 130 (0,0)))(hs:RC.size=21)(h3:RC[3]?=some (.string ⟨#[]⟩))(h4:RC[4]?=some (.string ⟨#[]⟩))(h5:RC[5]?=some (.int .i64 0))(hl:l.length<=100000) :
 Calls Tryz.prog 168 #[.pointer (some ⟨g,0,none⟩),.string ⟨l.toArray⟩] w (TgPost g RC (tgtR l) w):=by
 have HBG:Hid _:=refBegins_any l afterR w (by omega) (by decide)
 have HK0:Hid _:=RqKept.refl h
 have hg:=(Array.getElem?_eq_some_iff.1 h).1
 have hls:(⟨l.toArray⟩:ByteArray).size=l.length:=Lib.size_eq _
 have hcell:∀ i,i<21->∃ v,w.cell? ⟨g,i,none⟩=some v:=fun i hi=>by
  simp only[World.cell?,h]
  exact⟨RC[i]'(by omega),Array.getElem?_eq_getElem (by omega)⟩
 obtain⟨u2,c2⟩:=hcell 2 (by omega)
 have c3:w.cell? ⟨g,3,none⟩=some (.string ⟨#[]⟩):=by simp only[World.cell?,h];exact h3
 have c4:w.cell? ⟨g,4,none⟩=some (.string ⟨#[]⟩):=by simp only[World.cell?,h];exact h4
 have c5:w.cell? ⟨g,5,none⟩=some (.int .i64 0):=by simp only[World.cell?,h];exact h5
 have fz:∀ i,w.frozen? ⟨g,i,none⟩=false:=fun i=>by simp[World.frozen?,h]
 have f2:=fz 2
 have f3:=fz 3
 have f4:=fz 4
 have f5:=fz 5
 obtain⟨O,hO⟩:∃ O,tgtR l=O:=⟨_,rfl⟩
 have HO:Hid _:=hO
 rw[hO]
 clear hO hcell fz h
 unfold afterR at HBG
 by_cases hr:l=[47]
 ·have HX:Hid (O=some ⟨1,[],[],0⟩):=by show _=_;rw[<- HO.out];unfold tgtR;rw[if_pos hr]
  subst hr
  go_enter Tryz.func168,Tryz.ntmps168
  go_wp2_with (go_at_call 167;refine Calls.mono HBG.out ?_;rintro e w1 ⟨rfl,hw1⟩;rw[hw1];clear hw1)
  go_ret
  rw[HX.out]
  refine⟨_,HK0.out.set 2 _ (by omega),by simp,rfl,fun x hx=>?_⟩
  cases hx
  refine⟨by simp[hs],?_,?_,?_⟩
  ·rw[Array.getElem?_setIfInBounds_ne (by omega)];exact h3
  ·rw[Array.getElem?_setIfInBounds_ne (by omega)];exact h4
  ·rw[Array.getElem?_setIfInBounds_ne (by omega)];exact h5
 ·have hrb:(l==[47])=false:=beq_eq_false_iff_ne.2 hr
  have hrn:(l=[47])=False:=eq_false hr
  by_cases ha:l.take 8=[47,63,97,102,116,101,114,61]
  ·have hl8:8<=l.length:=by
    have:=congrArg List.length ha
    rw[List.length_take] at this
    simp at this
    omega
   have HX:Hid (O=if keyOK (l.drop 8) then some ⟨1,[],l.drop 8,0⟩ else none):=by show _=_;rw[<- HO.out];unfold tgtR afterR;rw[if_neg hr,if_pos ha]
   have hab:(l.take 8==[47,63,97,102,116,101,114,61])=true:=by rw[ha];rfl
   have hex:(⟨l.toArray⟩:ByteArray).extract 8 l.length=⟨(l.drop 8).toArray⟩:=by
    apply ByteArray.ext
    apply Array.toList_inj.1
    rw[Lib.extract_data]
    show ((l.drop 8).take (l.length-8))=l.drop 8
    rw[List.take_of_length_le (by rw[List.length_drop];exact Nat.le_refl _)]
   obtain⟨af,haf⟩:∃ a,l.drop 8=a:=⟨_,rfl⟩
   rw[haf] at HX hex
   have HKY:Hid _:=fun y=>refKey_any ⟨af.toArray⟩ y (by rw[Lib.size_eq];show af.length<=_;rw[<- haf,List.length_drop];omega)
   have hl8I:(8:Int)<=(l.length:Int):=by omega
   have HBG2:Hid (Calls Tryz.prog 167 #[.string ⟨l.toArray⟩,.string ⟨#[47,63,97,102,116,101,114,61]⟩] w fun e w'=>e=.returned (.bool true)/\w'=w):=by
    have:=HBG.out
    rw[show ([47,63,97,102,116,101,114,61]:List UInt8).length=8 from rfl,hab] at this
    exact this
   clear ha hab haf HBG
   go_enter Tryz.func168,Tryz.ntmps168
   go_wp2_with (first
    | (go_at_call 167;refine Calls.mono HBG2.out ?_;rintro e w1 ⟨rfl,hw1⟩;rw[hw1];clear hw1)
    | (go_at_call 102;refine Calls.mono (HKY.out _) ?_;rintro e w2 ⟨rfl,hw2⟩;rw[hw2];clear hw2))
   go_ret
   rw[HX.out]
   refine⟨_,(HK0.out.set 2 _ (by omega)).set 4 _ (by omega),by simp,?_,fun x hx=>?_⟩
   ·cases keyOK af<;>rfl
   ·cases hko:keyOK af with
    | false=>rw[hko] at hx;cases hx
    | true =>
      rw[hko] at hx
      cases hx
      refine⟨by simp[hs],?_,by simp[hs],?_⟩
      ·rw[Array.getElem?_setIfInBounds_ne (by omega),Array.getElem?_setIfInBounds_ne (by omega)];exact h3
      ·rw[Array.getElem?_setIfInBounds_ne (by omega),Array.getElem?_setIfInBounds_ne (by omega)];exact h5
  ·have HBG2:Hid (Calls Tryz.prog 167 #[.string ⟨l.toArray⟩,.string ⟨#[47,63,97,102,116,101,114,61]⟩] w fun e w'=>e=.returned (.bool false)/\w'=w):=by
    have:=HBG.out
    rw[show ([47,63,97,102,116,101,114,61]:List UInt8).length=8 from rfl,show (l.take 8==[47,63,97,102,116,101,114,61])=false from beq_eq_false_iff_ne.2 ha] at this
    exact this
   clear HBG hrb hrn
   by_cases hp:l.length<2\/l.head?≠some 47
   ·have HX:Hid (O=none):=by show _=_;rw[<- HO.out];unfold tgtR afterR;rw[if_neg hr,if_neg ha,if_pos hp]
    have hcd:(decide (l.length<2)=true)\/(decide (l.length<2)=false/\∀ h:0<(⟨l.toArray⟩:ByteArray).size,¬ (((⟨l.toArray⟩:ByteArray)[0]).toNat:Int)=47):=by
     by_cases hp2:l.length<2
     ·exact Or.inl (decide_eq_true hp2)
     ·refine Or.inr ⟨decide_eq_false hp2,fun h e=>?_⟩
      have h1:=hp.resolve_left hp2
      cases l with
      | nil=>simp at hp2
      | cons c t =>
        apply h1
        have:c.toNat=47:=by
         have e2:(((⟨(c::t).toArray⟩:ByteArray)[0]).toNat:Int)=(c.toNat:Int):=rfl
         omega
        have:c=47:=UInt8.toNat_inj.1 this
        rw[this]
        rfl
    obtain⟨S,hS⟩:∃ S:ByteArray,(⟨l.toArray⟩:ByteArray)=S:=⟨_,rfl⟩
    have hrb:(S.toList==(⟨#[47]⟩:ByteArray).toList)=false:=by
     rw[beq_eq_false_iff_ne]
     intro e
     rw[<- hS,ByteArray.toList_eq,ByteArray.toList_eq] at e
     exact hr (by simpa using e)
    have hrb2:(S.toList==[47])=false:=by
     rw[beq_eq_false_iff_ne]
     intro e
     rw[<- hS,ByteArray.toList_eq] at e
     exact hr (by simpa using e)
    rw[hS] at hls hcd HBG2 ⊢
    obtain⟨n,hn⟩:∃ n,l.length=n:=⟨_,rfl⟩
    rw[hn] at hls hcd
    clear hS hr ha hp hn
    rcases hcd with hcd|⟨hcd,h0⟩
    ·have hp2I:(n:Int)<2:=by have:=of_decide_eq_true hcd;omega
     clear hcd
     go_enter Tryz.func168,Tryz.ntmps168
     go_wp2_with (go_at_call 167;refine Calls.mono HBG2.out ?_;rintro e w1 ⟨rfl,hw1⟩;rw[hw1];clear hw1)
     go_ret
     rw[HX.out]
     exact⟨RC,HK0.out,rfl,rfl,fun x hx=>by cases hx⟩
    ·have hn2:¬ n<2:=of_decide_eq_false hcd
     have hp2I:¬ (n:Int)<2:=by omega
     have hn0:0<S.size:=by omega
     have h0n:=h0 hn0
     have b0:((S[0].toNat:Int) != 47)=true:=by rw[bne_iff_ne];exact h0n
     clear hcd h0
     go_enter Tryz.func168,Tryz.ntmps168
     go_wp2_with (go_at_call 167;refine Calls.mono HBG2.out ?_;rintro e w1 ⟨rfl,hw1⟩;rw[hw1];clear hw1)
     go_ret
     rw[HX.out]
     exact⟨RC,HK0.out,rfl,rfl,fun x hx=>by cases hx⟩
   ·have HX:Hid (O=restR ((l.drop 1).takeWhile not63) ((l.drop 1).dropWhile not63)):=by show _=_;rw[<- HO.out];unfold tgtR afterR;rw[if_neg hr,if_neg ha,if_neg hp]
    obtain⟨key,hkey⟩:∃ k,(l.drop 1).takeWhile not63=k:=⟨_,rfl⟩
    obtain⟨rest,hrest⟩:∃ k,(l.drop 1).dropWhile not63=k:=⟨_,rfl⟩
    have hlk:l=47::(key++rest):=by
     rw[<- hkey,<- hrest,List.takeWhile_append_dropWhile]
     cases l with
     | nil=>exact absurd (Or.inl (by simp)) hp
     | cons c t =>
       have:¬ (c::t).head?≠some 47:=fun h=>hp (Or.inr h)
       have hc:c=47:=by simpa using this
       rw[hc]
       rfl
    have hk63:∀ c∈key,not63 c=true:=fun c hc=>by rw[<- hkey] at hc;exact tw_mem _ _ _ hc
    have hr63:rest=[]\/∃ r,rest=63::r:=by
     cases hrr:rest with
     | nil=>exact Or.inl rfl
     | cons c r =>
       have h2:=List.head?_dropWhile_not not63 (l.drop 1)
       rw[hrest,hrr] at h2
       simp[not63] at h2
       exact Or.inr ⟨r,by rw[h2]⟩
    rw[hkey,hrest] at HX
    have hn2:2<=l.length:=by
     rcases Nat.lt_or_ge l.length 2 with h|h
     ·exact absurd (Or.inl h) hp
     ·exact h
    obtain⟨K,hK⟩:∃ K,1+key.length=K:=⟨_,rfl⟩
    have hlen:l.length=K+rest.length:=by rw[hlk,<- hK];simp;omega
    obtain⟨n,hn⟩:∃ n,l.length=n:=⟨_,rfl⟩
    have hget:∀ a,1<=a->a<K->∀ h:a<(⟨l.toArray⟩:ByteArray).size,¬ (((⟨l.toArray⟩:ByteArray)[a]).toNat:Int)=63:=fun a h1 h2 h e=>by
     have e1:l[a]?=some ((⟨l.toArray⟩:ByteArray)[a]):=List.getElem?_eq_getElem (by rw[hls] at h;exact h)
     generalize (⟨l.toArray⟩:ByteArray)[a]=bb at e e1
     rw[hlk,show a=(a-1)+1 by omega,List.getElem?_cons_succ,List.getElem?_append_left (by omega)] at e1
     have e2:=hk63 _ (List.mem_of_getElem? e1)
     unfold not63 at e2
     rw[bne_iff_ne] at e2
     exact e2 (UInt8.toNat_inj.1 (by show _=63;omega))
    have hend:rest≠[]->∀ h:K<(⟨l.toArray⟩:ByteArray).size,(((⟨l.toArray⟩:ByteArray)[K]).toNat:Int)=63:=fun hne h=>by
     obtain⟨r,hr'⟩:=hr63.resolve_left hne
     have e1:l[K]?=some ((⟨l.toArray⟩:ByteArray)[K]):=List.getElem?_eq_getElem (by rw[hls] at h;exact h)
     generalize (⟨l.toArray⟩:ByteArray)[K]=bb at e1 ⊢
     rw[hlk,show K=key.length+1 by omega,List.getElem?_cons_succ,List.getElem?_append_right (Nat.le_refl _),Nat.sub_self,hr'] at e1
     have e2:(63:UInt8)=bb:=by simpa using e1
     rw[<- e2]
     rfl
    have h47:∀ h:0<(⟨l.toArray⟩:ByteArray).size,(((⟨l.toArray⟩:ByteArray)[0]).toNat:Int)=47:=fun h=>by
     have e1:l[0]?=some ((⟨l.toArray⟩:ByteArray)[0]):=List.getElem?_eq_getElem (by rw[hls] at h;exact h)
     generalize (⟨l.toArray⟩:ByteArray)[0]=bb at e1 ⊢
     rw[hlk] at e1
     have e2:(47:UInt8)=bb:=by simpa using e1
     rw[<- e2]
     rfl
    have hex1:(⟨l.toArray⟩:ByteArray).extract 1 K=⟨key.toArray⟩:=by
     apply ByteArray.ext
     apply Array.toList_inj.1
     rw[Lib.extract_data]
     show ((l.drop 1).take (K-1))=key
     rw[hlk,List.drop_succ_cons,List.drop_zero,show K-1=key.length by omega,List.take_left]
    have hex2:(⟨l.toArray⟩:ByteArray).extract K n=⟨rest.toArray⟩:=by
     apply ByteArray.ext
     apply Array.toList_inj.1
     rw[Lib.extract_data]
     show ((l.drop K).take (n-K))=rest
     rw[hlk,show K=key.length+1 by omega,List.drop_succ_cons,List.drop_left,List.take_of_length_le (by omega)]
    obtain⟨S,hS⟩:∃ S:ByteArray,(⟨l.toArray⟩:ByteArray)=S:=⟨_,rfl⟩
    have hrb:(S.toList==(⟨#[47]⟩:ByteArray).toList)=false:=by
     rw[beq_eq_false_iff_ne]
     intro e
     rw[<- hS,ByteArray.toList_eq,ByteArray.toList_eq] at e
     exact hr (by simpa using e)
    have hrb2:(S.toList==[47])=false:=by
     rw[beq_eq_false_iff_ne]
     intro e
     rw[<- hS,ByteArray.toList_eq] at e
     exact hr (by simpa using e)
    rw[hS] at hls hget hend h47 hex1 hex2 HBG2 ⊢
    rw[hn] at hls hlen hn2 hl
    have HKY:Hid _:=fun y=>refKey_any ⟨key.toArray⟩ y (by rw[Lib.size_eq];show key.length<=_;omega)
    have HBV:Hid _:=fun y=>refBegins_any rest [63,118,61] y (by omega) (by decide)
    have h0n:=h47 (by omega)
    have HG:Hid _:=hget
    have HEN:Hid _:=hend
    have hn2I:¬ (n:Int)<2:=by omega
    have hn0:(0:Int)<(n:Int):=by omega
    have b0:((S[0]'(by omega)).toNat:Int)=47:=h0n
    have HLEN:Hid _:=hlen
    have hKn:K<=n:=by omega
    clear hS hr ha hp hn hlk hk63 hkey hrest hget hend h47 h0n hlen
    go_enter Tryz.func168,Tryz.ntmps168
    go_wp2_with (go_at_call 167;refine Calls.mono HBG2.out ?_;rintro e w1 ⟨rfl,hw1⟩;rw[hw1];clear hw1)
    go_loop [6] (fun iv=>∃ a:Nat,1<=a/\a<=K/\iv=.int .i64 a) (fun iv=>n-(intOf iv).toNat)
    case atStart=>exact⟨1,by omega,by omega,rfl⟩
    case round =>
     obtain⟨a,ha1,haK,rfl⟩:=hrel
     by_cases hak:a<K
     ·have haI:(a:Int)<(n:Int):=by omega
      have hb:=HG.out a ha1 hak (by omega)
      have hbb:(((S[a]'(by omega)).toNat:Int) != 63)=true:=by rw[bne_iff_ne];exact hb
      go_wp2
      exact⟨⟨a+1,by omega,by omega,by go_num⟩,by simp[intOf];omega⟩
     ·obtain rfl:a=K:=by omega
      have hlen:=HLEN.out
      have hstop:(rest=[]/\¬ (a:Int)<(n:Int))\/(rest≠[]/\(a:Int)<(n:Int)):=by
       cases hrr:rest with
       | nil=>left;rw[hrr] at hlen;simp at hlen;exact⟨rfl,by omega⟩
       | cons c r=>right;rw[hrr] at hlen;simp at hlen;exact⟨by simp,by omega⟩
      have hA:(a:Int)<=(n:Int):=by omega
      have h1A:(1:Int)<=(a:Int):=by omega
      have HST:Hid _:=hstop
      clear hlen
      have HS3:Hid _:=HK0.out.set 3 (.string ⟨key.toArray⟩) (by omega)
      have HN3:Hid ((RC.setIfInBounds 3 (.string ⟨key.toArray⟩))[1]?=RC[1]?):=by show _=_;rw[Array.getElem?_setIfInBounds_ne (by omega)]
      rcases HST.out with ⟨hre,hlt⟩|⟨hre,hlt⟩
      ·subst hre
       have HBV2:Hid (∀ y,Calls Tryz.prog 167 #[.string ⟨#[]⟩,.string ⟨#[63,118,61]⟩] y fun e w'=>e=.returned (.bool false)/\w'=y):=fun y=>HBV.out y
       clear HBV hstop HST
       cases hko:keyOK key with
       | false =>
         have HO2:Hid (O=none):=by show _=_;rw[HX.out];unfold restR;rw[if_pos hko]
         go_wp2_with (first
         | (go_at_call 102;refine Calls.mono (HKY.out _) ?_;rintro e w2 ⟨rfl,hw2⟩;rw[hw2,hko];clear hw2)
         | (go_at_call 167;refine Calls.mono (HBV2.out _) ?_;rintro e w3 ⟨rfl,hw3⟩;rw[hw3];clear hw3))
         go_ret
         rw[HO2.out]
         exact⟨_,HS3.out,HN3.out,rfl,fun x hx=>by cases hx⟩
       | true =>
         have HO2:Hid (O=some ⟨2,key,[],0⟩):=by show _=_;rw[HX.out];unfold restR;rw[if_neg (by rw[hko];simp),if_pos rfl]
         go_wp2_with (first
         | (go_at_call 102;refine Calls.mono (HKY.out _) ?_;rintro e w2 ⟨rfl,hw2⟩;rw[hw2,hko];clear hw2)
         | (go_at_call 167;refine Calls.mono (HBV2.out _) ?_;rintro e w3 ⟨rfl,hw3⟩;rw[hw3];clear hw3))
         go_ret
         rw[HO2.out]
         refine⟨_,HS3.out.set 2 _ (by omega),by rw[Array.getElem?_setIfInBounds_ne (by omega)];exact HN3.out,rfl,fun x hx=>?_⟩
         cases hx
         refine⟨by simp[hs],by simp[hs],?_,?_⟩
         ·rw[Array.getElem?_setIfInBounds_ne (by omega),Array.getElem?_setIfInBounds_ne (by omega)];exact h4
         ·rw[Array.getElem?_setIfInBounds_ne (by omega),Array.getElem?_setIfInBounds_ne (by omega)];exact h5
      ·have hb:=HEN.out hre (by omega)
       have hbb:(((S[a]'(by omega)).toNat:Int) != 63)=false:=by rw[bne_eq_false_iff_eq];exact hb
       have hrs:(⟨rest.toArray⟩:ByteArray).size=rest.length:=Lib.size_eq _
       have hreb:(rest==[])=false:=beq_eq_false_iff_ne.2 hre
       obtain⟨vb,hvb⟩:∃ b,(rest.take 3==[63,118,61])=b:=⟨_,rfl⟩
       have HBV3:Hid (∀ y,Calls Tryz.prog 167 #[.string ⟨rest.toArray⟩,.string ⟨#[63,118,61]⟩] y fun e w'=>e=.returned (.bool vb)/\w'=y):=fun y=>by
        have:=HBV.out y
        rw[show ([63,118,61]:List UInt8).length=3 from rfl,hvb] at this
        exact this
       have HVB:Hid _:=hvb
       clear HBV hvb
       clear hstop HST hb
       cases hko:keyOK key with
       | false =>
         have HO2:Hid (O=none):=by show _=_;rw[HX.out];unfold restR;rw[if_pos hko]
         go_wp2_with (first
         | (go_at_call 102;refine Calls.mono (HKY.out _) ?_;rintro e w2 ⟨rfl,hw2⟩;rw[hw2,hko];clear hw2)
         | (go_at_call 167;refine Calls.mono (HBV3.out _) ?_;rintro e w3 ⟨rfl,hw3⟩;rw[hw3];clear hw3))
         go_ret
         rw[HO2.out]
         exact⟨_,HS3.out,HN3.out,rfl,fun x hx=>by cases hx⟩
       | true =>
         by_cases hve:rest=versR
         ·have HO2:Hid (O=some ⟨3,key,[],0⟩):=by show _=_;rw[HX.out];unfold restR;rw[if_neg (by rw[hko];simp),if_neg hre,if_pos hve]
          have hveb:(rest==[63,118,101,114,115,105,111,110,115])=true:=by rw[hve];rfl
          clear hve
          go_wp2_with (first
         | (go_at_call 102;refine Calls.mono (HKY.out _) ?_;rintro e w2 ⟨rfl,hw2⟩;rw[hw2,hko];clear hw2)
         | (go_at_call 167;refine Calls.mono (HBV3.out _) ?_;rintro e w3 ⟨rfl,hw3⟩;rw[hw3];clear hw3))
          go_ret
          rw[HO2.out]
          refine⟨_,HS3.out.set 2 _ (by omega),by rw[Array.getElem?_setIfInBounds_ne (by omega)];exact HN3.out,rfl,fun x hx=>?_⟩
          cases hx
          refine⟨by simp[hs],by simp[hs],?_,?_⟩
          ·rw[Array.getElem?_setIfInBounds_ne (by omega),Array.getElem?_setIfInBounds_ne (by omega)];exact h4
          ·rw[Array.getElem?_setIfInBounds_ne (by omega),Array.getElem?_setIfInBounds_ne (by omega)];exact h5
         ·have hveb:(rest==[63,118,101,114,115,105,111,110,115])=false:=beq_eq_false_iff_ne.2 hve
          cases vb with
          | false =>
            have HO2:Hid (O=none):=by show _=_;rw[HX.out];unfold restR;rw[if_neg (by rw[hko];simp),if_neg hre,if_neg hve,if_neg (beq_eq_false_iff_ne.1 HVB.out)]
            go_wp2_with (first
         | (go_at_call 102;refine Calls.mono (HKY.out _) ?_;rintro e w2 ⟨rfl,hw2⟩;rw[hw2,hko];clear hw2)
         | (go_at_call 167;refine Calls.mono (HBV3.out _) ?_;rintro e w3 ⟨rfl,hw3⟩;rw[hw3];clear hw3))
            go_ret
            rw[HO2.out]
            exact⟨_,HS3.out,HN3.out,rfl,fun x hx=>by cases hx⟩
          | true =>
            have htk:=beq_iff_eq.1 HVB.out
            have hl3:3<=rest.length:=by
             have:=congrArg List.length htk
             rw[List.length_take] at this
             simp at this
             omega
            have hexr:(⟨rest.toArray⟩:ByteArray).extract 3 rest.length=⟨(rest.drop 3).toArray⟩:=by
             apply ByteArray.ext
             apply Array.toList_inj.1
             rw[Lib.extract_data]
             show ((rest.drop 3).take (rest.length-3))=rest.drop 3
             rw[List.take_of_length_le (by rw[List.length_drop];exact Nat.le_refl _)]
            obtain⟨dg,hdg⟩:∃ d,rest.drop 3=d:=⟨_,rfl⟩
            rw[hdg] at hexr
            have hdl:dg.length=rest.length-3:=by rw[<- hdg,List.length_drop]
            have hrl:rest.length<=100000:=by have:=HLEN.out;omega
            have HDG:Hid (∀ y,Calls Tryz.prog 221 #[.string ⟨dg.toArray⟩] y fun e w'=>(∃ z:Int,e=.returned (.int .i64 z)/\(dg.length<=9->z=dgs dg))/\w'=y):=fun y=>by
             have:=digits_long ⟨dg.toArray⟩ y (by rw[Lib.size_eq];show dg.length<=_;omega)
             rw[Lib.size_eq] at this
             exact this
            have HO2:Hid (O=if 4<=rest.length/\rest.length<=12/\0<dgs dg/\rest[3]?≠some 48 then some ⟨4,key,[],dgs dg⟩ else none):=by show _=_;rw[HX.out];unfold restR;rw[if_neg (by rw[hko];simp),if_neg hre,if_neg hve,if_pos htk,hdg]
            have h3I:(3:Int)<=(rest.length:Int):=by omega
            have HFIN:Hid (∀ (zz:Int) (O':Bool),(O'=true->O=some ⟨4,key,[],zz⟩)->(O'=false->O=none)->TgPost g RC O w (.returned (.bool O')) (((w.setCell ⟨g,3,none⟩ (.string ⟨key.toArray⟩)).setCell ⟨g,2,none⟩ (.int .i64 4)).setCell ⟨g,5,none⟩ (.int .i64 zz))):=fun zz O' h1 h2=>by
             refine⟨_,(HS3.out.set 2 _ (by omega)).set 5 _ (by omega),by rw[Array.getElem?_setIfInBounds_ne (by omega),Array.getElem?_setIfInBounds_ne (by omega)];exact HN3.out,?_,fun x hx=>?_⟩
             ·cases O' with
              | true=>rw[h1 rfl];rfl
              | false=>rw[h2 rfl];rfl
             ·cases O' with
              | false=>rw[h2 rfl] at hx;cases hx
              | true =>
                rw[h1 rfl] at hx
                cases hx
                refine⟨by simp[hs],by simp[hs],?_,by simp[hs]⟩
                rw[Array.getElem?_setIfInBounds_ne (by omega),Array.getElem?_setIfInBounds_ne (by omega),Array.getElem?_setIfInBounds_ne (by omega)]
                exact h4
            clear htk hdg HVB hve HX
            go_wp2_with (first
         | (go_at_call 102;refine Calls.mono (HKY.out _) ?_;rintro e w2 ⟨rfl,hw2⟩;rw[hw2,hko];clear hw2)
         | (go_at_call 167;refine Calls.mono (HBV3.out _) ?_;rintro e w3 ⟨rfl,hw3⟩;rw[hw3];clear hw3)
         | (go_at_call 221;refine Calls.mono (HDG.out _) ?_;rintro e w4 ⟨⟨zz,rfl,hzz⟩,hw4⟩;rw[hw4];clear hw4))
            all_goals
             go_ret
             refine HFIN.out zz _ (fun h=>?_) (fun h=>?_)
             ·first
               | (exfalso;exact Bool.false_ne_true h)
               | (have h48:¬ ((⟨rest.toArray⟩:ByteArray)[3]'(by omega)).toNat=48:=by
                   intro e
                   rw[bne_iff_ne] at h
                   exact h (by omega)
                  have hz:=hzz (by omega)
                  rw[HO2.out,if_pos ⟨by omega,by omega,by omega,fun e=>h48 (by
                   have e1:rest[3]?=some ((⟨rest.toArray⟩:ByteArray)[3]'(by omega)):=List.getElem?_eq_getElem (by omega)
                   rw[e1] at e
                   rw[Option.some.inj e]
                   rfl)⟩,hz])
             ·rw[HO2.out,if_neg]
              rintro ⟨q1,q2,q3,q4⟩
              have hz:=hzz (by omega)
              first
               | omega
               | (have e1:rest[3]?=some ((⟨rest.toArray⟩:ByteArray)[3]'(by omega)):=List.getElem?_eq_getElem (by omega)
                  apply q4
                  rw[bne_eq_false_iff_eq] at h
                  rw[e1]
                  exact congrArg some (UInt8.toNat_inj.1 (by show _=48;omega)))
end Go.Proofs.YtmehkneofinmiaaGreatDoor

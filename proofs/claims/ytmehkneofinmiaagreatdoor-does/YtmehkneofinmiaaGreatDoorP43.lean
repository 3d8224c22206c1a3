/-
 Texts of this proof, part 43.
-/
import Derived.Test.YtmehkneofinmiaaGreatDoorP42
set_option maxRecDepth 100000
set_option maxHeartbeats 4000000
namespace Go.Proofs.YtmehkneofinmiaaGreatDoor
open Go.RowKit
def FPost (g q base:Nat)(RC:Array Value)(o:Option Cnd)(w:World)(e:Ending)(w':World):Prop :=
 Off (fun k=>k=g\/k=q) w w'/\((∃ k' c' RC',o=some k'/\e=.returned (.bool true)/\Fa w' g q RC' c'/\Rq w' base c' k'/\(∀ i,(i<7\/16<i)->RC'[i]?=RC[i]?))\/(o=none/\e=.returned (.bool false)))
theorem owns_below2 {w x:World}{base:Nat}{e:TypeId}{size:Nat}{v:Value}{n:Nat}{xs:List Value}(h:w.ownsRow base e size v n xs)(hb:Below w.heap.size w x):x.ownsRow base e size v n xs :=
 ⟨h.1,h.2.imp id fun ⟨g,cap,cur,hv,hg,hh,r⟩=>⟨g,cap,cur,hv,hg,(hb.block g (Array.getElem?_eq_some_iff.1 hh).1).trans hh,r⟩⟩
theorem rqField_any (g q base:Nat)(RC:Array Value)(c:Cst)(k:Cnd)(l:List UInt8)(w:World)(hF:Fa w g q RC c)(hR:Rq w base c k)(hg:g<base+1)(hq:q<base+1)(hbs:base+1<=w.heap.size)(hT:Tab w)(hl:l.length<=100000)(hcr:l.any crlfB=false) :
 Calls Tryz.prog 107 #[.pointer (some ⟨g,0,none⟩),.string ⟨l.toArray⟩,.pointer (some ⟨q,0,none⟩)] w (FPost g q base RC (lineF k l) w):=by
 have hcut:=cut58 l
 have hlk:l.takeWhile not58++l.dropWhile not58=l:=List.takeWhile_append_dropWhile
 obtain⟨O,hO⟩:∃ O,lineF k l=O:=⟨_,rfl⟩
 have HL:Hid (O=if !(l.dropWhile not58).isEmpty&&nameOK (l.takeWhile not58) then fieldF k (l.takeWhile not58) (Lib.trimS ((l.dropWhile not58).drop 1) [32,9]) else none):=by
  show _=_
  have hv:((l.dropWhile not58).drop 1).any crlfB=false:=by
   rw[List.any_eq_false] at hcr ⊢
   intro c hc
   exact hcr c (by rw[<- hlk];exact List.mem_append_right _ (List.mem_of_mem_drop hc))
  rw[<- hO]
  unfold lineF
  rw[hcut]
  simp only
  rw[hv,Bool.not_false,Bool.and_true]
 rw[hO]
 have hm:∀ c∈l.takeWhile not58,c≠58:=fun c hc=>by
  have:=tw_mem not58 l c hc
  simpa [not58] using this
 have hr58:l.dropWhile not58=[]\/∃ r,l.dropWhile not58=58::r:=by
  cases hr:l.dropWhile not58 with
  | nil=>exact Or.inl rfl
  | cons c r =>
    right
    refine⟨r,?_⟩
    have:=List.head_dropWhile_not not58 (l:=l) (by rw[hr];simp)
    simp only[hr,List.head_cons] at this
    have:c=58:=by simpa [not58] using this
    rw[this]
 obtain⟨nm,hnm⟩:∃ n,l.takeWhile not58=n:=⟨_,rfl⟩
 obtain⟨rest,hrest⟩:∃ n,l.dropWhile not58=n:=⟨_,rfl⟩
 rw[hnm] at hlk hm HL
 rw[hrest] at hlk hr58 HL
 have hls:(⟨l.toArray⟩:ByteArray).size=l.length:=Lib.size_eq _
 obtain⟨K,hK⟩:∃ K,nm.length=K:=⟨_,rfl⟩
 have hlen:K+rest.length=l.length:=by rw[<- hlk,List.length_append,hK]
 have HG:Hid (∀ a (h:a<K) (h2:a<(⟨l.toArray⟩:ByteArray).size),nm[a]?=some ((⟨l.toArray⟩:ByteArray)[a])):=fun a h h2=>by
  have e1:l[a]?=some ((⟨l.toArray⟩:ByteArray)[a]):=List.getElem?_eq_getElem (by rw[hls] at h2;exact h2)
  rw[<- e1,<- hlk,List.getElem?_append_left (by omega)]
 have HE:Hid (rest≠[]->∀ h2:K<(⟨l.toArray⟩:ByteArray).size,(((⟨l.toArray⟩:ByteArray)[K]).toNat:Int)=58):=fun hne h2=>by
  obtain⟨r,hr'⟩:=hr58.resolve_left hne
  have e1:l[K]?=some ((⟨l.toArray⟩:ByteArray)[K]):=List.getElem?_eq_getElem (by rw[hls] at h2;exact h2)
  generalize (⟨l.toArray⟩:ByteArray)[K]=bb at e1 ⊢
  rw[<- hlk,List.getElem?_append_right (by omega),hK,Nat.sub_self,hr'] at e1
  have e2:(58:UInt8)=bb:=by simpa using e1
  rw[<- e2]
  rfl
 have hex1:(⟨l.toArray⟩:ByteArray).extract 0 K=⟨nm.toArray⟩:=by
  apply ByteArray.ext
  apply Array.toList_inj.1
  rw[Lib.extract_data]
  show ((l.drop 0).take (K-0))=nm
  rw[<- hlk,List.drop_zero,Nat.sub_zero,<- hK,List.take_left]
 obtain⟨val,hval⟩:∃ v,rest.drop 1=v:=⟨_,rfl⟩
 have hvl:val.length<=l.length:=by rw[<- hval,List.length_drop];omega
 rw[hval] at HL
 obtain⟨n,hn⟩:∃ n,l.length=n:=⟨_,rfl⟩
 have hex2:rest≠[]->(⟨l.toArray⟩:ByteArray).extract (K+1) n=⟨val.toArray⟩:=fun hne=>by
  apply ByteArray.ext
  apply Array.toList_inj.1
  rw[Lib.extract_data]
  show ((l.drop (K+1)).take (n-(K+1)))=val
  rw[<- hlk,<- hK,<- List.drop_drop,List.drop_left,hval,List.take_of_length_le (by rw[<- hval,List.length_drop];omega)]
 rw[hn] at hls hlen hl hvl
 have HM:Hid _:=hm
 have hmK:∀ (a:Nat) (b:UInt8),nm[a]?=some b->¬ (b.toNat:Int)=58:=fun a b hb e=>hm b (List.mem_of_getElem? hb) (UInt8.toNat_inj.1 (by show b.toNat=58;omega))
 have HMK:Hid _:=hmK
 have HX2:Hid _:=hex2
 have HR58:Hid _:=hr58
 have HNM:Hid (nameOK nm=(nm.all nameB&&!nm.isEmpty)):=rfl
 obtain⟨S,hS⟩:∃ S:ByteArray,(⟨l.toArray⟩:ByteArray)=S:=⟨_,rfl⟩
 rw[hS] at hls HG HE hex1 HX2 ⊢
 have HNK:Hid _:=hK
 have HF:Hid _:=hF
 have HR:Hid _:=hR
 have HT:Hid _:=hT
 have hKn:K<=n:=by omega
 have HLEN:Hid _:=hlen
 clear hS hO hcut hlk hm hnm hrest hr58 hcr hmK hK hval hex2 hF hR hT hlen hn
 go_enter Tryz.func107,Tryz.ntmps107
 go_wp2
 go_loop [7] (fun iv=>∃ a:Nat,a<=K/\iv=.int .i64 a/\Hid ((nm.take a).all nameB=true)) (fun iv=>n-(intOf iv).toNat)
 case atStart=>exact⟨0,by omega,rfl,rfl⟩
 case round =>
  obtain⟨a,haK,rfl,hall⟩:=hrel
  by_cases hak:a<K
  ·have haI:(a:Int)<(n:Int):=by omega
   have hSa:a<S.size:=by omega
   have hgt:=HG.out a hak hSa
   have h58:=HMK.out a _ hgt
   have hct:=S[a].toNat_lt
   have HNO:Hid (nameB S[a]=false->FPost g q base RC O w (.returned (.bool false)) w):=fun hb=>by
    refine⟨Off.refl _ _,Or.inr ⟨?_,rfl⟩⟩
    have h1:nameOK nm=false:=by
     rw[HNM.out]
     have:nm.all nameB=false:=by rw[List.all_eq_false];exact⟨_,List.mem_of_getElem? hgt,by simp[hb]⟩
     rw[this,Bool.false_and]
    rw[HL.out,h1,Bool.and_false]
    rfl
   have HYE:Hid (nameB S[a]=true->(nm.take (a+1)).all nameB=true):=fun hb=>by
    rw[List.take_add_one,hgt,Option.toList_some,List.all_append,hall.out]
    simp[hb]
   have hbb:((S[a].toNat:Int) != 58)=true:=by rw[bne_iff_ne];exact h58
   clear hgt
   go_wp2
   all_goals first
    | (go_ret;exact HNO.out (by simp[nameB,nameI,digI];omega))
    | exact⟨⟨a+1,by omega,by go_num,HYE.out (by simp[nameB,nameI,digI];omega)⟩,by simp[intOf];omega⟩
    | (rename_i hh;simp at hh;exact⟨⟨a+1,by omega,by go_num,HYE.out (by simp[nameB,nameI,digI];omega)⟩,by simp[intOf];omega⟩)
    | (rename_i hh;simp at hh;go_ret;exact HNO.out (by simp[nameB,nameI,digI];omega))
    | (have hh:=‹(!((S[a].toNat:Int)==45))=true›;simp at hh;go_ret;exact HNO.out (by simp[nameB,nameI,digI];omega))
  ·obtain rfl:a=K:=by omega
   have hall2:nm.all nameB=true:=by
    have:=hall.out
    rw[List.take_of_length_le (by rw[HNK.out];exact Nat.le_refl _)] at this
    exact this
   have HAL:Hid _:=hall2
   clear hall hall2
   by_cases hre:rest=[]
   ·have hlen:=HLEN.out
    rw[hre] at hlen
    have haI:¬ (a:Int)<(n:Int):=by simp at hlen;omega
    have HNO:Hid (FPost g q base RC O w (.returned (.bool false)) w):=by
     refine⟨Off.refl _ _,Or.inr ⟨?_,rfl⟩⟩
     rw[HL.out,hre]
     rfl
    clear hre hlen
    go_wp2
    all_goals
     go_ret
     exact HNO.out
   ·have hlen:=HLEN.out
    have hrl:=List.length_pos_iff.2 hre
    have haI:(a:Int)<(n:Int):=by omega
    have hSa:a<S.size:=by omega
    have h58:=HE.out hre hSa
    have hbb:((S[a].toNat:Int) != 58)=false:=by rw[bne_eq_false_iff_eq];exact h58
    have hex2:=HX2.out hre
    have HRE:Hid (rest.isEmpty=false):=by show _=_;cases rest with
     | nil=>exact absurd rfl hre
     | cons _ _=>rfl
    clear hre hrl hlen h58
    by_cases ha0:a=0
    ·have HNO:Hid (FPost g q base RC O w (.returned (.bool false)) w):=by
      refine⟨Off.refl _ _,Or.inr ⟨?_,rfl⟩⟩
      have h0:nm=[]:=List.eq_nil_of_length_eq_zero (by rw[HNK.out,ha0])
      rw[HL.out,h0]
      simp[nameOK]
     subst ha0
     go_wp2
     go_ret
     exact HNO.out
    ·have HO:Hid (O=fieldF k nm (Lib.trimS val [32,9])):=by
      show _=_
      have h0:nm.isEmpty=false:=by
       cases hnm:nm with
       | nil=>have:=HNK.out;rw[hnm] at this;simp at this;omega
       | cons _ _=>rfl
      rw[HL.out,HRE.out,HNM.out,HAL.out,h0]
      rfl
     have ha0I:¬ (a:Int)=0:=by omega
     have ha0b:((a:Int)==0)=false:=beq_eq_false_iff_ne.2 ha0I
     have hgeI:¬ (n:Int)<=(a:Int):=by omega
     have haI1:(a:Int)+1<=(n:Int):=by omega
     have HTR:Hid _:=fun y=>trimU_any ⟨val.toArray⟩ y (by rw[Lib.size_eq];show val.length<=_;omega)
     have htl:=trimS_le val
     have HSM:Hid _:=fun y=>refSmall_any nm y (by rw[HNK.out];omega)
     clear ha0
     obtain⟨V,hV⟩:∃ V,Lib.trimS val [32,9]=V:=⟨_,rfl⟩
     have hVl:V.length<=100000:=by rw[<- hV];omega
     have HTR2:Hid (∀ y,Calls Tryz.prog 169 #[.string ⟨val.toArray⟩] y fun e w'=>e=.returned (.string ⟨V.toArray⟩)/\w'=y):=fun y=>by rw[<- hV];exact HTR.out y
     rw[hV] at HO
     clear hV htl HTR
     have HDT:Hid _:=fun y hy=>rdate_v V y hy
     have HTG:Hid _:=fun y=>rtags_v V y (by omega)
     obtain⟨ns1,ns2,ns3,ns4,ns5,ns6⟩:=toLower_ne
     by_cases h1:Lib.toLowerA nm=ifMatch
     ·have HO2:Hid (O=if !k.m.isSome&&(tagsV V).2.1 then some { k with m:=some ((tagsV V).1,(tagsV V).2.2) } else none):=by show _=_;rw[HO.out];unfold fieldF;rw[if_pos h1]
      unfold ifMatch at h1
      go_wp2_with (first
       | (go_at_call 169;refine Calls.mono (HTR2.out _) ?_;rintro e w1 ⟨rfl,hw1⟩;rw[hw1];clear hw1)
       | (go_at_call 170;refine Calls.mono (HSM.out _) ?_;rintro e w2 ⟨rfl,hb2⟩;rw[small_is,h1]))
      go_at_call 171
      refine Calls.mono (HTG.out _) ?_
      obtain⟨⟨any,fine,ts⟩,hts⟩:∃ t,tagsV V=t:=⟨_,rfl⟩
      rw[hts] at HO2 ⊢
      simp only at HO2 ⊢
      rintro e w3 ⟨hb3,o,cp,rfl,ho3⟩
      have hbX:Below w3.heap.size w3 (w3.alloc (.cells #[.bool any,.slice o ts.length cp] 91)):=(Below.refl _ _).alloc (Nat.le_refl _) _
      have HF3:Hid _:=((HF.out.below hb2).below hb3).below hbX
      have HB3:Hid _:=(hb2.trans (hb3.mono hb2.size)).trans (hbX.mono (Nat.le_trans hb2.size hb3.size))
      have HR3:Hid _:=HR.out.below (by omega) HB3.out
      have hsz2:=hb2.size
      have hsz3:=hb3.size
      have hne:=HF3.out.ne
      have hne2:=HF3.out.ne.symm
      have cs:=HF3.out.seen 0 (by omega)
      have c1:=HF3.out.cell 1 (by omega) (by omega)
      have c2:=HF3.out.cell 2 (by omega) (by omega)
      have c3:=HF3.out.cell 3 (by omega) (by omega)
      have fs:=(HF3.out.fz 0).2
      have f1:=(HF3.out.fz 7).1
      have f2:=(HF3.out.fz 8).1
      have f3:=(HF3.out.fz 9).1
      simp only[Cst.cell] at cs c1 c2 c3
      have hgs:g≠w3.heap.size:=by omega
      have hqs:q≠w3.heap.size:=by omega
      have HOF:Hid _:=((((Off.of_below (S:=fun k=>k=g\/k=q) HB3.out).set q 0 (.bool true) (Or.inl (Or.inr rfl))).set g 7 (.bool true) (Or.inl (Or.inl rfl))).set g 8 (.bool any) (Or.inl (Or.inl rfl))).set g 9 (.slice o ts.length cp) (Or.inl (Or.inl rfl))
      have HFF:Hid (Fa (((((w3.alloc (.cells #[.bool any,.slice o ts.length cp] 91)).setCell ⟨q,0,none⟩ (.bool true)).setCell ⟨g,7,none⟩ (.bool true)).setCell ⟨g,8,none⟩ (.bool any)).setCell ⟨g,9,none⟩ (.slice o ts.length cp)) g q (((RC.setIfInBounds 7 (.bool true)).setIfInBounds 8 (.bool any)).setIfInBounds 9 (.slice o ts.length cp)) { c with s0:=true,hm:=true,am:=any,lm:=.slice o ts.length cp }):=by
       have s1:Fa ((w3.alloc (.cells #[.bool any,.slice o ts.length cp] 91)).setCell ⟨q,0,none⟩ (.bool true)) g q RC { c with s0:=true }:=HF3.out.see 0 (by omega) rfl (same_s0 c true)
       have s2:=s1.set (d:={ c with s0:=true,hm:=true }) 1 (.bool true) (by omega) (by omega) rfl (same_hm { c with s0:=true } true)
       have s3:=s2.set (d:={ c with s0:=true,hm:=true,am:=any }) 2 (.bool any) (by omega) (by omega) rfl (same_am { c with s0:=true,hm:=true } any)
       exact s3.set (d:={ c with s0:=true,hm:=true,am:=any,lm:=.slice o ts.length cp }) 3 (.slice o ts.length cp) (by omega) (by omega) rfl (same_lm { c with s0:=true,hm:=true,am:=any } (.slice o ts.length cp))
      have HRR:Hid (Rq (((((w3.alloc (.cells #[.bool any,.slice o ts.length cp] 91)).setCell ⟨q,0,none⟩ (.bool true)).setCell ⟨g,7,none⟩ (.bool true)).setCell ⟨g,8,none⟩ (.bool any)).setCell ⟨g,9,none⟩ (.slice o ts.length cp)) base { c with s0:=true,hm:=true,am:=any,lm:=.slice o ts.length cp } { k with m:=some (any,ts) }):=by
       have r:=(((HR3.out.set (b:=q) (i:=0) (v:=.bool true) hq).set (b:=g) (i:=7) (v:=.bool true) hg).set (b:=g) (i:=8) (v:=.bool any) hg).set (b:=g) (i:=9) (v:=.slice o ts.length cp) hg
       have ho4:=owns_below2 ho3 hbX
       have hw:=owns_mono (base':=base+1) (owns_set (u:=.slice o ts.length cp) (a:=⟨g,9,none⟩) (owns_set (u:=.bool any) (a:=⟨g,8,none⟩) (owns_set (u:=.bool true) (a:=⟨g,7,none⟩) (owns_set (u:=.bool true) (a:=⟨q,0,none⟩) ho4 (by show q<_;omega)) (by show g<_;omega)) (by show g<_;omega)) (by show g<_;omega)) (by omega)
       exact⟨⟨rfl,rfl,rfl,hw⟩,r.n,r.s,r.u⟩
      have HS0:Hid (c.s0=k.m.isSome):=HR.out.m.1
      have HSM2:Hid (∀ i,(i<7\/16<i)->(((RC.setIfInBounds 7 (.bool true)).setIfInBounds 8 (.bool any)).setIfInBounds 9 (.slice o ts.length cp))[i]?=RC[i]?):=fun i hi=>by
       rw[Array.getElem?_setIfInBounds_ne (by omega),Array.getElem?_setIfInBounds_ne (by omega),Array.getElem?_setIfInBounds_ne (by omega)]
      clear hb2 hb3 ho3 hts h1 hbX
      obtain⟨b0,hb0⟩:∃ b,c.s0=b:=⟨_,rfl⟩
      rw[hb0] at cs HS0
      clear hb0
      cases b0<;>cases fine
      all_goals
       go_wp2
       go_ret
       refine⟨HOF.out,?_⟩
       rw[HO2.out,<- HS0.out]
       first
        | exact Or.inr ⟨rfl,rfl⟩
        | exact Or.inl ⟨_,_,_,rfl,rfl,HFF.out,HRR.out,HSM2.out⟩
     ·by_cases h2:Lib.toLowerA nm=ifNone
      ·have HO2:Hid (O=if !k.n.isSome&&(tagsV V).2.1 then some { k with n:=some ((tagsV V).1,(tagsV V).2.2) } else none):=by show _=_;rw[HO.out];unfold fieldF;rw[if_neg h1,if_pos h2]
       unfold ifNone at h2
       go_wp2_with (first
        | (go_at_call 169;refine Calls.mono (HTR2.out _) ?_;rintro e w1 ⟨rfl,hw1⟩;rw[hw1];clear hw1)
        | (go_at_call 170;refine Calls.mono (HSM.out _) ?_;rintro e w2 ⟨rfl,hb2⟩;rw[small_is,h2]))
       go_at_call 171
       refine Calls.mono (HTG.out _) ?_
       obtain⟨⟨any,fine,ts⟩,hts⟩:∃ t,tagsV V=t:=⟨_,rfl⟩
       rw[hts] at HO2 ⊢
       simp only at HO2 ⊢
       rintro e w3 ⟨hb3,o,cp,rfl,ho3⟩
       have hbX:Below w3.heap.size w3 (w3.alloc (.cells #[.bool any,.slice o ts.length cp] 91)):=(Below.refl _ _).alloc (Nat.le_refl _) _
       have HF3:Hid _:=((HF.out.below hb2).below hb3).below hbX
       have HB3:Hid _:=(hb2.trans (hb3.mono hb2.size)).trans (hbX.mono (Nat.le_trans hb2.size hb3.size))
       have HR3:Hid _:=HR.out.below (by omega) HB3.out
       have hsz2:=hb2.size
       have hsz3:=hb3.size
       have hne:=HF3.out.ne
       have hne2:=HF3.out.ne.symm
       have cs:=HF3.out.seen 1 (by omega)
       have c1:=HF3.out.cell 4 (by omega) (by omega)
       have c2:=HF3.out.cell 5 (by omega) (by omega)
       have c3:=HF3.out.cell 6 (by omega) (by omega)
       have fs:=(HF3.out.fz 1).2
       have f1:=(HF3.out.fz 10).1
       have f2:=(HF3.out.fz 11).1
       have f3:=(HF3.out.fz 12).1
       simp only[Cst.cell] at cs c1 c2 c3
       have hgs:g≠w3.heap.size:=by omega
       have hqs:q≠w3.heap.size:=by omega
       have HOF:Hid _:=((((Off.of_below (S:=fun k=>k=g\/k=q) HB3.out).set q 1 (.bool true) (Or.inl (Or.inr rfl))).set g 10 (.bool true) (Or.inl (Or.inl rfl))).set g 11 (.bool any) (Or.inl (Or.inl rfl))).set g 12 (.slice o ts.length cp) (Or.inl (Or.inl rfl))
       have HFF:Hid (Fa (((((w3.alloc (.cells #[.bool any,.slice o ts.length cp] 91)).setCell ⟨q,1,none⟩ (.bool true)).setCell ⟨g,10,none⟩ (.bool true)).setCell ⟨g,11,none⟩ (.bool any)).setCell ⟨g,12,none⟩ (.slice o ts.length cp)) g q (((RC.setIfInBounds 10 (.bool true)).setIfInBounds 11 (.bool any)).setIfInBounds 12 (.slice o ts.length cp)) { c with s1:=true,hn:=true,an:=any,ln:=.slice o ts.length cp }):=by
        have s1:Fa ((w3.alloc (.cells #[.bool any,.slice o ts.length cp] 91)).setCell ⟨q,1,none⟩ (.bool true)) g q RC { c with s1:=true }:=HF3.out.see 1 (by omega) rfl (same_s1 c true)
        have s2:=s1.set (d:={ c with s1:=true,hn:=true }) 4 (.bool true) (by omega) (by omega) rfl (same_hn { c with s1:=true } true)
        have s3:=s2.set (d:={ c with s1:=true,hn:=true,an:=any }) 5 (.bool any) (by omega) (by omega) rfl (same_an { c with s1:=true,hn:=true } any)
        exact s3.set (d:={ c with s1:=true,hn:=true,an:=any,ln:=.slice o ts.length cp }) 6 (.slice o ts.length cp) (by omega) (by omega) rfl (same_ln { c with s1:=true,hn:=true,an:=any } (.slice o ts.length cp))
       have HRR:Hid (Rq (((((w3.alloc (.cells #[.bool any,.slice o ts.length cp] 91)).setCell ⟨q,1,none⟩ (.bool true)).setCell ⟨g,10,none⟩ (.bool true)).setCell ⟨g,11,none⟩ (.bool any)).setCell ⟨g,12,none⟩ (.slice o ts.length cp)) base { c with s1:=true,hn:=true,an:=any,ln:=.slice o ts.length cp } { k with n:=some (any,ts) }):=by
        have r:=(((HR3.out.set (b:=q) (i:=1) (v:=.bool true) hq).set (b:=g) (i:=10) (v:=.bool true) hg).set (b:=g) (i:=11) (v:=.bool any) hg).set (b:=g) (i:=12) (v:=.slice o ts.length cp) hg
        have ho4:=owns_below2 ho3 hbX
        have hw:=owns_mono (base':=base+1) (owns_set (u:=.slice o ts.length cp) (a:=⟨g,12,none⟩) (owns_set (u:=.bool any) (a:=⟨g,11,none⟩) (owns_set (u:=.bool true) (a:=⟨g,10,none⟩) (owns_set (u:=.bool true) (a:=⟨q,1,none⟩) ho4 (by show q<_;omega)) (by show g<_;omega)) (by show g<_;omega)) (by show g<_;omega)) (by omega)
        exact⟨r.m,⟨rfl,rfl,rfl,hw⟩,r.s,r.u⟩
       have HS0:Hid (c.s1=k.n.isSome):=HR.out.n.1
       have HSM2:Hid (∀ i,(i<7\/16<i)->(((RC.setIfInBounds 10 (.bool true)).setIfInBounds 11 (.bool any)).setIfInBounds 12 (.slice o ts.length cp))[i]?=RC[i]?):=fun i hi=>by
        rw[Array.getElem?_setIfInBounds_ne (by omega),Array.getElem?_setIfInBounds_ne (by omega),Array.getElem?_setIfInBounds_ne (by omega)]
       clear hb2 hb3 ho3 hts h2 hbX
       obtain⟨b0,hb0⟩:∃ b,c.s1=b:=⟨_,rfl⟩
       rw[hb0] at cs HS0
       clear hb0
       cases b0<;>cases fine
       all_goals
        go_wp2
        go_ret
        refine⟨HOF.out,?_⟩
        rw[HO2.out,<- HS0.out]
        first
         | exact Or.inr ⟨rfl,rfl⟩
         | exact Or.inl ⟨_,_,_,rfl,rfl,HFF.out,HRR.out,HSM2.out⟩
      ·by_cases h3:Lib.toLowerA nm=ifSince
       ·have HO2:Hid (O=if k.s.isSome then none else some { k with s:=some (dateV V) }):=by show _=_;rw[HO.out];unfold fieldF;rw[if_neg h1,if_neg h2,if_pos h3]
        unfold ifSince at h3
        go_wp2_with (first
         | (go_at_call 169;refine Calls.mono (HTR2.out _) ?_;rintro e w1 ⟨rfl,hw1⟩;rw[hw1];clear hw1)
         | (go_at_call 170;refine Calls.mono (HSM.out _) ?_;rintro e w2 ⟨rfl,hb2⟩;rw[small_is,h3]))
        go_at_call 172
        refine Calls.mono (HDT.out _ (HT.out.below hb2)) ?_
        obtain⟨⟨d,ok⟩,hts⟩:∃ t,dateV V=t:=⟨_,rfl⟩
        rw[hts] at HO2 ⊢
        simp only at HO2 ⊢
        rintro e w3 ⟨rfl,hb3⟩
        have HF3:Hid _:=(HF.out.below hb2).below hb3
        have HB3:Hid _:=hb2.trans (hb3.mono hb2.size)
        have HR3:Hid _:=HR.out.below (by omega) HB3.out
        have hsz2:=hb2.size
        have hsz3:=hb3.size
        have hne:=HF3.out.ne
        have hne2:=HF3.out.ne.symm
        have cs:=HF3.out.seen 2 (by omega)
        have c1:=HF3.out.cell 7 (by omega) (by omega)
        have c2:=HF3.out.cell 8 (by omega) (by omega)
        have fs:=(HF3.out.fz 2).2
        have f1:=(HF3.out.fz 13).1
        have f2:=(HF3.out.fz 14).1
        simp only[Cst.cell] at cs c1 c2
        have HOF:Hid _:=(((Off.of_below (S:=fun k=>k=g\/k=q) HB3.out).set q 2 (.bool true) (Or.inl (Or.inr rfl))).set g 13 (.bool ok) (Or.inl (Or.inl rfl))).set g 14 (.int .i64 d) (Or.inl (Or.inl rfl))
        have HFF:Hid (Fa (((w3.setCell ⟨q,2,none⟩ (.bool true)).setCell ⟨g,13,none⟩ (.bool ok)).setCell ⟨g,14,none⟩ (.int .i64 d)) g q ((RC.setIfInBounds 13 (.bool ok)).setIfInBounds 14 (.int .i64 d)) { c with s2:=true,hs:=ok,si:=d }):=by
         have s1:Fa (w3.setCell ⟨q,2,none⟩ (.bool true)) g q RC { c with s2:=true }:=HF3.out.see 2 (by omega) rfl (same_s2 c true)
         have s2:=s1.set (d:={ c with s2:=true,hs:=ok }) 7 (.bool ok) (by omega) (by omega) rfl (same_hs { c with s2:=true } ok)
         exact s2.set (d:={ c with s2:=true,hs:=ok,si:=d }) 8 (.int .i64 d) (by omega) (by omega) rfl (same_si { c with s2:=true,hs:=ok } d)
        have HRR:Hid (Rq (((w3.setCell ⟨q,2,none⟩ (.bool true)).setCell ⟨g,13,none⟩ (.bool ok)).setCell ⟨g,14,none⟩ (.int .i64 d)) base { c with s2:=true,hs:=ok,si:=d } { k with s:=some (d,ok) }):=by
         have r:=((HR3.out.set (b:=q) (i:=2) (v:=.bool true) hq).set (b:=g) (i:=13) (v:=.bool ok) hg).set (b:=g) (i:=14) (v:=.int .i64 d) hg
         exact⟨r.m,r.n,⟨rfl,rfl,rfl⟩,r.u⟩
        have HS0:Hid (c.s2=k.s.isSome):=HR.out.s.1
        have HSM2:Hid (∀ i,(i<7\/16<i)->((RC.setIfInBounds 13 (.bool ok)).setIfInBounds 14 (.int .i64 d))[i]?=RC[i]?):=fun i hi=>by
         rw[Array.getElem?_setIfInBounds_ne (by omega),Array.getElem?_setIfInBounds_ne (by omega)]
        clear hb2 hb3 hts h3
        obtain⟨b0,hb0⟩:∃ b,c.s2=b:=⟨_,rfl⟩
        rw[hb0] at cs HS0
        clear hb0
        cases b0
        all_goals
         go_wp2
         go_ret
         refine⟨HOF.out,?_⟩
         rw[HO2.out,<- HS0.out]
         first
          | exact Or.inr ⟨rfl,rfl⟩
          | exact Or.inl ⟨_,_,_,rfl,rfl,HFF.out,HRR.out,HSM2.out⟩
       ·by_cases h4:Lib.toLowerA nm=ifUnless
        ·have HO2:Hid (O=if k.u.isSome then none else some { k with u:=some (dateV V) }):=by show _=_;rw[HO.out];unfold fieldF;rw[if_neg h1,if_neg h2,if_neg h3,if_pos h4]
         unfold ifUnless at h4
         go_wp2_with (first
          | (go_at_call 169;refine Calls.mono (HTR2.out _) ?_;rintro e w1 ⟨rfl,hw1⟩;rw[hw1];clear hw1)
          | (go_at_call 170;refine Calls.mono (HSM.out _) ?_;rintro e w2 ⟨rfl,hb2⟩;rw[small_is,h4]))
         go_at_call 172
         refine Calls.mono (HDT.out _ (HT.out.below hb2)) ?_
         obtain⟨⟨d,ok⟩,hts⟩:∃ t,dateV V=t:=⟨_,rfl⟩
         rw[hts] at HO2 ⊢
         simp only at HO2 ⊢
         rintro e w3 ⟨rfl,hb3⟩
         have HF3:Hid _:=(HF.out.below hb2).below hb3
         have HB3:Hid _:=hb2.trans (hb3.mono hb2.size)
         have HR3:Hid _:=HR.out.below (by omega) HB3.out
         have hsz2:=hb2.size
         have hsz3:=hb3.size
         have hne:=HF3.out.ne
         have hne2:=HF3.out.ne.symm
         have cs:=HF3.out.seen 3 (by omega)
         have c1:=HF3.out.cell 9 (by omega) (by omega)
         have c2:=HF3.out.cell 10 (by omega) (by omega)
         have fs:=(HF3.out.fz 3).2
         have f1:=(HF3.out.fz 15).1
         have f2:=(HF3.out.fz 16).1
         simp only[Cst.cell] at cs c1 c2
         have HOF:Hid _:=(((Off.of_below (S:=fun k=>k=g\/k=q) HB3.out).set q 3 (.bool true) (Or.inl (Or.inr rfl))).set g 15 (.bool ok) (Or.inl (Or.inl rfl))).set g 16 (.int .i64 d) (Or.inl (Or.inl rfl))
         have HFF:Hid (Fa (((w3.setCell ⟨q,3,none⟩ (.bool true)).setCell ⟨g,15,none⟩ (.bool ok)).setCell ⟨g,16,none⟩ (.int .i64 d)) g q ((RC.setIfInBounds 15 (.bool ok)).setIfInBounds 16 (.int .i64 d)) { c with s3:=true,hu:=ok,ul:=d }):=by
          have s1:Fa (w3.setCell ⟨q,3,none⟩ (.bool true)) g q RC { c with s3:=true }:=HF3.out.see 3 (by omega) rfl (same_s3 c true)
          have s2:=s1.set (d:={ c with s3:=true,hu:=ok }) 9 (.bool ok) (by omega) (by omega) rfl (same_hu { c with s3:=true } ok)
          exact s2.set (d:={ c with s3:=true,hu:=ok,ul:=d }) 10 (.int .i64 d) (by omega) (by omega) rfl (same_ul { c with s3:=true,hu:=ok } d)
         have HRR:Hid (Rq (((w3.setCell ⟨q,3,none⟩ (.bool true)).setCell ⟨g,15,none⟩ (.bool ok)).setCell ⟨g,16,none⟩ (.int .i64 d)) base { c with s3:=true,hu:=ok,ul:=d } { k with u:=some (d,ok) }):=by
          have r:=((HR3.out.set (b:=q) (i:=3) (v:=.bool true) hq).set (b:=g) (i:=15) (v:=.bool ok) hg).set (b:=g) (i:=16) (v:=.int .i64 d) hg
          exact⟨r.m,r.n,r.s,⟨rfl,rfl,rfl⟩⟩
         have HS0:Hid (c.s3=k.u.isSome):=HR.out.u.1
         have HSM2:Hid (∀ i,(i<7\/16<i)->((RC.setIfInBounds 15 (.bool ok)).setIfInBounds 16 (.int .i64 d))[i]?=RC[i]?):=fun i hi=>by
          rw[Array.getElem?_setIfInBounds_ne (by omega),Array.getElem?_setIfInBounds_ne (by omega)]
         clear hb2 hb3 hts h4
         obtain⟨b0,hb0⟩:∃ b,c.s3=b:=⟨_,rfl⟩
         rw[hb0] at cs HS0
         clear hb0
         cases b0
         all_goals
          go_wp2
          go_ret
          refine⟨HOF.out,?_⟩
          rw[HO2.out,<- HS0.out]
          first
           | exact Or.inr ⟨rfl,rfl⟩
           | exact Or.inl ⟨_,_,_,rfl,rfl,HFF.out,HRR.out,HSM2.out⟩
        ·have HO2:Hid (O=some k):=by show _=_;rw[HO.out];unfold fieldF;rw[if_neg h1,if_neg h2,if_neg h3,if_neg h4]
         have b1:(Lib.toLowerA nm==[105,102,45,109,97,116,99,104])=false:=beq_eq_false_iff_ne.2 h1
         have b2:(Lib.toLowerA nm==[105,102,45,110,111,110,101,45,109,97,116,99,104])=false:=beq_eq_false_iff_ne.2 h2
         have b3:(Lib.toLowerA nm==[105,102,45,109,111,100,105,102,105,101,100,45,115,105,110,99,101])=false:=beq_eq_false_iff_ne.2 h3
         have b4:(Lib.toLowerA nm==[105,102,45,117,110,109,111,100,105,102,105,101,100,45,115,105,110,99,101])=false:=beq_eq_false_iff_ne.2 h4
         clear h1 h2 h3 h4
         go_wp2_with (first
          | (go_at_call 169;refine Calls.mono (HTR2.out _) ?_;rintro e w1 ⟨rfl,hw1⟩;rw[hw1];clear hw1)
          | (go_at_call 170;refine Calls.mono (HSM.out _) ?_;rintro e w2 ⟨rfl,hb2⟩;rw[small_is];(obtain⟨nl,hnl⟩:∃ n,Lib.toLowerA nm=n:=⟨_,rfl⟩);rw[hnl] at b1 b2 b3 b4 ⊢;clear hnl))
         go_ret
         exact⟨Off.of_below hb2,Or.inl ⟨k,c,RC,HO2.out,rfl,HF.out.below hb2,HR.out.below (by omega) hb2,fun _ _=>rfl⟩⟩
end Go.Proofs.YtmehkneofinmiaaGreatDoor

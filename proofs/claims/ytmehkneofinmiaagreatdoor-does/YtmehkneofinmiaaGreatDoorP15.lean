/-
 Texts of this proof, part 15.
-/
import Derived.Test.YtmehkneofinmiaaGreatDoorP14
set_option maxHeartbeats 4000000
namespace Go.Proofs.YtmehkneofinmiaaGreatDoor
open Go.RowKit
abbrev cmpB (a b:List UInt8):Int:=Lib.compareBytes a b
theorem cmpB_range:∀ (a b:List UInt8),cmpB a b = -1\/cmpB a b=0\/cmpB a b=1
 | [],[]=>Or.inr (Or.inl rfl)
 | [],_::_=>Or.inl rfl
 | _::_,[]=>Or.inr (Or.inr rfl)
 | a::ar,b::br=>by
   show Lib.compareBytes (a::ar) (b::br) = -1\/_
   unfold cmpB
   rw[Lib.compareBytes]
   split
   ·exact Or.inl rfl
   ·split
    ·exact Or.inr (Or.inr rfl)
    ·exact cmpB_range ar br
theorem cmpB_refl:∀ a:List UInt8,cmpB a a=0
 | []=>rfl
 | a::ar=>by
   unfold cmpB
   rw[Lib.compareBytes,if_neg (UInt8.lt_irrefl a),if_neg (UInt8.lt_irrefl a)]
   exact cmpB_refl ar
theorem cmpB_eq:∀ (a b:List UInt8),cmpB a b=0->a=b
 | [],[],_=>rfl
 | [],_::_,h=>by cases h
 | _::_,[],h=>by cases h
 | a::ar,b::br,h=>by
   unfold cmpB at h
   rw[Lib.compareBytes] at h
   split at h
   ·cases h
   ·split at h
    ·cases h
    ·rename_i h1 h2
     have e:a=b:=UInt8.le_antisymm (UInt8.not_lt.1 h2) (UInt8.not_lt.1 h1)
     rw[e,cmpB_eq ar br h]
theorem cmpB_swap:∀ (a b:List UInt8),cmpB b a =-cmpB a b
 | [],[]=>rfl
 | [],_::_=>rfl
 | _::_,[]=>rfl
 | a::ar,b::br=>by
   unfold cmpB
   rw[Lib.compareBytes,Lib.compareBytes]
   by_cases h1:a<b
   ·have h2:¬ b<a:=UInt8.lt_asymm h1
    rw[if_pos h1,if_neg h2,if_pos h1]
    rfl
   ·by_cases h2:b<a
    ·rw[if_pos h2,if_neg h1,if_pos h2]
    ·rw[if_neg h1,if_neg h2,if_neg h1,if_neg h2]
     exact cmpB_swap ar br
theorem cmpB_trans:∀ (a b c:List UInt8),cmpB a b = -1->cmpB b c = -1->cmpB a c = -1
 | [],[],_,h,_=>by cases h
 | [],_::_,[],_,h=>by cases h
 | [],_::_,_::_,_,_=>rfl
 | _::_,[],_,h,_=>by cases h
 | _::_,_::_,[],_,h=>by cases h
 | a::ar,b::br,c::cr,h,k=>by
   unfold cmpB at h k ⊢
   rw[Lib.compareBytes] at h k ⊢
   by_cases h1:a<b
   ·by_cases k1:b<c
    ·rw[if_pos (UInt8.lt_trans h1 k1)]
    ·rw[if_neg k1] at k
     by_cases k2:c<b
     ·rw[if_pos k2] at k;cases k
     ·have e:b=c:=UInt8.le_antisymm (UInt8.not_lt.1 k2) (UInt8.not_lt.1 k1)
      rw[if_pos (e ▸ h1)]
   ·rw[if_neg h1] at h
    by_cases h2:b<a
    ·rw[if_pos h2] at h;cases h
    ·have e:a=b:=UInt8.le_antisymm (UInt8.not_lt.1 h2) (UInt8.not_lt.1 h1)
     rw[if_neg h2] at h
     subst e
     by_cases k1:a<c
     ·rw[if_pos k1]
     ·rw[if_neg k1] at k ⊢
      by_cases k2:c<a
      ·rw[if_pos k2] at k;cases k
      ·rw[if_neg k2] at k ⊢
       exact cmpB_trans ar br cr h k
def ptrs (ps:List Nat):List Value:=ps.map fun p=>.pointer (some ⟨p,0,none⟩)
structure Keys (w:World)(es:Value)(ps:List Nat)(K:List (List UInt8)):Prop where
 row:w.ownsRow 0 170 1 es ps.length (ptrs ps)
 len:K.length=ps.length
 key:∀ (i p:Nat) (k:List UInt8),ps[i]?=some p->K[i]?=some k->w.cell? ⟨p,0,none⟩=some (.string ⟨k.toArray⟩)
 lt:∀ p∈ps,p<w.heap.size
theorem Keys.below {w x:World}{es:Value}{ps:List Nat}{K:List (List UInt8)}(h:Keys w es ps K)(hb:Below w.heap.size w x):Keys x es ps K :=
 ⟨row_below h.row hb,h.len,fun i p k hp hk=>(hb.cell (p:=⟨p,0,none⟩) (h.lt p (List.mem_of_getElem? hp))).trans (h.key i p k hp hk),fun p hp=>Nat.lt_of_lt_of_le (h.lt p hp) hb.size⟩
theorem Keys.at {w:World}{es:Value}{ps:List Nat}{K:List (List UInt8)}(h:Keys w es ps K)(i:Nat)(hi:i<ps.length) :
 ∃ g cap p k,es=.slice (some ⟨g,0,none⟩) ps.length cap/\ps.length<=cap/\cap<=maxLen/\g<w.heap.size/\ps[i]?=some p/\K[i]?=some k /\
  w.cell? ⟨g,i,none⟩=some (.pointer (some ⟨p,0,none⟩))/\w.cell? ⟨p,0,none⟩=some (.string ⟨k.toArray⟩):=by
 have hk:i<K.length:=by rw[h.len];exact hi
 have e1:ps[i]?=some ps[i]:=List.getElem?_eq_getElem hi
 have e2:K[i]?=some K[i]:=List.getElem?_eq_getElem hk
 rcases h.row.2 with ⟨_,h0⟩|⟨g,cap,cur,hv,_,hg,hn,hm,hs,htk⟩
 ·omega
 ·refine⟨g,cap,ps[i],K[i],hv,hn,hm,(Array.getElem?_eq_some_iff.1 hg).1,e1,e2,?_,h.key i _ _ e1 e2⟩
  have:(ptrs ps)[i]?=some (.pointer (some ⟨ps[i],0,none⟩)):=by simp[ptrs,e1]
  rw[<- this,<- htk,List.getElem?_take_of_lt (by omega)]
  simp[World.cell?,hg]
def Rising (K:List (List UInt8)):Prop:=∀ (i j:Nat) (a b:List UInt8),i<j->K[i]?=some a->K[j]?=some b->cmpB a b = -1
structure IsPos (K:List (List UInt8))(t:List UInt8)(i:Nat):Prop where
 le:i<=K.length
 lo:∀ (j:Nat) (a:List UInt8),j<i->K[j]?=some a->cmpB a t = -1
 hi:∀ (j:Nat) (a:List UInt8),i<=j->K[j]?=some a->0<=cmpB a t
theorem IsPos.uniq {K:List (List UInt8)}{t:List UInt8}{i j:Nat}(h:IsPos K t i)(k:IsPos K t j):i=j:=by
 apply Nat.le_antisymm
 ·apply Nat.le_of_not_lt
  intro hlt
  have hj:j<K.length:=by have:=h.le;omega
  have:=h.lo j _ hlt (List.getElem?_eq_getElem hj)
  have:=k.hi j _ (Nat.le_refl _) (List.getElem?_eq_getElem hj)
  omega
 ·apply Nat.le_of_not_lt
  intro hlt
  have hj:i<K.length:=by have:=k.le;omega
  have:=k.lo i _ hlt (List.getElem?_eq_getElem hj)
  have:=h.hi i _ (Nat.le_refl _) (List.getElem?_eq_getElem hj)
  omega
theorem cmp1_any (p:Nat)(k t:List UInt8)(w:World)(h:w.cell? ⟨p,0,none⟩=some (.string ⟨k.toArray⟩)) :
 Calls Tryz.prog 194 #[.pointer (some ⟨p,0,none⟩),.string ⟨t.toArray⟩] w fun e w'=>e=.returned (.int .i64 (cmpB k t))/\w'=w:=by
 go_enter Tryz.func194,Tryz.ntmps194
 go_wp2_with fail
 refine (Tryz.strings_Compare ⟨k.toArray⟩ ⟨t.toArray⟩ _).mono ?_
 rintro e w1 ⟨rfl,rfl⟩
 go_wp2
 go_ret
 exact⟨rfl,rfl⟩
theorem search_any (es:Value)(ps:List Nat)(K:List (List UInt8))(t:List UInt8)(w:World)(h:Keys w es ps K)(hr:Rising K)(hl:ps.length<1000000) :
 Calls Tryz.prog 193 #[es,.string ⟨t.toArray⟩,.func (.func 194) #[] #[]] w fun e w' =>
  (∃ i:Nat,IsPos K t i/\e=.returned (.tuple #[.int .i64 i,.bool (K[i]?==some t)]))/\Below w.heap.size w w':=by
 have hlen:∃ a c,es=.slice a ps.length c:=by
  rcases h.row.2 with ⟨rfl,h0⟩|⟨g,cap,cur,rfl,_⟩
  ·rw[h0];exact⟨_,_,rfl⟩
  ·exact⟨_,_,rfl⟩
 have HR:Hid (Keys w es ps K):=h
 have HI:Hid (Rising K):=hr
 clear h hr
 obtain⟨a,c,hvs⟩:=hlen
 rw[hvs]
 go_enter Tryz.func193,Tryz.ntmps193
 go_wp2
 go_loopw [9,10] (fun x y wx=>∃ i j:Nat,i<=j/\j<=ps.length/\x=.int .i64 i/\y=.int .i64 j/\Hid (Below w.heap.size w wx)/\Hid (∀ (k:Nat) (a:List UInt8),k<i->K[k]?=some a->cmpB a t = -1)/\Hid (∀ (k:Nat) (a:List UInt8),j<=k->K[k]?=some a->0<=cmpB a t)) (fun x y _=>(intOf y-intOf x).toNat)
 case atStart =>
  refine⟨0,ps.length,by omega,by omega,rfl,rfl,Below.refl _ _,fun k a hk=>by omega,fun k a hk hka=>?_⟩
  have:=(List.getElem?_eq_some_iff.1 hka).1
  rw[HR.out.len] at this
  omega
 case round =>
  obtain⟨i,j,hij,hj,rfl,rfl,HB,HL,HH⟩:=hrel
  by_cases hlt:i<j
  ·have hmj:(i+j)/2<ps.length:=by omega
   obtain⟨g,cap,p,k,e1,hn,hc,hg,hp,hk,c0,c1⟩:=(HR.out.below HB.out).at ((i+j)/2) hmj
   rw[hvs] at e1
   cases e1
   have HK:Hid (K[(i+j)/2]?=some k):=hk
   have hltI:(i:Int)<(j:Int):=by omega
   clear hk hp
   go_wp2_with fail
   refine (cmp1_any p k t _ c1).mono ?_
   rintro e w2 ⟨rfl,rfl⟩
   by_cases hq:cmpB k t<0
   ·have hq1:cmpB k t = -1:=by rcases cmpB_range k t with h|h|h<;>omega
    obtain⟨q,hqq⟩:∃ q,cmpB k t=q:=⟨_,rfl⟩
    rw[hqq] at hq hq1
    rw[hqq]
    have HQ:Hid (cmpB k t = -1):=hqq.trans hq1
    clear hqq hq1
    go_wp2
    refine⟨⟨(i+j)/2+1,j,by omega,by omega,rfl,rfl,HB,fun k' a' hk' ha'=>?_,HH⟩,?_⟩
    ·by_cases e:k'=(i+j)/2
     ·subst e;rw[HK.out] at ha';cases ha';exact HQ.out
     ·exact cmpB_trans _ _ _ (HI.out k' ((i+j)/2) a' k (by omega) ha' HK.out) HQ.out
    ·simp[intOf]
     omega
   ·obtain⟨q,hqq⟩:∃ q,cmpB k t=q:=⟨_,rfl⟩
    have HQ:Hid (0<=cmpB k t):=Int.not_lt.1 hq
    rw[hqq] at hq
    rw[hqq]
    clear hqq
    go_wp2
    refine⟨⟨i,(i+j)/2,by omega,by omega,rfl,rfl,HB,HL,fun k' a' hk' ha'=>?_⟩,?_⟩
    ·by_cases e:k'=(i+j)/2
     ·subst e;rw[HK.out] at ha';cases ha';exact HQ.out
     ·apply Int.not_lt.1
      intro hh
      have h1:cmpB a' t = -1:=by rcases cmpB_range a' t with h|h|h<;>omega
      have h2:=cmpB_trans _ _ _ (HI.out ((i+j)/2) k' k a' (by omega) HK.out ha') h1
      have h3:=HQ.out
      omega
    ·simp[intOf]
     omega
  ·obtain rfl:i=j:=by omega
   have HP:Hid (IsPos K t i):=⟨by rw[HR.out.len];exact hj,HL.out,HH.out⟩
   clear HL HH hlt hij
   by_cases hin:i<ps.length
   ·obtain⟨g,cap,p,k,e1,hn,hc,hg,hp,hk,c0,c1⟩:=(HR.out.below HB.out).at i hin
    rw[hvs] at e1
    cases e1
    have HK:Hid (K[i]?=some k):=hk
    clear hk hp
    go_wp2_with fail
    refine (cmp1_any p k t _ c1).mono ?_
    rintro e w2 ⟨rfl,rfl⟩
    obtain⟨q,hqq⟩:∃ q,cmpB k t=q:=⟨_,rfl⟩
    have HQ:Hid ((K[i]?==some t)=(q==0)):=by
     rw[HK.out,Bool.eq_iff_iff,beq_iff_eq,beq_iff_eq,<- hqq]
     constructor
     ·intro e;cases e;exact cmpB_refl _
     ·intro e;rw[cmpB_eq _ _ e]
    rw[hqq]
    clear hqq
    go_wp2
    go_ret2
    refine⟨⟨i,HP.out,?_⟩,HB.out⟩
    rw[HQ.out]
    rfl
   ·obtain rfl:i=ps.length:=by omega
    have HN:Hid (K[ps.length]?=none):=List.getElem?_eq_none (by rw[HR.out.len];exact Nat.le_refl _)
    go_wp2
    go_ret2
    refine⟨⟨ps.length,HP.out,?_⟩,HB.out⟩
    rw[HN.out]
    rfl
theorem splace_any (b o:Nat)(es:Value)(ps:List Nat)(K:List (List UInt8))(t:List UInt8)(w:World)(hc:w.cell? ⟨b,o+2,none⟩=some es)(h:Keys w es ps K)(hr:Rising K)(hl:ps.length<1000000) :
 Calls Tryz.prog 132 #[.pointer (some ⟨b,o,none⟩),.string ⟨t.toArray⟩] w fun e w' =>
  (∃ i:Nat,IsPos K t i/\e=.returned (.tuple #[.int .i64 i,.bool (K[i]?==some t)]))/\Below w.heap.size w w':=by
 have HK:Hid (Keys w es ps K):=h
 clear h
 go_enter Tryz.func132,Tryz.ntmps132
 go_wp2_with fail
 refine (search_any es ps K t _ HK.out hr hl).mono ?_
 rintro e w2 ⟨⟨i,hi,rfl⟩,hb2⟩
 have HI:Hid (IsPos K t i):=hi
 obtain⟨f,hf⟩:∃ f,(K[i]?==some t)=f:=⟨_,rfl⟩
 have HF:Hid ((K[i]?==some t)=f):=hf
 rw[hf]
 clear hi hf
 go_wp2
 go_ret2
 refine⟨⟨i,HI.out,?_⟩,hb2⟩
 rw[HF.out]
 rfl
theorem find_yes (b o:Nat)(es:Value)(ps:List Nat)(K:List (List UInt8))(t:List UInt8)(i p:Nat)(w:World)(hc:w.cell? ⟨b,o+2,none⟩=some es)(h:Keys w es ps K)(hr:Rising K)(hl:ps.length<1000000)
 (hi:IsPos K t i)(hf:K[i]?=some t)(hp:ps[i]?=some p)(hlt:b<w.heap.size) :
 Calls Tryz.prog 88 #[.pointer (some ⟨b,o,none⟩),.string ⟨t.toArray⟩] w fun e w'=>e=.returned (.pointer (some ⟨p,0,none⟩))/\Below w.heap.size w w':=by
 have HK:Hid (Keys w es ps K):=h
 have HP:Hid (ps[i]?=some p):=hp
 clear h hp
 go_enter Tryz.func88,Tryz.ntmps88
 go_wp2_with fail
 refine (splace_any b o es ps K t _ hc HK.out hr hl).mono ?_
 rintro e w2 ⟨⟨j,hj,rfl⟩,hb2⟩
 obtain rfl:=hj.uniq hi
 rw[hf,show (some t==some t)=true from by simp]
 have hjl:j<ps.length:=(List.getElem?_eq_some_iff.1 HP.out).1
 obtain⟨g,cap,p',k,e1,hn,hcp,hg,hp',hk',c0,c1⟩:=(HK.out.below hb2).at j hjl
 rw[HP.out] at hp'
 cases hp'
 have hc2:=(hb2.cell (p:=⟨b,o+2,none⟩) hlt).trans hc
 rw[e1] at hc2
 have HB:Hid _:=hb2
 clear hb2 hj hi hf hk' hr
 go_wp2
 go_ret
 exact⟨rfl,HB.out⟩
theorem find_no (b o:Nat)(es:Value)(ps:List Nat)(K:List (List UInt8))(t:List UInt8)(i:Nat)(w:World)(hc:w.cell? ⟨b,o+2,none⟩=some es)(h:Keys w es ps K)(hr:Rising K)(hl:ps.length<1000000)
 (hi:IsPos K t i)(hf:K[i]?≠some t) :
 Calls Tryz.prog 88 #[.pointer (some ⟨b,o,none⟩),.string ⟨t.toArray⟩] w fun e w'=>∃ p,e=.returned (.pointer (some ⟨p,0,none⟩))/\w.heap.size<=p/\EntAt w' p ⟨t,0,[]⟩ (.slice none 0 0)/\Below w.heap.size w w':=by
 have HK:Hid (Keys w es ps K):=h
 clear h
 go_enter Tryz.func88,Tryz.ntmps88
 go_wp2_with fail
 refine (splace_any b o es ps K t _ hc HK.out hr hl).mono ?_
 rintro e w2 ⟨⟨j,hj,rfl⟩,hb2⟩
 obtain rfl:=hj.uniq hi
 rw[show (K[j]?==some t)=false from beq_eq_false_iff_ne.2 hf]
 have HB:Hid _:=hb2
 clear hb2 hj hi hf hr
 go_wp2
 go_ret
 exact⟨w2.heap.size,rfl,HB.out.size,⟨heap_alloc_new _ _,⟨rfl,Or.inl ⟨rfl,rfl⟩⟩⟩,HB.out.alloc HB.out.size _⟩
def hashK (key:List UInt8):Nat:=key.foldl (fun h c=>(h*31+c.toNat)%4294967296) 0
theorem hashK_lt (key:List UInt8):hashK key<4294967296:=by
 unfold hashK
 rw[<- List.reverse_reverse key,List.foldl_reverse]
 cases key.reverse with
 | nil=>simp
 | cons a l=>exact Nat.mod_lt _ (by omega)
theorem hashK_snoc (l:List UInt8)(c:UInt8):hashK (l++[c])=(hashK l*31+c.toNat)%4294967296:=by simp[hashK]
theorem stripeNumber_any (s n cap:Nat)(a:Option Addr)(key:List UInt8)(w:World)(hc:w.cell? ⟨s,6,none⟩=some (.slice a n cap))(hn:1<=n)(hn8:n<=8)(hk:key.length<1000000) :
 Calls Tryz.prog 137 #[.pointer (some ⟨s,0,none⟩),.string ⟨key.toArray⟩] w fun e w'=>e=.returned (.int .i64 ((hashK key%n:Nat):Int))/\w'=w:=by
 obtain⟨S,hS⟩:∃ S:ByteArray,S=⟨key.toArray⟩:=⟨_,rfl⟩
 have hd:S.data.toList=key:=by rw[hS]
 have hsz:S.size=key.length:=by rw[Lib.size_eq,hd]
 rw[<- hS,<- hd]
 have hsl:S.size<1000000:=by omega
 clear hS hsz hd hk
 go_enter Tryz.func137,Tryz.ntmps137
 go_wp2
 go_loop [5,9] (fun hh i=>∃ k:Nat,k<=S.size/\i=.int .i64 k/\hh=.int .u32 ((hashK (S.data.toList.take k):Nat):Int)) (fun _ i=>S.size-(intOf i).toNat)
 case atStart=>exact⟨0,by omega,rfl,rfl⟩
 case round =>
  obtain⟨k,hk,rfl,rfl⟩:=hrel
  have hlt32:=hashK_lt (S.data.toList.take k)
  by_cases hin:k<S.size
  ·have hsn:=take_snoc S k hin
   have HS:Hid (hashK (S.data.toList.take (k+1))=(hashK (S.data.toList.take k)*31+(S[k]).toNat)%4294967296):=by
    show _=_
    rw[hsn,hashK_snoc]
   obtain⟨F,hF⟩:∃ F,hashK (S.data.toList.take k)=F:=⟨_,rfl⟩
   rw[hF] at hlt32 HS ⊢
   have hb8:(S[k]).toNat<256:=(S[k]).toNat_lt
   clear hsn hF
   go_wp2
   refine⟨⟨k+1,by omega,by go_num,?_⟩,by simp[intOf];omega⟩
   rw[HS.out]
   congr 1
   omega
  ·obtain rfl:k=S.size:=by omega
   rw[List.take_of_length_le (by rw[Lib.size_eq];exact Nat.le_refl _)] at hlt32 ⊢
   obtain⟨F,hF⟩:∃ F,hashK S.data.toList=F:=⟨_,rfl⟩
   rw[hF] at hlt32 ⊢
   have hm:F%n<n:=Nat.mod_lt _ (by omega)
   have HW:Hid (wrap64 ((F:Int)%(n:Int))=((F%n:Nat):Int)):=by
    show _=_
    rw[<- Int.natCast_emod]
    simp only[wrap64]
    omega
   have HF:Hid (hashK S.data.toList=F):=hF
   clear hF
   go_wp2
   go_ret
   refine⟨?_,rfl⟩
   rw[HF.out]
   rfl
theorem stripeOf_any (s g n cap:Nat)(key:List UInt8)(w:World)(hc:w.cell? ⟨s,6,none⟩=some (.slice (some ⟨g,0,none⟩) n cap))(hn:1<=n)(hn8:n<=8)(hk:key.length<1000000) :
 Calls Tryz.prog 87 #[.pointer (some ⟨s,0,none⟩),.string ⟨key.toArray⟩] w fun e w'=>e=.returned (.pointer (some ⟨g,hashK key%n*3,none⟩))/\Below w.heap.size w w':=by
 have hm:hashK key%n<n:=Nat.mod_lt _ (by omega)
 go_enter Tryz.func87,Tryz.ntmps87
 go_wp2_with fail
 obtain⟨m,hm2⟩:∃ m,hashK key%n=m:=⟨_,rfl⟩
 have hcd:w.drew.cell? ⟨s,6,none⟩=some (.slice (some ⟨g,0,none⟩) n cap):=hc
 rw[hm2] at hm
 go_region_with (go_at_call 137;refine (stripeNumber_any s n cap (some ⟨g,0,none⟩) key _ hcd hn hn8 hk).mono ?_;rintro e w' ⟨rfl,hw⟩;rw[hw,hm2])
 all_goals go_wp2
 all_goals go_ret
 all_goals (rw[hm2];exact⟨rfl,(Below.refl _ _).drew⟩)
structure Lst (w:World)(v:Value)(qs:List Nat):Prop where
 is:∃ (a:Option Addr) (c:Nat),v=.slice a qs.length c/\qs.length<=c/\c<=maxLen /\
  ∀ (j q:Nat),qs[j]?=some q->∃ g o:Nat,a=some ⟨g,o,none⟩/\(∃ cs f,w.heap[g]?=some (.cells cs 170 f))/\w.cell? ⟨g,o+j,none⟩=some (.pointer (some ⟨q,0,none⟩))
theorem Lst.below {w x:World}{v:Value}{qs:List Nat}(h:Lst w v qs)(hb:Below w.heap.size w x):Lst x v qs:=by
 obtain⟨a,c,h1,h2,h3,h4⟩:=h.is
 refine⟨⟨a,c,h1,h2,h3,fun j q hq=>?_⟩⟩
 obtain⟨g,o,e1,e2,e3⟩:=h4 j q hq
 obtain⟨cs,f,hc⟩:=e2
 have hlt:=(Array.getElem?_eq_some_iff.1 hc).1
 exact⟨g,o,e1,⟨cs,f,(hb.block g hlt).trans hc⟩,(hb.cell (p:=⟨g,o+j,none⟩) hlt).trans e3⟩
theorem Keys.drop {w:World}{a:Option Addr}{n c:Nat}{ps:List Nat}{K:List (List UInt8)}(h:Keys w (.slice a n c) ps K)(i:Nat)(hi:i<=ps.length) :
 Lst w (.slice (if c=i then a else a.map fun x=>⟨x.block,x.off+i,none⟩) (n-i) (c-i)) (ps.drop i):=by
 rcases h.row.2 with ⟨e0,h0⟩|⟨g,cap,cur,hv,_,hg,hn,hm,hs,htk⟩
 ·cases e0
  have:ps=[]:=List.length_eq_zero_iff.1 h0
  subst this
  refine⟨⟨_,_,by rw[List.length_drop];rfl,by simp,by simp,fun j q hq=>by simp at hq⟩⟩
 ·cases hv
  refine⟨⟨_,c-i,by rw[List.length_drop],by rw[List.length_drop];omega,by omega,fun j q hq=>?_⟩⟩
  rw[List.getElem?_drop] at hq
  have hlt:i+j<ps.length:=(List.getElem?_eq_some_iff.1 hq).1
  rw[if_neg (by omega)]
  refine⟨g,0+i,rfl,⟨_,_,hg⟩,?_⟩
  have:(ptrs ps)[i+j]?=some (.pointer (some ⟨q,0,none⟩)):=by simp[ptrs,hq]
  rw[<- this,<- htk,List.getElem?_take_of_lt (by omega)]
  simp[World.cell?,hg]
structure IsBehind (K:List (List UInt8))(t:List UInt8)(i:Nat):Prop where
 le:i<=K.length
 lo:∀ (j:Nat) (a:List UInt8),j<i->K[j]?=some a->cmpB a t<=0
 hi:∀ (j:Nat) (a:List UInt8),i<=j->K[j]?=some a->cmpB a t=1
theorem behind_any (b o:Nat)(es:Value)(ps:List Nat)(K:List (List UInt8))(t:List UInt8)(w:World)(hc:w.cell? ⟨b,o+2,none⟩=some es)(h:Keys w es ps K)(hr:Rising K)(hl:ps.length<1000000)(hlt:b<w.heap.size) :
 Calls Tryz.prog 85 #[.pointer (some ⟨b,o,none⟩),.string ⟨t.toArray⟩] w fun e w' =>
  (∃ (i:Nat) (v:Value),IsBehind K t i/\e=.returned v/\Lst w' v (ps.drop i))/\Below w.heap.size w w':=by
 have hlen:∃ a c,es=.slice a ps.length c/\ps.length<=c:=by
  rcases h.row.2 with ⟨rfl,h0⟩|⟨g,cap,cur,rfl,_,_,hn,_⟩
  ·rw[h0];exact⟨_,_,rfl,Nat.le_refl _⟩
  ·exact⟨_,_,rfl,hn⟩
 obtain⟨a,c,rfl,hpc⟩:=hlen
 have HK:Hid _:=h
 clear h
 go_enter Tryz.func85,Tryz.ntmps85
 go_wp2_with fail
 refine (splace_any b o _ ps K t _ hc HK.out hr hl).mono ?_
 rintro e w2 ⟨⟨i,hi,rfl⟩,hb2⟩
 have hc2:=(hb2.cell (p:=⟨b,o+2,none⟩) hlt).trans hc
 have hile:i<=ps.length:=by have:=hi.le;rw[HK.out.len] at this;exact this
 have HI:Hid _:=hi
 have HB:Hid _:=hb2
 have HR:Hid _:=hr
 clear hb2 hi hr
 have HK2:Hid _:=HK.out.below HB.out
 cases hf:(K[i]?==some t) with
 | true =>
   have hf2:K[i]?=some t:=by simpa using hf
   have hin:i+1<=ps.length:=by
    have:=(List.getElem?_eq_some_iff.1 hf2).1
    rw[HK.out.len] at this
    exact this
   have HF:Hid _:=hf2
   clear hf hf2
   have HD:Hid (IsBehind K t (i+1)):=by
    refine⟨by rw[HK.out.len];exact hin,fun j a hj ha=>?_,fun j a hj ha=>?_⟩
    ·by_cases e:j=i
     ·subst e;rw[HF.out] at ha;cases ha;rw[cmpB_refl];omega
     ·have:=HI.out.lo j a (by omega) ha;omega
    ·have:=HR.out i j t a (by omega) HF.out ha
     rw[cmpB_swap,this]
     rfl
   have hdrop:=HK2.out.drop (i+1) hin
   have HL:Hid _:=hdrop
   clear hdrop
   by_cases hci:c=i+1
   ·subst hci
    rw[if_pos rfl,show ps.length-(i+1)=0 by omega,Nat.sub_self] at HL
    go_wp2
    go_ret
    exact⟨⟨i+1,_,HD.out,rfl,HL.out⟩,HB.out⟩
   ·rw[if_neg hci] at HL
    go_wp2
    go_ret
    exact⟨⟨i+1,_,HD.out,rfl,HL.out⟩,HB.out⟩
 | false =>
   have hf2:K[i]?≠some t:=by simpa using hf
   have HF:Hid _:=hf2
   clear hf hf2
   have HD:Hid (IsBehind K t i):=by
    refine⟨HI.out.le,fun j a hj ha=>?_,fun j a hj ha=>?_⟩
    ·have:=HI.out.lo j a hj ha;omega
    ·have h0:=HI.out.hi j a hj ha
     rcases cmpB_range a t with h|h|h
     ·omega
     ·exfalso
      have:=cmpB_eq _ _ h
      subst this
      by_cases e:j=i
      ·subst e;exact HF.out ha
      ·have hil:i<K.length:=by have:=(List.getElem?_eq_some_iff.1 ha).1;omega
       have h1:=HR.out i j _ a (by omega) (List.getElem?_eq_getElem hil) ha
       have h2:=HI.out.hi i _ (Nat.le_refl _) (List.getElem?_eq_getElem hil)
       omega
     ·exact h
   have hdrop:=HK2.out.drop i hile
   have HL:Hid _:=hdrop
   clear hdrop
   by_cases hci:c=i
   ·subst hci
    rw[if_pos rfl,show ps.length-c=0 by omega,Nat.sub_self] at HL
    go_wp2
    go_ret
    exact⟨⟨c,_,HD.out,rfl,HL.out⟩,HB.out⟩
   ·rw[if_neg hci] at HL
    have ea:(a.map fun x=>(⟨x.block,x.off+i,none⟩:Addr))=a.map fun x=>x.add i:=by
     rcases HK.out.row.2 with ⟨e0,_⟩|⟨g,cap,cur,hv,_⟩
     ·injection e0 with e1
      rw[e1];rfl
     ·injection hv with e1
      rw[e1]
      simp[Addr.add]
    rw[ea] at HL
    clear ea
    go_wp2
    go_ret
    exact⟨⟨i,_,HD.out,rfl,HL.out⟩,HB.out⟩
theorem less_cmp:∀ (a b:List UInt8),Op.bytesLess a b=(cmpB a b == -1)
 | [],[]=>rfl
 | [],_::_=>rfl
 | _::_,[]=>rfl
 | a::ar,b::br=>by
   have ih:=less_cmp ar br
   unfold cmpB at ih ⊢
   rw[Lib.compareBytes,Op.bytesLess]
   by_cases h1:a<b
   ·simp[h1]
   ·by_cases h2:b<a
    ·have hne:a≠b:=fun e=>by subst e;exact UInt8.lt_irrefl _ h2
     simp[h1,h2,hne]
    ·have e:a=b:=UInt8.le_antisymm (UInt8.not_lt.1 h2) (UInt8.not_lt.1 h1)
     subst e
     simp[UInt8.lt_irrefl,ih]
theorem vahead_any (p q:Nat)(k t:List UInt8)(w:World)(hp:w.cell? ⟨p,0,none⟩=some (.string ⟨k.toArray⟩))(hq:w.cell? ⟨q,0,none⟩=some (.string ⟨t.toArray⟩)) :
 Calls Tryz.prog 134 #[.pointer (some ⟨p,0,none⟩),.pointer (some ⟨q,0,none⟩)] w fun e w'=>e=.returned (.bool (cmpB k t == -1))/\Below w.heap.size w w':=by
 have hl:Hid (Op.bytesLess k t=(cmpB k t == -1)):=less_cmp k t
 go_enter Tryz.func134,Tryz.ntmps134
 have hp1:w.drew.cell? ⟨p,0,none⟩=some (.string ⟨k.toArray⟩):=hp
 have hq1:w.drew.cell? ⟨q,0,none⟩=some (.string ⟨t.toArray⟩):=hq
 go_wp2
 go_region
 go_wp2
 go_ret
 refine⟨?_,(Below.refl _ _).drew⟩
 rw[<- hl.out]
 rfl
def hd (qs:List Nat):Nat:=qs.headD 0
structure Hp (w:World)(base h:Nat)(lv:Value)(rows:List Value)(Qs:List (List Nat))(kf:Nat->List UInt8):Prop where
 hb:base<=h
 blk:w.heap[h]?=some (.cells #[lv,.func (.func 134) #[] #[]] 284 (0,0))
 row:w.ownsRow base 162 1 lv rows.length rows
 ne:lv.ownBlock≠some h
 len:Qs.length=rows.length
 lst:∀ (i:Nat) (v:Value) (qs:List Nat),rows[i]?=some v->Qs[i]?=some qs->Lst w v qs/\qs≠[]
 key:∀ qs∈Qs,∀ q∈qs,q<w.heap.size/\w.cell? ⟨q,0,none⟩=some (.string ⟨(kf q).toArray⟩)
theorem Hp.at {w:World}{base h:Nat}{lv:Value}{rows:List Value}{Qs:List (List Nat)}{kf:Nat->List UInt8}(H:Hp w base h lv rows Qs kf)(i:Nat)(hi:i<Qs.length) :
 ∃ r cap qs g o n c,lv=.slice (some ⟨r,0,none⟩) rows.length cap/\rows.length<=cap/\cap<=maxLen/\r<w.heap.size/\Qs[i]?=some qs/\rows[i]?=some (.slice (some ⟨g,o,none⟩) n c)/\n=qs.length/\1<=n/\n<=c/\c<=maxLen/\g<w.heap.size /\
  w.cell? ⟨r,i,none⟩=some (.slice (some ⟨g,o,none⟩) n c)/\w.cell? ⟨g,o,none⟩=some (.pointer (some ⟨hd qs,0,none⟩))/\hd qs∈qs/\qs∈Qs:=by
 have hr:i<rows.length:=by rw[<- H.len];exact hi
 have e1:Qs[i]?=some Qs[i]:=List.getElem?_eq_getElem hi
 have e2:rows[i]?=some rows[i]:=List.getElem?_eq_getElem hr
 obtain⟨hl,hne⟩:=H.lst i _ _ e2 e1
 obtain⟨a,c,hv,h1,h2,h3⟩:=hl.is
 cases hq:Qs[i] with
 | nil=>exact absurd hq hne
 | cons q qs =>
   rw[hq] at hv h1 h3 e1
   obtain⟨g,o,rfl,⟨_,_,hgb⟩,hc⟩:=h3 0 q rfl
   have hg:=(Array.getElem?_eq_some_iff.1 hgb).1
   rcases H.row.2 with ⟨_,h0⟩|⟨r,cap,cur,hlv,_,hrb,hn,hm,hs,htk⟩
   ·omega
   ·refine⟨r,cap,q::qs,g,o,(q::qs).length,c,hlv,hn,hm,(Array.getElem?_eq_some_iff.1 hrb).1,e1,by rw[e2,hv],rfl,by simp,h1,h2,hg,?_,by simpa [hd] using hc,by simp[hd],List.mem_of_getElem? e1⟩
    rw[<- hv,<- Option.some.injEq,<- e2,<- htk,List.getElem?_take_of_lt (by omega)]
    simp[World.cell?,hrb]
theorem isAhead_any (w:World)(base h:Nat)(lv:Value)(rows:List Value)(Qs:List (List Nat))(kf:Nat->List UInt8)(H:Hp w base h lv rows Qs kf)(i j:Nat)(p q:List Nat)(hi:Qs[i]?=some p)(hj:Qs[j]?=some q) :
 Calls Tryz.prog 294 #[.pointer (some ⟨h,0,none⟩),.int .i64 i,.int .i64 j] w fun e w'=>e=.returned (.bool (cmpB (kf (hd p)) (kf (hd q)) == -1))/\Below w.heap.size w w':=by
 obtain⟨r,cap,qs,g,o,n,c,hlv,hn,hm,hr,e1,e2,e3,e4,e5,e6,hg,c1,c2,hmem,hmq⟩:=H.at i (List.getElem?_eq_some_iff.1 hi).1
 obtain⟨r',cap',qs',g',o',n',c',hlv',hn',hm',hr',e1',e2',e3',e4',e5',e6',hg',c1',c2',hmem',hmq'⟩:=H.at j (List.getElem?_eq_some_iff.1 hj).1
 rw[hi] at e1;cases e1
 rw[hj] at e1';cases e1'
 have hil:i<rows.length:=(List.getElem?_eq_some_iff.1 e2).1
 have hjl:j<rows.length:=(List.getElem?_eq_some_iff.1 e2').1
 rw[hlv'] at hlv;cases hlv
 have b0:w.cell? ⟨h,0,none⟩=some (.slice (some ⟨r,0,none⟩) rows.length cap):=by simp[World.cell?,H.blk,hlv']
 have b1:w.cell? ⟨h,1,none⟩=some (.func (.func 134) #[] #[]):=by simp[World.cell?,H.blk]
 have k1:=(H.key p hmq _ hmem).2
 have k2:=(H.key q hmq' _ hmem').2
 have hlt:h<w.heap.size:=(Array.getElem?_eq_some_iff.1 H.blk).1
 have hw:0<w.heap.size:=by omega
 clear H hi hj e2 e2' hmem hmem' hmq hmq' hn' hm' hr' e3 e3' hlv'
 have B0:∀ d os,(Sort.grow (redrawn w d) os).cell? ⟨h,0,none⟩=some (.slice (some ⟨r,0,none⟩) rows.length cap):=fun d os=>cell_regrown b0 d os
 have B1:∀ d os,(Sort.grow (redrawn w d) os).cell? ⟨h,1,none⟩=some (.func (.func 134) #[] #[]):=fun d os=>cell_regrown b1 d os
 have C1:∀ d os,(Sort.grow (redrawn w d) os).cell? ⟨r,i,none⟩=some (.slice (some ⟨g,o,none⟩) n c):=fun d os=>cell_regrown c1 d os
 have C2:∀ d os,(Sort.grow (redrawn w d) os).cell? ⟨g,o,none⟩=some (.pointer (some ⟨hd p,0,none⟩)):=fun d os=>cell_regrown c2 d os
 have C3:∀ d os,(Sort.grow (redrawn w d) os).cell? ⟨r,j,none⟩=some (.slice (some ⟨g',o',none⟩) n' c'):=fun d os=>cell_regrown c1' d os
 have C4:∀ d os,(Sort.grow (redrawn w d) os).cell? ⟨g',o',none⟩=some (.pointer (some ⟨hd q,0,none⟩)):=fun d os=>cell_regrown c2' d os
 have HC:Hid (∀ (d:Nat) (os:Array Obj),_):=fun d os=>Calls.regrown_of (vahead_any (hd p) (hd q) (kf (hd p)) (kf (hd q)) (Sort.grow (redrawn w d) os) (cell_regrown k1 d os) (cell_regrown k2 d os))
 clear k1 k2
 go_enter Tryz.func294,Tryz.ntmps294
 go_wp2_with fail
 refine wp_region_quiet_below (by kernel_rfl) (by kernel_rfl) ?_
 repeat (first|go_big_quiet_step (first|(go_at_call 134;exact HC.out _ _))|quiet_step (first|(go_at_call 134;exact HC.out _ _)))
 refine wpQuiet_nil ?_
 intro w2 hw'
 have hB2:Below w.heap.size w w2:=by
  obtain⟨⟨dq,osq⟩,hw''⟩:=hw'
  rw[hw'']
  exact below_regrown w dq osq
 clear hw'
 go_wp2
 go_ret
 exact⟨rfl,hB2⟩
end Go.Proofs.YtmehkneofinmiaaGreatDoor
namespace Go.Proofs.YtmehkneofinmiaaGreatDoor
def leB (a b:List UInt8):Prop:=cmpB a b<=0
theorem leB_refl (a:List UInt8):leB a a:=by unfold leB;rw[cmpB_refl];omega
theorem leB_of_not {a b:List UInt8}(h:(cmpB b a == -1)=false):leB a b:=by
 have h1:cmpB b a ≠ -1:=by simpa using h
 unfold leB
 rw[cmpB_swap]
 rcases cmpB_range b a with h2|h2|h2<;>omega
theorem leB_of_lt {a b:List UInt8}(h:(cmpB a b == -1)=true):leB a b:=by
 have h1:cmpB a b = -1:=by simpa using h
 unfold leB
 omega
theorem leB_trans {a b c:List UInt8}(h:leB a b)(k:leB b c):leB a c:=by
 unfold leB at *
 rcases cmpB_range a b with h1|h1|h1
 ·rcases cmpB_range b c with h2|h2|h2
  ·rw[cmpB_trans a b c h1 h2];omega
  ·rw[<- cmpB_eq b c h2];omega
  ·omega
 ·rw[cmpB_eq a b h1];exact k
 ·omega
def Child (i c:Nat):Prop:=c=2*i+1\/c=2*i+2
theorem Child.gt {i c:Nat}(h:Child i c):i<c:=by unfold Child at h;omega
theorem Child.uniq {i j c:Nat}(h:Child i c)(k:Child j c):i=j:=by unfold Child at h k;omega
def HeapOK (F:Nat->List UInt8)(n lo:Nat):Prop:=∀ i c,lo<=i->Child i c->c<n->leB (F i) (F c)
structure HeapEx (F:Nat->List UInt8)(n lo p:Nat):Prop where
 le:lo<=p
 a:∀ i c,lo<=i->i≠p->Child i c->c<n->leB (F i) (F c)
 b:∀ i c,lo<=i->Child i p->Child p c->c<n->leB (F i) (F c)
def swapF (F:Nat->List UInt8)(p m:Nat):Nat->List UInt8:=fun i=>if i=p then F m else if i=m then F p else F i
theorem HeapEx.stop {F:Nat->List UInt8}{n lo p:Nat}(h:HeapEx F n lo p)(hm:∀ c,Child p c->c<n->leB (F p) (F c)):HeapOK F n lo:=by
 intro i c hi hc hn
 by_cases e:i=p
 ·subst e;exact hm c hc hn
 ·exact h.a i c hi e hc hn
theorem HeapEx.down {F:Nat->List UInt8}{n lo p m:Nat}(h:HeapEx F n lo p)(hm:Child p m)(hmp:leB (F m) (F p))(hmin:∀ c,Child p c->c<n->leB (F m) (F c))(hmn:m<n):HeapEx (swapF F p m) n lo m:=by
 have hgt:=hm.gt
 have hlo:=h.le
 refine⟨by omega,fun i c hi hne hc hn=>?_,fun i c hi hcm hc hn=>?_⟩
 ·have hci:=hc.gt
  unfold swapF
  by_cases e:i=p
  ·subst e
   rw[if_pos rfl,if_neg (by omega)]
   by_cases ec:c=m
   ·rw[if_pos ec];exact hmp
   ·rw[if_neg ec];exact hmin c hc hn
  ·rw[if_neg e,if_neg hne]
   by_cases ep:c=p
   ·subst ep
    rw[if_pos rfl]
    exact h.b i m hi hc hm hmn
   ·rw[if_neg ep]
    by_cases em:c=m
    ·subst em;exact absurd (hc.uniq hm) e
    ·rw[if_neg em];exact h.a i c hi e hc hn
 ·have hci:=hc.gt
  obtain rfl:=hcm.uniq hm
  unfold swapF
  rw[if_pos rfl,if_neg (by omega),if_neg (by omega)]
  exact h.a m c (by omega) (by omega) hc hn
theorem HeapOK.top {F:Nat->List UInt8}{n:Nat}(h:HeapOK F n 0):∀ i,i<n->leB (F 0) (F i):=by
 intro i
 induction i using Nat.strongRecOn with
 | _ i ih =>
   intro hi
   by_cases h0:i=0
   ·subst h0;exact leB_refl _
   ·have hc:Child ((i-1)/2) i:=by unfold Child;omega
    exact leB_trans (ih ((i-1)/2) (by omega) (by omega)) (h _ i (by omega) hc hi)
end Go.Proofs.YtmehkneofinmiaaGreatDoor

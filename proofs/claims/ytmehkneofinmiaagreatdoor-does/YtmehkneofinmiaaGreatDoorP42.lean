/-
 Texts of this proof, part 42.
-/
import Derived.Test.YtmehkneofinmiaaGreatDoorP41
set_option maxRecDepth 100000
set_option maxHeartbeats 1000000
namespace Go.Proofs.YtmehkneofinmiaaGreatDoor
open Go.RowKit
theorem toList_data (s:ByteArray):s.toList=s.data.toList:=by
 obtain⟨⟨l⟩⟩:=s
 simp
def Rd (s:ByteArray)(a:Nat)(b:Bool)(acc:TagL):Prop :=
 match b with
 | true=>∃ k,(s.data.toList.drop a).length<k/\tagsF (s.data.toList.length+1) s.data.toList=(tagsF k (s.data.toList.drop a)).map (acc++·)
 | false=>tagsF (s.data.toList.length+1) s.data.toList=some acc
theorem refTags_any (s0:ByteArray)(s:ByteArray)(w:World)(hl:Lib.trimS s0.data.toList [32,9]=s.data.toList)(hs0:s0.size<=67108864)(hs:s.size<=67108864):Calls Tryz.prog 171 #[.string s0] w (TagsPost s.data.toList w):=by
 obtain⟨ti,i1,i2,i3,i4⟩:=info33
 have HI:Hid _:=i1
 have HI2:Hid _:=i2
 have HI3:Hid _:=i3
 have HI4:Hid _:=i4
 have TI:Hid (Tight s.data.toList):=by show Tight _;rw[<- hl];exact trim_tight _
 have hst:(⟨(Lib.trimS s0.data.toList [32,9]).toArray⟩:ByteArray)=s:=by rw[hl]
 have HST:Hid _:=hst
 clear i1 i2 i3 i4 hst hl
 go_enter Tryz.func171,Tryz.ntmps171
 go_wp2_with fail
 refine (trimU_any _ _ (by omega)).mono ?_
 rintro e w1 ⟨rfl,rfl⟩
 rw[HST.out]
 clear HST
 by_cases hstar:s.data.toList=[42]
 ·obtain rfl:s=⟨#[42]⟩:=by
   apply ByteArray.ext
   apply Array.toList_inj.1
   exact hstar
  go_wp2
  exact bodyPost_ret (v:=.tuple #[.agg #[.bool true,.slice none 0 0],.bool true]) (by simp[results,Tryz.results171,go_sem]) rfl ⟨(by repeat (first|exact Below.refl _ _|refine Below.setCell ?_ (by simp) _|refine Below.alloc ?_ (by simp) _)),Or.inl ⟨rfl,rfl⟩⟩
 ·have hne:(s.data.toList==[42])=false:=by simpa using hstar
  have hne2:(s.toList==[42])=false:=by rw[toList_data];exact hne
  have HSTAR:Hid _:=hstar
  clear hstar
  go_wp2
  go_loopw [6,7] (fun at_ more wr=>∃ (a:Nat) (b:Bool) (acc:TagL) (bo:Option Addr) (cp:Nat),a<=s.size/\acc.length<=a/\at_=.int .i64 a/\more=.bool b/\Ou w wr (w.heap.size+1) (.slice bo acc.length cp) acc/\Hid (Rd s a b acc))
   (fun at_ more _=>s.size-(intOf at_).toNat+(match more with|.bool true=>1|_=>0))
  case atStart =>
   refine⟨0,true,[],none,0,Nat.zero_le _,Nat.le_refl _,rfl,rfl,?_,⟨s.data.toList.length+1,by simp,?_⟩⟩
   ·exact⟨by repeat (first|exact Below.refl _ _|refine Below.alloc ?_ (by simp) _),by simp,by simp,by simp,by simp,by simp,by simp,by simp,⟨rfl,Or.inl ⟨rfl,rfl⟩⟩,by omega,by simp⟩
   ·exact (map_nil_append _).symm
  case round =>
   obtain⟨a,b,acc,bo,cp,ha,hla,rfl,rfl,ou,hrd⟩:=hrel
   cases b with
   | false =>
     obtain⟨q1,q2,q3,q4,q5,q6,q7,q8,q9,q10,q11⟩:=ou
     go_wp2
     exact bodyPost_ret (v:=.tuple #[.agg #[.bool false,.slice bo acc.length cp],.bool true]) (by simp[results,Tryz.results171,go_sem,q2,q3]) rfl ⟨(q1.setCell (Nat.le_refl _) _).setCell (Nat.le_refl _) _,Or.inr ⟨HSTAR.out,Or.inr ⟨acc,_,hrd.out,rfl,owns_set (owns_set (ownsQ_mono q9 (by omega)) (by simp)) (by simp)⟩⟩⟩
   | true =>
     go_wp2_with fail
     refine (tag_any s a _ ha hs).mono ?_
     rintro e w2 ⟨hb2,⟨wk,nm,n,hn,han,hf,rfl⟩|⟨hf,rfl⟩⟩
     ·have ou2:=ou.below hb2
      have hal:Below w2.heap.size w2 ((w2.alloc (.cells #[.bool wk,.string ⟨nm.toArray⟩] 303)).alloc (.cells #[.bool wk,.string ⟨nm.toArray⟩] 303)):=((Below.refl _ _).alloc (Nat.le_refl _) _).alloc (by simp) _
      have HO:Hid _:=owns_below ou2.own hal
      have hnews:∀ j u,([.bool wk,.string ⟨nm.toArray⟩]:List Value)[j]?=some u->((w2.alloc (.cells #[.bool wk,.string ⟨nm.toArray⟩] 303)).alloc (.cells #[.bool wk,.string ⟨nm.toArray⟩] 303)).cell? ((⟨w2.heap.size+1,0,none⟩:Addr).add j)=some u:=by
       have:=cell_two_new (w2.alloc (.cells #[.bool wk,.string ⟨nm.toArray⟩] 303)) (.bool wk) (.string ⟨nm.toArray⟩) 303
       simpa using this
      have HN:Hid _:=hnews
      have HF:Hid _:=hf
      have hlt2:=ou2.lt
      have k0:=ou2.o0
      have k1:=ou2.o1
      clear hnews hf ou hb2
      go_wp2_with (first|(at_builtin;refine wpList_append_own _ rfl (.tmp 26) (.tmp 28) 89 rfl (w.heap.size+1+1) 303 ti (.agg #[.bool false,.string ⟨#[]⟩]) 2 24 Tryz.underlying89 HI.out HI4.out HI2.out HI3.out rfl (by omega) (.slice bo acc.length cp) acc.length (cellsT acc) rfl HO.out ⟨w2.heap.size+1,0,none⟩ 1 1 [.bool wk,.string ⟨nm.toArray⟩] rfl rfl HN.out (by intro u hu;simp at hu;rcases hu with rfl|rfl<;>rfl) (by unfold maxLen;omega) (by omega) (by simp;omega) ?_;intro v' w3 hown3 hgr _;obtain⟨gg,cap,hv'⟩:=owns_pos hown3;rw[hv'] at hown3;rw[hv'];clear hv';have hB:Below (w.heap.size+1+1) w2 w3:=(hal.mono (by omega)).grown hgr (by simp;omega) (owns_block ou2.own);have k2:=(hB.cell (p:=⟨w.heap.size+1,1,none⟩) (Nat.lt_succ_self _)).trans ou2.o1;have k3:=(hB.frozen (p:=⟨w.heap.size+1,1,none⟩) (Nat.lt_succ_self _)).trans ou2.of1))
      obtain⟨w4,hw4⟩:∃ w4,w4=w3.setCell ⟨w.heap.size+1,1,none⟩ (.slice (some ⟨gg,0,none⟩) (acc.length+1) cap):=⟨_,rfl⟩
      have ou4:Ou w w4 (w.heap.size+1) (.slice (some ⟨gg,0,none⟩) (acc.length+1) cap) (acc++[(wk,nm)]):=by rw[hw4];exact ou2.next hB hown3
      rw[<- hw4]
      clear hw4 ou2 hB hown3 hgr k0 k1 k2 k3 hal HO HN hlt2
      have hl4:acc.length+1=(acc++[(wk,nm)]).length:=by simp
      rw[hl4] at ou4 ⊢
      obtain⟨ac,hac⟩:∃ ac,acc++[(wk,nm)]=ac:=⟨_,rfl⟩
      have hla2:ac.length<=n:=by rw[<- hac,<- hl4];omega
      have HRD:Hid _:=hrd.out
      rw[hac] at ou4 ⊢
      clear hl4 hrd
      go_loop [6] (fun i=>∃ m:Nat,n<=m/\m<=s.size/\i=.int .i64 m/\Hid (Sk s n m)) (fun i=>s.size-(intOf i).toNat)
      case atStart=>exact⟨n,Nat.le_refl _,hn,rfl,rfl⟩
      case round =>
       obtain⟨m,hnm,hm,rfl,hsk⟩:=hrel
       by_cases hlt:m<s.size
       ·by_cases hbk:(s[m].toNat:Int)=32\/(s[m].toNat:Int)=9
        ·have HG:Hid _:=hsk.out.go hlt hbk
         rcases hbk with hbk|hbk
         ·go_wp2
          all_goals exact⟨⟨m+1,by omega,by omega,by go_num,HG.out⟩,by simp[intOf];omega⟩
         ·go_wp2
          all_goals exact⟨⟨m+1,by omega,by omega,by go_num,HG.out⟩,by simp[intOf];omega⟩
        ·have HSP:Hid _:=hsk.out.stop (fun _=>hbk)
         have n32:((s[m].toNat:Int)==32)=false:=by simp;omega
         have n9:((s[m].toNat:Int)==9)=false:=by simp;omega
         by_cases h44:(s[m].toNat:Int)=44
         ·go_wp2
          go_loop [6] (fun i=>∃ p:Nat,m+1<=p/\p<=s.size/\i=.int .i64 p/\Hid (Sk s (m+1) p)) (fun i=>s.size-(intOf i).toNat)
          case atStart=>exact⟨m+1,Nat.le_refl _,by omega,by go_num,rfl⟩
          case round =>
           obtain⟨p,hmp,hp,rfl,hsk2⟩:=hrel
           by_cases hlt2:p<s.size
           ·by_cases hbk2:(s[p].toNat:Int)=32\/(s[p].toNat:Int)=9
            ·have HG:Hid _:=hsk2.out.go hlt2 hbk2
             rcases hbk2 with hbk2|hbk2
             ·go_wp2
              all_goals exact⟨⟨p+1,by omega,by omega,by go_num,HG.out⟩,by simp[intOf];omega⟩
             ·go_wp2
              all_goals exact⟨⟨p+1,by omega,by omega,by go_num,HG.out⟩,by simp[intOf];omega⟩
            ·have HSP2:Hid _:=hsk2.out.stop (fun _=>hbk2)
             have m32:((s[p].toNat:Int)==32)=false:=by simp;omega
             have m9:((s[p].toNat:Int)==9)=false:=by simp;omega
             go_wp2
             refine⟨⟨p,true,ac,_,cap,by omega,by omega,rfl,?_,ou4,?_⟩,?_⟩
             ·first|rfl|simp
              try omega
             ·obtain⟨k,hk,h⟩:=HRD.out
              obtain⟨k',rfl⟩:∃ k',k=k'+1:=⟨k-1,by omega⟩
              refine⟨k',?_,?_⟩
              ·have z:=Lib.size_eq s
               simp only[List.length_drop] at hk ⊢
               omega
              ·rw[h,ref_on HF.out HSP.out hnm hlt h44 HSP2.out,<- hac]
               cases tagsF k' (s.data.toList.drop p)<;>simp
             ·simp[intOf]
              omega
           ·have HSP2:Hid _:=hsk2.out.stop (fun h=>absurd h hlt2)
            go_wp2
            refine⟨⟨p,true,ac,_,cap,by omega,by omega,rfl,?_,ou4,?_⟩,?_⟩
            ·first|rfl|simp
             try omega
            ·obtain⟨k,hk,h⟩:=HRD.out
             obtain⟨k',rfl⟩:∃ k',k=k'+1:=⟨k-1,by omega⟩
             refine⟨k',?_,?_⟩
             ·have z:=Lib.size_eq s
              simp only[List.length_drop] at hk ⊢
              omega
             ·rw[h,ref_on HF.out HSP.out hnm hlt h44 HSP2.out,<- hac]
              cases tagsF k' (s.data.toList.drop p)<;>simp
            ·simp[intOf]
             omega
         ·have n44:((s[m].toNat:Int) != 44)=true:=by simpa using h44
          have HR:Hid (tagsF (s.data.toList.length+1) s.data.toList=none):=by
           obtain⟨k,hk,h⟩:=HRD.out
           show _=_
           rw[h,ref_bad HF.out HSP.out hnm hlt h44]
           rfl
          obtain⟨q1,q2,q3,q4,q5,q6,q7,q8,q9,q10,q11⟩:=ou4
          go_wp2
          exact bodyPost_ret (v:=.tuple #[.agg #[.bool false,.slice none 0 0],.bool false]) (by simp[results,Tryz.results171,go_sem,q2,q3]) rfl ⟨(q1.setCell (Nat.le_refl _) _).setCell (Nat.le_refl _) _,Or.inr ⟨HSTAR.out,Or.inl ⟨HR.out,rfl⟩⟩⟩
       ·have HSP:Hid _:=hsk.out.stop (fun h=>absurd h hlt)
        go_wp2
        refine⟨⟨m,false,ac,_,cap,by omega,by omega,by go_num,?_,ou4,?_⟩,?_⟩
        ·first|rfl|simp
         try omega
        ·show tagsF _ _=_
         obtain⟨k,hk,h⟩:=HRD.out
         rw[h,ref_end TI.out hk HF.out HSP.out (by omega),<- hac]
         rfl
        ·simp[intOf]
         omega
     ·obtain⟨q1,q2,q3,q4,q5,q6,q7,q8,q9,q10,q11⟩:=ou.below hb2
      have HR:Hid (tagsF (s.data.toList.length+1) s.data.toList=none):=by
       obtain⟨k,hk,h⟩:=hrd.out
       show _=_
       rw[h,tagsF_none hf]
       rfl
      clear hf hrd
      have hlt:w.heap.size<w2.heap.size:=by omega
      go_wp2
      refine bodyPost_ret (v:=.tuple #[.agg #[.bool false,.slice none 0 0],.bool false]) (by simp[results,Tryz.results171,go_sem,q2,q3,hlt]) rfl ⟨?_,Or.inr ⟨HSTAR.out,Or.inl ⟨HR.out,rfl⟩⟩⟩
      first|exact ((q1.setCell (Nat.le_refl _) _).setCell (Nat.le_refl _) _).alloc (by simp[World.setCell];omega) _|exact ((q1.alloc (by omega) _).setCell (Nat.le_refl _) _).setCell (Nat.le_refl _) _
theorem rdate_v (l:List UInt8)(w:World)(hT:Tab w):Calls Tryz.prog 172 #[.string ⟨l.toArray⟩] w fun e w'=>e=.returned (.tuple #[.int .i64 (dateV l).1,.bool (dateV l).2])/\Below w.heap.size w w':=by
 refine (ref_date_any ⟨l.toArray⟩ w hT).mono ?_
 rintro e w' ⟨hd,hb⟩
 refine⟨?_,hb⟩
 rcases hd with ⟨sec,a,b,hs,rfl⟩|⟨hn,rfl⟩
 ·have hs':Cal.IsStamp sec l:=by simpa using hs
  have h:∃ sec:Int,0<=sec/\sec<=253402300799/\Cal.IsStamp sec l:=⟨sec,a,b,hs'⟩
  have hc:=Classical.choose_spec h
  have e1:=stamp_inj hs' hc.2.2 a b hc.1 hc.2.1
  unfold dateV
  rw[dif_pos h,<- e1]
 ·have h:¬ ∃ sec:Int,0<=sec/\sec<=253402300799/\Cal.IsStamp sec l:=by
   rintro ⟨sec,a,b,hs⟩
   exact hn sec a b (by simpa using hs)
  unfold dateV
  rw[dif_neg h]
theorem rtags_v (value:List UInt8)(w:World)(hs:value.length<=67108864) :
 Calls Tryz.prog 171 #[.string ⟨value.toArray⟩] w fun e w'=>Below w.heap.size w w'/\∃ o cp,e=.returned (.tuple #[.agg #[.bool (tagsV value).1,.slice o (tagsV value).2.2.length cp],.bool (tagsV value).2.1])/\w'.ownsRow (w.heap.size+1) 303 2 (.slice o (tagsV value).2.2.length cp) (tagsV value).2.2.length (cellsT (tagsV value).2.2):=by
 have hz:(⟨value.toArray⟩:ByteArray).size=value.length:=by rw[Lib.size_eq]
 have hz2:(⟨(Lib.trimS value [32,9]).toArray⟩:ByteArray).size=(Lib.trimS value [32,9]).length:=by rw[Lib.size_eq]
 have hz3:=trimS_le value
 refine (refTags_any ⟨value.toArray⟩ ⟨(Lib.trimS value [32,9]).toArray⟩ w (by simp) (by rw[hz];exact hs) (by rw[hz2];omega)).mono ?_
 unfold tagsV tagsG
 show ∀ e w',TagsPost (Lib.trimS value [32,9]) w e w'->_
 generalize Lib.trimS value [32,9]=l
 rintro e w' ⟨hb,⟨hl,rfl⟩|⟨hl,⟨hn,rfl⟩|⟨a,v,ha,rfl,ho⟩⟩⟩
 ·rw[if_pos hl]
  exact⟨hb,none,0,rfl,rfl,Or.inl ⟨rfl,rfl⟩⟩
 ·rw[if_neg hl,hn]
  exact⟨hb,none,0,rfl,rfl,Or.inl ⟨rfl,rfl⟩⟩
 ·rw[if_neg hl,ha]
  rcases ho.2 with ⟨rfl,h0⟩|⟨g,cap,cur,rfl,r⟩
  ·have:a=[]:=List.eq_nil_of_length_eq_zero h0
   subst this
   exact⟨hb,none,0,rfl,ho⟩
  ·exact⟨hb,some ⟨g,0,none⟩,cap,rfl,ho⟩
def seenC (c:Cst):Array Value:=#[.bool c.s0,.bool c.s1,.bool c.s2,.bool c.s3]
structure Fa (x:World)(g q:Nat)(RC:Array Value)(c:Cst):Prop where
 blk:x.heap[g]?=some (.cells RC 130 (0,0))
 size:RC.size=21
 ask:∀ i,1<=i->i<=10->RC[i+6]?=some (c.cell i)
 sn:x.heap[q]?=some (.cells (seenC c) 195 (0,0))
 ne:g≠q
theorem Fa.below {x y:World}{g q:Nat}{RC:Array Value}{c:Cst}(h:Fa x g q RC c)(hb:Below x.heap.size x y):Fa y g q RC c :=
 ⟨(hb.block g (Array.getElem?_eq_some_iff.1 h.blk).1).trans h.blk,h.size,h.ask,(hb.block q (Array.getElem?_eq_some_iff.1 h.sn).1).trans h.sn,h.ne⟩
theorem Cst.seen {c d:Cst}(hd:∀ j,14<=j->j<18->d.cell j=c.cell j):seenC d=seenC c:=by
 have h0:=hd 14 (by omega) (by omega)
 have h1:=hd 15 (by omega) (by omega)
 have h2:=hd 16 (by omega) (by omega)
 have h3:=hd 17 (by omega) (by omega)
 simp only[Cst.cell] at h0 h1 h2 h3
 unfold seenC
 rw[h0,h1,h2,h3]
theorem Fa.set {x:World}{g q:Nat}{RC:Array Value}{c d:Cst}(h:Fa x g q RC c)(i:Nat)(v:Value)(h1:1<=i)(h2:i<=10)(hv:d.cell i=v)(hd:∀ j,j<18->j≠i->d.cell j=c.cell j):Fa (x.setCell ⟨g,i+6,none⟩ v) g q (RC.setIfInBounds (i+6) v) d:=by
 refine⟨heap_set h.blk,by rw[Array.size_setIfInBounds];exact h.size,fun j a b=>?_,?_,h.ne⟩
 ·by_cases e:j=i
  ·subst e
   rw[Array.getElem?_setIfInBounds_self_of_lt (by rw[h.size];omega),hv]
  ·rw[Array.getElem?_setIfInBounds_ne (by omega),h.ask j a b,hd j (by omega) e]
 ·rw[Cst.seen (fun j a b=>hd j b (by omega)),<- h.sn]
  exact Deep.blk_setCell_other x ⟨g,i+6,none⟩ v q (fun e=>h.ne e.symm)
theorem Fa.see {x:World}{g q:Nat}{RC:Array Value}{c d:Cst}(h:Fa x g q RC c)(i:Nat)(hi:i<4)(hv:d.cell (i+14)=.bool true)(hd:∀ j,j<18->j≠i+14->d.cell j=c.cell j):Fa (x.setCell ⟨q,i,none⟩ (.bool true)) g q RC d:=by
 refine⟨?_,h.size,fun j a b=>by rw[h.ask j a b,hd j (by omega) (by omega)],?_,h.ne⟩
 ·rw[<- h.blk]
  exact Deep.blk_setCell_other x ⟨q,i,none⟩ _ g h.ne
 ·have:=heap_set (i:=i) (v:=.bool true) h.sn
  rw[this]
  congr 2
  have h0:=hd 14 (by omega)
  have h1:=hd 15 (by omega)
  have h2:=hd 16 (by omega)
  have h3:=hd 17 (by omega)
  simp only[Cst.cell] at h0 h1 h2 h3
  rcases (by omega:i=0\/i=1\/i=2\/i=3) with rfl|rfl|rfl|rfl
  ·simp only[Cst.cell] at hv
   simp[seenC,<- hv,<- h1 (by omega),<- h2 (by omega),<- h3 (by omega)]
  ·simp only[Cst.cell] at hv
   simp[seenC,<- hv,<- h0 (by omega),<- h2 (by omega),<- h3 (by omega)]
  ·simp only[Cst.cell] at hv
   simp[seenC,<- hv,<- h0 (by omega),<- h1 (by omega),<- h3 (by omega)]
  ·simp only[Cst.cell] at hv
   simp[seenC,<- hv,<- h0 (by omega),<- h1 (by omega),<- h2 (by omega)]
theorem Fa.cell {x:World}{g q:Nat}{RC:Array Value}{c:Cst}(h:Fa x g q RC c)(i:Nat)(h1:1<=i)(h2:i<=10):x.cell? ⟨g,i+6,none⟩=some (c.cell i):=by
 simp only[World.cell?,h.blk]
 exact h.ask i h1 h2
theorem Fa.seen {x:World}{g q:Nat}{RC:Array Value}{c:Cst}(h:Fa x g q RC c)(i:Nat)(hi:i<4):x.cell? ⟨q,i,none⟩=some (c.cell (i+14)):=by
 simp only[World.cell?,h.sn]
 rcases (by omega:i=0\/i=1\/i=2\/i=3) with rfl|rfl|rfl|rfl<;>rfl
theorem Fa.fz {x:World}{g q:Nat}{RC:Array Value}{c:Cst}(h:Fa x g q RC c)(i:Nat):x.frozen? ⟨g,i,none⟩=false/\x.frozen? ⟨q,i,none⟩=false:=by
 constructor
 ·simp[World.frozen?,h.blk]
 ·simp[World.frozen?,h.sn]
def not58 (c:UInt8):Bool:=c != 58
theorem cut58 (l:List UInt8):Lib.cut l [58]=(l.takeWhile not58,(l.dropWhile not58).drop 1,!(l.dropWhile not58).isEmpty):=by
 have hd:l.takeWhile not58++l.dropWhile not58=l:=List.takeWhile_append_dropWhile
 have hm:∀ c∈l.takeWhile not58,c≠58:=fun c hc=>by
  have:=tw_mem not58 l c hc
  simpa [not58] using this
 cases hr:l.dropWhile not58 with
 | nil =>
   rw[hr,List.append_nil] at hd
   rw[hd] at hm ⊢
   rw[cut_out l [] 58 hm]
   rfl
 | cons c r =>
   have hc:c=58:=by
    have:=List.head_dropWhile_not not58 (l:=l) (by rw[hr];simp)
    simp only[hr,List.head_cons] at this
    simpa [not58] using this
   subst hc
   have:=cut_clean (l.takeWhile not58) r [] 58 hm
   rw[hr] at hd
   rw[show l.takeWhile not58++[58]++r=l by rw[List.append_assoc];exact hd] at this
   rw[this]
   rfl
end Go.Proofs.YtmehkneofinmiaaGreatDoor
namespace Go.Proofs.YtmehkneofinmiaaGreatDoor
noncomputable def fieldsR:Nat->Cnd->List UInt8->Option (Cnd×List UInt8)
 | 0,_,_=>none
 | f+1,k,t=>match lineAt t with
   | none=>none
   | some x=>if x.1=[] then some (k,x.2) else match lineF k x.1 with
     | none=>none
     | some k'=>fieldsR f k' x.2
noncomputable def parseR (l:List UInt8):Option (Nat×TgR×Cnd×List UInt8):=match lineAt l with
 | none=>none
 | some x=>match firstR x.1 with
   | none=>none
   | some y=>match fieldsR (x.2.length+1) k0 x.2 with
     | none=>none
     | some z=>some (y.1,y.2,z.1,z.2)
noncomputable def readR (l:List UInt8):Except Nat (Nat×TgR×Cnd×List UInt8) :=
 if 2000<l.length then .error 413 else
  match parseR l with
  | none=>.error 400
  | some x =>
    if x.2.2.2≠[]/\¬ (x.1=3/\x.2.1.tg=2) then .error 400
    else if 400<x.2.2.2.length then .error 413
    else if fitR x.1 x.2.1.tg then .ok x else .error 405
theorem cutB_any (b:UInt8)(l:List UInt8):((Lib.cut l [b]).2.2=true/\l=(Lib.cut l [b]).1++[b]++(Lib.cut l [b]).2.1)\/((Lib.cut l [b]).2.2=false/\l=(Lib.cut l [b]).1):=by
 have hd:l.takeWhile (fun c=>c != b)++l.dropWhile (fun c=>c != b)=l:=List.takeWhile_append_dropWhile
 have hm:∀ c∈l.takeWhile (fun c=>c != b),c≠b:=fun c hc=>by
  have:=tw_mem (fun c=>c != b) l c hc
  simpa using this
 rcases dw_head (fun c=>c != b) l with h|⟨c,r,h,hc⟩
 ·right
  rw[h,List.append_nil] at hd
  rw[hd] at hm
  rw[cut_out l [] b hm]
  exact⟨rfl,rfl⟩
 ·left
  have hcb:c=b:=by simpa using hc
  rw[h,hcb] at hd
  have:=cut_clean (l.takeWhile (fun c=>c != b)) r [] b hm
  rw[show l.takeWhile (fun c=>c != b)++[b]++r=l by rw[List.append_assoc];exact hd] at this
  rw[this]
  refine⟨rfl,?_⟩
  show l=l.takeWhile (fun c=>c != b)++[b]++r
  rw[List.append_assoc]
  exact hd.symm
theorem crlf_name {c:UInt8}(h:nameB c=true):crlfB c=false:=by
 cases hc:crlfB c with
 | false=>rfl
 | true =>
   unfold crlfB at hc
   simp at hc
   rcases hc with rfl|rfl<;>exact absurd h (by decide)
theorem crlf_key {c:UInt8}(h:keyB c=true):crlfB c=false:=by
 cases hc:crlfB c with
 | false=>rfl
 | true =>
   unfold crlfB at hc
   simp at hc
   rcases hc with rfl|rfl<;>exact absurd h (by decide)
theorem crlf_dig {c:UInt8}(h:isD c=true):crlfB c=false:=by
 cases hc:crlfB c with
 | false=>rfl
 | true =>
   unfold crlfB at hc
   simp at hc
   rcases hc with rfl|rfl<;>exact absurd h (by decide)
theorem clean_key {l:List UInt8}(h:keyOK l=true):l.any crlfB=false:=by
 unfold keyOK at h
 simp only[Bool.and_eq_true] at h
 rw[List.any_eq_false]
 intro c hc
 have:=crlf_key (List.all_eq_true.1 h.2.2 c hc)
 simp[this]
theorem lineF_crlf (k:Cnd)(line:List UInt8)(h:line.any crlfB=true):lineF k line=none:=by
 unfold lineF
 rcases cutB_any 58 line with ⟨h1,h2⟩|⟨h1,h2⟩
 ·rw[h1]
  cases hn:nameOK (Lib.cut line [58]).1 with
  | false=>rfl
  | true =>
    cases hv:(Lib.cut line [58]).2.1.any crlfB with
    | true=>rfl
    | false =>
      exfalso
      unfold nameOK at hn
      simp only[Bool.and_eq_true] at hn
      have h3:(Lib.cut line [58]).1.any crlfB=false:=by
       rw[List.any_eq_false]
       intro c hc
       have:=crlf_name (List.all_eq_true.1 hn.1 c hc)
       simp[this]
      rw[h2,List.any_append,List.any_append,h3,hv] at h
      exact absurd h (by decide)
 ·rw[h1]
  rfl
theorem fields_same:∀ (f:Nat) (k:Cnd) (t:List UInt8),fieldsR f k t=fieldsF f k t
 | 0,_,_=>rfl
 | f+1,k,t=>by
   rw[fieldsR,fieldsF,line_cut t]
   cases h1:(Lib.cut t [13,10]).2.2 with
   | false=>rw[if_neg (by simp),if_neg (by simp)]
   | true =>
     rw[if_pos rfl]
     cases h2:(Lib.cut t [13,10]).1.any crlfB with
     | true =>
       rw[if_neg (by simp),if_neg (fun e=>by rw[e] at h2;cases h2),lineF_crlf k _ h2]
     | false =>
       rw[if_pos ⟨rfl,rfl⟩]
       simp only
       split
       ·rfl
       ·cases hl:lineF k (Lib.cut t [13,10]).1 with
        | none=>rfl
        | some k'=>exact fields_same f k' _
theorem clean_dgs {q:List UInt8}{n:Nat}(h:numF q=some n):q.any crlfB=false:=by
 rw[numF_dgs] at h
 split at h
 ·rename_i hh
  cases ha:q.all isD with
  | false =>
    have:=dgs_no ha
    omega
  | true =>
    rw[List.any_eq_false]
    intro c hc
    have:=crlf_dig (List.all_eq_true.1 ha c hc)
    simp[this]
 ·cases h
theorem pre_split {p q:List UInt8}(h:Lib.hasPrefix p q=true):p=q++Lib.trimPrefix p q:=by
 rw[hp_take,decide_eq_true_iff] at h
 rw[hp_trim p q h]
 have:=List.take_append_drop q.length p
 rw[h] at this
 exact this.symm
theorem clean_query {key q:List UInt8}{t:Tgt}(h:queryF key q=some t):q.any crlfB=false:=by
 unfold queryF at h
 split at h
 ·rename_i e
  rw[e]
  decide
 ·split at h
  ·rename_i e
   have hs:=pre_split e
   cases hn:numF (Lib.trimPrefix q [118,61]) with
   | none=>rw[hn] at h;cases h
   | some n =>
     rw[hs,List.any_append,clean_dgs hn]
     decide
  ·cases h
theorem clean_target {tt:List UInt8}{t:Tgt}(h:targetF tt=some t):tt.any crlfB=false:=by
 unfold targetF at h
 split at h
 ·rename_i e
  rw[pre_split e,List.any_append]
  obtain⟨p,hp⟩:∃ p,Lib.trimPrefix tt [47]=p:=⟨_,rfl⟩
  rw[hp] at h ⊢
  have:p.any crlfB=false:=by
   unfold pathF at h
   split at h
   ·rename_i e
    rw[e]
    rfl
   ·split at h
    ·rename_i e
     split at h
     ·rename_i hk
      rw[pre_split e,List.any_append,clean_key hk]
      decide
     ·cases h
    ·split at h
     ·rename_i hk
      rcases cutB_any 63 p with ⟨h1,h2⟩|⟨h1,h2⟩
      ·rw[h1,if_pos rfl] at h
       rw[h2,List.any_append,List.any_append,clean_key hk,clean_query h]
       decide
      ·rw[h2]
       exact clean_key hk
     ·cases h
  rw[this]
  decide
 ·cases h
theorem clean_meth {l:List UInt8}{m:Nat}(h:methF l=some m):l.any crlfB=false:=by
 unfold methF at h
 split at h
 ·rename_i e
  rw[e];decide
 ·split at h
  ·rename_i e
   rw[e];decide
  ·split at h
   ·rename_i e
    rw[e];decide
   ·split at h
    ·rename_i e
     rw[e];decide
    ·cases h
def cvR (x:Nat×Tgt×Cnd×List UInt8):Nat×TgR×Cnd×List UInt8:=(x.1+1,cvT x.2.1,x.2.2.1,x.2.2.2)
theorem parse_same (l:List UInt8):parseR l=(parseF l).map cvR:=by
 unfold parseR parseF
 rw[line_cut l]
 cases h1:(Lib.cut l [13,10]).2.2 with
 | false=>rw[if_neg (by simp),if_neg (by simp)];rfl
 | true =>
   rw[if_pos rfl]
   cases h2:(Lib.cut l [13,10]).1.any crlfB with
   | true =>
     rw[if_neg (by simp)]
     by_cases h3:(Lib.cut (Lib.cut l [13,10]).1 [32]).2.2=true
     ·rw[if_pos h3]
      cases hm:methF (Lib.cut (Lib.cut l [13,10]).1 [32]).1 with
      | none=>rfl
      | some m =>
        cases ht:targetF (Lib.cut (Lib.cut l [13,10]).1 [32]).2.1 with
        | none=>rfl
        | some t =>
          exfalso
          rcases cutB_any 32 (Lib.cut l [13,10]).1 with ⟨_,h5⟩|⟨h4,_⟩
          ·rw[h5,List.any_append,List.any_append,clean_meth hm,clean_target ht] at h2
           exact absurd h2 (by decide)
          ·rw[h3] at h4
           cases h4
     ·rw[if_neg h3]
      rfl
   | false =>
     rw[if_pos ⟨rfl,rfl⟩]
     simp only
     rw[first_same,fields_same]
     by_cases h3:(Lib.cut (Lib.cut l [13,10]).1 [32]).2.2=true
     ·rw[if_pos h3,if_pos h3]
      cases hm:methF (Lib.cut (Lib.cut l [13,10]).1 [32]).1 with
      | none=>rfl
      | some m =>
        cases ht:targetF (Lib.cut (Lib.cut l [13,10]).1 [32]).2.1 with
        | none=>rfl
        | some t =>
          simp only[Option.map_some]
          cases fieldsF ((Lib.cut l [13,10]).2.1.length+1) k0 (Lib.cut l [13,10]).2.1 with
          | none=>rfl
          | some z=>rfl
     ·rw[if_neg h3,if_neg h3]
      rfl
theorem kind_two (t:Tgt):((cvT t).tg=2)=(t.kind=1):=by
 rw[cvT_tg]
 apply propext
 constructor
 ·intro h
  repeat' split at h
  all_goals first|omega|assumption
 ·intro h
  rw[h]
  rfl
theorem read_same (l:List UInt8):readR l=match readF l with|.error n=>.error n|.ok x=>.ok (cvR x):=by
 unfold readR readF
 rw[parse_same]
 split
 ·rfl
 ·cases hp:parseF l with
  | none=>rfl
  | some x =>
    obtain⟨m,t,k,body⟩:=x
    simp only[Option.map_some,cvR,fits_same,kind_two]
    by_cases h1:body≠[]/\(m==2&&t.kind==1)=false
    ·rw[if_pos h1,if_pos ⟨h1.1,fun e=>by
      have h2:=h1.2
      rw[show m=2 by omega,e.2] at h2
      cases h2⟩]
    ·rw[if_neg h1,if_neg (fun e=>h1 ⟨e.1,by
      rw[Bool.eq_false_iff]
      intro h
      simp at h
      exact e.2 ⟨by omega,h.2⟩⟩)]
     split
     ·rfl
     ·split<;>rfl
end Go.Proofs.YtmehkneofinmiaaGreatDoor

/-
 Texts of this proof, part 4.
-/
import Derived.Test.YtmehkneofinmiaaGreatDoorP03
import Derived.Deep.Heap
set_option maxHeartbeats 1000000
namespace Go.Proofs.YtmehkneofinmiaaGreatDoor
open Go.RowKit
structure Tgt where
 kind:Nat
 key:List UInt8
 num:Nat
def tgV (t:Tgt):Value:=.agg #[.int .i64 (t.kind:Int),.string ⟨t.key.toArray⟩,.int .i64 (t.num:Int)]
def queryF (key query:List UInt8):Option Tgt :=
 if query=[118,101,114,115,105,111,110,115] then some ⟨3,key,0⟩
 else if Lib.hasPrefix query [118,61] then (numF (Lib.trimPrefix query [118,61])).map (fun n=>⟨2,key,n⟩) else none
def afterW:List UInt8:=[63,97,102,116,101,114,61]
def pathF (p:List UInt8):Option Tgt :=
 if p=[] then some ⟨0,[],0⟩
 else if Lib.hasPrefix p afterW then (if keyOK (Lib.trimPrefix p afterW) then some ⟨0,Lib.trimPrefix p afterW,0⟩ else none)
 else if keyOK (Lib.cut p [63]).1 then (if (Lib.cut p [63]).2.2 then queryF (Lib.cut p [63]).1 (Lib.cut p [63]).2.1 else some ⟨1,(Lib.cut p [63]).1,0⟩) else none
def targetF (l:List UInt8):Option Tgt:=if Lib.hasPrefix l [47] then pathF (Lib.trimPrefix l [47]) else none
def TgtPost (o:Option Tgt)(w:World)(e:Ending)(w':World):Prop :=
 Below w.heap.size w w'/\((∃ t,o=some t/\e=.returned (.tuple #[tgV t,.bool true]))\/(o=none/\∃ (k n:Int) (s:ByteArray),e=.returned (.tuple #[.agg #[.int .i64 k,.string s,.int .i64 n],.bool false])))
theorem tgtP_some {o:Option Tgt}{w w':World}(t:Tgt)(hb:Below w.heap.size w w')(h:o=some t):TgtPost o w (.returned (.tuple #[.agg #[.int .i64 (t.kind:Int),.string ⟨t.key.toArray⟩,.int .i64 (t.num:Int)],.bool true])) w':=⟨hb,Or.inl ⟨t,h,rfl⟩⟩
theorem tgtP_none {o:Option Tgt}{w w':World}(k n:Int)(s:ByteArray)(hb:Below w.heap.size w w')(h:o=none):TgtPost o w (.returned (.tuple #[.agg #[.int .i64 k,.string s,.int .i64 n],.bool false])) w':=⟨hb,Or.inr ⟨h,k,n,s,rfl⟩⟩
theorem readQuery_any (key query:List UInt8)(w:World)(hq:query.length<=9223372036854775807):Calls Tryz.prog 187 #[.string ⟨key.toArray⟩,.string ⟨query.toArray⟩] w (TgtPost (queryF key query) w):=by
 by_cases h1:query=[118,101,114,115,105,111,110,115]
 ·subst h1
  go_enter Tryz.func187,Tryz.ntmps187
  go_wp2
  exact bodyPost_ret (v:=.tuple #[.agg #[.int .i64 3,.string ⟨key.toArray⟩,.int .i64 0],.bool true]) (by simp[results,Tryz.results187,go_sem]) rfl (tgtP_some ⟨3,key,0⟩ (by repeat (first|exact Below.refl _ _|refine Below.setCell ?_ (by simp) _|refine Below.alloc ?_ (by simp) _)) rfl)
 ·have b1:(query==[118,101,114,115,105,111,110,115])=false:=by simpa using h1
  have HQ:Hid (queryF key query=if Lib.hasPrefix query [118,61] then (numF (Lib.trimPrefix query [118,61])).map (fun n=>⟨2,key,n⟩) else none):=by
   show _=_
   unfold queryF
   rw[if_neg h1]
  have hl:=Lib.trimPrefix_le query [118,61]
  clear h1
  go_enter Tryz.func187,Tryz.ntmps187
  go_wp2_with fail
  refine (Tryz.strings_CutPrefix _ _ _).mono ?_
  rintro e w1 ⟨rfl,rfl⟩
  cases hp:Lib.hasPrefix query [118,61] with
  | false =>
    have HN:Hid (queryF key query=none):=by show _=_;rw[HQ.out,hp];rfl
    clear HQ
    go_wp2
    exact bodyPost_ret (v:=.tuple #[.agg #[.int .i64 0,.string ⟨#[]⟩,.int .i64 0],.bool false]) (by simp[results,Tryz.results187,go_sem]) rfl (tgtP_none 0 0 ⟨#[]⟩ (by repeat (first|exact Below.refl _ _|refine Below.setCell ?_ (by simp) _|refine Below.alloc ?_ (by simp) _)) HN.out)
  | true =>
    have HY:Hid (queryF key query=(numF (Lib.trimPrefix query [118,61])).map (fun n=>⟨2,key,n⟩)):=by show _=_;rw[HQ.out,hp];rfl
    obtain⟨ds,hds⟩:∃ ds,Lib.trimPrefix query [118,61]=ds:=⟨_,rfl⟩
    rw[hds] at hl HY ⊢
    clear HQ hp hds
    go_wp2_with fail
    refine (wireNumber_any ⟨ds.toArray⟩ _ (by rw[Lib.size_eq];simp;omega)).mono ?_
    rintro e w2 ⟨rfl,rfl⟩
    have e0:(⟨ds.toArray⟩:ByteArray).data.toList=ds:=by simp
    rw[e0]
    cases hn:numF ds with
    | none =>
      rw[hn] at HY
      simp only[numOut]
      go_wp2
      exact bodyPost_ret (v:=.tuple #[.agg #[.int .i64 2,.string ⟨key.toArray⟩,.int .i64 0],.bool false]) (by simp[results,Tryz.results187,go_sem]) rfl (tgtP_none 2 0 ⟨key.toArray⟩ (by repeat (first|exact Below.refl _ _|refine Below.setCell ?_ (by simp) _|refine Below.alloc ?_ (by simp) _)) HY.out)
    | some n =>
      rw[hn] at HY
      simp only[numOut]
      go_wp2
      exact bodyPost_ret (v:=.tuple #[.agg #[.int .i64 2,.string ⟨key.toArray⟩,.int .i64 (n:Int)],.bool true]) (by simp[results,Tryz.results187,go_sem]) rfl (tgtP_some ⟨2,key,n⟩ (by repeat (first|exact Below.refl _ _|refine Below.setCell ?_ (by simp) _|refine Below.alloc ?_ (by simp) _)) HY.out)
theorem cut_any (s sep:List UInt8)(w:World)(hM:MaxIs w)(hs:s.length<4294967281) :
 Calls Tryz.prog 122 #[.string ⟨s.toArray⟩,.string ⟨sep.toArray⟩] w fun e w'=>e=.returned (.tuple #[.string ⟨(Lib.cut s sep).1.toArray⟩,.string ⟨(Lib.cut s sep).2.1.toArray⟩,.bool (Lib.cut s sep).2.2])/\Below w.heap.size w w':=by
 obtain⟨m,hm⟩:=hM
 have:=Tryz.strings_Cut ⟨s.toArray⟩ ⟨sep.toArray⟩ m w (by rw[Lib.size_eq];simpa using hs) hm
 refine this.mono ?_
 rintro e w' ⟨rfl,n,rfl⟩
 exact⟨rfl,below_drewN (Below.refl _ _) n⟩
theorem prefix_any (s p:List UInt8)(w:World) :
 Calls Tryz.prog 185 #[.string ⟨s.toArray⟩,.string ⟨p.toArray⟩] w fun e w'=>e=.returned (.tuple #[.string ⟨(Lib.trimPrefix s p).toArray⟩,.bool (Lib.hasPrefix s p)])/\w'=w:=Tryz.strings_CutPrefix ⟨s.toArray⟩ ⟨p.toArray⟩ w
theorem key_any (s:List UInt8)(w:World)(hs:s.length<=9223372036854775807):Calls Tryz.prog 186 #[.string ⟨s.toArray⟩] w fun e w'=>e=.returned (.bool (keyOK s))/\w'=w :=
 isKey_any ⟨s.toArray⟩ w (by rw[Lib.size_eq];simpa using hs)
theorem cut_le (l p:List UInt8):(Lib.cut l p).1.length<=l.length/\(Lib.cut l p).2.1.length<=l.length:=by
 unfold Lib.cut
 split
 ·simp;omega
 ·simp
structure Tb (w x:World):Prop where
 b:Below w.heap.size w x
 c0:x.cell? ⟨w.heap.size,0,none⟩=some (.int .i64 0)
 c1:x.cell? ⟨w.heap.size,1,none⟩=some (.string ⟨#[]⟩)
 c2:x.cell? ⟨w.heap.size,2,none⟩=some (.int .i64 0)
 f0:x.frozen? ⟨w.heap.size,0,none⟩=false
 f1:x.frozen? ⟨w.heap.size,1,none⟩=false
 f2:x.frozen? ⟨w.heap.size,2,none⟩=false
 lt:w.heap.size<x.heap.size
theorem Tb.made (w:World):Tb w (w.alloc (.cells #[.int .i64 0,.string ⟨#[]⟩,.int .i64 0] 88)) :=
 ⟨(Below.refl _ _).alloc (Nat.le_refl _) _,by simp,by simp,by simp,by simp,by simp,by simp,by simp⟩
theorem Tb.below {w x y:World}(h:Tb w x)(hb:Below x.heap.size x y):Tb w y:=by
 have lt:=h.lt
 have k:=hb.size
 exact⟨h.b.trans (hb.mono (by omega)),(hb.cell (p:=⟨_,0,none⟩) lt).trans h.c0,(hb.cell (p:=⟨_,1,none⟩) lt).trans h.c1,(hb.cell (p:=⟨_,2,none⟩) lt).trans h.c2,(hb.frozen (p:=⟨_,0,none⟩) lt).trans h.f0,(hb.frozen (p:=⟨_,1,none⟩) lt).trans h.f1,(hb.frozen (p:=⟨_,2,none⟩) lt).trans h.f2,by omega⟩
theorem readTarget_any (l:List UInt8)(w:World)(hM:MaxIs w)(hl:l.length<=4000000000):Calls Tryz.prog 124 #[.string ⟨l.toArray⟩] w (TgtPost (targetF l) w):=by
 have tb:=Tb.made w
 have hl1:=Lib.trimPrefix_le l [47]
 go_enter Tryz.func124,Tryz.ntmps124
 go_wp2_with fail
 refine (prefix_any l [47] _).mono ?_
 rintro e w1 ⟨rfl,hw1⟩
 rw[<- hw1] at tb
 clear hw1
 cases hp:Lib.hasPrefix l [47] with
 | false =>
   have HN:Hid (targetF l=none):=by show _=_;unfold targetF;rw[hp];rfl
   obtain⟨q1,q2,q3,q4,q5,q6,q7,q8⟩:=tb
   clear hp
   go_wp2
   exact bodyPost_ret (v:=.tuple #[.agg #[.int .i64 0,.string ⟨#[]⟩,.int .i64 0],.bool false]) (by simp[results,Tryz.results124,go_sem,q2,q3,q4]) rfl (tgtP_none 0 0 ⟨#[]⟩ (((q1.setCell (Nat.le_refl _) _).setCell (Nat.le_refl _) _).setCell (Nat.le_refl _) _) HN.out)
 | true =>
   have HT:Hid (targetF l=pathF (Lib.trimPrefix l [47])):=by show _=_;unfold targetF;rw[hp];rfl
   obtain⟨p,hpp⟩:∃ p,Lib.trimPrefix l [47]=p:=⟨_,rfl⟩
   rw[hpp] at hl1 HT ⊢
   clear hp hpp
   by_cases hp0:p=[]
   ·subst hp0
    obtain⟨q1,q2,q3,q4,q5,q6,q7,q8⟩:=tb
    go_wp2
    exact bodyPost_ret (v:=.tuple #[.agg #[.int .i64 0,.string ⟨#[]⟩,.int .i64 0],.bool true]) (by simp[results,Tryz.results124,go_sem,q2,q3,q4]) rfl (tgtP_some ⟨0,[],0⟩ (((q1.setCell (Nat.le_refl _) _).setCell (Nat.le_refl _) _).setCell (Nat.le_refl _) _) (HT.out.trans rfl))
   ·have hp0':(p==[])=false:=by simpa using hp0
    have HT2:Hid (targetF l=if Lib.hasPrefix p afterW then (if keyOK (Lib.trimPrefix p afterW) then some ⟨0,Lib.trimPrefix p afterW,0⟩ else none) else if keyOK (Lib.cut p [63]).1 then (if (Lib.cut p [63]).2.2 then queryF (Lib.cut p [63]).1 (Lib.cut p [63]).2.1 else some ⟨1,(Lib.cut p [63]).1,0⟩) else none):=by
     show _=_
     rw[HT.out,pathF,if_neg hp0]
    clear hp0 HT
    go_wp2_with fail
    refine (prefix_any p afterW _).mono ?_
    rintro e w2 ⟨rfl,rfl⟩
    have hl2:=Lib.trimPrefix_le p afterW
    cases ha:Lib.hasPrefix p afterW with
    | true =>
      rw[ha,if_pos rfl] at HT2
      obtain⟨k,hk⟩:∃ k,Lib.trimPrefix p afterW=k:=⟨_,rfl⟩
      rw[hk] at hl2 HT2 ⊢
      clear ha hk
      go_wp2_with fail
      refine (key_any k _ (by omega)).mono ?_
      rintro e w3 ⟨rfl,rfl⟩
      obtain⟨q1,q2,q3,q4,q5,q6,q7,q8⟩:=tb
      cases hok:keyOK k with
      | true =>
        rw[hok,if_pos rfl] at HT2
        clear hok
        go_wp2
        exact bodyPost_ret (v:=.tuple #[.agg #[.int .i64 0,.string ⟨k.toArray⟩,.int .i64 0],.bool true]) (by simp[results,Tryz.results124,go_sem,q2,q3,q4]) rfl (tgtP_some ⟨0,k,0⟩ (((q1.setCell (Nat.le_refl _) _).setCell (Nat.le_refl _) _).setCell (Nat.le_refl _) _) HT2.out)
      | false =>
        rw[hok,if_neg (by decide)] at HT2
        clear hok
        go_wp2
        exact bodyPost_ret (v:=.tuple #[.agg #[.int .i64 0,.string ⟨k.toArray⟩,.int .i64 0],.bool false]) (by simp[results,Tryz.results124,go_sem,q2,q3,q4]) rfl (tgtP_none 0 0 ⟨k.toArray⟩ (((q1.setCell (Nat.le_refl _) _).setCell (Nat.le_refl _) _).setCell (Nat.le_refl _) _) HT2.out)
    | false =>
      rw[ha,if_neg (by decide)] at HT2
      have hcl:=cut_le p [63]
      clear ha hl2
      go_wp2_with fail
      refine (cut_any p [63] _ (hM.below tb.b) (by omega)).mono ?_
      rintro e w3 ⟨rfl,hb3⟩
      have tb3:=tb.below hb3
      obtain⟨c,hc⟩:∃ c,Lib.cut p [63]=c:=⟨_,rfl⟩
      rw[hc] at hcl HT2 ⊢
      obtain⟨k,q,b⟩:=c
      simp only at hcl HT2 ⊢
      clear hb3 tb hc
      go_wp2_with fail
      refine (key_any k _ (by omega)).mono ?_
      rintro e w4 ⟨rfl,rfl⟩
      cases hok:keyOK k with
      | false =>
        rw[hok,if_neg (by decide)] at HT2
        obtain⟨q1,q2,q3,q4,q5,q6,q7,q8⟩:=tb3
        clear hok
        go_wp2
        exact bodyPost_ret (v:=.tuple #[.agg #[.int .i64 0,.string ⟨#[]⟩,.int .i64 0],.bool false]) (by simp[results,Tryz.results124,go_sem,q2,q3,q4]) rfl (tgtP_none 0 0 ⟨#[]⟩ (((q1.setCell (Nat.le_refl _) _).setCell (Nat.le_refl _) _).setCell (Nat.le_refl _) _) HT2.out)
      | true =>
        rw[hok,if_pos rfl] at HT2
        clear hok
        cases b with
        | false =>
          rw[if_neg (by decide)] at HT2
          obtain⟨q1,q2,q3,q4,q5,q6,q7,q8⟩:=tb3
          go_wp2
          exact bodyPost_ret (v:=.tuple #[.agg #[.int .i64 1,.string ⟨k.toArray⟩,.int .i64 0],.bool true]) (by simp[results,Tryz.results124,go_sem,q2,q3,q4]) rfl (tgtP_some ⟨1,k,0⟩ (((q1.setCell (Nat.le_refl _) _).setCell (Nat.le_refl _) _).setCell (Nat.le_refl _) _) HT2.out)
        | true =>
          rw[if_pos rfl] at HT2
          go_wp2_with fail
          refine (readQuery_any k q _ (by omega)).mono ?_
          rintro e w5 ⟨hb5,⟨t,ht,rfl⟩|⟨hn,k5,n5,s5,rfl⟩⟩
          ·obtain⟨q1,q2,q3,q4,q5,q6,q7,q8⟩:=tb3.below hb5
           rw[ht] at HT2
           obtain⟨tk,tkey,tn⟩:=t
           simp only[tgV]
           clear ht hb5 tb3
           go_wp2
           exact bodyPost_ret (v:=.tuple #[.agg #[.int .i64 (tk:Int),.string ⟨tkey.toArray⟩,.int .i64 (tn:Int)],.bool true]) (by simp[results,Tryz.results124,go_sem,q2,q3,q4]) rfl (tgtP_some ⟨tk,tkey,tn⟩ (((q1.setCell (Nat.le_refl _) _).setCell (Nat.le_refl _) _).setCell (Nat.le_refl _) _) HT2.out)
          ·obtain⟨q1,q2,q3,q4,q5,q6,q7,q8⟩:=tb3.below hb5
           rw[hn] at HT2
           clear hn hb5 tb3
           go_wp2
           exact bodyPost_ret (v:=.tuple #[.agg #[.int .i64 k5,.string s5,.int .i64 n5],.bool false]) (by simp[results,Tryz.results124,go_sem,q2,q3,q4]) rfl (tgtP_none k5 n5 s5 (((q1.setCell (Nat.le_refl _) _).setCell (Nat.le_refl _) _).setCell (Nat.le_refl _) _) HT2.out)
structure Cst where
 hm:Bool
 am:Bool
 lm:Value
 hn:Bool
 an:Bool
 ln:Value
 hs:Bool
 si:Int
 hu:Bool
 ul:Int
 s0:Bool
 s1:Bool
 s2:Bool
 s3:Bool
def Cst.cell (c:Cst):Nat->Value
 | 1=>.bool c.hm
 | 2=>.bool c.am
 | 3=>c.lm
 | 4=>.bool c.hn
 | 5=>.bool c.an
 | 6=>c.ln
 | 7=>.bool c.hs
 | 8=>.int .i64 c.si
 | 9=>.bool c.hu
 | 10=>.int .i64 c.ul
 | 12=>.string ⟨#[]⟩
 | 13=>.int .i64 0
 | 14=>.bool c.s0
 | 15=>.bool c.s1
 | 16=>.bool c.s2
 | 17=>.bool c.s3
 | _=>.bool false
structure Cm (x:World)(g:Nat)(c:Cst):Prop where
 c:∀ i,i<18->x.cell? ⟨g,i,none⟩=some (c.cell i)
 f:∀ i,i<18->x.frozen? ⟨g,i,none⟩=false
theorem Cm.lt {x:World}{g:Nat}{c:Cst}(h:Cm x g c):g<x.heap.size:=World.block_lt_of_cell? _ _ (h.c 0 (by omega))
theorem Cm.below {x y:World}{g:Nat}{c:Cst}(h:Cm x g c)(hb:Below x.heap.size x y):Cm y g c :=
 ⟨fun i hi=>(hb.cell (p:=⟨g,i,none⟩) h.lt).trans (h.c i hi),fun i hi=>(hb.frozen (p:=⟨g,i,none⟩) h.lt).trans (h.f i hi)⟩
theorem Cm.set {x:World}{g:Nat}{c d:Cst}(h:Cm x g c)(i:Nat)(v:Value)(hi:i<18)(hv:d.cell i=v)(hd:∀ j,j<18->j≠i->d.cell j=c.cell j):Cm (x.setCell ⟨g,i,none⟩ v) g d:=by
 refine⟨fun j hj=>?_,fun j hj=>?_⟩
 ·by_cases e:j=i
  ·subst e
   rw[World.cell?_setCell_same _ _ _ (h.c j hj),hv]
  ·rw[World.cell?_setCell_other _ _ _ _ (by intro q;injection q;omega),h.c j hj,hd j hj e]
 ·rw[World.frozen?_setCell]
  exact h.f j hj
theorem j18 {j:Nat}(h:j<18):j=0\/j=1\/j=2\/j=3\/j=4\/j=5\/j=6\/j=7\/j=8\/j=9\/j=10\/j=11\/j=12\/j=13\/j=14\/j=15\/j=16\/j=17:=by omega
theorem same_hm (c:Cst)(x:Bool)(j:Nat)(hj:j<18)(hne:j≠1):({ c with hm:=x }:Cst).cell j=c.cell j:=by
 rcases (j18 hj) with rfl|rfl|rfl|rfl|rfl|rfl|rfl|rfl|rfl|rfl|rfl|rfl|rfl|rfl|rfl|rfl|rfl|rfl<;>first|rfl|exact absurd rfl hne
theorem same_am (c:Cst)(x:Bool)(j:Nat)(hj:j<18)(hne:j≠2):({ c with am:=x }:Cst).cell j=c.cell j:=by
 rcases (j18 hj) with rfl|rfl|rfl|rfl|rfl|rfl|rfl|rfl|rfl|rfl|rfl|rfl|rfl|rfl|rfl|rfl|rfl|rfl<;>first|rfl|exact absurd rfl hne
theorem same_lm (c:Cst)(x:Value)(j:Nat)(hj:j<18)(hne:j≠3):({ c with lm:=x }:Cst).cell j=c.cell j:=by
 rcases (j18 hj) with rfl|rfl|rfl|rfl|rfl|rfl|rfl|rfl|rfl|rfl|rfl|rfl|rfl|rfl|rfl|rfl|rfl|rfl<;>first|rfl|exact absurd rfl hne
theorem same_hn (c:Cst)(x:Bool)(j:Nat)(hj:j<18)(hne:j≠4):({ c with hn:=x }:Cst).cell j=c.cell j:=by
 rcases (j18 hj) with rfl|rfl|rfl|rfl|rfl|rfl|rfl|rfl|rfl|rfl|rfl|rfl|rfl|rfl|rfl|rfl|rfl|rfl<;>first|rfl|exact absurd rfl hne
theorem same_an (c:Cst)(x:Bool)(j:Nat)(hj:j<18)(hne:j≠5):({ c with an:=x }:Cst).cell j=c.cell j:=by
 rcases (j18 hj) with rfl|rfl|rfl|rfl|rfl|rfl|rfl|rfl|rfl|rfl|rfl|rfl|rfl|rfl|rfl|rfl|rfl|rfl<;>first|rfl|exact absurd rfl hne
theorem same_ln (c:Cst)(x:Value)(j:Nat)(hj:j<18)(hne:j≠6):({ c with ln:=x }:Cst).cell j=c.cell j:=by
 rcases (j18 hj) with rfl|rfl|rfl|rfl|rfl|rfl|rfl|rfl|rfl|rfl|rfl|rfl|rfl|rfl|rfl|rfl|rfl|rfl<;>first|rfl|exact absurd rfl hne
theorem same_hs (c:Cst)(x:Bool)(j:Nat)(hj:j<18)(hne:j≠7):({ c with hs:=x }:Cst).cell j=c.cell j:=by
 rcases (j18 hj) with rfl|rfl|rfl|rfl|rfl|rfl|rfl|rfl|rfl|rfl|rfl|rfl|rfl|rfl|rfl|rfl|rfl|rfl<;>first|rfl|exact absurd rfl hne
theorem same_si (c:Cst)(x:Int)(j:Nat)(hj:j<18)(hne:j≠8):({ c with si:=x }:Cst).cell j=c.cell j:=by
 rcases (j18 hj) with rfl|rfl|rfl|rfl|rfl|rfl|rfl|rfl|rfl|rfl|rfl|rfl|rfl|rfl|rfl|rfl|rfl|rfl<;>first|rfl|exact absurd rfl hne
theorem same_hu (c:Cst)(x:Bool)(j:Nat)(hj:j<18)(hne:j≠9):({ c with hu:=x }:Cst).cell j=c.cell j:=by
 rcases (j18 hj) with rfl|rfl|rfl|rfl|rfl|rfl|rfl|rfl|rfl|rfl|rfl|rfl|rfl|rfl|rfl|rfl|rfl|rfl<;>first|rfl|exact absurd rfl hne
theorem same_ul (c:Cst)(x:Int)(j:Nat)(hj:j<18)(hne:j≠10):({ c with ul:=x }:Cst).cell j=c.cell j:=by
 rcases (j18 hj) with rfl|rfl|rfl|rfl|rfl|rfl|rfl|rfl|rfl|rfl|rfl|rfl|rfl|rfl|rfl|rfl|rfl|rfl<;>first|rfl|exact absurd rfl hne
theorem same_s0 (c:Cst)(x:Bool)(j:Nat)(hj:j<18)(hne:j≠14):({ c with s0:=x }:Cst).cell j=c.cell j:=by
 rcases (j18 hj) with rfl|rfl|rfl|rfl|rfl|rfl|rfl|rfl|rfl|rfl|rfl|rfl|rfl|rfl|rfl|rfl|rfl|rfl<;>first|rfl|exact absurd rfl hne
theorem same_s1 (c:Cst)(x:Bool)(j:Nat)(hj:j<18)(hne:j≠15):({ c with s1:=x }:Cst).cell j=c.cell j:=by
 rcases (j18 hj) with rfl|rfl|rfl|rfl|rfl|rfl|rfl|rfl|rfl|rfl|rfl|rfl|rfl|rfl|rfl|rfl|rfl|rfl<;>first|rfl|exact absurd rfl hne
theorem same_s2 (c:Cst)(x:Bool)(j:Nat)(hj:j<18)(hne:j≠16):({ c with s2:=x }:Cst).cell j=c.cell j:=by
 rcases (j18 hj) with rfl|rfl|rfl|rfl|rfl|rfl|rfl|rfl|rfl|rfl|rfl|rfl|rfl|rfl|rfl|rfl|rfl|rfl<;>first|rfl|exact absurd rfl hne
theorem same_s3 (c:Cst)(x:Bool)(j:Nat)(hj:j<18)(hne:j≠17):({ c with s3:=x }:Cst).cell j=c.cell j:=by
 rcases (j18 hj) with rfl|rfl|rfl|rfl|rfl|rfl|rfl|rfl|rfl|rfl|rfl|rfl|rfl|rfl|rfl|rfl|rfl|rfl<;>first|rfl|exact absurd rfl hne
structure Kp (g:Nat)(w x:World):Prop where
 b:Below g w x
 o:∀ k,k≠g->k<w.heap.size->x.heap[k]?=w.heap[k]?
theorem Kp.trans {g:Nat}{w x y:World}(h:Kp g w x)(h':Kp g x y):Kp g w y :=
 ⟨h.b.trans h'.b,fun k hk hl=>(h'.o k hk (Nat.lt_of_lt_of_le hl h.b.size)).trans (h.o k hk hl)⟩
theorem Kp.of_below {g:Nat}{w x:World}(hg:g<=w.heap.size)(h:Below w.heap.size w x):Kp g w x:=⟨h.mono hg,fun k _ hl=>h.block k hl⟩
theorem Kp.set {g:Nat}{w x:World}(h:Kp g w x)(i:Nat)(v:Value):Kp g w (x.setCell ⟨g,i,none⟩ v) :=
 ⟨h.b.setCell (Nat.le_refl _) _,fun k hk hl=>by
   rw[<- h.o k hk hl]
   exact Deep.blk_setCell_other x ⟨g,i,none⟩ v k (by show k≠g;omega)⟩
theorem first0 (g:Nat)(c:Cst)(w:World)(h:Cm w g c):Calls Tryz.prog 284 #[.pointer (some ⟨g,0,none⟩),.int .i64 0] w fun e w'=>e=.returned (.bool (!c.s0))/\w'=w.setCell ⟨g,14,none⟩ (.bool true):=by
 have c1:=h.c 14 (by omega)
 have f1:=h.f 14 (by omega)
 simp only[Cst.cell] at c1
 go_enter Tryz.func284,Tryz.ntmps284
 go_wp2
 go_ret
 exact⟨rfl,rfl⟩
theorem first1 (g:Nat)(c:Cst)(w:World)(h:Cm w g c):Calls Tryz.prog 284 #[.pointer (some ⟨g,0,none⟩),.int .i64 1] w fun e w'=>e=.returned (.bool (!c.s1))/\w'=w.setCell ⟨g,15,none⟩ (.bool true):=by
 have c1:=h.c 15 (by omega)
 have f1:=h.f 15 (by omega)
 simp only[Cst.cell] at c1
 go_enter Tryz.func284,Tryz.ntmps284
 go_wp2
 go_ret
 exact⟨rfl,rfl⟩
theorem first2 (g:Nat)(c:Cst)(w:World)(h:Cm w g c):Calls Tryz.prog 284 #[.pointer (some ⟨g,0,none⟩),.int .i64 2] w fun e w'=>e=.returned (.bool (!c.s2))/\w'=w.setCell ⟨g,16,none⟩ (.bool true):=by
 have c1:=h.c 16 (by omega)
 have f1:=h.f 16 (by omega)
 simp only[Cst.cell] at c1
 go_enter Tryz.func284,Tryz.ntmps284
 go_wp2
 go_ret
 exact⟨rfl,rfl⟩
theorem first3 (g:Nat)(c:Cst)(w:World)(h:Cm w g c):Calls Tryz.prog 284 #[.pointer (some ⟨g,0,none⟩),.int .i64 3] w fun e w'=>e=.returned (.bool (!c.s3))/\w'=w.setCell ⟨g,17,none⟩ (.bool true):=by
 have c1:=h.c 17 (by omega)
 have f1:=h.f 17 (by omega)
 simp only[Cst.cell] at c1
 go_enter Tryz.func284,Tryz.ntmps284
 go_wp2
 go_ret
 exact⟨rfl,rfl⟩
def tagsG (l:List UInt8):Bool×Bool×TagL :=
 if l=[42] then (true,true,[]) else match tagsF (l.length+1) l with
  | none=>(false,false,[])
  | some a=>(false,true,a)
def tagsV (value:List UInt8):Bool×Bool×TagL:=tagsG (Lib.trimS value [32,9])
theorem trimS_le (l:List UInt8):(Lib.trimS l [32,9]).length<=l.length:=by
 unfold Lib.trimS Lib.trimLeftS Lib.trimRightS
 have h1:=(List.dropWhile_suffix (fun c=>[32,9].contains c) (l:=(l.reverse.dropWhile fun c=>[32,9].contains c).reverse)).length_le
 have h2:=(List.dropWhile_suffix (fun c=>[32,9].contains c) (l:=l.reverse)).length_le
 rw[List.length_reverse] at h1 h2
 omega
theorem tags_v (value:List UInt8)(w:World)(hM:MaxIs w)(hs:value.length<=67108864) :
 Calls Tryz.prog 283 #[.string ⟨value.toArray⟩] w fun e w'=>Below w.heap.size w w'/\∃ o cp,e=.returned (.tuple #[.agg #[.bool (tagsV value).1,.slice o (tagsV value).2.2.length cp],.bool (tagsV value).2.1])/\w'.ownsRow (w.heap.size+1) 303 2 (.slice o (tagsV value).2.2.length cp) (tagsV value).2.2.length (cellsT (tagsV value).2.2):=by
 have hz:(⟨value.toArray⟩:ByteArray).size=value.length:=by rw[Lib.size_eq]
 refine (tags_any ⟨value.toArray⟩ (Lib.trimS value [32,9]) w hM rfl (by rw[hz];exact hs) (by rw[hz];exact trimS_le _)).mono ?_
 unfold tagsV tagsG
 generalize Lib.trimS value [32,9]=l
 rintro e w' ⟨hb,⟨hl,rfl⟩|⟨hl,⟨hn,rfl⟩|⟨a,v,ha,rfl,ho⟩⟩⟩
 ·rw[if_pos hl]
  exact⟨hb,none,0,rfl,rfl,Or.inl ⟨rfl,rfl⟩⟩
 ·rw[if_neg hl,hn]
  exact⟨hb,none,0,rfl,rfl,Or.inl ⟨rfl,rfl⟩⟩
 ·rw[if_neg hl,ha]
  rcases ho.2 with ⟨rfl,h0⟩|⟨g,cap,cur,rfl,r⟩
  ·have:a=[]:=List.eq_nil_of_length_eq_zero h0
   subst this
   exact⟨hb,none,0,rfl,ho⟩
  ·exact⟨hb,some ⟨g,0,none⟩,cap,rfl,ho⟩
def ifMatch:List UInt8:=[105,102,45,109,97,116,99,104]
def ifNone:List UInt8:=[105,102,45,110,111,110,101,45,109,97,116,99,104]
def ifSince:List UInt8:=[105,102,45,109,111,100,105,102,105,101,100,45,115,105,110,99,101]
def ifUnless:List UInt8:=[105,102,45,117,110,109,111,100,105,102,105,101,100,45,115,105,110,99,101]
theorem lower_any (name:List UInt8)(w:World)(hs:name.length<=140737488355328)(ha:∀ (j:Nat) (b:UInt8),name[j]?=some b->b.toNat<128) :
 Calls Tryz.prog 282 #[.string ⟨name.toArray⟩] w fun e w'=>e=.returned (.string ⟨(Lib.toLowerA name).toArray⟩)/\Below w.heap.size w w' :=
 Tryz.strings_ToLower_ascii ⟨name.toArray⟩ w (by rw[Lib.size_eq];simpa using hs) (by simpa using ha)
theorem owns_mono {w:World}{base base':Nat}{e:TypeId}{size:Nat}{v:Value}{n:Nat}{xs:List Value}(h:w.ownsRow base e size v n xs)(hb:base'<=base):w.ownsRow base' e size v n xs :=
 ⟨h.1,h.2.imp id fun ⟨g,cap,cur,hv,hg,r⟩=>⟨g,cap,cur,hv,Nat.le_trans hb hg,r⟩⟩
theorem take_match (g:Nat)(c:Cst)(name value:List UInt8)(w:World)(hM:MaxIs w)(hC:Cm w g c)(hn:name.length<=140737488355328)(ha:∀ (j:Nat) (b:UInt8),name[j]?=some b->b.toNat<128)(hl:Lib.toLowerA name=ifMatch)(hv:value.length<=67108864) :
 Calls Tryz.prog 241 #[.pointer (some ⟨g,0,none⟩),.string ⟨name.toArray⟩,.string ⟨value.toArray⟩] w fun e w'=>e=.returned (.bool (!c.s0&&(tagsV value).2.1))/\Kp g w w'/\∃ o cp,
  Cm w' g { c with hm:=(tagsV value).2.1,am:=(tagsV value).1,lm:=.slice o (tagsV value).2.2.length cp,s0:=true }/\w'.ownsRow (w.heap.size+1) 303 2 (.slice o (tagsV value).2.2.length cp) (tagsV value).2.2.length (cellsT (tagsV value).2.2):=by
 have hgl:=hC.lt
 go_enter Tryz.func241,Tryz.ntmps241
 go_wp2_with fail
 refine (lower_any name _ hn ha).mono ?_
 rintro e w1 ⟨rfl,hb1⟩
 rw[hl]
 unfold ifMatch
 have k1:=Kp.of_below (Nat.le_of_lt hgl) hb1
 have cm1:=hC.below hb1
 have hM1:=hM.below hb1
 have hz1:=hb1.size
 clear hl ha hb1
 go_wp2_with fail
 refine (tags_v value _ hM1 hv).mono ?_
 obtain⟨⟨any,fine,a⟩,hT⟩:∃ t,tagsV value=t:=⟨_,rfl⟩
 rw[hT]
 simp only
 rintro e w2 ⟨hb2,o,cp,rfl,ho2⟩
 have k2:=k1.trans (Kp.of_below (Nat.le_of_lt cm1.lt) hb2)
 have cm2:=cm1.below hb2
 have c1:=cm2.c 1 (by omega)
 have c2:=cm2.c 2 (by omega)
 have c3:=cm2.c 3 (by omega)
 have f1:=cm2.f 1 (by omega)
 have f2:=cm2.f 2 (by omega)
 have f3:=cm2.f 3 (by omega)
 simp only[Cst.cell] at c1 c2 c3
 clear hb2 k1 cm1 hM1
 have cm3:Cm (((w2.setCell ⟨g,2,none⟩ (.bool any)).setCell ⟨g,3,none⟩ (.slice o a.length cp)).setCell ⟨g,1,none⟩ (.bool fine)) g { c with hm:=fine,am:=any,lm:=.slice o a.length cp }:=by
  have s1:Cm (w2.setCell ⟨g,2,none⟩ (.bool any)) g { c with am:=any }:=cm2.set 2 _ (by omega) rfl (same_am c any)
  have s2:Cm ((w2.setCell ⟨g,2,none⟩ (.bool any)).setCell ⟨g,3,none⟩ (.slice o a.length cp)) g { c with am:=any,lm:=.slice o a.length cp }:=s1.set 3 _ (by omega) rfl (same_lm { c with am:=any } (.slice o a.length cp))
  exact s2.set 1 _ (by omega) rfl (same_hm { c with am:=any,lm:=.slice o a.length cp } fine)
 have k3:=((k2.set 2 (.bool any)).set 3 (.slice o a.length cp)).set 1 (.bool fine)
 go_wp2_with fail
 refine (first0 g _ _ cm3).mono ?_
 rintro e w3 ⟨rfl,hw3⟩
 have cm4:Cm w3 g { c with hm:=fine,am:=any,lm:=.slice o a.length cp,s0:=true }:=by rw[hw3];exact cm3.set 14 _ (by omega) rfl (same_s0 { c with hm:=fine,am:=any,lm:=.slice o a.length cp } true)
 have k4:Kp g w w3:=by rw[hw3];exact k3.set 14 _
 have ho3:w3.ownsRow (w.heap.size+1) 303 2 (.slice o a.length cp) a.length (cellsT a):=by
  rw[hw3]
  exact owns_mono (owns_set (owns_set (owns_set (owns_set ho2 (by show g<_;omega)) (by show g<_;omega)) (by show g<_;omega)) (by show g<_;omega)) (by omega)
 have c4:=cm4.c 1 (by omega)
 simp only[Cst.cell] at c4
 clear hw3 cm3 k3 cm2 k2 ho2 c1 c2 c3 f1 f2 f3
 cases hs0:c.s0 with
 | true =>
   go_wp2
   go_ret
   rw[hT]
   exact⟨ret_bool (by rw[hs0];rfl),k4,o,cp,cm4,ho3⟩
 | false =>
   go_wp2
   go_ret
   rw[hT]
   exact⟨ret_bool (by rw[hs0];simp),k4,o,cp,cm4,ho3⟩
theorem take_none (g:Nat)(c:Cst)(name value:List UInt8)(w:World)(hM:MaxIs w)(hC:Cm w g c)(hn:name.length<=140737488355328)(ha:∀ (j:Nat) (b:UInt8),name[j]?=some b->b.toNat<128)(hl:Lib.toLowerA name=ifNone)(hv:value.length<=67108864) :
 Calls Tryz.prog 241 #[.pointer (some ⟨g,0,none⟩),.string ⟨name.toArray⟩,.string ⟨value.toArray⟩] w fun e w'=>e=.returned (.bool (!c.s1&&(tagsV value).2.1))/\Kp g w w'/\∃ o cp,
  Cm w' g { c with hn:=(tagsV value).2.1,an:=(tagsV value).1,ln:=.slice o (tagsV value).2.2.length cp,s1:=true }/\w'.ownsRow (w.heap.size+1) 303 2 (.slice o (tagsV value).2.2.length cp) (tagsV value).2.2.length (cellsT (tagsV value).2.2):=by
 have hgl:=hC.lt
 go_enter Tryz.func241,Tryz.ntmps241
 go_wp2_with fail
 refine (lower_any name _ hn ha).mono ?_
 rintro e w1 ⟨rfl,hb1⟩
 rw[hl]
 unfold ifNone
 have k1:=Kp.of_below (Nat.le_of_lt hgl) hb1
 have cm1:=hC.below hb1
 have hM1:=hM.below hb1
 have hz1:=hb1.size
 clear hl ha hb1
 go_wp2_with fail
 refine (tags_v value _ hM1 hv).mono ?_
 obtain⟨⟨any,fine,a⟩,hT⟩:∃ t,tagsV value=t:=⟨_,rfl⟩
 rw[hT]
 simp only
 rintro e w2 ⟨hb2,o,cp,rfl,ho2⟩
 have k2:=k1.trans (Kp.of_below (Nat.le_of_lt cm1.lt) hb2)
 have cm2:=cm1.below hb2
 have c1:=cm2.c 4 (by omega)
 have c2:=cm2.c 5 (by omega)
 have c3:=cm2.c 6 (by omega)
 have f1:=cm2.f 4 (by omega)
 have f2:=cm2.f 5 (by omega)
 have f3:=cm2.f 6 (by omega)
 simp only[Cst.cell] at c1 c2 c3
 clear hb2 k1 cm1 hM1
 have cm3:Cm (((w2.setCell ⟨g,5,none⟩ (.bool any)).setCell ⟨g,6,none⟩ (.slice o a.length cp)).setCell ⟨g,4,none⟩ (.bool fine)) g { c with hn:=fine,an:=any,ln:=.slice o a.length cp }:=by
  have s1:Cm (w2.setCell ⟨g,5,none⟩ (.bool any)) g { c with an:=any }:=cm2.set 5 _ (by omega) rfl (same_an c any)
  have s2:Cm ((w2.setCell ⟨g,5,none⟩ (.bool any)).setCell ⟨g,6,none⟩ (.slice o a.length cp)) g { c with an:=any,ln:=.slice o a.length cp }:=s1.set 6 _ (by omega) rfl (same_ln { c with an:=any } (.slice o a.length cp))
  exact s2.set 4 _ (by omega) rfl (same_hn { c with an:=any,ln:=.slice o a.length cp } fine)
 have k3:=((k2.set 5 (.bool any)).set 6 (.slice o a.length cp)).set 4 (.bool fine)
 go_wp2_with fail
 refine (first1 g _ _ cm3).mono ?_
 rintro e w3 ⟨rfl,hw3⟩
 have cm4:Cm w3 g { c with hn:=fine,an:=any,ln:=.slice o a.length cp,s1:=true }:=by rw[hw3];exact cm3.set 15 _ (by omega) rfl (same_s1 { c with hn:=fine,an:=any,ln:=.slice o a.length cp } true)
 have k4:Kp g w w3:=by rw[hw3];exact k3.set 15 _
 have ho3:w3.ownsRow (w.heap.size+1) 303 2 (.slice o a.length cp) a.length (cellsT a):=by
  rw[hw3]
  exact owns_mono (owns_set (owns_set (owns_set (owns_set ho2 (by show g<_;omega)) (by show g<_;omega)) (by show g<_;omega)) (by show g<_;omega)) (by omega)
 have c4:=cm4.c 4 (by omega)
 simp only[Cst.cell] at c4
 clear hw3 cm3 k3 cm2 k2 ho2 c1 c2 c3 f1 f2 f3
 cases hs1:c.s1 with
 | true =>
   go_wp2
   go_ret
   rw[hT]
   exact⟨ret_bool (by rw[hs1];rfl),k4,o,cp,cm4,ho3⟩
 | false =>
   go_wp2
   go_ret
   rw[hT]
   exact⟨ret_bool (by rw[hs1];simp),k4,o,cp,cm4,ho3⟩
theorem take_other (g:Nat)(name value:List UInt8)(w:World)(hn:name.length<=140737488355328)(ha:∀ (j:Nat) (b:UInt8),name[j]?=some b->b.toNat<128)
 (h1:Lib.toLowerA name≠ifMatch)(h2:Lib.toLowerA name≠ifNone)(h3:Lib.toLowerA name≠ifSince)(h4:Lib.toLowerA name≠ifUnless) :
 Calls Tryz.prog 241 #[.pointer (some ⟨g,0,none⟩),.string ⟨name.toArray⟩,.string ⟨value.toArray⟩] w fun e w'=>e=.returned (.bool true)/\Below w.heap.size w w':=by
 go_enter Tryz.func241,Tryz.ntmps241
 go_wp2_with fail
 refine (lower_any name _ hn ha).mono ?_
 rintro e w1 ⟨rfl,hb1⟩
 obtain⟨L,hL⟩:∃ L,Lib.toLowerA name=L:=⟨_,rfl⟩
 rw[hL] at h1 h2 h3 h4 ⊢
 unfold ifMatch at h1
 unfold ifNone at h2
 unfold ifSince at h3
 unfold ifUnless at h4
 have b1:=beq_false_of_ne h1
 have b2:=beq_false_of_ne h2
 have b3:=beq_false_of_ne h3
 have b4:=beq_false_of_ne h4
 clear h1 h2 h3 h4 ha
 go_wp2
 go_ret
 exact⟨rfl,hb1⟩
end Go.Proofs.YtmehkneofinmiaaGreatDoor

/-
 Texts of this proof, part 40.
-/
import Derived.Test.YtmehkneofinmiaaGreatDoorP39
set_option maxRecDepth 100000
set_option maxHeartbeats 4000000
namespace Go.Proofs.YtmehkneofinmiaaGreatDoor
open Go.RowKit
def nmR:Nat->List UInt8
 | 0=>[71,69,84,32]
 | 1=>[72,69,65,68,32]
 | 2=>[80,85,84,32]
 | _=>[68,69,76,69,84,69,32]
def firstL (l:List UInt8)(i:Nat):Nat->Option (Nat×TgR)
 | 0=>none
 | n+1=>if l.take (nmR i).length=nmR i then (tgtR (l.drop (nmR i).length)).map fun t=>(i+1,t) else firstL l (i+1) n
def firstR (l:List UInt8):Option (Nat×TgR):=firstL l 0 4
def FsPost (g:Nat)(RC:Array Value)(o:Option (Nat×TgR))(w:World)(e:Ending)(w':World):Prop :=
 ∃ RC',RqKept g RC RC' w w'/\e=.returned (.bool o.isSome)/\∀ x,o=some x->RC'[1]?=some (.int .i64 (x.1:Int))/\RC'[2]?=some (.int .i64 (x.2.tg:Int))/\RC'[3]?=some (.string ⟨x.2.key.toArray⟩)/\RC'[4]?=some (.string ⟨x.2.after.toArray⟩)/\RC'[5]?=some (.int .i64 x.2.v)
theorem refFirst_any (g:Nat)(RC:Array Value)(l:List UInt8)(w:World)(h:w.heap[g]?=some (.cells RC 130 (0,0)))(hs:RC.size=21)(h3:RC[3]?=some (.string ⟨#[]⟩))(h4:RC[4]?=some (.string ⟨#[]⟩))(h5:RC[5]?=some (.int .i64 0))(hl:l.length<=100000) :
 Calls Tryz.prog 106 #[.pointer (some ⟨g,0,none⟩),.string ⟨l.toArray⟩] w (FsPost g RC (firstR l) w):=by
 have hg:=(Array.getElem?_eq_some_iff.1 h).1
 have HH:Hid _:=h
 obtain⟨O,hO⟩:∃ O,firstR l=O:=⟨_,rfl⟩
 have HO:Hid _:=hO
 rw[hO]
 clear hO h
 go_enter Tryz.func106,Tryz.ntmps106
 go_wp2
 obtain⟨X,hX⟩:∃ X,w.alloc (.cells #[.string ⟨#[71,69,84,32]⟩,.string ⟨#[72,69,65,68,32]⟩,.string ⟨#[80,85,84,32]⟩,.string ⟨#[68,69,76,69,84,69,32]⟩] 9)=X:=⟨_,rfl⟩
 have hbX:Below w.heap.size w X:=by rw[<- hX];exact (Below.refl _ _).alloc (Nat.le_refl _) _
 have HXC:Hid (∀ i,i<4->X.cell? ⟨w.heap.size,i,none⟩=some (.string ⟨(nmR i).toArray⟩)):=fun i hi=>by
  rw[<- hX]
  have:i=0\/i=1\/i=2\/i=3:=by omega
  rcases this with rfl|rfl|rfl|rfl<;>simp[nmR]
 have HXG:Hid (X.heap[g]?=some (.cells RC 130 (0,0))):=(hbX.block g hg).trans HH.out
 have hXs:w.heap.size<X.heap.size:=by rw[<- hX];simp
 have HBX:Hid _:=hbX
 rw[hX]
 clear hX hbX HH
 go_loopw [6] (fun iv wr=>∃ i:Nat,i<=4/\iv=.int .i64 i/\Hid (O=firstL l i (4-i))/\wr=X) (fun iv _=>4-(intOf iv).toNat)
 case atStart=>exact⟨0,by omega,rfl,HO.out.symm,rfl⟩
 case round =>
  obtain⟨i,hi,rfl,ho,rfl⟩:=hrel
  by_cases hi4:i<4
  ·have hiI:(i:Int)<4:=by omega
   have cN:=HXC.out i hi4
   have HNL:Hid ((nmR i).length<=7):=by
    have:i=0\/i=1\/i=2\/i=3:=by omega
    rcases this with rfl|rfl|rfl|rfl<;>(show _<=_;decide)
   have HOS:Hid (firstL l i (4-i)=if l.take (nmR i).length=nmR i then (tgtR (l.drop (nmR i).length)).map fun t=>(i+1,t) else firstL l (i+1) (4-(i+1))):=by
    show _=_
    rw[show 4-i=(4-(i+1))+1 by omega]
    rfl
   obtain⟨N,hN⟩:∃ N,nmR i=N:=⟨_,rfl⟩
   rw[hN] at cN HNL HOS
   have hNs:(⟨N.toArray⟩:ByteArray).size=N.length:=Lib.size_eq _
   have hls:(⟨l.toArray⟩:ByteArray).size=l.length:=Lib.size_eq _
   have HBG:Hid _:=refBegins_any l N wr (by omega) (by have:=HNL.out;omega)
   clear hN
   by_cases hb:l.take N.length=N
   ·have HO2:Hid (O=(tgtR (l.drop N.length)).map fun t=>(i+1,t)):=by show _=_;rw[ho.out,HOS.out,if_pos hb]
    have hbb:(l.take N.length==N)=true:=beq_iff_eq.2 hb
    have hle:N.length<=l.length:=by
     have:=congrArg List.length hb
     rw[List.length_take] at this
     omega
    have hleI:(N.length:Int)<=(l.length:Int):=by omega
    rw[hbb] at HBG
    have hex:(⟨l.toArray⟩:ByteArray).extract N.length l.length=⟨(l.drop N.length).toArray⟩:=by
     apply ByteArray.ext
     apply Array.toList_inj.1
     rw[Lib.extract_data]
     show ((l.drop N.length).take (l.length-N.length))=l.drop N.length
     rw[List.take_of_length_le (by rw[List.length_drop];exact Nat.le_refl _)]
    have HTG:Hid _:=refTarget_any g (RC.setIfInBounds 1 (.int .i64 ((i:Int)+1))) (l.drop N.length) (wr.setCell ⟨g,1,none⟩ (.int .i64 ((i:Int)+1))) (heap_set HXG.out) (by simpa using hs) (by rw[Array.getElem?_setIfInBounds_ne (by omega)];exact h3) (by rw[Array.getElem?_setIfInBounds_ne (by omega)];exact h4) (by rw[Array.getElem?_setIfInBounds_ne (by omega)];exact h5) (by rw[List.length_drop];omega)
    obtain⟨D,hD⟩:∃ D,l.drop N.length=D:=⟨_,rfl⟩
    rw[hD] at hex HTG HO2
    have c1:∃ v,wr.cell? ⟨g,1,none⟩=some v:=by
     simp only[World.cell?,HXG.out]
     exact⟨RC[1]'(by omega),Array.getElem?_eq_getElem (by omega)⟩
    obtain⟨v1,c1⟩:=c1
    have f1:wr.frozen? ⟨g,1,none⟩=false:=by simp[World.frozen?,HXG.out]
    have hgw:g≠w.heap.size:=by omega
    have cN2:(wr.setCell ⟨g,1,none⟩ (.int .i64 ((i:Int)+1))).cell? ⟨w.heap.size,i,none⟩=some (.string ⟨N.toArray⟩):=by
     rw[World.cell?_setCell_other _ _ _ _ (by intro q;injection q with q1;exact hgw q1)]
     exact cN
    clear hb hbb hD ho HOS
    go_wp2_with (first
     | (go_at_call 167;refine Calls.mono HBG.out ?_;rintro e w1 ⟨rfl,hw1⟩;rw[hw1];clear hw1)
     | (go_at_call 168;refine Calls.mono HTG.out ?_;rintro e w2 ⟨RC',hk,hR1,rfl,hx⟩))
    go_ret
    rw[HO2.out]
    refine⟨RC',⟨hk.blk,?_,fun q a1 a2 a3 a4 a5=>?_,?_⟩,?_,fun x hxx=>?_⟩
    ·rw[hk.size,Array.size_setIfInBounds]
    ·rw[hk.same q a1 a2 a3 a4 a5,Array.getElem?_setIfInBounds_ne (by omega)]
    ·exact Off.trans ((Off.of_below (S:=fun k=>k=g) HBX.out).set g _ _ (Or.inl rfl)) hk.off
    ·cases tgtR D<;>rfl
    ·cases ht:tgtR D with
     | none=>rw[ht] at hxx;cases hxx
     | some y =>
       rw[ht] at hxx
       cases hxx
       refine⟨?_,hx y ht⟩
       rw[hR1]
       simp[hs]
   ·have HO2:Hid (O=firstL l (i+1) (4-(i+1))):=by show _=_;rw[ho.out,HOS.out,if_neg hb]
    have hbb:(l.take N.length==N)=false:=beq_eq_false_iff_ne.2 hb
    rw[hbb] at HBG
    clear hb hbb ho HOS
    go_wp2_with (go_at_call 167;refine Calls.mono HBG.out ?_;rintro e w1 ⟨rfl,hw1⟩;rw[hw1];clear hw1)
    exact⟨⟨i+1,by omega,by go_num,HO2,trivial⟩,by simp[intOf];omega⟩
  ·obtain rfl:i=4:=by omega
   go_wp2
   go_ret
   rw[ho.out]
   exact⟨RC,⟨HXG.out,rfl,fun _ _ _ _ _ _=>rfl,Off.of_below HBX.out⟩,rfl,fun x hx=>by cases hx⟩
end Go.Proofs.YtmehkneofinmiaaGreatDoor
namespace Go.Proofs.YtmehkneofinmiaaGreatDoor
def cvT (t:Tgt):TgR:=if t.kind=0 then ⟨1,[],t.key,0⟩ else if t.kind=1 then ⟨2,t.key,[],0⟩ else if t.kind=2 then ⟨4,t.key,[],t.num⟩ else ⟨3,t.key,[],0⟩
theorem hp_take (p q:List UInt8):Lib.hasPrefix p q=decide (p.take q.length=q):=by
 unfold Lib.hasPrefix
 rw[Bool.eq_iff_iff,List.isPrefixOf_iff_prefix,decide_eq_true_iff,List.prefix_iff_eq_take]
 exact eq_comm
theorem hp_trim (p q:List UInt8)(h:p.take q.length=q):Lib.trimPrefix p q=p.drop q.length:=by
 unfold Lib.trimPrefix
 rw[hp_take,if_pos (decide_eq_true h)]
theorem isD_digB (c:UInt8):isD c=digB c:=by
 unfold isD digB digI
 rw[Bool.eq_iff_iff]
 simp
 omega
theorem num_numVs (l:List UInt8)(h:l.all isD=true):∀ n,n<=l.length->num (l.take n)=((numV (l.take n):Nat):Int)
 | 0,_=>rfl
 | n+1,hn=>by
   have ih:=num_numVs l h n (by omega)
   obtain⟨c,hc⟩:∃ c,l[n]?=some c:=⟨_,List.getElem?_eq_getElem (by omega)⟩
   have hd:=List.all_eq_true.1 h c (List.mem_of_getElem? hc)
   simp[isD] at hd
   rw[List.take_add_one,hc,Option.toList_some,num_snoc,ih]
   unfold numV dv
   rw[List.foldl_append,List.foldl_cons,List.foldl_nil]
   omega
theorem num_numV (l:List UInt8)(h:l.all isD=true):num l=((numV l:Nat):Int):=by
 have:=num_numVs l h l.length (Nat.le_refl _)
 rw[List.take_length] at this
 exact this
theorem numV_ge (l:List UInt8):∀ n:Nat,n<=l.foldl (fun n c=>n*10+(c.toNat-48)) n:=by
 induction l with
 | nil=>exact fun n=>Nat.le_refl _
 | cons c l ih =>
   intro n
   rw[List.foldl_cons]
   exact Nat.le_trans (by omega) (ih _)
theorem num_pos (l:List UInt8)(h:l.all isD=true)(h0:l.head?≠some 48)(hne:l≠[]):0<num l:=by
 rw[num_numV l h]
 cases l with
 | nil=>exact absurd rfl hne
 | cons c l =>
   have hd:=List.all_eq_true.1 h c List.mem_cons_self
   simp[isD] at hd
   have hc:c≠48:=fun e=>h0 (by rw[e];rfl)
   have hc2:c.toNat≠48:=fun e=>hc (UInt8.toNat_inj.1 (by rw[e];rfl))
   have:c.toNat-48<=numV (c::l):=by
    unfold numV
    rw[List.foldl_cons]
    exact Nat.le_trans (by omega) (numV_ge l _)
   omega
theorem numF_dgs (q:List UInt8):numF q=if 1<=q.length/\q.length<=9/\0<dgs q/\q.head?≠some 48 then some (dgs q).toNat else none:=by
 have hall:q.all digB=q.all isD:=by
  congr 1
  funext c
  exact (isD_digB c).symm
 unfold numF
 rw[hall]
 cases hd:q.all isD with
 | false =>
   rw[dgs_no hd,if_pos (by simp),if_neg (by omega)]
 | true =>
   rw[dgs_yes hd]
   by_cases hq:q=[]
   ·subst hq
    rfl
   ·have hl:1<=q.length:=by
     rcases Nat.eq_zero_or_pos q.length with h|h
     ·exact absurd (List.eq_nil_of_length_eq_zero h) hq
     ·exact h
    by_cases h9:q.length<=9
    ·by_cases h48:q.head?=some 48
     ·rw[if_pos (by simp[h48]),if_neg (fun h=>h.2.2.2 h48)]
     ·have hp:=num_pos q hd h48 hq
      rw[if_neg (by simp[hq,h48];omega),if_pos ⟨hl,h9,hp,h48⟩,num_numV q hd,Int.toNat_natCast]
    ·rw[if_pos (by simp;omega),if_neg (fun h=>h9 h.2.1)]
def afterQ (key:List UInt8):List UInt8->Option Tgt
 | []=>some ⟨1,key,0⟩
 | _::q=>queryF key q
theorem rest_same (key rest:List UInt8)(hr:rest=[]\/∃ r,rest=63::r):restR key rest=(if keyOK key then afterQ key rest else none).map cvT:=by
 cases hk:keyOK key with
 | false=>unfold restR;rw[if_pos hk];rfl
 | true =>
   rcases hr with rfl|⟨q,rfl⟩
   ·unfold restR
    rw[if_neg (by rw[hk];simp)]
    rfl
   ·unfold restR afterQ queryF
    rw[if_neg (by rw[hk];simp),if_neg (by simp)]
    by_cases hv:q=[118,101,114,115,105,111,110,115]
    ·subst hv
     rfl
    ·rw[if_neg (by unfold versR;simpa using hv)]
     simp only[if_true]
     rw[if_neg hv,hp_take]
     by_cases h2:q.take 2=[118,61]
     ·have h3:(63::q).take 3=[63,118,61]:=by rw[List.take_succ_cons,h2]
      have hh:(63::q)[3]?=(q.drop 2).head?:=by rw[List.getElem?_cons_succ,List.head?_drop]
      have hdr:(63::q).drop 3=q.drop 2:=rfl
      have hlen:2<=q.length:=by
       have:=congrArg List.length h2
       rw[List.length_take] at this
       simp at this
       omega
      rw[if_pos h3,if_pos (show decide (q.take ([118,61]:List UInt8).length=[118,61])=true from decide_eq_true h2),hp_trim q [118,61] h2,numF_dgs,hh,hdr]
      show _=Option.map cvT (Option.map _ (if 1<=(q.drop 2).length/\(q.drop 2).length<=9/\0<dgs (q.drop 2)/\(q.drop 2).head?≠some 48 then some (dgs (q.drop 2)).toNat else none))
      by_cases hc:1<=(q.drop 2).length/\(q.drop 2).length<=9/\0<dgs (q.drop 2)/\(q.drop 2).head?≠some 48
      ·have hc':=hc
       rw[List.length_drop] at hc'
       rw[if_pos hc,if_pos ⟨by simp;omega,by simp;omega,hc.2.2.1,hc.2.2.2⟩]
       have e:(((dgs (q.drop 2)).toNat:Nat):Int)=dgs (q.drop 2):=by omega
       simp[cvT,e]
      ·rw[if_neg hc,if_neg (fun h=>hc ?_)]
       ·rfl
       ·rw[List.length_drop]
        have h1:=h.1
        have h9:=h.2.1
        rw[List.length_cons] at h1 h9
        exact⟨by omega,by omega,h.2.2.1,h.2.2.2⟩
     ·rw[if_neg (by simpa using h2),if_neg (by simpa using h2)]
      rfl
theorem dw_head (p:UInt8->Bool):∀ l:List UInt8,l.dropWhile p=[]\/∃ c r,l.dropWhile p=c::r/\p c=false
 | []=>Or.inl rfl
 | a::l=>by
   rw[List.dropWhile_cons]
   split
   ·exact dw_head p l
   ·rename_i h
    exact Or.inr ⟨a,l,rfl,by simpa using h⟩
theorem dw_63 (l:List UInt8):l.dropWhile not63=[]\/∃ r,l.dropWhile not63=63::r:=by
 rcases dw_head not63 l with h|⟨c,r,h,hc⟩
 ·exact Or.inl h
 ·right
  have:c=63:=by unfold not63 at hc;rw[bne_eq_false_iff_eq] at hc;exact hc
  exact⟨r,by rw[h,this]⟩
theorem tgt_same (l:List UInt8):tgtR l=(targetF l).map cvT:=by
 cases l with
 | nil=>rfl
 | cons c p =>
   by_cases hc:c=47
   ·subst hc
    have ht:targetF (47::p)=pathF p:=by
     unfold targetF
     rw[hp_take,if_pos (decide_eq_true (by rfl)),hp_trim _ _ (by rfl)]
     rfl
    rw[ht]
    unfold tgtR pathF
    by_cases hp:p=[]
    ·subst hp
     rfl
    ·rw[if_neg (by simpa using hp),if_neg hp,hp_take]
     by_cases ha:p.take 7=afterW
     ·have ha8:(47::p).take 8=afterR:=by rw[List.take_succ_cons,ha];rfl
      rw[if_pos ha8,if_pos (show decide (p.take afterW.length=afterW)=true from decide_eq_true ha),hp_trim p afterW ha]
      show (if keyOK (p.drop 7)=true then _ else _)=Option.map cvT (if keyOK (p.drop 7)=true then some ⟨0,p.drop 7,0⟩ else none)
      cases keyOK (p.drop 7)<;>rfl
     ·have ha8:¬ (47::p).take 8=afterR:=fun e=>ha (by
       rw[List.take_succ_cons] at e
       have:=(List.cons.inj e).2
       exact this)
      rw[if_neg ha8,if_neg (show ¬ decide (p.take afterW.length=afterW)=true from fun e=>ha (of_decide_eq_true e)),if_neg (fun h=>by
       rcases h with h|h
       ·apply hp
        apply List.eq_nil_of_length_eq_zero
        rw[List.length_cons] at h
        omega
       ·exact h rfl)]
      rw[List.drop_succ_cons,List.drop_zero,rest_same _ _ (dw_63 p)]
      have hk:=tw_mem not63 p
      have hne:∀ c∈p.takeWhile not63,c≠63:=fun c hc e=>by
       have:=hk c hc
       rw[e] at this
       exact absurd this (by decide)
      have hsp:=List.takeWhile_append_dropWhile (p:=not63) (l:=p)
      rcases dw_63 p with h|⟨r,h⟩
      ·rw[h] at hsp ⊢
       rw[List.append_nil] at hsp
       have hcut:Lib.cut p [63]=(p,[],false):=cut_out p [] 63 (by rw[hsp] at hne;exact hne)
       rw[hcut,hsp]
       rfl
      ·rw[h] at hsp ⊢
       have hcut:Lib.cut p [63]=(p.takeWhile not63,r,true):=by
        have:=cut_clean (p.takeWhile not63) r [] 63 hne
        rw[List.append_assoc] at this
        rw[<- hsp]
        rw[List.cons_append,List.nil_append] at this
        rw[hsp] at this ⊢
        exact this
       rw[hcut]
       rfl
   ·have h1:Lib.hasPrefix (c::p) [47]=false:=by
     rw[hp_take]
     exact decide_eq_false (by simpa using hc)
    unfold tgtR targetF
    rw[if_neg (by simp[hc]),if_neg (show ¬ (c::p).take 8=afterR from fun e=>hc (List.cons.inj (show c::p.take 7=afterR from e)).1),if_pos (Or.inr (by simpa using hc)),h1]
    rfl
theorem cut_step (c:UInt8)(l:List UInt8)(h:¬ (c=13/\l.head?=some 10)) :
 ((Lib.cut l [13,10]).2.2=true/\Lib.cut (c::l) [13,10]=(c::(Lib.cut l [13,10]).1,(Lib.cut l [13,10]).2.1,true))\/((Lib.cut l [13,10]).2.2=false/\Lib.cut (c::l) [13,10]=(c::l,[],false)):=by
 have hp:List.isPrefixOf [13,10] (c::l)=false:=by
  rw[Bool.eq_false_iff]
  intro e
  rw[List.isPrefixOf_iff_prefix,List.prefix_iff_eq_take] at e
  apply h
  cases l with
  | nil=>simp at e
  | cons d l =>
    simp at e
    exact⟨e.1.symm,by simp[e.2]⟩
 have hi:Lib.index (c::l) [13,10]=if Lib.index l [13,10] = -1 then -1 else Lib.index l [13,10]+1:=by
  simp only[Lib.index,hp]
  simp
 have hg:=Lib.index_ge l [13,10]
 unfold Lib.cut
 rw[hi]
 by_cases hx:Lib.index l [13,10] = -1
 ·right
  rw[hx]
  exact⟨rfl,rfl⟩
 ·left
  rw[if_neg hx,if_pos (by omega),if_pos (by omega)]
  refine⟨rfl,?_⟩
  have e:(Lib.index l [13,10]+1).toNat=(Lib.index l [13,10]).toNat+1:=by omega
  rw[e]
  show ((c::l).take _,(c::l).drop _,true)=_
  rw[List.take_succ_cons]
  rfl
theorem line_cut (l:List UInt8):lineAt l=if (Lib.cut l [13,10]).2.2=true/\(Lib.cut l [13,10]).1.any crlfB=false then some ((Lib.cut l [13,10]).1,(Lib.cut l [13,10]).2.1) else none:=by
 induction l with
 | nil=>rfl
 | cons c l ih =>
   by_cases h:c=13/\l.head?=some 10
   ·obtain⟨rfl,h2⟩:=h
    cases l with
    | nil=>cases h2
    | cons d r =>
      have:d=10:=by simpa using h2
      subst this
      have hc:=cut_clean [] r [10] 13 (by simp)
      rw[List.nil_append] at hc
      rw[show (13::10::r:List UInt8)=[13,10]++r from rfl,hc]
      rfl
   ·rw[lineAt]
    rcases cut_step c l h with ⟨h1,h2⟩|⟨h1,h2⟩
    ·rw[h2]
     cases hc:crlfB c with
     | true =>
       rw[if_pos rfl,if_neg h,if_neg (fun e=>by have:=e.2;simp[hc] at this)]
     | false =>
       rw[if_neg (by simp),ih]
       simp only[h1,List.any_cons,hc,Bool.false_or,true_and]
       by_cases ha:(Lib.cut l [13,10]).1.any crlfB=false
       ·rw[if_pos ha,if_pos ha];rfl
       ·rw[if_neg ha,if_neg ha];rfl
    ·rw[h2]
     cases hc:crlfB c with
     | true=>rw[if_pos rfl,if_neg h,if_neg (fun e=>by simp at e)]
     | false =>
       rw[if_neg (by simp),ih,if_neg (fun e=>by rw[h1] at e;simp at e),if_neg (fun e=>by simp at e)]
       rfl
def not32 (c:UInt8):Bool:=c != 32
theorem dw_32 (l:List UInt8):l.dropWhile not32=[]\/∃ r,l.dropWhile not32=32::r:=by
 rcases dw_head not32 l with h|⟨c,r,h,hc⟩
 ·exact Or.inl h
 ·right
  have:c=32:=by unfold not32 at hc;rw[bne_eq_false_iff_eq] at hc;exact hc
  exact⟨r,by rw[h,this]⟩
def mtR:Nat->List UInt8
 | 0=>[71,69,84]
 | 1=>[72,69,65,68]
 | 2=>[80,85,84]
 | _=>[68,69,76,69,84,69]
theorem nm_mt (i:Nat)(hi:i<4):nmR i=mtR i++[32]/\∀ c∈mtR i,c≠32:=by
 have:i=0\/i=1\/i=2\/i=3:=by omega
 rcases this with rfl|rfl|rfl|rfl<;>exact⟨rfl,by decide⟩
theorem pre_eq {a q M:List UInt8}(ha:∀ c∈a,c≠32)(hM:∀ c∈M,c≠32):((a++[32]++q).take (M++[32]).length=M++[32] ↔ a=M)/\(a=M->(a++[32]++q).drop (M++[32]).length=q):=by
 refine⟨⟨fun h=>?_,fun h=>?_⟩,fun h=>?_⟩
 ·have e:=List.take_append_drop (M++[32]).length (a++[32]++q)
  rw[h] at e
  have h1:=cut_clean a q [] 32 ha
  have h2:=cut_clean M ((a++[32]++q).drop (M++[32]).length) [] 32 hM
  rw[e,h1] at h2
  exact (Prod.mk.inj h2).1
 ·subst h
  rw[List.take_left]
 ·subst h
  rw[List.drop_left]
theorem first_none (l:List UInt8)(h:∀ i,i<4->¬ l.take (nmR i).length=nmR i):∀ n i,i+n=4->firstL l i n=none
 | 0,_,_=>rfl
 | n+1,i,hi=>by
   rw[firstL,if_neg (h i (by omega))]
   exact first_none l h n (i+1) (by omega)
theorem first_hit (l:List UInt8)(k:Nat)(hk:k<4)(h:l.take (nmR k).length=nmR k)(hn:∀ i,i<k->¬ l.take (nmR i).length=nmR i):∀ n i,i+n=4->i<=k->firstL l i n=(tgtR (l.drop (nmR k).length)).map fun t=>(k+1,t)
 | 0,i,hi,hik=>by omega
 | n+1,i,hi,hik=>by
   rw[firstL]
   by_cases e:i=k
   ·subst e
    rw[if_pos h]
   ·rw[if_neg (hn i (by omega))]
    exact first_hit l k hk h hn n (i+1) (by omega) (by omega)
theorem first_same (l:List UInt8):firstR l=if (Lib.cut l [32]).2.2 then (match methF (Lib.cut l [32]).1 with|none=>none|some m=>(targetF (Lib.cut l [32]).2.1).map fun t=>(m+1,cvT t)) else none:=by
 have hsp:=List.takeWhile_append_dropWhile (p:=not32) (l:=l)
 have hne:∀ c∈l.takeWhile not32,c≠32:=fun c hc e=>by
  have:=tw_mem not32 l c hc
  rw[e] at this
  exact absurd this (by decide)
 unfold firstR
 rcases dw_32 l with h|⟨q,h⟩
 ·rw[h,List.append_nil] at hsp
  rw[hsp] at hne
  rw[cut_out l [] 32 hne]
  refine first_none l (fun i hi e=>?_) 4 0 rfl
  have hm:=(nm_mt i hi).1
  have:(32:UInt8)∈l.take (nmR i).length:=by rw[e,hm];simp
  exact hne 32 (List.mem_of_mem_take this) rfl
 ·rw[h] at hsp
  obtain⟨a,ha⟩:∃ a,l.takeWhile not32=a:=⟨_,rfl⟩
  rw[ha] at hsp hne
  have hl:l=a++[32]++q:=by rw[<- hsp];simp
  have hc:=cut_clean a q [] 32 hne
  have key:∀ i,i<4->(l.take (nmR i).length=nmR i ↔ a=mtR i)/\(a=mtR i->l.drop (nmR i).length=q):=fun i hi=>by
   have hm:=nm_mt i hi
   rw[hm.1,hl]
   exact pre_eq hne hm.2
  rw[hl,hc,<- hl]
  by_cases hx:∃ k,k<4/\a=mtR k
  ·obtain⟨k,hk,hak⟩:=hx
   have hinj:∀ i,i<k->¬ l.take (nmR i).length=nmR i:=fun i hi e=>by
    have e2:=((key i (by omega)).1.1 e).symm.trans hak
    have h1:i=0\/i=1\/i=2:=by omega
    have h2:k=0\/k=1\/k=2\/k=3:=by omega
    rcases h1 with rfl|rfl|rfl<;>rcases h2 with rfl|rfl|rfl|rfl<;>first|omega|(exact absurd e2 (by decide))
   rw[first_hit l k hk ((key k hk).1.2 hak) hinj 4 0 rfl (by omega),(key k hk).2 hak,tgt_same,hak]
   have hmt:methF (mtR k)=some k:=by
    have h2:k=0\/k=1\/k=2\/k=3:=by omega
    rcases h2 with rfl|rfl|rfl|rfl<;>rfl
   simp only[if_true,hmt]
   cases targetF q<;>rfl
  ·rw[first_none l (fun i hi e=>hx ⟨i,hi,(key i hi).1.1 e⟩) 4 0 rfl]
   have hmt:methF a=none:=by
    unfold methF
    rw[if_neg (show ¬ a=[71,69,84] from fun e=>hx ⟨0,by omega,e⟩),if_neg (show ¬ a=[72,69,65,68] from fun e=>hx ⟨1,by omega,e⟩),if_neg (show ¬ a=[80,85,84] from fun e=>hx ⟨2,by omega,e⟩),if_neg (show ¬ a=[68,69,76,69,84,69] from fun e=>hx ⟨3,by omega,e⟩)]
   simp only[if_true,hmt]
theorem cvT_tg (t:Tgt):(cvT t).tg=if t.kind=0 then 1 else if t.kind=1 then 2 else if t.kind=2 then 4 else 3:=by
 unfold cvT
 repeat' split
 all_goals rfl
theorem fits_same (m:Nat)(t:Tgt):fitR (m+1) (cvT t).tg=fitsF m t.kind:=by
 rw[cvT_tg]
 unfold fitR fitsF
 by_cases h0:m=0
 ·subst h0
  rfl
 ·rw[if_neg h0]
  have e:(m+1==1)=false:=by simpa using h0
  rw[e,Bool.false_or]
  by_cases h2:m=2
  ·subst h2
   rw[if_pos rfl,if_pos rfl]
   by_cases k0:t.kind=0
   ·rw[k0];rfl
   ·by_cases k1:t.kind=1
    ·rw[k1];rfl
    ·by_cases k2:t.kind=2
     ·rw[k2];rfl
     ·rw[if_neg k0,if_neg k1,if_neg k2,beq_eq_false_iff_ne.2 k1]
      rfl
  ·rw[if_neg (by omega),if_neg h2]
   by_cases k0:t.kind=0
   ·rw[k0];rfl
   ·by_cases k1:t.kind=1
    ·rw[k1];rfl
    ·by_cases k2:t.kind=2
     ·rw[k2];rfl
     ·rw[if_neg k0,if_neg k1,if_neg k2,beq_eq_false_iff_ne.2 k1,beq_eq_false_iff_ne.2 k2]
      rfl
abbrev Items:=List (Bool×List UInt8×List UInt8)
theorem trimR_gap (x g:List UInt8)(h:g.all blank=true):Lib.trimRightS (x++g) [32,9]=Lib.trimRightS x [32,9]:=by
 unfold Lib.trimRightS
 rw[List.reverse_append]
 have:=strip_gap g.reverse x.reverse (by simpa using h)
 unfold strip Lib.trimLeftS at this
 rw[this]
theorem trimR_last (y:List UInt8)(c:UInt8)(h:blank c=false):Lib.trimRightS (y++[c]) [32,9]=y++[c]:=by
 unfold Lib.trimRightS
 rw[List.reverse_append,List.reverse_singleton,List.singleton_append]
 have:=strip_head c y.reverse h
 unfold strip Lib.trimLeftS at this
 rw[this]
 simp
theorem trim_both (g x g':List UInt8)(c d:UInt8)(x1 x2:List UInt8)(hg:g.all blank=true)(hg':g'.all blank=true)(h1:x=c::x1)(hc:blank c=false)(h2:x=x2++[d])(hd:blank d=false) :
 Lib.trimS (g++(x++g')) [32,9]=x:=by
 unfold Lib.trimS
 rw[<- List.append_assoc,trimR_gap _ _ hg',h2,<- List.append_assoc,trimR_last _ _ hd,List.append_assoc,<- h2]
 have:=strip_gap g x hg
 unfold strip at this
 rw[this,h1]
 exact strip_head c x1 hc
end Go.Proofs.YtmehkneofinmiaaGreatDoor
namespace Go.Proofs.YtmehkneofinmiaaGreatDoor
open Go.RowKit
theorem blank_iff (c:UInt8):blank c=true ↔ (c.toNat:Int)=32\/(c.toNat:Int)=9:=by
 unfold blank
 simp[<- UInt8.toNat_inj]
 omega
theorem drop_cons (s:ByteArray)(k:Nat)(h:k<s.size):s.data.toList.drop k=s[k]::s.data.toList.drop (k+1):=by
 rw[List.drop_eq_getElem_cons (by simpa using h)]
 rfl
theorem trim_all (g:List UInt8)(h:g.all blank=true):Lib.trimS g [32,9]=[]:=by
 have:Lib.trimRightS ([]++g) [32,9]=Lib.trimRightS [] [32,9]:=trimR_gap [] g h
 rw[List.nil_append] at this
 unfold Lib.trimS
 rw[this]
 rfl
theorem ex_data (s:ByteArray)(a b:Nat):(s.extract a b).data.toList=(s.data.toList.drop a).take (b-a):=by
 obtain⟨⟨l⟩⟩:=s
 rw[ByteArray.extract_mk]
theorem trim_cut (s:ByteArray)(k m:Nat)(hkm:k<=m)(hm:m<=s.size)(ha:(s.data.toList.take k).all blank=true)(hd:(s.data.toList.drop m).all blank=true)
 (h:k=m\/((∀ h:k<s.size,blank s[k]=false)/\∀ h:m-1<s.size,blank s[m-1]=false)):(⟨(Lib.trimS s.data.toList [32,9]).toArray⟩:ByteArray)=s.extract k m:=by
 have hl:=Lib.size_eq s
 apply ByteArray.ext
 apply Array.toList_inj.1
 rw[show (s.extract k m).data.toList=(s.data.toList.drop k).take (m-k) from ex_data s k m]
 show Lib.trimS s.data.toList [32,9]=_
 by_cases e:k=m
 ·subst e
  rw[Nat.sub_self,List.take_zero]
  apply trim_all
  rw[<- List.take_append_drop k s.data.toList,List.all_append,ha,hd]
  rfl
 ·obtain⟨h1,h2⟩:=h.resolve_left e
  obtain⟨n,rfl⟩:∃ n,m=k+(n+1):=⟨m-k-1,by omega⟩
  have e0:s.data.toList=s.data.toList.take k++((s.data.toList.drop k).take (n+1)++s.data.toList.drop (k+(n+1))):=by
   rw[<- List.drop_drop,List.take_append_drop,List.take_append_drop]
  rw[show k+(n+1)-k=n+1 by omega]
  have hx:(s.data.toList.drop k).take (n+1)=s[k]::(s.data.toList.drop (k+1)).take n:=by rw[drop_cons s k (by omega)];rfl
  have hy:(s.data.toList.drop k).take (n+1)=(s.data.toList.drop k).take n++[s[k+(n+1)-1]]:=by
   rw[List.take_add_one,List.getElem?_drop,List.getElem?_eq_getElem (by omega)]
   rfl
  have:=trim_both (s.data.toList.take k) ((s.data.toList.drop k).take (n+1)) (s.data.toList.drop (k+(n+1))) s[k] s[k+(n+1)-1] _ _ ha hd hx (h1 (by omega)) hy (h2 (by omega))
  rwa [<- e0] at this
theorem trimU_any (s:ByteArray)(w:World)(hs:s.size<=9223372036854775807) :
 Calls Tryz.prog 169 #[.string s] w fun e w'=>e=.returned (.string ⟨(Lib.trimS s.data.toList [32,9]).toArray⟩)/\w'=w:=by
 go_enter Tryz.func169,Tryz.ntmps169
 go_wp2
 go_loop [3] (fun i=>∃ k:Nat,k<=s.size/\i=.int .i64 k/\Hid ((s.data.toList.take k).all blank=true)) (fun i=>s.size-(intOf i).toNat)
 case atStart=>exact⟨0,Nat.zero_le _,rfl,rfl⟩
 case round =>
  obtain⟨k,hk,rfl,ha⟩:=hrel
  by_cases hlt:k<s.size
  ·have HS:Hid ((s.data.toList.take (k+1)).all blank=blank s[k]):=by
    have:=ha.out
    show _=_
    rw[take_snoc s k hlt,List.all_append,this];simp
   have HB:Hid _:=blank_iff s[k]
   go_wp2
   ·exact⟨⟨k+1,by omega,by go_num,HS.out.trans (HB.out.2 (by omega))⟩,by simp[intOf];omega⟩
   ·exact⟨⟨k+1,by omega,by go_num,HS.out.trans (HB.out.2 (by have:=‹_\/_›;simp at this;omega))⟩,by simp[intOf];omega⟩
   ·have HF:Hid (∀ h:k<s.size,blank s[k]=false):=fun _=>by
     rw[Bool.eq_false_iff,Ne,HB.out]
     have:=‹_/\_›
     simp at this
     omega
    clear HB HS
    go_loop [4] (fun j=>∃ m:Nat,k<=m/\m<=s.size/\j=.int .i64 m/\Hid ((s.data.toList.drop m).all blank=true)) (fun j=>(intOf j).toNat)
    case atStart=>exact⟨s.size,hk,Nat.le_refl _,rfl,by show _=_;rw[List.drop_of_length_le (by rw[Lib.size_eq];exact Nat.le_refl _)];rfl⟩
    case round =>
     obtain⟨m,hkm,hm,rfl,hd⟩:=hrel
     by_cases hlt2:k<m
     ·obtain⟨m,rfl⟩:∃ n,m=n+1:=⟨m-1,by omega⟩
      have HD:Hid ((s.data.toList.drop m).all blank=blank s[m]):=by
       have:=hd.out
       show _=_
       rw[drop_cons s m (by omega),List.all_cons,this];simp
      have HB2:Hid _:=blank_iff s[m]
      go_wp2
      ·exact⟨⟨m,by omega,by omega,rfl,HD.out.trans (HB2.out.2 (by omega))⟩,by simp[intOf]⟩
      ·exact⟨⟨m,by omega,by omega,rfl,HD.out.trans (HB2.out.2 (by have:=‹(_==_)=true\/_›;simp at this;omega))⟩,by simp[intOf]⟩
      ·go_ret
       refine⟨ret_str (trim_cut s k (m+1) (by omega) hm ha.out hd.out (Or.inr ⟨HF.out,fun _=>?_⟩)).symm,rfl⟩
       show blank s[m]=false
       rw[Bool.eq_false_iff,Ne,HB2.out]
       have:=‹(_==_)=false/\_›
       simp at this
       omega
     ·go_wp2
      go_ret
      exact⟨ret_str (trim_cut s k m hkm hm ha.out hd.out (Or.inl (by omega))).symm,rfl⟩
  ·have HF:Hid (∀ h:k<s.size,blank s[k]=false):=fun h=>absurd h hlt
   go_wp2
   go_loop [4] (fun j=>∃ m:Nat,k<=m/\m<=s.size/\j=.int .i64 m/\Hid ((s.data.toList.drop m).all blank=true)) (fun j=>(intOf j).toNat)
   case atStart=>exact⟨s.size,hk,Nat.le_refl _,rfl,by show _=_;rw[List.drop_of_length_le (by rw[Lib.size_eq];exact Nat.le_refl _)];rfl⟩
   case round =>
    obtain⟨m,hkm,hm,rfl,hd⟩:=hrel
    have hlt2:¬ k<m:=by omega
    go_wp2
    go_ret
    exact⟨ret_str (trim_cut s k m hkm hm ha.out hd.out (Or.inl (by omega))).symm,rfl⟩
end Go.Proofs.YtmehkneofinmiaaGreatDoor

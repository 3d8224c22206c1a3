/-
 Texts of this proof, part 3.
-/
import Derived.Test.YtmehkneofinmiaaGreatDoorP02
import Derived.Test.YtmehkneofinmiaaGreatDoorP01
import Derived.Shelf.Strings.SlTrimAscii
set_option maxRecDepth 100000
set_option maxHeartbeats 1000000
namespace Go.Proofs
theorem Tryz.set64:(Tryz.prog.info? 338).map (fun i=>(i.zero,i.size))=some (some (.agg (Array.replicate 256 (.bool false))),256):=by kernel_rfl
open Go.RowKit Go.Lib in
theorem Tryz.trim_blanks (s:ByteArray)(w:World)(hs:s.size<=9223372036854775807) :
 Calls Tryz.prog 242 #[.string s,.string ⟨#[32,9]⟩] w fun e w'=>e=.returned (.string ⟨(Lib.trimS s.data.toList [32,9]).toArray⟩)/\Below w.heap.size w w' :=
 Any.strings_Trim_laid Tryz.lays160 Tryz.set64 s ⟨#[32,9]⟩ w hs (by decide) (ascii_of_all (by decide))
open Go.RowKit Go.Lib in
theorem Tryz.trimLeft_blanks (s:ByteArray)(w:World) :
 Calls Tryz.prog 335 #[.string s,.string ⟨#[32,9]⟩] w fun e w'=>e=.returned (.string ⟨(Lib.trimLeftS s.data.toList [32,9]).toArray⟩)/\Below w.heap.size w w' :=
 Any.strings_TrimLeft_laid Tryz.lays161 Tryz.set64 s ⟨#[32,9]⟩ w (by decide) (ascii_of_all (by decide))
end Go.Proofs

namespace Go.Proofs.YtmehkneofinmiaaGreatDoor
open Go.RowKit
def tbI (c:Int):Bool:=c==33||(decide (35<=c)&&decide (c<=126))||decide (128<=c)
def tb (c:UInt8):Bool:=tbI c.toNat
def okText (l:List UInt8):Bool:=l.all tb
theorem isTagByte_any (c:Int)(w:World) :
 Calls Tryz.prog 344 #[.int .u8 c] w fun e w'=>e=.returned (.bool (tbI c))/\w'=w:=by
 go_enter Tryz.func344,Tryz.ntmps344
 go_wp2
 all_goals go_ret
 all_goals refine⟨ret_bool ?_,rfl⟩
 all_goals first|(simp_all [tbI];done)|(rw[Bool.eq_iff_iff];simp[tbI];omega)
theorem isTagText_any (s:ByteArray)(w:World)(hs:s.size<=9223372036854775807) :
 Calls Tryz.prog 334 #[.string s] w fun e w'=>e=.returned (.bool (okText s.data.toList))/\w'=w:=by
 go_enter Tryz.func334,Tryz.ntmps334
 go_wp2
 go_loop [6] (fun i=>∃ k:Nat,k<=s.size/\i=.int .i64 k/\Hid ((s.data.toList.take k).all tb=true)) (fun i=>s.size-(intOf i).toNat)
 case atStart=>exact⟨0,Nat.zero_le _,rfl,rfl⟩
 case round =>
  obtain⟨k,hk,rfl,ha⟩:=hrel
  by_cases hlt:k<s.size
  ·have HA:Hid ((s.data.toList.take (k+1)).all tb=tb s[k]):=by
    have:=ha.out
    show _=_
    rw[take_snoc s k hlt,List.all_append,this];simp
   have HN:Hid (tb s[k]=false->okText s.data.toList=false):=fun hd=>by
    unfold okText
    rw[List.all_eq_false]
    exact⟨s[k],List.getElem_mem (l:=s.data.toList) (by simpa using hlt),by simp[hd]⟩
   go_wp2_with (go_at_call 344;refine (isTagByte_any _ _).mono ?_;rintro e w' ⟨rfl,rfl⟩)
   ·go_ret
    have h:=‹(!tbI _)=true›
    exact⟨ret_bool (HN.out (by simpa [tb] using h)).symm,rfl⟩
   ·have h:=‹(!tbI _)=false›
    exact⟨⟨k+1,by omega,by go_num,HA.out.trans (by simpa [tb] using h)⟩,by simp[intOf];omega⟩
  ·go_wp2
   go_ret
   have:=ha.out
   rw[List.take_of_length_le (by simp;omega)] at this
   exact⟨ret_bool this.symm,rfl⟩
def strip (l:List UInt8):List UInt8:=Lib.trimLeftS l [32,9]
theorem cutComma_any (s:ByteArray)(w:World) :
 Calls Tryz.prog 315 #[.string s] w fun e w'=>e=.returned (.tuple #[.string ⟨(strip (Lib.trimPrefix (strip s.data.toList) [44])).toArray⟩,.bool (Lib.hasPrefix (strip s.data.toList) [44])])/\Below w.heap.size w w':=by
 go_enter Tryz.func315,Tryz.ntmps315
 go_wp2_with fail
 refine (Tryz.trimLeft_blanks _ _).mono ?_
 rintro e w1 ⟨rfl,hb1⟩
 go_wp2_with fail
 refine (Tryz.strings_CutPrefix _ _ _).mono ?_
 rintro e w2 ⟨rfl,rfl⟩
 go_wp2_with fail
 refine (Tryz.trimLeft_blanks _ _).mono ?_
 rintro e w3 ⟨rfl,hb3⟩
 go_wp2
 go_ret2
 exact⟨rfl,hb1.trans (hb3.mono hb1.size)⟩
theorem clone_any (s:ByteArray)(w:World)(hs:s.size<=281474976710656) :
 Calls Tryz.prog 296 #[.string s] w fun e w'=>e=.returned (.string s)/\Below w.heap.size w w':=by
 go_enter Tryz.func296,Tryz.ntmps296
 go_wp2_with fail
 refine (Tryz.stringslite_Clone _ _ hs).mono ?_
 rintro e w1 ⟨rfl,hb1⟩
 go_wp2
 go_ret
 exact⟨rfl,hb1⟩
def tagF (l:List UInt8):Option (Bool×List UInt8×List UInt8) :=
 let q:=Lib.trimPrefix l [87,47]
 let c:=Lib.cut (Lib.trimPrefix q [34]) [34]
 if Lib.hasPrefix q [34]&&(c.2.2&&okText c.1) then some (Lib.hasPrefix l [87,47],c.1,c.2.1) else none
def MaxIs (w:World):Prop:=∃ m:Int,w.cell? ⟨1,0,none⟩=some (.int .i64 m)
theorem cell_lt {w:World}{b o:Nat}{v:Value}(h:w.cell? ⟨b,o,none⟩=some v):b<w.heap.size:=World.block_lt_of_cell? _ _ h
theorem MaxIs.below {w w':World}(h:MaxIs w)(hb:Below w.heap.size w w'):MaxIs w':=by
 obtain⟨m,hm⟩:=h
 exact⟨m,(hb.cell (p:=⟨1,0,none⟩) (cell_lt hm)).trans hm⟩
def Gives (f:FuncId)(args:Array Value)(v:Value)(T:World->Prop):Prop:=∀ w,T w->Calls Tryz.prog f args w fun e w'=>e=.returned v/\Below w.heap.size w w'
def tagOut:Bool->Bool->ByteArray->ByteArray->Value
 | true,weak,name,behind=>.tuple #[.agg #[.bool weak,.string name],.string behind,.bool true]
 | false,_,_,_=>.tuple #[.agg #[.bool false,.string ⟨#[]⟩],.string ⟨#[]⟩,.bool false]
structure Bx (w x:World):Prop where
 b:Below w.heap.size w x
 c0:x.cell? ⟨w.heap.size,0,none⟩=some (.bool false)
 c1:x.cell? ⟨w.heap.size,1,none⟩=some (.string ⟨#[]⟩)
 f0:x.frozen? ⟨w.heap.size,0,none⟩=false
 f1:x.frozen? ⟨w.heap.size,1,none⟩=false
 lt:w.heap.size<x.heap.size
theorem Bx.made (w:World):Bx w (w.alloc (.cells #[.bool false,.string ⟨#[]⟩] 303)) :=
 ⟨(Below.refl _ _).alloc (Nat.le_refl _) _,by simp,by simp,by simp,by simp,by simp⟩
theorem Bx.below {w x y:World}(h:Bx w x)(hb:Below x.heap.size x y):Bx w y:=by
 have lt:=h.lt
 have k:=hb.size
 exact⟨h.b.trans (hb.mono (by omega)),(hb.cell (p:=⟨_,0,none⟩) lt).trans h.c0,(hb.cell (p:=⟨_,1,none⟩) lt).trans h.c1,(hb.frozen (p:=⟨_,0,none⟩) lt).trans h.f0,(hb.frozen (p:=⟨_,1,none⟩) lt).trans h.f1,by omega⟩
theorem cutTag_run (s q inner name behind:ByteArray)(weak opened closed good:Bool)(w:World)(hM:MaxIs w)
 (h1:Gives 185 #[.string s,.string ⟨#[87,47]⟩] (.tuple #[.string q,.bool weak]) MaxIs)(h2:Gives 185 #[.string q,.string ⟨#[34]⟩] (.tuple #[.string inner,.bool opened]) MaxIs)
 (h3:Gives 122 #[.string inner,.string ⟨#[34]⟩] (.tuple #[.string name,.string behind,.bool closed]) MaxIs)(h4:Gives 334 #[.string name] (.bool good) MaxIs)(h5:Gives 296 #[.string name] (.string name) MaxIs) :
 Calls Tryz.prog 314 #[.string s] w fun e w'=>e=.returned (tagOut (opened&&(closed&&good)) weak name behind)/\Below w.heap.size w w':=by
 have bx:=Bx.made w
 have H1:Hid _:=h1
 have H2:Hid _:=h2
 have H3:Hid _:=h3
 have H4:Hid _:=h4
 have H5:Hid _:=h5
 clear h1 h2 h3 h4 h5
 go_enter Tryz.func314,Tryz.ntmps314
 go_wp2_with fail
 refine Calls.mono (H1.out _ (hM.below bx.b)) ?_
 rintro e w1 ⟨rfl,hb1⟩
 have bx1:=bx.below hb1
 clear bx hb1
 go_wp2_with fail
 refine Calls.mono (H2.out _ (hM.below bx1.b)) ?_
 rintro e w2 ⟨rfl,hb2⟩
 have bx2:=bx1.below hb2
 clear bx1 hb2
 cases opened with
 | false =>
   obtain⟨q1,q2,q3,q4,q5,q6⟩:=bx2
   go_wp2
   exact bodyPost_ret (v:=.tuple #[.agg #[.bool false,.string ⟨#[]⟩],.string ⟨#[]⟩,.bool false]) (by simp[results,Tryz.results314,go_sem,q2,q3]) rfl ⟨rfl,(q1.setCell (Nat.le_refl _) _).setCell (Nat.le_refl _) _⟩
 | true =>
   go_wp2_with fail
   refine Calls.mono (H3.out _ (hM.below bx2.b)) ?_
   rintro e w3 ⟨rfl,hb3⟩
   have bx3:=bx2.below hb3
   clear bx2 hb3
   cases closed with
   | false =>
     obtain⟨q1,q2,q3,q4,q5,q6⟩:=bx3
     go_wp2
     exact bodyPost_ret (v:=.tuple #[.agg #[.bool false,.string ⟨#[]⟩],.string ⟨#[]⟩,.bool false]) (by simp[results,Tryz.results314,go_sem,q2,q3]) rfl ⟨rfl,(q1.setCell (Nat.le_refl _) _).setCell (Nat.le_refl _) _⟩
   | true =>
     go_wp2_with fail
     refine Calls.mono (H4.out _ (hM.below bx3.b)) ?_
     rintro e w4 ⟨rfl,hb4⟩
     have bx4:=bx3.below hb4
     clear bx3 hb4
     cases good with
     | false =>
       obtain⟨q1,q2,q3,q4,q5,q6⟩:=bx4
       go_wp2
       exact bodyPost_ret (v:=.tuple #[.agg #[.bool false,.string ⟨#[]⟩],.string ⟨#[]⟩,.bool false]) (by simp[results,Tryz.results314,go_sem,q2,q3]) rfl ⟨rfl,(q1.setCell (Nat.le_refl _) _).setCell (Nat.le_refl _) _⟩
     | true =>
       go_wp2_with fail
       refine Calls.mono (H5.out _ (hM.below bx4.b)) ?_
       rintro e w5 ⟨rfl,hb5⟩
       have bx5:=bx4.below hb5
       clear bx4 hb5
       obtain⟨q1,q2,q3,q4,q5,q6⟩:=bx5
       go_wp2
       exact bodyPost_ret (v:=.tuple #[.agg #[.bool weak,.string name],.string behind,.bool true]) (by simp[results,Tryz.results314,go_sem,q2,q3]) rfl ⟨rfl,(q1.setCell (Nat.le_refl _) _).setCell (Nat.le_refl _) _⟩
theorem tagF_def (l:List UInt8):tagF l=if Lib.hasPrefix (Lib.trimPrefix l [87,47]) [34]&&((Lib.cut (Lib.trimPrefix (Lib.trimPrefix l [87,47]) [34]) [34]).2.2&&okText (Lib.cut (Lib.trimPrefix (Lib.trimPrefix l [87,47]) [34]) [34]).1)
 then some (Lib.hasPrefix l [87,47],(Lib.cut (Lib.trimPrefix (Lib.trimPrefix l [87,47]) [34]) [34]).1,(Lib.cut (Lib.trimPrefix (Lib.trimPrefix l [87,47]) [34]) [34]).2.1) else none:=rfl
theorem cut_len (l p:List UInt8):(Lib.cut l p).1.length<=l.length:=by
 unfold Lib.cut
 split
 ·simp;omega
 ·exact Nat.le_refl _
theorem cutTag_any (s:ByteArray)(w:World)(hM:MaxIs w)(hs:s.size<4294967281) :
 Calls Tryz.prog 314 #[.string s] w fun e w'=>((∃ weak name behind,tagF s.data.toList=some (weak,name,behind)/\e=.returned (.tuple #[.agg #[.bool weak,.string ⟨name.toArray⟩],.string ⟨behind.toArray⟩,.bool true])) \/
  (tagF s.data.toList=none/\e=.returned (.tuple #[.agg #[.bool false,.string ⟨#[]⟩],.string ⟨#[]⟩,.bool false])))/\Below w.heap.size w w':=by
 have z1:=Lib.trimPrefix_le s.data.toList [87,47]
 have z2:=Lib.trimPrefix_le (Lib.trimPrefix s.data.toList [87,47]) [34]
 have z3:=cut_len (Lib.trimPrefix (Lib.trimPrefix s.data.toList [87,47]) [34]) [34]
 have z0:=Lib.size_eq s
 have g1:Gives 185 #[.string s,.string ⟨#[87,47]⟩] (.tuple #[.string ⟨(Lib.trimPrefix s.data.toList [87,47]).toArray⟩,.bool (Lib.hasPrefix s.data.toList [87,47])]) MaxIs:=fun w _=>by
  refine (Tryz.strings_CutPrefix s ⟨#[87,47]⟩ w).mono ?_
  rintro e w' ⟨rfl,rfl⟩
  exact⟨rfl,Below.refl _ _⟩
 have g2:Gives 185 #[.string ⟨(Lib.trimPrefix s.data.toList [87,47]).toArray⟩,.string ⟨#[34]⟩] (.tuple #[.string ⟨(Lib.trimPrefix (Lib.trimPrefix s.data.toList [87,47]) [34]).toArray⟩,.bool (Lib.hasPrefix (Lib.trimPrefix s.data.toList [87,47]) [34])]) MaxIs:=fun w _=>by
  refine (Tryz.strings_CutPrefix ⟨(Lib.trimPrefix s.data.toList [87,47]).toArray⟩ ⟨#[34]⟩ w).mono ?_
  rintro e w' ⟨rfl,rfl⟩
  exact⟨rfl,Below.refl _ _⟩
 generalize hq:Lib.trimPrefix (Lib.trimPrefix s.data.toList [87,47]) [34]=inner at z2 z3 g2
 have g3:Gives 122 #[.string ⟨inner.toArray⟩,.string ⟨#[34]⟩] (.tuple #[.string ⟨(Lib.cut inner [34]).1.toArray⟩,.string ⟨(Lib.cut inner [34]).2.1.toArray⟩,.bool (Lib.cut inner [34]).2.2]) MaxIs:=fun w hw=>by
  obtain⟨m,hm⟩:=hw
  refine (Tryz.strings_Cut ⟨inner.toArray⟩ ⟨#[34]⟩ m w (by rw[Lib.size_eq];simp;omega) hm).mono ?_
  rintro e w' ⟨rfl,n,rfl⟩
  exact⟨rfl,below_drewN (Below.refl _ _) n⟩
 generalize hc:Lib.cut inner [34]=c at z3 g3
 have g4:Gives 334 #[.string ⟨c.1.toArray⟩] (.bool (okText c.1)) MaxIs:=fun w _=>by
  refine (isTagText_any ⟨c.1.toArray⟩ w (by rw[Lib.size_eq];simp;omega)).mono ?_
  rintro e w' ⟨rfl,rfl⟩
  exact⟨rfl,Below.refl _ _⟩
 have g5:Gives 296 #[.string ⟨c.1.toArray⟩] (.string ⟨c.1.toArray⟩) MaxIs:=fun w _=>clone_any ⟨c.1.toArray⟩ w (by rw[Lib.size_eq];simp;omega)
 refine (cutTag_run s _ _ _ _ _ _ _ _ w hM g1 g2 g3 g4 g5).mono ?_
 rintro e w' ⟨rfl,hb⟩
 refine⟨?_,hb⟩
 rw[tagF_def,hq,hc]
 cases hB:(Lib.hasPrefix (Lib.trimPrefix s.data.toList [87,47]) [34]&&(c.2.2&&okText c.1)) with
 | true=>exact Or.inl ⟨_,_,_,rfl,rfl⟩
 | false=>exact Or.inr ⟨rfl,rfl⟩
abbrev TagL:=List (Bool×List UInt8)
def tagsF:Nat->List UInt8->Option TagL
 | 0,_=>none
 | k+1,l=>match tagF l with
   | none=>none
   | some (wk,nm,beh)=>if beh=[] then some [(wk,nm)] else
     if Lib.hasPrefix (strip beh) [44] then (tagsF k (strip (Lib.trimPrefix (strip beh) [44]))).map ((wk,nm)::·) else none
def cellsT (a:TagL):List Value:=a.flatMap fun t=>[.bool t.1,.string ⟨t.2.toArray⟩]
theorem cellsT_snoc (a:TagL)(x:Bool×List UInt8):cellsT (a++[x])=cellsT a++[.bool x.1,.string ⟨x.2.toArray⟩]:=by simp[cellsT]
theorem owns_below {w w':World}{base:Nat}{e:TypeId}{size:Nat}{v:Value}{n:Nat}{xs:List Value}(h:w.ownsRow base e size v n xs)(hb:Below w.heap.size w w'):w'.ownsRow base e size v n xs:=by
 refine⟨h.1,?_⟩
 rcases h.2 with h0|⟨g,cap,cur,hv,hg,hh,r⟩
 ·exact Or.inl h0
 ·have:g<w.heap.size:=(Array.getElem?_eq_some_iff.1 hh).1
  exact Or.inr ⟨g,cap,cur,hv,hg,by rw[hb.block g this];exact hh,r⟩
theorem tagF_less {l:List UInt8}{wk:Bool}{nm beh:List UInt8}(h:tagF l=some (wk,nm,beh)):beh.length<l.length/\nm.length<l.length:=by
 rw[tagF_def] at h
 have z1:=Lib.trimPrefix_le l [87,47]
 generalize Lib.trimPrefix l [87,47]=q at h z1
 cases hq:Lib.hasPrefix q [34] with
 | false=>simp[hq] at h
 | true =>
   have hin:Lib.trimPrefix q [34]=q.drop 1:=by unfold Lib.trimPrefix;rw[if_pos hq];rfl
   have hql:1<=q.length:=by
    cases q with
    | nil=>simp[Lib.hasPrefix] at hq
    | cons a b=>simp
   rw[hin] at h
   have hc1:(Lib.cut (q.drop 1) [34]).1.length<=(q.drop 1).length:=cut_len _ _
   have hc2:(Lib.cut (q.drop 1) [34]).2.1.length<=(q.drop 1).length:=by
    unfold Lib.cut
    split
    ·simp;omega
    ·simp
   generalize Lib.cut (q.drop 1) [34]=c at h hc1 hc2
   split at h
   ·simp only[Option.some.injEq,Prod.mk.injEq] at h
    obtain⟨_,rfl,rfl⟩:=h
    simp at hc1 hc2
    omega
   ·cases h
theorem strip_le (l:List UInt8):(strip l).length<=l.length:=(List.dropWhile_suffix _).length_le
structure Tg (w x:World):Prop where
 b:Below (w.heap.size+1) (w.alloc (.cells #[.bool false,.slice none 0 0] 91)) x
 z:w.heap.size+1<=x.heap.size
theorem Tg.made (w:World):Tg w (w.alloc (.cells #[.bool false,.slice none 0 0] 91)):=⟨Below.refl _ _,by simp⟩
theorem Tg.below {w x y:World}(h:Tg w x)(hb:Below x.heap.size x y):Tg w y:=⟨h.b.trans (hb.mono h.z),by have:=hb.size;have:=h.z;omega⟩
theorem Tg.old {w x:World}(h:Tg w x):Below w.heap.size w x:=((Below.refl _ _).alloc (Nat.le_refl _) _).trans (h.b.mono (by omega))
theorem Tg.c0 {w x:World}(h:Tg w x):x.cell? ⟨w.heap.size,0,none⟩=some (.bool false):=(h.b.cell (p:=⟨_,0,none⟩) (by simp)).trans (by simp)
theorem Tg.c1 {w x:World}(h:Tg w x):x.cell? ⟨w.heap.size,1,none⟩=some (.slice none 0 0):=(h.b.cell (p:=⟨_,1,none⟩) (by simp)).trans (by simp)
theorem Tg.f0 {w x:World}(h:Tg w x):x.frozen? ⟨w.heap.size,0,none⟩=false:=(h.b.frozen (p:=⟨_,0,none⟩) (by simp)).trans (by simp)
theorem Tg.f1 {w x:World}(h:Tg w x):x.frozen? ⟨w.heap.size,1,none⟩=false:=(h.b.frozen (p:=⟨_,1,none⟩) (by simp)).trans (by simp)
theorem info33m:(Tryz.prog.info? 303).map (fun i=>(i.size,i.bytes,i.zero))=some (2,24,some (.agg #[.bool false,.string ⟨#[]⟩])):=by kernel_rfl
theorem info33:∃ i,Tryz.prog.info? 303=some i/\i.size=2/\i.bytes=24/\i.zero=some (.agg #[.bool false,.string ⟨#[]⟩]):=by
 have h:=info33m
 cases hq:Tryz.prog.info? 303 with
 | none=>rw[hq] at h;cases h
 | some i =>
   rw[hq] at h
   simp only[Option.map_some,Option.some.injEq,Prod.mk.injEq] at h
   exact⟨i,rfl,h.1,h.2.1,h.2.2⟩
def TagsPost (l:List UInt8)(w:World)(e:Ending)(w':World):Prop :=
 Below w.heap.size w w' /\
 ((l=[42]/\e=.returned (.tuple #[.agg #[.bool true,.slice none 0 0],.bool true])) \/
  (l≠[42] /\
    ((tagsF (l.length+1) l=none/\e=.returned (.tuple #[.agg #[.bool false,.slice none 0 0],.bool false])) \/
     ∃ a v,tagsF (l.length+1) l=some a/\e=.returned (.tuple #[.agg #[.bool false,v],.bool true])/\w'.ownsRow (w.heap.size+1) 303 2 v a.length (cellsT a))))
theorem owns_set {x:World}{base:Nat}{e:TypeId}{size:Nat}{v u:Value}{n:Nat}{xs:List Value}{a:Addr}(h:x.ownsRow base e size v n xs)(ha:a.block<base):(x.setCell a u).ownsRow base e size v n xs :=
 ownsRow_setCell_below h ha u
theorem owns_pos {x:World}{base:Nat}{e:TypeId}{size:Nat}{v:Value}{n:Nat}{xs:List Value}(h:x.ownsRow base e size v (n+1) xs):∃ g cap,v=.slice (some ⟨g,0,none⟩) (n+1) cap:=by
 rcases h.2 with ⟨_,h0⟩|⟨g,cap,cur,hv,_⟩
 ·omega
 ·exact⟨g,cap,hv⟩
theorem owns_block {x:World}{base:Nat}{e:TypeId}{size:Nat}{v:Value}{n:Nat}{xs:List Value}(h:x.ownsRow base e size v n xs):∀ k,v.ownBlock=some k->base<=k:=by
 intro k hk
 rcases h.2 with ⟨rfl,_⟩|⟨g,cap,cur,rfl,hg,_⟩
 ·cases hk
 ·cases hk;exact hg
theorem tagsF_end {k:Nat}{r:List UInt8}{wk:Bool}{nm:List UInt8}(hk:r.length<k)(ht:tagF r=some (wk,nm,[])):tagsF k r=some [(wk,nm)]:=by
 cases k with
 | zero=>omega
 | succ k=>simp[tagsF,ht]
theorem tagsF_none {k:Nat}{r:List UInt8}(ht:tagF r=none):tagsF k r=none:=by
 cases k with
 | zero=>rfl
 | succ k=>simp[tagsF,ht]
theorem tagsF_bad {k:Nat}{r beh:List UInt8}{wk:Bool}{nm:List UInt8}(ht:tagF r=some (wk,nm,beh))(hb:beh≠[])(hc:Lib.hasPrefix (strip beh) [44]=false):tagsF k r=none:=by
 cases k with
 | zero=>rfl
 | succ k=>simp[tagsF,ht,hb,hc]
theorem tagsF_on {k:Nat}{r beh:List UInt8}{wk:Bool}{nm:List UInt8}(ht:tagF r=some (wk,nm,beh))(hb:beh≠[])(hc:Lib.hasPrefix (strip beh) [44]=true) :
 tagsF (k+1) r=(tagsF k (strip (Lib.trimPrefix (strip beh) [44]))).map ((wk,nm)::·):=by simp[tagsF,ht,hb,hc]
theorem map_nil_append (o:Option TagL):o.map ([]++·)=o:=by cases o<;>simp
theorem tags_any (s:ByteArray)(l:List UInt8)(w:World)(hM:MaxIs w)(hl:Lib.trimS s.data.toList [32,9]=l)(hs:s.size<=67108864)(hz:l.length<=s.size):Calls Tryz.prog 283 #[.string s] w (TagsPost l w):=by
 obtain⟨ti,i1,i2,i3,i4⟩:=info33
 have HI:Hid _:=i1
 have HI2:Hid _:=i2
 have HI3:Hid _:=i3
 have HI4:Hid _:=i4
 have HL:Hid _:=hl
 clear i1 i2 i3 i4 hl
 go_enter Tryz.func283,Tryz.ntmps283
 go_wp2_with fail
 refine (Tryz.trim_blanks _ _ (by omega)).mono ?_
 rintro e w1 ⟨rfl,hb1⟩
 rw[HL.out]
 have tg1:Tg w w1:=(Tg.made w).below hb1
 clear hb1 HL
 by_cases hst:l=[42]
 ·have k1:=tg1.c0
  have k2:=tg1.c1
  have k3:=tg1.f0
  have k4:=tg1.f1
  subst hst
  go_wp2
  exact bodyPost_ret (v:=.tuple #[.agg #[.bool true,.slice none 0 0],.bool true]) (by simp[results,Tryz.results283,go_sem,k1,k2]) rfl ⟨(tg1.old.setCell (Nat.le_refl _) _).setCell (Nat.le_refl _) _,Or.inl ⟨rfl,rfl⟩⟩
 ·have hne:(l==[42])=false:=by simpa using hst
  have HST:Hid _:=hst
  clear hst
  go_wp2
  go_loopw [4,5] (fun rest lst wr=>∃ (r:List UInt8) (k:Nat) (a:TagL),rest=.string ⟨r.toArray⟩/\r.length<k/\r.length+a.length<=l.length/\Tg w wr/\wr.ownsRow (w.heap.size+1) 303 2 lst a.length (cellsT a)/\Hid (tagsF (l.length+1) l=(tagsF k r).map (a++·)))
   (fun rest _ _=>match rest with|.string b=>b.size|_=>0)
  case atStart=>exact⟨l,l.length+1,[],rfl,by omega,by simp,tg1,⟨rfl,Or.inl ⟨rfl,rfl⟩⟩,(map_nil_append _).symm⟩
  case round =>
   obtain⟨r,k,a,rfl,hk,hra,tg,hown,hf⟩:=hrel
   have zr:=Lib.size_eq (⟨r.toArray⟩:ByteArray)
   simp only at zr
   go_wp2_with fail
   refine (cutTag_any ⟨r.toArray⟩ _ (hM.below tg.old) (by rw[zr];omega)).mono ?_
   rintro e w2 ⟨⟨wk,nm,beh,ht,rfl⟩|⟨ht,rfl⟩,hb2⟩
   ·have tg2:=tg.below hb2
    have own2:=owns_below hown hb2
    have hless:=tagF_less ht
    have HT:Hid _:=ht
    have zz:=tg2.z
    clear tg hown hb2 ht
    have hal:Below w2.heap.size w2 ((w2.alloc (.cells #[.bool wk,.string ⟨nm.toArray⟩] 303)).alloc (.cells #[.bool wk,.string ⟨nm.toArray⟩] 303)):=((Below.refl _ _).alloc (Nat.le_refl _) _).alloc (by simp) _
    have own4:=owns_below own2 hal
    have hnews:∀ j u,([.bool wk,.string ⟨nm.toArray⟩]:List Value)[j]?=some u->((w2.alloc (.cells #[.bool wk,.string ⟨nm.toArray⟩] 303)).alloc (.cells #[.bool wk,.string ⟨nm.toArray⟩] 303)).cell? ((⟨w2.heap.size+1,0,none⟩:Addr).add j)=some u:=by
     have:=cell_two_new (w2.alloc (.cells #[.bool wk,.string ⟨nm.toArray⟩] 303)) (.bool wk) (.string ⟨nm.toArray⟩) 303
     simpa using this
    have HO:Hid _:=own4
    have HN:Hid _:=hnews
    clear own4 hnews
    by_cases hbeh:beh=[]
    ·subst hbeh
     go_wp2_with (first|(at_builtin;refine wpList_append_own _ rfl (.tmp 23) (.tmp 25) 89 rfl (w.heap.size+1) 303 ti (.agg #[.bool false,.string ⟨#[]⟩]) 2 24 Tryz.underlying89 HI.out HI4.out HI2.out HI3.out rfl (by omega) u5 a.length (cellsT a) rfl HO.out ⟨w2.heap.size+1,0,none⟩ 1 1 [.bool wk,.string ⟨nm.toArray⟩] rfl rfl HN.out (by intro u hu;simp at hu;rcases hu with rfl|rfl<;>rfl) (by unfold maxLen;omega) (by omega) (by simp;omega) ?_;intro v' w3 hown3 hgr _;obtain⟨g,cap,hv'⟩:=owns_pos hown3;rw[hv'] at hown3;rw[hv'];clear hv';have tg3:Tg w w3:=⟨(tg2.b.trans (hal.mono zz)).grown hgr (by simp;omega) (owns_block own2),by have:=hgr.size;simp at this;omega⟩;have k1:=tg3.c0;have k2:=tg3.c1;have k3:=tg3.f0;have k4:=tg3.f1))
     refine bodyPost_ret (v:=.tuple #[.agg #[.bool false,.slice (some ⟨g,0,none⟩) (a.length+1) cap],.bool true]) (by simp[results,Tryz.results283,go_sem,k1,k2]) rfl ⟨(tg3.old.setCell (Nat.le_refl _) _).setCell (Nat.le_refl _) _,Or.inr ⟨HST.out,Or.inr ⟨a++[(wk,nm)],_,?_,rfl,?_⟩⟩⟩
     ·rw[hf.out,tagsF_end hk HT.out];rfl
     ·rw[List.length_append,List.length_singleton,cellsT_snoc]
      exact owns_set (owns_set hown3 (by simp)) (by simp)
    ·have hbe:(beh==[])=false:=by simpa using hbeh
     go_wp2_with (first|(at_builtin;refine wpList_append_own _ rfl (.tmp 23) (.tmp 25) 89 rfl (w.heap.size+1) 303 ti (.agg #[.bool false,.string ⟨#[]⟩]) 2 24 Tryz.underlying89 HI.out HI4.out HI2.out HI3.out rfl (by omega) u5 a.length (cellsT a) rfl HO.out ⟨w2.heap.size+1,0,none⟩ 1 1 [.bool wk,.string ⟨nm.toArray⟩] rfl rfl HN.out (by intro u hu;simp at hu;rcases hu with rfl|rfl<;>rfl) (by unfold maxLen;omega) (by omega) (by simp;omega) ?_;intro v' w3 hown3 hgr _;obtain⟨g,cap,hv'⟩:=owns_pos hown3;rw[hv'] at hown3;rw[hv'];clear hv';have tg3:Tg w w3:=⟨(tg2.b.trans (hal.mono zz)).grown hgr (by simp;omega) (owns_block own2),by have:=hgr.size;simp at this;omega⟩;have k1:=tg3.c0;have k2:=tg3.c1;have k3:=tg3.f0;have k4:=tg3.f1))
     have HBE:Hid _:=hbeh
     clear hbeh hgr
     refine (cutComma_any ⟨beh.toArray⟩ _).mono ?_
     rintro e w4 ⟨rfl,hb4⟩
     have tg4:=tg3.below hb4
     have own5:=owns_below hown3 hb4
     have k5:=tg4.c0
     have k6:=tg4.c1
     have k7:=tg4.f0
     have k8:=tg4.f1
     clear k1 k2 k3 k4 hown3 hb4
     cases hc:Lib.hasPrefix (strip beh) [44] with
     | false =>
       have HC:Hid _:=hc
       clear hc
       go_wp2
       refine bodyPost_ret (v:=.tuple #[.agg #[.bool false,.slice none 0 0],.bool false]) (by simp[results,Tryz.results283,go_sem,k5,k6]) rfl ⟨(tg4.old.setCell (Nat.le_refl _) _).setCell (Nat.le_refl _) _,Or.inr ⟨HST.out,Or.inl ⟨?_,rfl⟩⟩⟩
       rw[hf.out,tagsF_bad HT.out HBE.out HC.out];rfl
     | true =>
       have HC:Hid _:=hc
       clear hc
       have l1:=strip_le (Lib.trimPrefix (strip beh) [44])
       have l2:=Lib.trimPrefix_le (strip beh) [44]
       have l3:=strip_le beh
       obtain⟨r',hr'⟩:∃ r',strip (Lib.trimPrefix (strip beh) [44])=r':=⟨_,rfl⟩
       rw[hr'] at l1
       have HR:Hid _:=hr'
       go_wp2
       refine⟨⟨r',k-1,a++[(wk,nm)],rfl,by omega,by simp;omega,tg4,?_,?_⟩,?_⟩
       ·rw[List.length_append,List.length_singleton,cellsT_snoc]
        exact own5
       ·show _=_
        obtain⟨k',rfl⟩:∃ k',k=k'+1:=⟨k-1,by omega⟩
        rw[hf.out,tagsF_on HT.out HBE.out HC.out,HR.out,Nat.add_sub_cancel]
        cases tagsF k' r'<;>simp
       ·show (⟨r'.toArray⟩:ByteArray).size<(⟨r.toArray⟩:ByteArray).size
        rw[Lib.size_eq,Lib.size_eq]
        simp
        omega
   ·have tg2:=tg.below hb2
    have hal:Below w2.heap.size w2 (w2.alloc (.cells #[.bool false,.string ⟨#[]⟩] 303)):=(Below.refl _ _).alloc (Nat.le_refl _) _
    have tg3:=tg2.below hal
    have k1:=tg2.c0
    have k2:=tg2.c1
    have k3:=tg2.f0
    have k4:=tg2.f1
    have hlt:w.heap.size<w2.heap.size:=by have:=tg2.z;omega
    have HT:Hid _:=ht
    clear ht
    go_wp2
    refine bodyPost_ret (v:=.tuple #[.agg #[.bool false,.slice none 0 0],.bool false]) (by simp[results,Tryz.results283,go_sem,k1,k2,hlt]) rfl ⟨?_,Or.inr ⟨HST.out,Or.inl ⟨?_,rfl⟩⟩⟩
    ·first|exact ((tg2.old.setCell (Nat.le_refl _) _).setCell (Nat.le_refl _) _).alloc (by simp[World.setCell];omega) _|exact (tg3.old.setCell (Nat.le_refl _) _).setCell (Nat.le_refl _) _
    ·rw[hf.out,tagsF_none HT.out];rfl
end Go.Proofs.YtmehkneofinmiaaGreatDoor

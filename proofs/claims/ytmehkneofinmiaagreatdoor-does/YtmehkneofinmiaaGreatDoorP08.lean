/-
 Texts of this proof, part 8.
-/
import Derived.Test.YtmehkneofinmiaaGreatDoorP07
set_option maxRecDepth 100000
set_option maxHeartbeats 2000000
namespace Go.Proofs.YtmehkneofinmiaaGreatDoor
open Go.RowKit
structure Cnd where
 m:Option (Bool×TagL)
 n:Option (Bool×TagL)
 s:Option (Int×Bool)
 u:Option (Int×Bool)
noncomputable def fieldF (k:Cnd)(name value:List UInt8):Option Cnd :=
 if Lib.toLowerA name=ifMatch then (if !k.m.isSome&&(tagsV value).2.1 then some { k with m:=some ((tagsV value).1,(tagsV value).2.2) } else none)
 else if Lib.toLowerA name=ifNone then (if !k.n.isSome&&(tagsV value).2.1 then some { k with n:=some ((tagsV value).1,(tagsV value).2.2) } else none)
 else if Lib.toLowerA name=ifSince then (if k.s.isSome then none else some { k with s:=some (dateV value) })
 else if Lib.toLowerA name=ifUnless then (if k.u.isSome then none else some { k with u:=some (dateV value) })
 else some k
def Rl (x:World)(g:Nat)(h a:Bool)(l:Value)(s:Bool)(o:Option (Bool×TagL)):Prop :=
 s=o.isSome/\h=o.isSome/\match o with
  | none=>a=false/\l=.slice none 0 0
  | some (b,t)=>a=b/\x.ownsRow (g+1) 303 2 l t.length (cellsT t)
def Rd2 (h:Bool)(n:Int)(s:Bool)(o:Option (Int×Bool)):Prop :=
 s=o.isSome/\match o with
  | none=>h=false/\n=0
  | some (d,b)=>h=b/\n=d
structure Rc (x:World)(g:Nat)(c:Cst)(k:Cnd):Prop where
 cm:Cm x g c
 m:Rl x g c.hm c.am c.lm c.s0 k.m
 n:Rl x g c.hn c.an c.ln c.s1 k.n
 s:Rd2 c.hs c.si c.s2 k.s
 u:Rd2 c.hu c.ul c.s3 k.u
theorem Rl.kept {x y:World}{g:Nat}{h a:Bool}{l:Value}{s:Bool}{o:Option (Bool×TagL)}(r:Rl x g h a l s o)(hk:Kp g x y):Rl y g h a l s o:=by
 obtain⟨r1,r2,r3⟩:=r
 refine⟨r1,r2,?_⟩
 cases o with
 | none=>exact r3
 | some p =>
   obtain⟨b,t⟩:=p
   obtain⟨e,ho⟩:=r3
   refine⟨e,ho.1,?_⟩
   rcases ho.2 with h0|⟨q,cap,cur,hv,hg,hh,rr⟩
   ·exact Or.inl h0
   ·have hq:q<x.heap.size:=(Array.getElem?_eq_some_iff.1 hh).1
    exact Or.inr ⟨q,cap,cur,hv,hg,by rw[hk.o q (by omega) hq];exact hh,rr⟩
theorem toLower_ne:ifNone≠ifMatch/\ifSince≠ifMatch/\ifSince≠ifNone/\ifUnless≠ifMatch/\ifUnless≠ifNone/\ifUnless≠ifSince:=by decide
theorem take_any (g:Nat)(c:Cst)(k:Cnd)(name value:List UInt8)(w:World)(hM:MaxIs w)(hR:Rc w g c k)(hn:name.length<=140737488355328)(ha:∀ (j:Nat) (b:UInt8),name[j]?=some b->b.toNat<128)(hv:value.length<=67108864) :
 Calls Tryz.prog 241 #[.pointer (some ⟨g,0,none⟩),.string ⟨name.toArray⟩,.string ⟨value.toArray⟩] w fun e w'=>Kp g w w'/\((∃ k' c',fieldF k name value=some k'/\e=.returned (.bool true)/\Rc w' g c' k')\/(fieldF k name value=none/\e=.returned (.bool false))):=by
 have hlt:=hR.cm.lt
 by_cases h1:Lib.toLowerA name=ifMatch
 ·refine (take_match g c name value w hM hR.cm hn ha h1 hv).mono ?_
  rintro e w' ⟨rfl,hk,o,cp,hc,ho⟩
  refine⟨hk,?_⟩
  have hs:=hR.m.1
  unfold fieldF
  rw[if_pos h1,hs]
  cases hb:(!k.m.isSome&&(tagsV value).2.1) with
  | true =>
    have hf:(tagsV value).2.1=true:=by simp at hb;exact hb.2
    refine Or.inl ⟨_,_,rfl,rfl,hc,⟨rfl,hf,rfl,owns_mono ho (by omega)⟩,hR.n.kept hk,hR.s,hR.u⟩
  | false=>exact Or.inr ⟨rfl,rfl⟩
 ·by_cases h2:Lib.toLowerA name=ifNone
  ·refine (take_none g c name value w hM hR.cm hn ha h2 hv).mono ?_
   rintro e w' ⟨rfl,hk,o,cp,hc,ho⟩
   refine⟨hk,?_⟩
   have hs:=hR.n.1
   unfold fieldF
   rw[if_neg h1,if_pos h2,hs]
   cases hb:(!k.n.isSome&&(tagsV value).2.1) with
   | true =>
     have hf:(tagsV value).2.1=true:=by simp at hb;exact hb.2
     refine Or.inl ⟨_,_,rfl,rfl,hc,hR.m.kept hk,⟨rfl,hf,rfl,owns_mono ho (by omega)⟩,hR.s,hR.u⟩
   | false=>exact Or.inr ⟨rfl,rfl⟩
  ·by_cases h3:Lib.toLowerA name=ifSince
   ·refine (take_since g c name value w hR.cm hn ha h3).mono ?_
    rintro e w' ⟨rfl,hk,hc⟩
    refine⟨hk,?_⟩
    have hs:=hR.s.1
    unfold fieldF
    rw[if_neg h1,if_neg h2,if_pos h3,hs]
    cases hb:k.s.isSome with
    | true=>exact Or.inr ⟨rfl,rfl⟩
    | false=>exact Or.inl ⟨_,_,rfl,rfl,hc,hR.m.kept hk,hR.n.kept hk,⟨rfl,rfl,rfl⟩,hR.u⟩
   ·by_cases h4:Lib.toLowerA name=ifUnless
    ·refine (take_unless g c name value w hR.cm hn ha h4).mono ?_
     rintro e w' ⟨rfl,hk,hc⟩
     refine⟨hk,?_⟩
     have hs:=hR.u.1
     unfold fieldF
     rw[if_neg h1,if_neg h2,if_neg h3,if_pos h4,hs]
     cases hb:k.u.isSome with
     | true=>exact Or.inr ⟨rfl,rfl⟩
     | false=>exact Or.inl ⟨_,_,rfl,rfl,hc,hR.m.kept hk,hR.n.kept hk,hR.s,⟨rfl,rfl,rfl⟩⟩
    ·refine (take_other g name value w hn ha h1 h2 h3 h4).mono ?_
     rintro e w' ⟨rfl,hb⟩
     have hk:=Kp.of_below (Nat.le_of_lt hlt) hb
     refine⟨hk,Or.inl ⟨k,c,?_,rfl,hR.cm.below hb,hR.m.kept hk,hR.n.kept hk,hR.s,hR.u⟩⟩
     unfold fieldF
     rw[if_neg h1,if_neg h2,if_neg h3,if_neg h4]
def crlfB (c:UInt8):Bool:=c==13||c==10
def AnyIs:Prop:=∀ (v:List UInt8) (w:World),v.length<=4000->Calls Tryz.prog 240 #[.string ⟨v.toArray⟩,.string ⟨#[13,10]⟩] w fun e w'=>e=.returned (.bool (v.any crlfB))/\Below w.heap.size w w'
noncomputable def lineF (k:Cnd)(line:List UInt8):Option Cnd :=
 if (Lib.cut line [58]).2.2&&(nameOK (Lib.cut line [58]).1&&!(Lib.cut line [58]).2.1.any crlfB) then fieldF k (Lib.cut line [58]).1 (Lib.trimS (Lib.cut line [58]).2.1 [32,9]) else none
theorem name_ascii {l:List UInt8}(h:nameOK l=true):∀ (j:Nat) (b:UInt8),l[j]?=some b->b.toNat<128:=by
 intro j b hb
 unfold nameOK at h
 simp only[Bool.and_eq_true] at h
 have:=List.all_eq_true.1 h.1 b (List.mem_of_getElem? hb)
 unfold nameB nameI digI at this
 simp at this
 omega
theorem name_any (s:List UInt8)(w:World)(hs:s.length<=9223372036854775807):Calls Tryz.prog 239 #[.string ⟨s.toArray⟩] w fun e w'=>e=.returned (.bool (nameOK s))/\w'=w :=
 isName_any ⟨s.toArray⟩ w (by rw[Lib.size_eq];simpa using hs)
theorem trim_any (s:List UInt8)(w:World)(hs:s.length<=9223372036854775807):Calls Tryz.prog 242 #[.string ⟨s.toArray⟩,.string ⟨#[32,9]⟩] w fun e w'=>e=.returned (.string ⟨(Lib.trimS s [32,9]).toArray⟩)/\Below w.heap.size w w' :=
 Tryz.trim_blanks ⟨s.toArray⟩ w (by rw[Lib.size_eq];simpa using hs)
theorem takeLine_any (hA:AnyIs)(g:Nat)(c:Cst)(k:Cnd)(line:List UInt8)(w:World)(hM:MaxIs w)(hR:Rc w g c k)(hl:line.length<=4000) :
 Calls Tryz.prog 188 #[.pointer (some ⟨g,0,none⟩),.string ⟨line.toArray⟩] w fun e w'=>Kp g w w'/\((∃ k' c',lineF k line=some k'/\e=.returned (.bool true)/\Rc w' g c' k')\/(lineF k line=none/\e=.returned (.bool false))):=by
 have hlt:=hR.cm.lt
 have hcl:=cut_le line [58]
 have HL:Hid (lineF k line=if (Lib.cut line [58]).2.2&&(nameOK (Lib.cut line [58]).1&&!(Lib.cut line [58]).2.1.any crlfB) then fieldF k (Lib.cut line [58]).1 (Lib.trimS (Lib.cut line [58]).2.1 [32,9]) else none):=rfl
 go_enter Tryz.func188,Tryz.ntmps188
 go_wp2_with fail
 refine (cut_any line [58] _ hM (by omega)).mono ?_
 rintro e w1 ⟨rfl,hb1⟩
 have k1:=Kp.of_below (Nat.le_of_lt hlt) hb1
 have hM1:=hM.below hb1
 have hR1:Rc w1 g c k:=⟨hR.cm.below hb1,hR.m.kept k1,hR.n.kept k1,hR.s,hR.u⟩
 obtain⟨⟨nm,v,ok⟩,hc⟩:∃ t,Lib.cut line [58]=t:=⟨_,rfl⟩
 rw[hc] at hcl HL ⊢
 simp only at hcl HL ⊢
 clear hb1 hR hM hc
 cases ok with
 | false =>
   go_wp2
   go_ret
   exact⟨k1,Or.inr ⟨HL.out.trans rfl,rfl⟩⟩
 | true =>
   go_wp2_with fail
   refine (name_any nm _ (by omega)).mono ?_
   rintro e w2 ⟨rfl,rfl⟩
   cases hnm:nameOK nm with
   | false =>
     rw[hnm] at HL
     go_wp2
     go_ret
     exact⟨k1,Or.inr ⟨HL.out.trans rfl,rfl⟩⟩
   | true =>
     rw[hnm] at HL
     have hasc:=name_ascii hnm
     clear hnm
     go_wp2_with fail
     refine (hA v _ (by omega)).mono ?_
     rintro e w3 ⟨rfl,hb3⟩
     have k3:=k1.trans (Kp.of_below (Nat.le_of_lt hR1.cm.lt) hb3)
     have k13:Kp g w2 w3:=Kp.of_below (Nat.le_of_lt hR1.cm.lt) hb3
     have hR3:Rc w3 g c k:=⟨hR1.cm.below hb3,hR1.m.kept k13,hR1.n.kept k13,hR1.s,hR1.u⟩
     have hM3:=hM1.below hb3
     clear hb3 k13 hR1 hM1
     cases hva:v.any crlfB with
     | true =>
       rw[hva] at HL
       clear hva
       go_wp2
       go_ret
       exact⟨k3,Or.inr ⟨HL.out.trans rfl,rfl⟩⟩
     | false =>
       rw[hva] at HL
       clear hva
       go_wp2_with fail
       refine (trim_any v _ (by omega)).mono ?_
       rintro e w4 ⟨rfl,hb4⟩
       have htl:=trimS_le v
       have k14:Kp g w3 w4:=Kp.of_below (Nat.le_of_lt hR3.cm.lt) hb4
       have k4:=k3.trans k14
       have hR4:Rc w4 g c k:=⟨hR3.cm.below hb4,hR3.m.kept k14,hR3.n.kept k14,hR3.s,hR3.u⟩
       have hM4:=hM3.below hb4
       obtain⟨tv,htv⟩:∃ tv,Lib.trimS v [32,9]=tv:=⟨_,rfl⟩
       rw[htv] at htl HL ⊢
       clear hb4 k14 hR3 hM3 k3 htv
       go_wp2_with fail
       refine (take_any g c k nm tv _ hM4 hR4 (by omega) hasc (by omega)).mono ?_
       rintro e w5 ⟨hk5,⟨k',c',hf,rfl,hR5⟩|⟨hf,rfl⟩⟩
       ·go_wp2
        go_ret
        exact⟨k4.trans hk5,Or.inl ⟨k',c',HL.out.trans hf,rfl,hR5⟩⟩
       ·go_wp2
        go_ret
        exact⟨k4.trans hk5,Or.inr ⟨HL.out.trans hf,rfl⟩⟩
noncomputable def fieldsF:Nat->Cnd->List UInt8->Option (Cnd×List UInt8)
 | 0,_,_=>none
 | f+1,k,t=>if (Lib.cut t [13,10]).2.2 then (if (Lib.cut t [13,10]).1=[] then some (k,(Lib.cut t [13,10]).2.1) else match lineF k (Lib.cut t [13,10]).1 with
    | none=>none
    | some k'=>fieldsF f k' (Lib.cut t [13,10]).2.1) else none
def k0:Cnd:=⟨none,none,none,none⟩
def z0:Cst:=⟨false,false,.slice none 0 0,false,false,.slice none 0 0,false,0,false,0,false,false,false,false⟩
def askV (c:Cst):Value:=.agg #[.bool false,.bool c.hm,.bool c.am,c.lm,.bool c.hn,.bool c.an,c.ln,.bool c.hs,.int .i64 c.si,.bool c.hu,.int .i64 c.ul,.bool false,.string ⟨#[]⟩,.int .i64 0]
theorem cut_less (t p:List UInt8)(hp:0<p.length)(h:(Lib.cut t p).2.2=true):(Lib.cut t p).2.1.length<t.length:=by
 unfold Lib.cut at h ⊢
 split at h
 ·rename_i hi
  rw[if_pos hi]
  simp only[List.length_drop]
  have:0<t.length:=by
   cases t with
   | nil =>
     cases p with
     | nil=>simp at hp
     | cons a b=>simp[Lib.index] at hi
   | cons a b=>simp
  omega
 ·cases h
structure Fs (w x:World)(c:Cst)(k:Cnd):Prop where
 b:Below w.heap.size w x
 rc:∀ i,i<14->x.cell? ⟨w.heap.size,i,none⟩=some (z0.cell i)
 rf:∀ i,i<14->x.frozen? ⟨w.heap.size,i,none⟩=false
 r:Rc x (w.heap.size+1) c k
theorem Fs.kept {w x y:World}{c c':Cst}{k k':Cnd}(h:Fs w x c k)(hk:Kp (w.heap.size+1) x y)(hr:Rc y (w.heap.size+1) c' k'):Fs w y c' k' :=
 ⟨h.b.trans (hk.b.mono (by omega)),fun i hi=>(hk.b.cell (p:=⟨_,i,none⟩) (Nat.lt_succ_self _)).trans (h.rc i hi),fun i hi=>(hk.b.frozen (p:=⟨_,i,none⟩) (Nat.lt_succ_self _)).trans (h.rf i hi),hr⟩
theorem Fs.made (w:World):Fs w ((w.alloc (.cells #[.bool false,.bool false,.bool false,.slice none 0 0,.bool false,.bool false,.slice none 0 0,.bool false,.int .i64 0,.bool false,.int .i64 0,.bool false,.string ⟨#[]⟩,.int .i64 0] 93)).alloc (.cells #[.bool false,.bool false,.bool false,.slice none 0 0,.bool false,.bool false,.slice none 0 0,.bool false,.int .i64 0,.bool false,.int .i64 0,.bool false,.string ⟨#[]⟩,.int .i64 0,.bool false,.bool false,.bool false,.bool false] 273)) z0 k0:=by
 refine⟨((Below.refl _ _).alloc (Nat.le_refl _) _).alloc (by simp) _,fun i hi=>?_,fun i hi=>?_,⟨fun i hi=>?_,fun i hi=>?_⟩,⟨rfl,rfl,rfl,rfl⟩,⟨rfl,rfl,rfl,rfl⟩,⟨rfl,rfl,rfl⟩,⟨rfl,rfl,rfl⟩⟩
 ·rcases (by omega:i=0\/i=1\/i=2\/i=3\/i=4\/i=5\/i=6\/i=7\/i=8\/i=9\/i=10\/i=11\/i=12\/i=13) with rfl|rfl|rfl|rfl|rfl|rfl|rfl|rfl|rfl|rfl|rfl|rfl|rfl|rfl<;>simp[z0,Cst.cell]
 ·rcases (by omega:i=0\/i=1\/i=2\/i=3\/i=4\/i=5\/i=6\/i=7\/i=8\/i=9\/i=10\/i=11\/i=12\/i=13) with rfl|rfl|rfl|rfl|rfl|rfl|rfl|rfl|rfl|rfl|rfl|rfl|rfl|rfl<;>simp
 ·rcases (by omega:i=0\/i=1\/i=2\/i=3\/i=4\/i=5\/i=6\/i=7\/i=8\/i=9\/i=10\/i=11\/i=12\/i=13\/i=14\/i=15\/i=16\/i=17) with rfl|rfl|rfl|rfl|rfl|rfl|rfl|rfl|rfl|rfl|rfl|rfl|rfl|rfl|rfl|rfl|rfl|rfl<;>simp[z0,Cst.cell]
 ·rcases (by omega:i=0\/i=1\/i=2\/i=3\/i=4\/i=5\/i=6\/i=7\/i=8\/i=9\/i=10\/i=11\/i=12\/i=13\/i=14\/i=15\/i=16\/i=17) with rfl|rfl|rfl|rfl|rfl|rfl|rfl|rfl|rfl|rfl|rfl|rfl|rfl|rfl|rfl|rfl|rfl|rfl<;>simp
theorem Rl.slice {x:World}{g:Nat}{h a:Bool}{l:Value}{s:Bool}{o:Option (Bool×TagL)}(r:Rl x g h a l s o):∃ b n cp,l=.slice b n cp:=by
 obtain⟨_,_,r3⟩:=r
 cases o with
 | none=>exact⟨_,_,_,r3.2⟩
 | some p =>
   obtain⟨b,t⟩:=p
   rcases r3.2.2 with ⟨e,_⟩|⟨q,cap,cur,e,_⟩
   ·exact⟨_,_,_,e⟩
   ·exact⟨_,_,_,e⟩
theorem Rl.set {x:World}{g b i:Nat}{h a:Bool}{l u:Value}{s:Bool}{o:Option (Bool×TagL)}(r:Rl x g h a l s o)(hb:b<g+1):Rl (x.setCell ⟨b,i,none⟩ u) g h a l s o:=by
 obtain⟨r1,r2,r3⟩:=r
 refine⟨r1,r2,?_⟩
 cases o with
 | none=>exact r3
 | some p=>exact⟨r3.1,owns_set r3.2 (by show b<g+1;exact hb)⟩
theorem readFields_any (hA:AnyIs)(text:List UInt8)(w:World)(hM:MaxIs w)(hl:text.length<=4000) :
 Calls Tryz.prog 125 #[.string ⟨text.toArray⟩] w fun e w'=>Below w.heap.size w w' /\
  ((∃ k c body,fieldsF (text.length+1) k0 text=some (k,body)/\e=.returned (.tuple #[askV c,.string ⟨body.toArray⟩,.bool true])/\Rl w' (w.heap.size+1) c.hm c.am c.lm c.s0 k.m/\Rl w' (w.heap.size+1) c.hn c.an c.ln c.s1 k.n/\Rd2 c.hs c.si c.s2 k.s/\Rd2 c.hu c.ul c.s3 k.u) \/
   (fieldsF (text.length+1) k0 text=none/\e=.returned (.tuple #[askV z0,.string ⟨#[]⟩,.bool false]))):=by
 have fs0:=Fs.made w
 go_enter Tryz.func125,Tryz.ntmps125
 go_wp2
 go_loopw [0] (fun tx wr=>∃ (t:List UInt8) (f:Nat) (c:Cst) (k:Cnd),tx=.string ⟨t.toArray⟩/\t.length<=4000/\t.length<f/\Hid (fieldsF (text.length+1) k0 text=fieldsF f k t)/\Fs w wr c k) (fun tx _=>match tx with|.string b=>b.size|_=>0)
 case atStart=>exact⟨text,text.length+1,z0,k0,rfl,hl,by omega,rfl,fs0⟩
 case round =>
  obtain⟨t,f,c,k,rfl,ht,hf,hx,fs⟩:=hrel
  obtain⟨f,rfl⟩:∃ f',f=f'+1:=⟨f-1,by omega⟩
  have HX:Hid (fieldsF (text.length+1) k0 text=if (Lib.cut t [13,10]).2.2 then (if (Lib.cut t [13,10]).1=[] then some (k,(Lib.cut t [13,10]).2.1) else match lineF k (Lib.cut t [13,10]).1 with
   | none=>none
   | some k'=>fieldsF f k' (Lib.cut t [13,10]).2.1) else none):=hx.out.trans rfl
  have hcl:=cut_le t [13,10]
  have hcs:=cut_less t [13,10] (by decide)
  clear hx
  go_wp2_with fail
  refine (cut_any t [13,10] _ (hM.below fs.b) (by omega)).mono ?_
  rintro e w1 ⟨rfl,hb1⟩
  have kp1:Kp (w.heap.size+1) wr w1:=Kp.of_below (Nat.le_of_lt fs.r.cm.lt) hb1
  have fs1:=fs.kept kp1 (⟨fs.r.cm.below hb1,fs.r.m.kept kp1,fs.r.n.kept kp1,fs.r.s,fs.r.u⟩:Rc w1 (w.heap.size+1) c k)
  clear fs hb1 kp1
  have fs:=fs1
  clear fs1
  obtain⟨⟨line,rest,ok⟩,hc⟩:∃ t',Lib.cut t [13,10]=t':=⟨_,rfl⟩
  rw[hc] at hcl hcs HX ⊢
  simp only at hcl hcs HX ⊢
  clear hc
  cases ok with
  | false =>
    have rc0:=fs.rc 0 (by omega)
    have rf0:=fs.rf 0 (by omega)
    have rc1:=fs.rc 1 (by omega)
    have rf1:=fs.rf 1 (by omega)
    have rc2:=fs.rc 2 (by omega)
    have rf2:=fs.rf 2 (by omega)
    have rc3:=fs.rc 3 (by omega)
    have rf3:=fs.rf 3 (by omega)
    have rc4:=fs.rc 4 (by omega)
    have rf4:=fs.rf 4 (by omega)
    have rc5:=fs.rc 5 (by omega)
    have rf5:=fs.rf 5 (by omega)
    have rc6:=fs.rc 6 (by omega)
    have rf6:=fs.rf 6 (by omega)
    have rc7:=fs.rc 7 (by omega)
    have rf7:=fs.rf 7 (by omega)
    have rc8:=fs.rc 8 (by omega)
    have rf8:=fs.rf 8 (by omega)
    have rc9:=fs.rc 9 (by omega)
    have rf9:=fs.rf 9 (by omega)
    have rc10:=fs.rc 10 (by omega)
    have rf10:=fs.rf 10 (by omega)
    have rc11:=fs.rc 11 (by omega)
    have rf11:=fs.rf 11 (by omega)
    have rc12:=fs.rc 12 (by omega)
    have rf12:=fs.rf 12 (by omega)
    have rc13:=fs.rc 13 (by omega)
    have rf13:=fs.rf 13 (by omega)
    simp only[z0,Cst.cell] at rc0 rc1 rc2 rc3 rc4 rc5 rc6 rc7 rc8 rc9 rc10 rc11 rc12 rc13
    go_wp2
    exact bodyPost_ret (v:=.tuple #[askV z0,.string ⟨#[]⟩,.bool false]) (by simp[results,Tryz.results125,go_sem,askV,z0,rc0,rc1,rc2,rc3,rc4,rc5,rc6,rc7,rc8,rc9,rc10,rc11,rc12,rc13]) rfl ⟨((((((((((((((fs.b).setCell (Nat.le_refl _) _).setCell (Nat.le_refl _) _).setCell (Nat.le_refl _) _).setCell (Nat.le_refl _) _).setCell (Nat.le_refl _) _).setCell (Nat.le_refl _) _).setCell (Nat.le_refl _) _).setCell (Nat.le_refl _) _).setCell (Nat.le_refl _) _).setCell (Nat.le_refl _) _).setCell (Nat.le_refl _) _).setCell (Nat.le_refl _) _).setCell (Nat.le_refl _) _).setCell (Nat.le_refl _) _,Or.inr ⟨HX.out.trans rfl,rfl⟩⟩
  | true =>
    have hrl:=hcs rfl
    clear hcs
    rw[if_pos rfl] at HX
    by_cases hl0:line=[]
    ·subst hl0
     rw[if_pos rfl] at HX
     obtain⟨b1,n1,p1,e1⟩:=fs.r.m.slice
     obtain⟨b2,n2,p2,e2⟩:=fs.r.n.slice
     have rc0:=fs.rc 0 (by omega)
     have rf0:=fs.rf 0 (by omega)
     have rc1:=fs.rc 1 (by omega)
     have rf1:=fs.rf 1 (by omega)
     have rc2:=fs.rc 2 (by omega)
     have rf2:=fs.rf 2 (by omega)
     have rc3:=fs.rc 3 (by omega)
     have rf3:=fs.rf 3 (by omega)
     have rc4:=fs.rc 4 (by omega)
     have rf4:=fs.rf 4 (by omega)
     have rc5:=fs.rc 5 (by omega)
     have rf5:=fs.rf 5 (by omega)
     have rc6:=fs.rc 6 (by omega)
     have rf6:=fs.rf 6 (by omega)
     have rc7:=fs.rc 7 (by omega)
     have rf7:=fs.rf 7 (by omega)
     have rc8:=fs.rc 8 (by omega)
     have rf8:=fs.rf 8 (by omega)
     have rc9:=fs.rc 9 (by omega)
     have rf9:=fs.rf 9 (by omega)
     have rc10:=fs.rc 10 (by omega)
     have rf10:=fs.rf 10 (by omega)
     have rc11:=fs.rc 11 (by omega)
     have rf11:=fs.rf 11 (by omega)
     have rc12:=fs.rc 12 (by omega)
     have rf12:=fs.rf 12 (by omega)
     have rc13:=fs.rc 13 (by omega)
     have rf13:=fs.rf 13 (by omega)
     simp only[z0,Cst.cell] at rc0 rc1 rc2 rc3 rc4 rc5 rc6 rc7 rc8 rc9 rc10 rc11 rc12 rc13
     have cc0:=fs.r.cm.c 0 (by omega)
     have cc1:=fs.r.cm.c 1 (by omega)
     have cc2:=fs.r.cm.c 2 (by omega)
     have cc3:=fs.r.cm.c 3 (by omega)
     have cc4:=fs.r.cm.c 4 (by omega)
     have cc5:=fs.r.cm.c 5 (by omega)
     have cc6:=fs.r.cm.c 6 (by omega)
     have cc7:=fs.r.cm.c 7 (by omega)
     have cc8:=fs.r.cm.c 8 (by omega)
     have cc9:=fs.r.cm.c 9 (by omega)
     have cc10:=fs.r.cm.c 10 (by omega)
     have cc11:=fs.r.cm.c 11 (by omega)
     have cc12:=fs.r.cm.c 12 (by omega)
     have cc13:=fs.r.cm.c 13 (by omega)
     simp only[Cst.cell] at cc0 cc1 cc2 cc3 cc4 cc5 cc6 cc7 cc8 cc9 cc10 cc11 cc12 cc13
     rw[e1] at cc3
     rw[e2] at cc6
     have HE1:Hid _:=e1
     have HE2:Hid _:=e2
     clear e1 e2
     go_wp2
     exact bodyPost_ret (v:=.tuple #[.agg #[.bool false,.bool c.hm,.bool c.am,.slice b1 n1 p1,.bool c.hn,.bool c.an,.slice b2 n2 p2,.bool c.hs,.int .i64 c.si,.bool c.hu,.int .i64 c.ul,.bool false,.string ⟨#[]⟩,.int .i64 0],.string ⟨rest.toArray⟩,.bool true]) (by simp[results,Tryz.results125,go_sem,rc0,rc1,rc2,rc3,rc4,rc5,rc6,rc7,rc8,rc9,rc10,rc11,rc12,rc13]) rfl
      ⟨((((((((((((((fs.b).setCell (Nat.le_refl _) _).setCell (Nat.le_refl _) _).setCell (Nat.le_refl _) _).setCell (Nat.le_refl _) _).setCell (Nat.le_refl _) _).setCell (Nat.le_refl _) _).setCell (Nat.le_refl _) _).setCell (Nat.le_refl _) _).setCell (Nat.le_refl _) _).setCell (Nat.le_refl _) _).setCell (Nat.le_refl _) _).setCell (Nat.le_refl _) _).setCell (Nat.le_refl _) _).setCell (Nat.le_refl _) _,Or.inl ⟨k,c,rest,HX.out,by unfold askV;rw[HE1.out,HE2.out],((((((((((((((fs.r.m).set (by omega)).set (by omega)).set (by omega)).set (by omega)).set (by omega)).set (by omega)).set (by omega)).set (by omega)).set (by omega)).set (by omega)).set (by omega)).set (by omega)).set (by omega)).set (by omega),((((((((((((((fs.r.n).set (by omega)).set (by omega)).set (by omega)).set (by omega)).set (by omega)).set (by omega)).set (by omega)).set (by omega)).set (by omega)).set (by omega)).set (by omega)).set (by omega)).set (by omega)).set (by omega),fs.r.s,fs.r.u⟩⟩
    ·have hl0':(line==[])=false:=by simpa using hl0
     rw[if_neg hl0] at HX
     clear hl0
     go_wp2_with fail
     refine (takeLine_any hA (w.heap.size+1) c k line _ (hM.below fs.b) fs.r (by omega)).mono ?_
     rintro e w2 ⟨kp2,⟨k',c',hlf,rfl,hr2⟩|⟨hlf,rfl⟩⟩
     ·have fs2:=fs.kept kp2 hr2
      rw[hlf] at HX
      clear hlf fs kp2 hr2
      go_wp2
      refine⟨⟨rest,f,c',k',rfl,by omega,?_,HX.out,fs2⟩,?_⟩
      ·omega
      ·show (⟨rest.toArray⟩:ByteArray).size<(⟨t.toArray⟩:ByteArray).size
       rw[Lib.size_eq,Lib.size_eq]
       simpa using hrl
     ·rw[hlf] at HX
      have fsb:=fs.b.trans (kp2.b.mono (by omega))
      have rc0:=(kp2.b.cell (p:=⟨w.heap.size,0,none⟩) (Nat.lt_succ_self _)).trans (fs.rc 0 (by omega))
      have rf0:=(kp2.b.frozen (p:=⟨w.heap.size,0,none⟩) (Nat.lt_succ_self _)).trans (fs.rf 0 (by omega))
      have rc1:=(kp2.b.cell (p:=⟨w.heap.size,1,none⟩) (Nat.lt_succ_self _)).trans (fs.rc 1 (by omega))
      have rf1:=(kp2.b.frozen (p:=⟨w.heap.size,1,none⟩) (Nat.lt_succ_self _)).trans (fs.rf 1 (by omega))
      have rc2:=(kp2.b.cell (p:=⟨w.heap.size,2,none⟩) (Nat.lt_succ_self _)).trans (fs.rc 2 (by omega))
      have rf2:=(kp2.b.frozen (p:=⟨w.heap.size,2,none⟩) (Nat.lt_succ_self _)).trans (fs.rf 2 (by omega))
      have rc3:=(kp2.b.cell (p:=⟨w.heap.size,3,none⟩) (Nat.lt_succ_self _)).trans (fs.rc 3 (by omega))
      have rf3:=(kp2.b.frozen (p:=⟨w.heap.size,3,none⟩) (Nat.lt_succ_self _)).trans (fs.rf 3 (by omega))
      have rc4:=(kp2.b.cell (p:=⟨w.heap.size,4,none⟩) (Nat.lt_succ_self _)).trans (fs.rc 4 (by omega))
      have rf4:=(kp2.b.frozen (p:=⟨w.heap.size,4,none⟩) (Nat.lt_succ_self _)).trans (fs.rf 4 (by omega))
      have rc5:=(kp2.b.cell (p:=⟨w.heap.size,5,none⟩) (Nat.lt_succ_self _)).trans (fs.rc 5 (by omega))
      have rf5:=(kp2.b.frozen (p:=⟨w.heap.size,5,none⟩) (Nat.lt_succ_self _)).trans (fs.rf 5 (by omega))
      have rc6:=(kp2.b.cell (p:=⟨w.heap.size,6,none⟩) (Nat.lt_succ_self _)).trans (fs.rc 6 (by omega))
      have rf6:=(kp2.b.frozen (p:=⟨w.heap.size,6,none⟩) (Nat.lt_succ_self _)).trans (fs.rf 6 (by omega))
      have rc7:=(kp2.b.cell (p:=⟨w.heap.size,7,none⟩) (Nat.lt_succ_self _)).trans (fs.rc 7 (by omega))
      have rf7:=(kp2.b.frozen (p:=⟨w.heap.size,7,none⟩) (Nat.lt_succ_self _)).trans (fs.rf 7 (by omega))
      have rc8:=(kp2.b.cell (p:=⟨w.heap.size,8,none⟩) (Nat.lt_succ_self _)).trans (fs.rc 8 (by omega))
      have rf8:=(kp2.b.frozen (p:=⟨w.heap.size,8,none⟩) (Nat.lt_succ_self _)).trans (fs.rf 8 (by omega))
      have rc9:=(kp2.b.cell (p:=⟨w.heap.size,9,none⟩) (Nat.lt_succ_self _)).trans (fs.rc 9 (by omega))
      have rf9:=(kp2.b.frozen (p:=⟨w.heap.size,9,none⟩) (Nat.lt_succ_self _)).trans (fs.rf 9 (by omega))
      have rc10:=(kp2.b.cell (p:=⟨w.heap.size,10,none⟩) (Nat.lt_succ_self _)).trans (fs.rc 10 (by omega))
      have rf10:=(kp2.b.frozen (p:=⟨w.heap.size,10,none⟩) (Nat.lt_succ_self _)).trans (fs.rf 10 (by omega))
      have rc11:=(kp2.b.cell (p:=⟨w.heap.size,11,none⟩) (Nat.lt_succ_self _)).trans (fs.rc 11 (by omega))
      have rf11:=(kp2.b.frozen (p:=⟨w.heap.size,11,none⟩) (Nat.lt_succ_self _)).trans (fs.rf 11 (by omega))
      have rc12:=(kp2.b.cell (p:=⟨w.heap.size,12,none⟩) (Nat.lt_succ_self _)).trans (fs.rc 12 (by omega))
      have rf12:=(kp2.b.frozen (p:=⟨w.heap.size,12,none⟩) (Nat.lt_succ_self _)).trans (fs.rf 12 (by omega))
      have rc13:=(kp2.b.cell (p:=⟨w.heap.size,13,none⟩) (Nat.lt_succ_self _)).trans (fs.rc 13 (by omega))
      have rf13:=(kp2.b.frozen (p:=⟨w.heap.size,13,none⟩) (Nat.lt_succ_self _)).trans (fs.rf 13 (by omega))
      simp only[z0,Cst.cell] at rc0 rc1 rc2 rc3 rc4 rc5 rc6 rc7 rc8 rc9 rc10 rc11 rc12 rc13
      clear hlf fs kp2
      go_wp2
      exact bodyPost_ret (v:=.tuple #[askV z0,.string ⟨#[]⟩,.bool false]) (by simp[results,Tryz.results125,go_sem,askV,z0,rc0,rc1,rc2,rc3,rc4,rc5,rc6,rc7,rc8,rc9,rc10,rc11,rc12,rc13]) rfl ⟨((((((((((((((fsb).setCell (Nat.le_refl _) _).setCell (Nat.le_refl _) _).setCell (Nat.le_refl _) _).setCell (Nat.le_refl _) _).setCell (Nat.le_refl _) _).setCell (Nat.le_refl _) _).setCell (Nat.le_refl _) _).setCell (Nat.le_refl _) _).setCell (Nat.le_refl _) _).setCell (Nat.le_refl _) _).setCell (Nat.le_refl _) _).setCell (Nat.le_refl _) _).setCell (Nat.le_refl _) _).setCell (Nat.le_refl _) _,Or.inr ⟨HX.out,rfl⟩⟩
end Go.Proofs.YtmehkneofinmiaaGreatDoor

/-part 7-/
import Derived.Test.YtmehkneofinmiaaGreatDoorP06
set_option maxRecDepth 100000
set_option maxHeartbeats 2000000
namespace Go.Proofs.YtmehkneofinmiaaGreatDoor
open Go.RowKit
def aK (c:UInt8):Bool:=c==13||c==10
def rA:Prop:=∀ (v:List UInt8) (w:World),v.length<=4000->Calls Tryz.prog 240 #[.string ⟨v.toArray⟩,.string ⟨#[13,10]⟩] w λ e w'=>e=.returned (.bool (v.any aK))/\Below w.heap.size w w'
noncomputable def gM (k:Cnd)(line:List UInt8):Option Cnd :=
 if (Lib.cut line [58]).2.2&&(dx (Lib.cut line [58]).1&&!(Lib.cut line [58]).2.1.any aK) then dy k (Lib.cut line [58]).1 (Lib.trimS (Lib.cut line [58]).2.1 [32,9]) else none
theorem se {l:List UInt8}(h:dx l=true):∀ (j:Nat) (b:UInt8),l[j]?=some b->b.toNat<128:=by
 intro j b hb;unfold dx at h;simp only[Bool.and_eq_true] at h;have:=List.all_eq_true.1 h.1 b (List.mem_of_getElem? hb);unfold dp eQ fP at this;simp at this;omega
theorem wC (s:List UInt8)(w:World)(hs:s.length<=9223372036854775807):Calls Tryz.prog 239 #[.string ⟨s.toArray⟩] w λ e w'=>e=.returned (.bool (dx s))/\w'=w :=
 s8 ⟨s.toArray⟩ w (by rw[Lib.size_eq];simpa using hs)
theorem x9 (s:List UInt8)(w:World)(hs:s.length<=9223372036854775807):Calls Tryz.prog 242 #[.string ⟨s.toArray⟩,.string ⟨#[32,9]⟩] w λ e w'=>e=.returned (.string ⟨(Lib.trimS s [32,9]).toArray⟩)/\Below w.heap.size w w' :=
 Tryz.trim_blanks ⟨s.toArray⟩ w (by rw[Lib.size_eq];simpa using hs)
theorem oL (hA:rA)(g:Nat)(c:Cst)(k:Cnd)(line:List UInt8)(w:World)(hM:bP w)(hR:Rc w g c k)(hl:line.length<=4000) :
 Calls Tryz.prog 188 #[.pointer (some ⟨g,0,none⟩),.string ⟨line.toArray⟩] w λ e w'=>Kp g w w'/\((∃ k' c',gM k line=some k'/\e=.returned (.bool true)/\Rc w' g c' k')\/(gM k line=none/\e=.returned (.bool false))):=by
 have Ag:=hR.cm.lt;have Ab:=ms line [58];have HL:Hid (gM k line=if (Lib.cut line [58]).2.2&&(dx (Lib.cut line [58]).1&&!(Lib.cut line [58]).2.1.any aK) then dy k (Lib.cut line [58]).1 (Lib.trimS (Lib.cut line [58]).2.1 [32,9]) else none):=rfl;go_enter Tryz.func188,Tryz.ntmps188;go_wp2_with fail;refine (jA line [58] _ hM (by omega)).mono ?_;rintro e w1 ⟨rfl,A4⟩;have k1:=Kp.of_below (Nat.le_of_lt Ag) A4;have Aa:=hM.below A4;have A0:Rc w1 g c k:=⟨hR.cm.below A4,hR.m.kept k1,hR.n.kept k1,hR.s,hR.u⟩;obtain⟨⟨nm,v,ok⟩,hc⟩:∃ t,Lib.cut line [58]=t:=⟨_,rfl⟩;rw[hc] at Ab HL ⊢;simp only at Ab HL ⊢;clear A4 hR hM hc;cases ok with
 | false =>go_wp2;go_ret;exact⟨k1,Or.inr ⟨HL.out.trans rfl,rfl⟩⟩
 | true =>
   go_wp2_with fail;refine (wC nm _ (by omega)).mono ?_;rintro e w2 ⟨rfl,rfl⟩;cases hnm:dx nm with
   | false =>rw[hnm] at HL;go_wp2;go_ret;exact⟨k1,Or.inr ⟨HL.out.trans rfl,rfl⟩⟩
   | true =>
     rw[hnm] at HL;have A6:=se hnm;clear hnm;go_wp2_with fail;refine (hA v _ (by omega)).mono ?_;rintro e w3 ⟨rfl,A2⟩;have k3:=k1.trans (Kp.of_below (Nat.le_of_lt A0.cm.lt) A2);have A7:Kp g w2 w3:=Kp.of_below (Nat.le_of_lt A0.cm.lt) A2;have A1:Rc w3 g c k:=⟨A0.cm.below A2,A0.m.kept A7,A0.n.kept A7,A0.s,A0.u⟩;have A9:=Aa.below A2;clear A2 A7 A0 Aa;cases hva:v.any aK with
     | true =>rw[hva] at HL;clear hva;go_wp2;go_ret;exact⟨k3,Or.inr ⟨HL.out.trans rfl,rfl⟩⟩
     | false =>
       rw[hva] at HL;clear hva;go_wp2_with fail;refine (x9 v _ (by omega)).mono ?_;rintro e w4 ⟨rfl,A5⟩;have Ad:=jN v;have A3:Kp g w3 w4:=Kp.of_below (Nat.le_of_lt A1.cm.lt) A5;have k4:=k3.trans A3;have Ah:Rc w4 g c k:=⟨A1.cm.below A5,A1.m.kept A3,A1.n.kept A3,A1.s,A1.u⟩;have Ae:=A9.below A5;obtain⟨tv,Ac⟩:∃ tv,Lib.trimS v [32,9]=tv:=⟨_,rfl⟩;rw[Ac] at Ad HL ⊢;clear A5 A3 A1 A9 k3 Ac;go_wp2_with fail;refine (xJ g c k nm tv _ Ae Ah (by omega) A6 (by omega)).mono ?_;rintro e w5 ⟨A8,⟨k',c',hf,rfl,Af⟩|⟨hf,rfl⟩⟩
       ·go_wp2;go_ret;exact⟨k4.trans A8,Or.inl ⟨k',c',HL.out.trans hf,rfl,Af⟩⟩
       ·go_wp2;go_ret;exact⟨k4.trans A8,Or.inr ⟨HL.out.trans hf,rfl⟩⟩
noncomputable def dj:Nat->Cnd->List UInt8->Option (Cnd×List UInt8)
 | 0,_,_=>none
 | f+1,k,t=>if (Lib.cut t [13,10]).2.2 then (if (Lib.cut t [13,10]).1=[] then some (k,(Lib.cut t [13,10]).2.1) else match gM k (Lib.cut t [13,10]).1 with
    | none=>none
    | some k'=>dj f k' (Lib.cut t [13,10]).2.1) else none
def k0:Cnd:=⟨none,none,none,none⟩
def z0:Cst:=⟨false,false,.slice none 0 0,false,false,.slice none 0 0,false,0,false,0,false,false,false,false⟩
def oZ (c:Cst):Value:=.agg #[.bool false,.bool c.hm,.bool c.am,c.lm,.bool c.hn,.bool c.an,c.ln,.bool c.hs,.int .i64 c.si,.bool c.hu,.int .i64 c.ul,.bool false,.string ⟨#[]⟩,.int .i64 0]
theorem yn (t p:List UInt8)(hp:0<p.length)(h:(Lib.cut t p).2.2=true):(Lib.cut t p).2.1.length<t.length:=by
 unfold Lib.cut at h ⊢;split at h
 ·rename_i hi;rw[if_pos hi];simp only[List.length_drop];have:0<t.length:=by
   cases t with
   | nil =>
     cases p with
     | nil=>simp at hp
     | cons a b=>simp[Lib.index] at hi
   | cons a b=>simp
  omega
 ·cases h
structure Fs (w x:World)(c:Cst)(k:Cnd):Prop where
 b:Below w.heap.size w x
 rc:∀ i,i<14->x.cell? ⟨w.heap.size,i,none⟩=some (z0.cell i)
 rf:∀ i,i<14->x.frozen? ⟨w.heap.size,i,none⟩=false
 r:Rc x (w.heap.size+1) c k
theorem Fs.kept {w x y:World}{c c':Cst}{k k':Cnd}(h:Fs w x c k)(hk:Kp (w.heap.size+1) x y)(hr:Rc y (w.heap.size+1) c' k'):Fs w y c' k' :=
 ⟨h.b.trans (hk.b.mono (by omega)),λ i hi=>(hk.b.cell (p:=⟨_,i,none⟩) (Nat.lt_succ_self _)).trans (h.rc i hi),λ i hi=>(hk.b.frozen (p:=⟨_,i,none⟩) (Nat.lt_succ_self _)).trans (h.rf i hi),hr⟩
theorem Fs.made (w:World):Fs w ((w.alloc (.cells #[.bool false,.bool false,.bool false,.slice none 0 0,.bool false,.bool false,.slice none 0 0,.bool false,.int .i64 0,.bool false,.int .i64 0,.bool false,.string ⟨#[]⟩,.int .i64 0] 93)).alloc (.cells #[.bool false,.bool false,.bool false,.slice none 0 0,.bool false,.bool false,.slice none 0 0,.bool false,.int .i64 0,.bool false,.int .i64 0,.bool false,.string ⟨#[]⟩,.int .i64 0,.bool false,.bool false,.bool false,.bool false] 273)) z0 k0:=by
 refine⟨((Below.refl _ _).alloc (Nat.le_refl _) _).alloc (by simp) _,λ i hi=>?_,λ i hi=>?_,⟨λ i hi=>?_,λ i hi=>?_⟩,⟨rfl,rfl,rfl,rfl⟩,⟨rfl,rfl,rfl,rfl⟩,⟨rfl,rfl,rfl⟩,⟨rfl,rfl,rfl⟩⟩
 ·rcases (by omega:i=0\/i=1\/i=2\/i=3\/i=4\/i=5\/i=6\/i=7\/i=8\/i=9\/i=10\/i=11\/i=12\/i=13) with rfl|rfl|rfl|rfl|rfl|rfl|rfl|rfl|rfl|rfl|rfl|rfl|rfl|rfl<;>simp[z0,Cst.cell]
 ·rcases (by omega:i=0\/i=1\/i=2\/i=3\/i=4\/i=5\/i=6\/i=7\/i=8\/i=9\/i=10\/i=11\/i=12\/i=13) with rfl|rfl|rfl|rfl|rfl|rfl|rfl|rfl|rfl|rfl|rfl|rfl|rfl|rfl<;>simp
 ·rcases (by omega:i=0\/i=1\/i=2\/i=3\/i=4\/i=5\/i=6\/i=7\/i=8\/i=9\/i=10\/i=11\/i=12\/i=13\/i=14\/i=15\/i=16\/i=17) with rfl|rfl|rfl|rfl|rfl|rfl|rfl|rfl|rfl|rfl|rfl|rfl|rfl|rfl|rfl|rfl|rfl|rfl<;>simp[z0,Cst.cell]
 ·rcases (by omega:i=0\/i=1\/i=2\/i=3\/i=4\/i=5\/i=6\/i=7\/i=8\/i=9\/i=10\/i=11\/i=12\/i=13\/i=14\/i=15\/i=16\/i=17) with rfl|rfl|rfl|rfl|rfl|rfl|rfl|rfl|rfl|rfl|rfl|rfl|rfl|rfl|rfl|rfl|rfl|rfl<;>simp
theorem Rl.slice {x:World}{g:Nat}{h a:Bool}{l:Value}{s:Bool}{o:Option (Bool×dz)}(r:Rl x g h a l s o):∃ b n cp,l=.slice b n cp:=by
 obtain⟨_,_,r3⟩:=r;cases o with
 | none=>exact⟨_,_,_,r3.2⟩
 | some p =>
   obtain⟨b,t⟩:=p;rcases r3.2.2 with ⟨e,_⟩|⟨q,A1,A0,e,_⟩
   ·exact⟨_,_,_,e⟩
   ·exact⟨_,_,_,e⟩
theorem Rl.set {x:World}{g b i:Nat}{h a:Bool}{l u:Value}{s:Bool}{o:Option (Bool×dz)}(r:Rl x g h a l s o)(hb:b<g+1):Rl (x.setCell ⟨b,i,none⟩ u) g h a l s o:=by
 obtain⟨r1,r2,r3⟩:=r;refine⟨r1,r2,?_⟩;cases o with
 | none=>exact r3
 | some p=>exact⟨r3.1,aZ r3.2 (by show b<g+1;exact hb)⟩
theorem mi (hA:rA)(text:List UInt8)(w:World)(hM:bP w)(hl:text.length<=4000) :
 Calls Tryz.prog 125 #[.string ⟨text.toArray⟩] w λ e w'=>Below w.heap.size w w' /\
  ((∃ k c body,dj (text.length+1) k0 text=some (k,body)/\e=.returned (.tuple #[oZ c,.string ⟨body.toArray⟩,.bool true])/\Rl w' (w.heap.size+1) c.hm c.am c.lm c.s0 k.m/\Rl w' (w.heap.size+1) c.hn c.an c.ln c.s1 k.n/\Rd2 c.hs c.si c.s2 k.s/\Rd2 c.hu c.ul c.s3 k.u) \/
   (dj (text.length+1) k0 text=none/\e=.returned (.tuple #[oZ z0,.string ⟨#[]⟩,.bool false]))):=by
 have B2:=Fs.made w;go_enter Tryz.func125,Tryz.ntmps125;go_wp2;go_loopw [0] (λ tx wr=>∃ (t:List UInt8) (f:Nat) (c:Cst) (k:Cnd),tx=.string ⟨t.toArray⟩/\t.length<=4000/\t.length<f/\Hid (dj (text.length+1) k0 text=dj f k t)/\Fs w wr c k) (λ tx _=>match tx with|.string b=>b.size|_=>0);case atStart=>exact⟨text,text.length+1,z0,k0,rfl,hl,by omega,rfl,B2⟩
 case round =>
  obtain⟨t,f,c,k,rfl,ht,hf,hx,fs⟩:=hrel;obtain⟨f,rfl⟩:∃ f',f=f'+1:=⟨f-1,by omega⟩
  have HX:Hid (dj (text.length+1) k0 text=if (Lib.cut t [13,10]).2.2 then (if (Lib.cut t [13,10]).1=[] then some (k,(Lib.cut t [13,10]).2.1) else match gM k (Lib.cut t [13,10]).1 with
   | none=>none
   | some k'=>dj f k' (Lib.cut t [13,10]).2.1) else none):=hx.out.trans rfl
  have Az:=ms t [13,10];have An:=yn t [13,10] (by decide);clear hx;go_wp2_with fail;refine (jA t [13,10] _ (hM.below fs.b) (by omega)).mono ?_;rintro e w1 ⟨rfl,Ap⟩;have Am:Kp (w.heap.size+1) wr w1:=Kp.of_below (Nat.le_of_lt fs.r.cm.lt) Ap;have Ay:=fs.kept Am (⟨fs.r.cm.below Ap,fs.r.m.kept Am,fs.r.n.kept Am,fs.r.s,fs.r.u⟩:Rc w1 (w.heap.size+1) c k);clear fs Ap Am;have fs:=Ay;clear Ay;obtain⟨⟨Ag,A5,ok⟩,hc⟩:∃ t',Lib.cut t [13,10]=t':=⟨_,rfl⟩;rw[hc] at Az An HX ⊢;simp only at Az An HX ⊢;clear hc;cases ok with
  | false =>have Ae:=fs.rc 0 (by omega);have At:=fs.rf 0 (by omega);have Ab:=fs.rc 1 (by omega);have rf1:=fs.rf 1 (by omega);have A9:=fs.rc 2 (by omega);have rf2:=fs.rf 2 (by omega);have Af:=fs.rc 3 (by omega);have rf3:=fs.rf 3 (by omega);have Aa:=fs.rc 4 (by omega);have rf4:=fs.rf 4 (by omega);have Ad:=fs.rc 5 (by omega);have rf5:=fs.rf 5 (by omega);have Ac:=fs.rc 6 (by omega);have rf6:=fs.rf 6 (by omega);have A6:=fs.rc 7 (by omega);have Ax:=fs.rf 7 (by omega);have A8:=fs.rc 8 (by omega);have Av:=fs.rf 8 (by omega);have A7:=fs.rc 9 (by omega);have B0:=fs.rf 9 (by omega);have A3:=fs.rc 10 (by omega);have Ah:=fs.rf 10 (by omega);have A2:=fs.rc 11 (by omega);have Aj:=fs.rf 11 (by omega);have A1:=fs.rc 12 (by omega);have Al:=fs.rf 12 (by omega);have A4:=fs.rc 13 (by omega);have Ai:=fs.rf 13 (by omega);simp only[z0,Cst.cell] at Ae Ab A9 Af Aa Ad Ac A6 A8 A7 A3 A2 A1 A4;go_wp2;exact bodyPost_ret (v:=.tuple #[oZ z0,.string ⟨#[]⟩,.bool false]) (by simp[results,Tryz.results125,go_sem,oZ,z0,Ae,Ab,A9,Af,Aa,Ad,Ac,A6,A8,A7,A3,A2,A1,A4]) rfl ⟨((((((((((((((fs.b).setCell (Nat.le_refl _) _).setCell (Nat.le_refl _) _).setCell (Nat.le_refl _) _).setCell (Nat.le_refl _) _).setCell (Nat.le_refl _) _).setCell (Nat.le_refl _) _).setCell (Nat.le_refl _) _).setCell (Nat.le_refl _) _).setCell (Nat.le_refl _) _).setCell (Nat.le_refl _) _).setCell (Nat.le_refl _) _).setCell (Nat.le_refl _) _).setCell (Nat.le_refl _) _).setCell (Nat.le_refl _) _,Or.inr ⟨HX.out.trans rfl,rfl⟩⟩
  | true =>
    have B5:=An rfl;clear An;rw[if_pos rfl] at HX;by_cases hl0:Ag=[]
    ·subst hl0;rw[if_pos rfl] at HX;obtain⟨b1,n1,p1,e1⟩:=fs.r.m.slice;obtain⟨b2,n2,p2,e2⟩:=fs.r.n.slice;have Ae:=fs.rc 0 (by omega);have At:=fs.rf 0 (by omega);have Ab:=fs.rc 1 (by omega);have rf1:=fs.rf 1 (by omega);have A9:=fs.rc 2 (by omega);have rf2:=fs.rf 2 (by omega);have Af:=fs.rc 3 (by omega);have rf3:=fs.rf 3 (by omega);have Aa:=fs.rc 4 (by omega);have rf4:=fs.rf 4 (by omega);have Ad:=fs.rc 5 (by omega);have rf5:=fs.rf 5 (by omega);have Ac:=fs.rc 6 (by omega);have rf6:=fs.rf 6 (by omega);have A6:=fs.rc 7 (by omega);have Ax:=fs.rf 7 (by omega);have A8:=fs.rc 8 (by omega);have Av:=fs.rf 8 (by omega);have A7:=fs.rc 9 (by omega);have B0:=fs.rf 9 (by omega);have A3:=fs.rc 10 (by omega);have Ah:=fs.rf 10 (by omega);have A2:=fs.rc 11 (by omega);have Aj:=fs.rf 11 (by omega);have A1:=fs.rc 12 (by omega);have Al:=fs.rf 12 (by omega);have A4:=fs.rc 13 (by omega);have Ai:=fs.rf 13 (by omega);simp only[z0,Cst.cell] at Ae Ab A9 Af Aa Ad Ac A6 A8 A7 A3 A2 A1 A4;have Ba:=fs.r.cm.c 0 (by omega);have Bc:=fs.r.cm.c 1 (by omega);have Bd:=fs.r.cm.c 2 (by omega);have Au:=fs.r.cm.c 3 (by omega);have B8:=fs.r.cm.c 4 (by omega);have B3:=fs.r.cm.c 5 (by omega);have Aw:=fs.r.cm.c 6 (by omega);have B7:=fs.r.cm.c 7 (by omega);have Bf:=fs.r.cm.c 8 (by omega);have B9:=fs.r.cm.c 9 (by omega);have Ao:=fs.r.cm.c 10 (by omega);have As:=fs.r.cm.c 11 (by omega);have Aq:=fs.r.cm.c 12 (by omega);have Ar:=fs.r.cm.c 13 (by omega);simp only[Cst.cell] at Ba Bc Bd Au B8 B3 Aw B7 Bf B9 Ao As Aq Ar;rw[e1] at Au;rw[e2] at Aw;have Be:Hid _:=e1;have B4:Hid _:=e2;clear e1 e2;go_wp2;exact bodyPost_ret (v:=.tuple #[.agg #[.bool false,.bool c.hm,.bool c.am,.slice b1 n1 p1,.bool c.hn,.bool c.an,.slice b2 n2 p2,.bool c.hs,.int .i64 c.si,.bool c.hu,.int .i64 c.ul,.bool false,.string ⟨#[]⟩,.int .i64 0],.string ⟨A5.toArray⟩,.bool true]) (by simp[results,Tryz.results125,go_sem,Ae,Ab,A9,Af,Aa,Ad,Ac,A6,A8,A7,A3,A2,A1,A4]) rfl
      ⟨((((((((((((((fs.b).setCell (Nat.le_refl _) _).setCell (Nat.le_refl _) _).setCell (Nat.le_refl _) _).setCell (Nat.le_refl _) _).setCell (Nat.le_refl _) _).setCell (Nat.le_refl _) _).setCell (Nat.le_refl _) _).setCell (Nat.le_refl _) _).setCell (Nat.le_refl _) _).setCell (Nat.le_refl _) _).setCell (Nat.le_refl _) _).setCell (Nat.le_refl _) _).setCell (Nat.le_refl _) _).setCell (Nat.le_refl _) _,Or.inl ⟨k,c,A5,HX.out,by unfold oZ;rw[Be.out,B4.out],((((((((((((((fs.r.m).set (by omega)).set (by omega)).set (by omega)).set (by omega)).set (by omega)).set (by omega)).set (by omega)).set (by omega)).set (by omega)).set (by omega)).set (by omega)).set (by omega)).set (by omega)).set (by omega),((((((((((((((fs.r.n).set (by omega)).set (by omega)).set (by omega)).set (by omega)).set (by omega)).set (by omega)).set (by omega)).set (by omega)).set (by omega)).set (by omega)).set (by omega)).set (by omega)).set (by omega)).set (by omega),fs.r.s,fs.r.u⟩⟩
    ·(have Bb:(Ag==[])=false:=by simpa using hl0);rw[if_neg hl0] at HX;clear hl0;go_wp2_with fail;refine (oL hA (w.heap.size+1) c k Ag _ (hM.below fs.b) fs.r (by omega)).mono ?_;rintro e w2 ⟨A0,⟨k',c',Ak,rfl,B1⟩|⟨Ak,rfl⟩⟩
     ·have Bg:=fs.kept A0 B1;rw[Ak] at HX;clear Ak fs A0 B1;go_wp2;refine⟨⟨A5,f,c',k',rfl,by omega,?_,HX.out,Bg⟩,?_⟩
      ·omega
      ·show (⟨A5.toArray⟩:ByteArray).size<(⟨t.toArray⟩:ByteArray).size;rw[Lib.size_eq,Lib.size_eq];simpa using B5
     ·rw[Ak] at HX;have B6:=fs.b.trans (A0.b.mono (by omega));have Ae:=(A0.b.cell (p:=⟨w.heap.size,0,none⟩) (Nat.lt_succ_self _)).trans (fs.rc 0 (by omega));have At:=(A0.b.frozen (p:=⟨w.heap.size,0,none⟩) (Nat.lt_succ_self _)).trans (fs.rf 0 (by omega));have Ab:=(A0.b.cell (p:=⟨w.heap.size,1,none⟩) (Nat.lt_succ_self _)).trans (fs.rc 1 (by omega));have rf1:=(A0.b.frozen (p:=⟨w.heap.size,1,none⟩) (Nat.lt_succ_self _)).trans (fs.rf 1 (by omega));have A9:=(A0.b.cell (p:=⟨w.heap.size,2,none⟩) (Nat.lt_succ_self _)).trans (fs.rc 2 (by omega));have rf2:=(A0.b.frozen (p:=⟨w.heap.size,2,none⟩) (Nat.lt_succ_self _)).trans (fs.rf 2 (by omega));have Af:=(A0.b.cell (p:=⟨w.heap.size,3,none⟩) (Nat.lt_succ_self _)).trans (fs.rc 3 (by omega));have rf3:=(A0.b.frozen (p:=⟨w.heap.size,3,none⟩) (Nat.lt_succ_self _)).trans (fs.rf 3 (by omega));have Aa:=(A0.b.cell (p:=⟨w.heap.size,4,none⟩) (Nat.lt_succ_self _)).trans (fs.rc 4 (by omega));have rf4:=(A0.b.frozen (p:=⟨w.heap.size,4,none⟩) (Nat.lt_succ_self _)).trans (fs.rf 4 (by omega));have Ad:=(A0.b.cell (p:=⟨w.heap.size,5,none⟩) (Nat.lt_succ_self _)).trans (fs.rc 5 (by omega));have rf5:=(A0.b.frozen (p:=⟨w.heap.size,5,none⟩) (Nat.lt_succ_self _)).trans (fs.rf 5 (by omega));have Ac:=(A0.b.cell (p:=⟨w.heap.size,6,none⟩) (Nat.lt_succ_self _)).trans (fs.rc 6 (by omega));have rf6:=(A0.b.frozen (p:=⟨w.heap.size,6,none⟩) (Nat.lt_succ_self _)).trans (fs.rf 6 (by omega));have A6:=(A0.b.cell (p:=⟨w.heap.size,7,none⟩) (Nat.lt_succ_self _)).trans (fs.rc 7 (by omega));have Ax:=(A0.b.frozen (p:=⟨w.heap.size,7,none⟩) (Nat.lt_succ_self _)).trans (fs.rf 7 (by omega));have A8:=(A0.b.cell (p:=⟨w.heap.size,8,none⟩) (Nat.lt_succ_self _)).trans (fs.rc 8 (by omega));have Av:=(A0.b.frozen (p:=⟨w.heap.size,8,none⟩) (Nat.lt_succ_self _)).trans (fs.rf 8 (by omega));have A7:=(A0.b.cell (p:=⟨w.heap.size,9,none⟩) (Nat.lt_succ_self _)).trans (fs.rc 9 (by omega));have B0:=(A0.b.frozen (p:=⟨w.heap.size,9,none⟩) (Nat.lt_succ_self _)).trans (fs.rf 9 (by omega));have A3:=(A0.b.cell (p:=⟨w.heap.size,10,none⟩) (Nat.lt_succ_self _)).trans (fs.rc 10 (by omega));have Ah:=(A0.b.frozen (p:=⟨w.heap.size,10,none⟩) (Nat.lt_succ_self _)).trans (fs.rf 10 (by omega));have A2:=(A0.b.cell (p:=⟨w.heap.size,11,none⟩) (Nat.lt_succ_self _)).trans (fs.rc 11 (by omega));have Aj:=(A0.b.frozen (p:=⟨w.heap.size,11,none⟩) (Nat.lt_succ_self _)).trans (fs.rf 11 (by omega));have A1:=(A0.b.cell (p:=⟨w.heap.size,12,none⟩) (Nat.lt_succ_self _)).trans (fs.rc 12 (by omega));have Al:=(A0.b.frozen (p:=⟨w.heap.size,12,none⟩) (Nat.lt_succ_self _)).trans (fs.rf 12 (by omega));have A4:=(A0.b.cell (p:=⟨w.heap.size,13,none⟩) (Nat.lt_succ_self _)).trans (fs.rc 13 (by omega));have Ai:=(A0.b.frozen (p:=⟨w.heap.size,13,none⟩) (Nat.lt_succ_self _)).trans (fs.rf 13 (by omega));simp only[z0,Cst.cell] at Ae Ab A9 Af Aa Ad Ac A6 A8 A7 A3 A2 A1 A4;clear Ak fs A0;go_wp2;exact bodyPost_ret (v:=.tuple #[oZ z0,.string ⟨#[]⟩,.bool false]) (by simp[results,Tryz.results125,go_sem,oZ,z0,Ae,Ab,A9,Af,Aa,Ad,Ac,A6,A8,A7,A3,A2,A1,A4]) rfl ⟨((((((((((((((B6).setCell (Nat.le_refl _) _).setCell (Nat.le_refl _) _).setCell (Nat.le_refl _) _).setCell (Nat.le_refl _) _).setCell (Nat.le_refl _) _).setCell (Nat.le_refl _) _).setCell (Nat.le_refl _) _).setCell (Nat.le_refl _) _).setCell (Nat.le_refl _) _).setCell (Nat.le_refl _) _).setCell (Nat.le_refl _) _).setCell (Nat.le_refl _) _).setCell (Nat.le_refl _) _).setCell (Nat.le_refl _) _,Or.inr ⟨HX.out,rfl⟩⟩
end Go.Proofs.YtmehkneofinmiaaGreatDoor

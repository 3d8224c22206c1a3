/-part 3-/
import Derived.Test.YtmehkneofinmiaaGreatDoorP01
import Derived.Test.YtmehkneofinmiaaGreatDoorP02
set_option maxRecDepth 100000
set_option maxHeartbeats 1000000
namespace Go.Proofs.YtmehkneofinmiaaGreatDoor
open Go.RowKit
def tbI (c:Int):Bool:=c==33||(decide (35<=c)&&decide (c<=126))||decide (128<=c)
def tb (c:UInt8):Bool:=tbI c.toNat
def dJ (l:List UInt8):Bool:=l.all tb
theorem nz (c:Int)(w:World) :
 Calls Tryz.prog 344 #[.int .u8 c] w λ e w'=>e=.returned (.bool (tbI c))/\w'=w:=by
 go_enter Tryz.func344,Tryz.ntmps344;go_wp2;all_goals go_ret
 all_goals refine⟨aw ?_,rfl⟩
 all_goals first|(simp_all [tbI];done)|(rw[Bool.eq_iff_iff];simp[tbI];omega)
theorem nG (s:ByteArray)(w:World)(hs:s.size<=9223372036854775807) :
 Calls Tryz.prog 334 #[.string s] w λ e w'=>e=.returned (.bool (dJ s.data.toList))/\w'=w:=by
 go_enter Tryz.func334,Tryz.ntmps334;go_wp2;go_loop [6] (λ i=>∃ k:Nat,k<=s.size/\i=.int .i64 k/\Hid ((s.data.toList.take k).all tb=true)) (λ i=>s.size-(intOf i).toNat);case atStart=>exact⟨0,Nat.zero_le _,rfl,rfl⟩
 case round =>
  obtain⟨k,hk,rfl,ha⟩:=hrel;by_cases hlt:k<s.size
  ·(have HA:Hid ((s.data.toList.take (k+1)).all tb=tb s[k]):=by have:=ha.out;show _=_;rw[aV s k hlt,List.all_append,this];simp);(have HN:Hid (tb s[k]=false->dJ s.data.toList=false):=λ hd=>by unfold dJ;rw[List.all_eq_false];exact⟨s[k],List.getElem_mem (l:=s.data.toList) (by simpa using hlt),by simp[hd]⟩);go_wp2_with (go_at_call 344;refine (nz _ _).mono ?_;rintro e w' ⟨rfl,rfl⟩)
   ·go_ret;have h:=‹(!tbI _)=true›;exact⟨aw (HN.out (by simpa [tb] using h)).symm,rfl⟩
   ·have h:=‹(!tbI _)=false›;exact⟨⟨k+1,by omega,by go_num,HA.out.trans (by simpa [tb] using h)⟩,by simp[intOf];omega⟩
  ·go_wp2;go_ret;have:=ha.out;rw[List.take_of_length_le (by simp;omega)] at this;exact⟨aw this.symm,rfl⟩
def bL (l:List UInt8):List UInt8:=Lib.trimLeftS l [32,9]
theorem pH (s:ByteArray)(w:World) :
 Calls Tryz.prog 315 #[.string s] w λ e w'=>e=.returned (.tuple #[.string ⟨(bL (Lib.trimPrefix (bL s.data.toList) [44])).toArray⟩,.bool (Lib.hasPrefix (bL s.data.toList) [44])])/\Below w.heap.size w w':=by
 go_enter Tryz.func315,Tryz.ntmps315;go_wp2_with fail;refine (Tryz.trimLeft_blanks _ _).mono ?_;rintro e w1 ⟨rfl,A0⟩;go_wp2_with fail;refine (Tryz.strings_CutPrefix _ _ _).mono ?_;rintro e w2 ⟨rfl,rfl⟩;go_wp2_with fail;refine (Tryz.trimLeft_blanks _ _).mono ?_;rintro e w3 ⟨rfl,A1⟩;go_wp2;go_ret2;exact⟨rfl,A0.trans (A1.mono A0.size)⟩
theorem iM (s:ByteArray)(w:World)(hs:s.size<=281474976710656) :
 Calls Tryz.prog 296 #[.string s] w λ e w'=>e=.returned (.string s)/\Below w.heap.size w w':=by
 go_enter Tryz.func296,Tryz.ntmps296;go_wp2_with fail;refine (Tryz.stringslite_Clone _ _ hs).mono ?_;rintro e w1 ⟨rfl,A0⟩;go_wp2;go_ret;exact⟨rfl,A0⟩
def fe (l:List UInt8):Option (Bool×List UInt8×List UInt8) :=
 let q:=Lib.trimPrefix l [87,47]
 let c:=Lib.cut (Lib.trimPrefix q [34]) [34]
 if Lib.hasPrefix q [34]&&(c.2.2&&dJ c.1) then some (Lib.hasPrefix l [87,47],c.1,c.2.1) else none
def bP (w:World):Prop:=∃ m:Int,w.cell? ⟨1,0,none⟩=some (.int .i64 m)
theorem eV {w:World}{b o:Nat}{v:Value}(h:w.cell? ⟨b,o,none⟩=some v):b<w.heap.size:=World.block_lt_of_cell? _ _ h
theorem bP.below {w w':World}(h:bP w)(hb:Below w.heap.size w w'):bP w':=by
 obtain⟨m,hm⟩:=h;exact⟨m,(hb.cell (p:=⟨1,0,none⟩) (eV hm)).trans hm⟩
def iX (f:FuncId)(args:Array Value)(v:Value)(T:World->Prop):Prop:=∀ w,T w->Calls Tryz.prog f args w λ e w'=>e=.returned v/\Below w.heap.size w w'
def A6:Bool->Bool->ByteArray->ByteArray->Value
 | true,weak,name,behind=>.tuple #[.agg #[.bool weak,.string name],.string behind,.bool true]
 | false,_,_,_=>.tuple #[.agg #[.bool false,.string ⟨#[]⟩],.string ⟨#[]⟩,.bool false]
structure Bx (w x:World):Prop where
 b:Below w.heap.size w x
 c0:x.cell? ⟨w.heap.size,0,none⟩=some (.bool false)
 c1:x.cell? ⟨w.heap.size,1,none⟩=some (.string ⟨#[]⟩)
 f0:x.frozen? ⟨w.heap.size,0,none⟩=false
 f1:x.frozen? ⟨w.heap.size,1,none⟩=false
 lt:w.heap.size<x.heap.size
theorem Bx.made (w:World):Bx w (w.alloc (.cells #[.bool false,.string ⟨#[]⟩] 303)) :=
 ⟨(Below.refl _ _).alloc (Nat.le_refl _) _,by simp,by simp,by simp,by simp,by simp⟩
theorem Bx.below {w x y:World}(h:Bx w x)(hb:Below x.heap.size x y):Bx w y:=by
 have lt:=h.lt;have k:=hb.size;exact⟨h.b.trans (hb.mono (by omega)),(hb.cell (p:=⟨_,0,none⟩) lt).trans h.c0,(hb.cell (p:=⟨_,1,none⟩) lt).trans h.c1,(hb.frozen (p:=⟨_,0,none⟩) lt).trans h.f0,(hb.frozen (p:=⟨_,1,none⟩) lt).trans h.f1,by omega⟩
theorem sT (s q inner name behind:ByteArray)(weak opened closed good:Bool)(w:World)(hM:bP w)
 (h1:iX 185 #[.string s,.string ⟨#[87,47]⟩] (.tuple #[.string q,.bool weak]) bP)(h2:iX 185 #[.string q,.string ⟨#[34]⟩] (.tuple #[.string inner,.bool opened]) bP)
 (h3:iX 122 #[.string inner,.string ⟨#[34]⟩] (.tuple #[.string name,.string behind,.bool closed]) bP)(h4:iX 334 #[.string name] (.bool good) bP)(h5:iX 296 #[.string name] (.string name) bP) :
 Calls Tryz.prog 314 #[.string s] w λ e w'=>e=.returned (A6 (opened&&(closed&&good)) weak name behind)/\Below w.heap.size w w':=by
 have bx:=Bx.made w;have H1:Hid _:=h1;have H2:Hid _:=h2;have H3:Hid _:=h3;have H4:Hid _:=h4;have H5:Hid _:=h5;clear h1 h2 h3 h4 h5;go_enter Tryz.func314,Tryz.ntmps314;go_wp2_with fail;refine Calls.mono (H1.out _ (hM.below bx.b)) ?_;rintro e w1 ⟨rfl,A4⟩;have A3:=bx.below A4;clear bx A4;go_wp2_with fail;refine Calls.mono (H2.out _ (hM.below A3.b)) ?_;rintro e w2 ⟨rfl,A8⟩;have A1:=A3.below A8;clear A3 A8;cases opened with
 | false =>obtain⟨q1,q2,q3,q4,q5,q6⟩:=A1;go_wp2;exact bodyPost_ret (v:=.tuple #[.agg #[.bool false,.string ⟨#[]⟩],.string ⟨#[]⟩,.bool false]) (by simp[results,Tryz.results314,go_sem,q2,q3]) rfl ⟨rfl,(q1.setCell (Nat.le_refl _) _).setCell (Nat.le_refl _) _⟩
 | true =>
   go_wp2_with fail;refine Calls.mono (H3.out _ (hM.below A1.b)) ?_;rintro e w3 ⟨rfl,A7⟩;have A2:=A1.below A7;clear A1 A7;cases closed with
   | false =>obtain⟨q1,q2,q3,q4,q5,q6⟩:=A2;go_wp2;exact bodyPost_ret (v:=.tuple #[.agg #[.bool false,.string ⟨#[]⟩],.string ⟨#[]⟩,.bool false]) (by simp[results,Tryz.results314,go_sem,q2,q3]) rfl ⟨rfl,(q1.setCell (Nat.le_refl _) _).setCell (Nat.le_refl _) _⟩
   | true =>
     go_wp2_with fail;refine Calls.mono (H4.out _ (hM.below A2.b)) ?_;rintro e w4 ⟨rfl,A5⟩;have A0:=A2.below A5;clear A2 A5;cases good with
     | false =>obtain⟨q1,q2,q3,q4,q5,q6⟩:=A0;go_wp2;exact bodyPost_ret (v:=.tuple #[.agg #[.bool false,.string ⟨#[]⟩],.string ⟨#[]⟩,.bool false]) (by simp[results,Tryz.results314,go_sem,q2,q3]) rfl ⟨rfl,(q1.setCell (Nat.le_refl _) _).setCell (Nat.le_refl _) _⟩
     | true =>go_wp2_with fail;refine Calls.mono (H5.out _ (hM.below A0.b)) ?_;rintro e w5 ⟨rfl,A9⟩;have Aa:=A0.below A9;clear A0 A9;obtain⟨q1,q2,q3,q4,q5,q6⟩:=Aa;go_wp2;exact bodyPost_ret (v:=.tuple #[.agg #[.bool weak,.string name],.string behind,.bool true]) (by simp[results,Tryz.results314,go_sem,q2,q3]) rfl ⟨rfl,(q1.setCell (Nat.le_refl _) _).setCell (Nat.le_refl _) _⟩
theorem mu (l:List UInt8):fe l=if Lib.hasPrefix (Lib.trimPrefix l [87,47]) [34]&&((Lib.cut (Lib.trimPrefix (Lib.trimPrefix l [87,47]) [34]) [34]).2.2&&dJ (Lib.cut (Lib.trimPrefix (Lib.trimPrefix l [87,47]) [34]) [34]).1)
 then some (Lib.hasPrefix l [87,47],(Lib.cut (Lib.trimPrefix (Lib.trimPrefix l [87,47]) [34]) [34]).1,(Lib.cut (Lib.trimPrefix (Lib.trimPrefix l [87,47]) [34]) [34]).2.1) else none:=rfl
theorem ud (l p:List UInt8):(Lib.cut l p).1.length<=l.length:=by
 unfold Lib.cut;split
 ·simp;omega
 ·exact Nat.le_refl _
theorem rZ (s:ByteArray)(w:World)(hM:bP w)(hs:s.size<4294967281) :
 Calls Tryz.prog 314 #[.string s] w λ e w'=>((∃ weak name behind,fe s.data.toList=some (weak,name,behind)/\e=.returned (.tuple #[.agg #[.bool weak,.string ⟨name.toArray⟩],.string ⟨behind.toArray⟩,.bool true])) \/
  (fe s.data.toList=none/\e=.returned (.tuple #[.agg #[.bool false,.string ⟨#[]⟩],.string ⟨#[]⟩,.bool false])))/\Below w.heap.size w w':=by
 have z1:=Lib.trimPrefix_le s.data.toList [87,47];have z2:=Lib.trimPrefix_le (Lib.trimPrefix s.data.toList [87,47]) [34];have z3:=ud (Lib.trimPrefix (Lib.trimPrefix s.data.toList [87,47]) [34]) [34];have z0:=Lib.size_eq s;have g1:iX 185 #[.string s,.string ⟨#[87,47]⟩] (.tuple #[.string ⟨(Lib.trimPrefix s.data.toList [87,47]).toArray⟩,.bool (Lib.hasPrefix s.data.toList [87,47])]) bP:=λ w _=>by refine (Tryz.strings_CutPrefix s ⟨#[87,47]⟩ w).mono ?_;rintro e w' ⟨rfl,rfl⟩;exact⟨rfl,Below.refl _ _⟩
 have g2:iX 185 #[.string ⟨(Lib.trimPrefix s.data.toList [87,47]).toArray⟩,.string ⟨#[34]⟩] (.tuple #[.string ⟨(Lib.trimPrefix (Lib.trimPrefix s.data.toList [87,47]) [34]).toArray⟩,.bool (Lib.hasPrefix (Lib.trimPrefix s.data.toList [87,47]) [34])]) bP:=λ w _=>by refine (Tryz.strings_CutPrefix ⟨(Lib.trimPrefix s.data.toList [87,47]).toArray⟩ ⟨#[34]⟩ w).mono ?_;rintro e w' ⟨rfl,rfl⟩;exact⟨rfl,Below.refl _ _⟩
 generalize hq:Lib.trimPrefix (Lib.trimPrefix s.data.toList [87,47]) [34]=inner at z2 z3 g2;have g3:iX 122 #[.string ⟨inner.toArray⟩,.string ⟨#[34]⟩] (.tuple #[.string ⟨(Lib.cut inner [34]).1.toArray⟩,.string ⟨(Lib.cut inner [34]).2.1.toArray⟩,.bool (Lib.cut inner [34]).2.2]) bP:=λ w hw=>by obtain⟨m,hm⟩:=hw;refine (Tryz.strings_Cut ⟨inner.toArray⟩ ⟨#[34]⟩ m w (by rw[Lib.size_eq];simp;omega) hm).mono ?_;rintro e w' ⟨rfl,n,rfl⟩;exact⟨rfl,below_drewN (Below.refl _ _) n⟩
 generalize hc:Lib.cut inner [34]=c at z3 g3;have g4:iX 334 #[.string ⟨c.1.toArray⟩] (.bool (dJ c.1)) bP:=λ w _=>by refine (nG ⟨c.1.toArray⟩ w (by rw[Lib.size_eq];simp;omega)).mono ?_;rintro e w' ⟨rfl,rfl⟩;exact⟨rfl,Below.refl _ _⟩
 have g5:iX 296 #[.string ⟨c.1.toArray⟩] (.string ⟨c.1.toArray⟩) bP:=λ w _=>iM ⟨c.1.toArray⟩ w (by rw[Lib.size_eq];simp;omega);refine (sT s _ _ _ _ _ _ _ _ w hM g1 g2 g3 g4 g5).mono ?_;rintro e w' ⟨rfl,hb⟩;refine⟨?_,hb⟩;rw[mu,hq,hc];cases hB:(Lib.hasPrefix (Lib.trimPrefix s.data.toList [87,47]) [34]&&(c.2.2&&dJ c.1)) with
 | true=>exact Or.inl ⟨_,_,_,rfl,rfl⟩
 | false=>exact Or.inr ⟨rfl,rfl⟩
abbrev dz:=List (Bool×List UInt8)
def ct:Nat->List UInt8->Option dz
 | 0,_=>none
 | k+1,l=>match fe l with
   | none=>none
   | some (wk,nm,beh)=>if beh=[] then some [(wk,nm)] else
     if Lib.hasPrefix (bL beh) [44] then (ct k (bL (Lib.trimPrefix (bL beh) [44]))).map ((wk,nm)::·) else none
def bW (a:dz):List Value:=a.flatMap λ t=>[.bool t.1,.string ⟨t.2.toArray⟩]
theorem ia (a:dz)(x:Bool×List UInt8):bW (a++[x])=bW a++[.bool x.1,.string ⟨x.2.toArray⟩]:=by simp[bW]
theorem fl {w w':World}{base:Nat}{e:TypeId}{size:Nat}{v:Value}{n:Nat}{xs:List Value}(h:w.ownsRow base e size v n xs)(hb:Below w.heap.size w w'):w'.ownsRow base e size v n xs:=by
 refine⟨h.1,?_⟩;rcases h.2 with h0|⟨g,A1,A0,hv,hg,hh,r⟩
 ·exact Or.inl h0
 ·have:g<w.heap.size:=(gL hh);exact Or.inr ⟨g,A1,A0,hv,hg,by rw[hb.block g this];exact hh,r⟩
theorem vq {l:List UInt8}{wk:Bool}{nm beh:List UInt8}(h:fe l=some (wk,nm,beh)):beh.length<l.length/\nm.length<l.length:=by
 rw[mu] at h;have z1:=Lib.trimPrefix_le l [87,47];generalize Lib.trimPrefix l [87,47]=q at h z1;cases hq:Lib.hasPrefix q [34] with
 | false=>simp[hq] at h
 | true =>
   (have A2:Lib.trimPrefix q [34]=q.drop 1:=by unfold Lib.trimPrefix;rw[if_pos hq];rfl);have A3:1<=q.length:=by
    cases q with
    | nil=>simp[Lib.hasPrefix] at hq
    | cons a b=>simp
   rw[A2] at h;have A1:(Lib.cut (q.drop 1) [34]).1.length<=(q.drop 1).length:=ud _ _;have A0:(Lib.cut (q.drop 1) [34]).2.1.length<=(q.drop 1).length:=by
    unfold Lib.cut;split
    ·simp;omega
    ·simp
   generalize Lib.cut (q.drop 1) [34]=c at h A1 A0;split at h
   ·simp only[Option.some.injEq,Prod.mk.injEq] at h;obtain⟨_,rfl,rfl⟩:=h;simp at A1 A0;omega
   ·cases h
theorem qc (l:List UInt8):(bL l).length<=l.length:=(List.dropWhile_suffix _).length_le
structure Tg (w x:World):Prop where
 b:Below (w.heap.size+1) (w.alloc (.cells #[.bool false,.slice none 0 0] 91)) x
 z:w.heap.size+1<=x.heap.size
theorem Tg.made (w:World):Tg w (w.alloc (.cells #[.bool false,.slice none 0 0] 91)):=⟨Below.refl _ _,by simp⟩
theorem Tg.below {w x y:World}(h:Tg w x)(hb:Below x.heap.size x y):Tg w y:=⟨h.b.trans (hb.mono h.z),by have:=hb.size;have:=h.z;omega⟩
theorem Tg.old {w x:World}(h:Tg w x):Below w.heap.size w x:=((Below.refl _ _).alloc (Nat.le_refl _) _).trans (h.b.mono (by omega))
theorem Tg.c0 {w x:World}(h:Tg w x):x.cell? ⟨w.heap.size,0,none⟩=some (.bool false):=(h.b.cell (p:=⟨_,0,none⟩) (by simp)).trans (by simp)
theorem Tg.c1 {w x:World}(h:Tg w x):x.cell? ⟨w.heap.size,1,none⟩=some (.slice none 0 0):=(h.b.cell (p:=⟨_,1,none⟩) (by simp)).trans (by simp)
theorem Tg.f0 {w x:World}(h:Tg w x):x.frozen? ⟨w.heap.size,0,none⟩=false:=(h.b.frozen (p:=⟨_,0,none⟩) (by simp)).trans (by simp)
theorem Tg.f1 {w x:World}(h:Tg w x):x.frozen? ⟨w.heap.size,1,none⟩=false:=(h.b.frozen (p:=⟨_,1,none⟩) (by simp)).trans (by simp)
theorem zM:(Tryz.prog.info? 303).map (λ i=>(i.size,i.bytes,i.zero))=some (2,24,some (.agg #[.bool false,.string ⟨#[]⟩])):=by kernel_rfl
theorem xn:∃ i,Tryz.prog.info? 303=some i/\i.size=2/\i.bytes=24/\i.zero=some (.agg #[.bool false,.string ⟨#[]⟩]):=by
 have h:=zM;cases hq:Tryz.prog.info? 303 with
 | none=>rw[hq] at h;cases h
 | some i =>rw[hq] at h;simp only[Option.map_some,Option.some.injEq,Prod.mk.injEq] at h;exact⟨i,rfl,h.1,h.2.1,h.2.2⟩
def mP (l:List UInt8)(w:World)(e:Ending)(w':World):Prop :=
 Below w.heap.size w w' /\
 ((l=[42]/\e=.returned (.tuple #[.agg #[.bool true,.slice none 0 0],.bool true])) \/
  (l≠[42] /\
    ((ct (l.length+1) l=none/\e=.returned (.tuple #[.agg #[.bool false,.slice none 0 0],.bool false])) \/
     ∃ a v,ct (l.length+1) l=some a/\e=.returned (.tuple #[.agg #[.bool false,v],.bool true])/\w'.ownsRow (w.heap.size+1) 303 2 v a.length (bW a))))
theorem aZ {x:World}{base:Nat}{e:TypeId}{size:Nat}{v u:Value}{n:Nat}{xs:List Value}{a:Addr}(h:x.ownsRow base e size v n xs)(ha:a.block<base):(x.setCell a u).ownsRow base e size v n xs :=
 ownsRow_setCell_below h ha u
theorem mN {x:World}{base:Nat}{e:TypeId}{size:Nat}{v:Value}{n:Nat}{xs:List Value}(h:x.ownsRow base e size v (n+1) xs):∃ g cap,v=.slice (some ⟨g,0,none⟩) (n+1) cap:=by
 rcases h.2 with ⟨_,h0⟩|⟨g,cap,A0,hv,_⟩
 ·omega
 ·exact⟨g,cap,hv⟩
theorem js {x:World}{base:Nat}{e:TypeId}{size:Nat}{v:Value}{n:Nat}{xs:List Value}(h:x.ownsRow base e size v n xs):∀ k,v.ownBlock=some k->base<=k:=by
 intro k hk;rcases h.2 with ⟨rfl,_⟩|⟨g,A1,A0,rfl,hg,_⟩
 ·cases hk
 ·cases hk;exact hg
theorem ol {k:Nat}{r:List UInt8}{wk:Bool}{nm:List UInt8}(hk:r.length<k)(ht:fe r=some (wk,nm,[])):ct k r=some [(wk,nm)]:=by
 cases k with
 | zero=>omega
 | succ k=>simp[ct,ht]
theorem mz {k:Nat}{r:List UInt8}(ht:fe r=none):ct k r=none:=by
 cases k with
 | zero=>rfl
 | succ k=>simp[ct,ht]
theorem oq {k:Nat}{r beh:List UInt8}{wk:Bool}{nm:List UInt8}(ht:fe r=some (wk,nm,beh))(hb:beh≠[])(hc:Lib.hasPrefix (bL beh) [44]=false):ct k r=none:=by
 cases k with
 | zero=>rfl
 | succ k=>simp[ct,ht,hb,hc]
theorem qR {k:Nat}{r beh:List UInt8}{wk:Bool}{nm:List UInt8}(ht:fe r=some (wk,nm,beh))(hb:beh≠[])(hc:Lib.hasPrefix (bL beh) [44]=true) :
 ct (k+1) r=(ct k (bL (Lib.trimPrefix (bL beh) [44]))).map ((wk,nm)::·):=by simp[ct,ht,hb,hc]
theorem ii (o:Option dz):o.map ([]++·)=o:=by cases o<;>simp
theorem xl (s:ByteArray)(l:List UInt8)(w:World)(hM:bP w)(hl:Lib.trimS s.data.toList [32,9]=l)(hs:s.size<=67108864)(hz:l.length<=s.size):Calls Tryz.prog 283 #[.string s] w (mP l w):=by
 obtain⟨ti,i1,i2,i3,i4⟩:=xn;have HI:Hid _:=i1;have Ai:Hid _:=i2;have Al:Hid _:=i3;have An:Hid _:=i4;have HL:Hid _:=hl;clear i1 i2 i3 i4 hl;go_enter Tryz.func283,Tryz.ntmps283;go_wp2_with fail;refine (Tryz.trim_blanks _ _ (by omega)).mono ?_;rintro e w1 ⟨rfl,Am⟩;rw[HL.out];have A7:Tg w w1:=(Tg.made w).below Am;clear Am HL;by_cases hst:l=[42]
 ·have k1:=A7.c0;have k2:=A7.c1;have k3:=A7.f0;have k4:=A7.f1;subst hst;go_wp2;exact bodyPost_ret (v:=.tuple #[.agg #[.bool true,.slice none 0 0],.bool true]) (by simp[results,Tryz.results283,go_sem,k1,k2]) rfl ⟨(A7.old.setCell (Nat.le_refl _) _).setCell (Nat.le_refl _) _,Or.inl ⟨rfl,rfl⟩⟩
 ·(have Aq:(l==[42])=false:=by simpa using hst);have Ae:Hid _:=hst;clear hst;go_wp2;go_loopw [4,5] (λ rest lst wr=>∃ (r:List UInt8) (k:Nat) (a:dz),rest=.string ⟨r.toArray⟩/\r.length<k/\r.length+a.length<=l.length/\Tg w wr/\wr.ownsRow (w.heap.size+1) 303 2 lst a.length (bW a)/\Hid (ct (l.length+1) l=(ct k r).map (a++·)))
   (λ rest _ _=>match rest with|.string b=>b.size|_=>0)
  (case atStart=>exact⟨l,l.length+1,[],rfl,by omega,by simp,A7,⟨rfl,Or.inl ⟨rfl,rfl⟩⟩,(ii _).symm⟩);case round =>
   obtain⟨r,k,a,rfl,hk,Ar,tg,Ac,hf⟩:=hrel;have zr:=Lib.size_eq (⟨r.toArray⟩:ByteArray);simp only at zr;go_wp2_with fail;refine (rZ ⟨r.toArray⟩ _ (hM.below tg.old) (by rw[zr];omega)).mono ?_;rintro e w2 ⟨⟨wk,nm,A3,ht,rfl⟩|⟨ht,rfl⟩,Ad⟩
   ·have A2:=tg.below Ad;have A6:=fl Ac Ad;have Ak:=vq ht;have HT:Hid _:=ht;have zz:=A2.z;clear tg Ac Ad ht;have Aa:Below w2.heap.size w2 ((w2.alloc (.cells #[.bool wk,.string ⟨nm.toArray⟩] 303)).alloc (.cells #[.bool wk,.string ⟨nm.toArray⟩] 303)):=((Below.refl _ _).alloc (Nat.le_refl _) _).alloc (by simp) _;have Ab:=fl A6 Aa;(have A4:∀ j u,([.bool wk,.string ⟨nm.toArray⟩]:List Value)[j]?=some u->((w2.alloc (.cells #[.bool wk,.string ⟨nm.toArray⟩] 303)).alloc (.cells #[.bool wk,.string ⟨nm.toArray⟩] 303)).cell? ((⟨w2.heap.size+1,0,none⟩:Addr).add j)=some u:=by have:=cell_two_new (w2.alloc (.cells #[.bool wk,.string ⟨nm.toArray⟩] 303)) (.bool wk) (.string ⟨nm.toArray⟩) 303;simpa using this);have HO:Hid _:=Ab;have HN:Hid _:=A4;clear Ab A4;by_cases hbeh:A3=[]
    ·subst hbeh;go_wp2_with (first|(at_builtin;refine wpList_append_own _ rfl (.tmp 23) (.tmp 25) 89 rfl (w.heap.size+1) 303 ti (.agg #[.bool false,.string ⟨#[]⟩]) 2 24 Tryz.underlying89 HI.out An.out Ai.out Al.out rfl (by omega) u5 a.length (bW a) rfl HO.out ⟨w2.heap.size+1,0,none⟩ 1 1 [.bool wk,.string ⟨nm.toArray⟩] rfl rfl HN.out (by intro u hu;simp at hu;rcases hu with rfl|rfl<;>rfl) (by unfold maxLen;omega) (by omega) (by simp;omega) ?_;intro v' w3 A0 A8 _;obtain⟨g,Ao,A5⟩:=mN A0;rw[A5] at A0;rw[A5];clear A5;have A1:Tg w w3:=⟨(A2.b.trans (Aa.mono zz)).grown A8 (by simp;omega) (js A6),by have:=A8.size;simp at this;omega⟩;have k1:=A1.c0;have k2:=A1.c1;have k3:=A1.f0;have k4:=A1.f1));refine bodyPost_ret (v:=.tuple #[.agg #[.bool false,.slice (some ⟨g,0,none⟩) (a.length+1) Ao],.bool true]) (by simp[results,Tryz.results283,go_sem,k1,k2]) rfl ⟨(A1.old.setCell (Nat.le_refl _) _).setCell (Nat.le_refl _) _,Or.inr ⟨Ae.out,Or.inr ⟨a++[(wk,nm)],_,?_,rfl,?_⟩⟩⟩
     ·rw[hf.out,ol hk HT.out];rfl
     ·rw[List.length_append,List.length_singleton,ia];exact aZ (aZ A0 (by simp)) (by simp)
    ·(have As:(A3==[])=false:=by simpa using hbeh);go_wp2_with (first|(at_builtin;refine wpList_append_own _ rfl (.tmp 23) (.tmp 25) 89 rfl (w.heap.size+1) 303 ti (.agg #[.bool false,.string ⟨#[]⟩]) 2 24 Tryz.underlying89 HI.out An.out Ai.out Al.out rfl (by omega) u5 a.length (bW a) rfl HO.out ⟨w2.heap.size+1,0,none⟩ 1 1 [.bool wk,.string ⟨nm.toArray⟩] rfl rfl HN.out (by intro u hu;simp at hu;rcases hu with rfl|rfl<;>rfl) (by unfold maxLen;omega) (by omega) (by simp;omega) ?_;intro v' w3 A0 A8 _;obtain⟨g,Ao,A5⟩:=mN A0;rw[A5] at A0;rw[A5];clear A5;have A1:Tg w w3:=⟨(A2.b.trans (Aa.mono zz)).grown A8 (by simp;omega) (js A6),by have:=A8.size;simp at this;omega⟩;have k1:=A1.c0;have k2:=A1.c1;have k3:=A1.f0;have k4:=A1.f1));have Ah:Hid _:=hbeh;clear hbeh A8;refine (pH ⟨A3.toArray⟩ _).mono ?_;rintro e w4 ⟨rfl,Ag⟩;have A9:=A1.below Ag;have Af:=fl A0 Ag;have k5:=A9.c0;have k6:=A9.c1;have k7:=A9.f0;have k8:=A9.f1;clear k1 k2 k3 k4 A0 Ag;cases hc:Lib.hasPrefix (bL A3) [44] with
     | false =>have HC:Hid _:=hc;clear hc;go_wp2;refine bodyPost_ret (v:=.tuple #[.agg #[.bool false,.slice none 0 0],.bool false]) (by simp[results,Tryz.results283,go_sem,k5,k6]) rfl ⟨(A9.old.setCell (Nat.le_refl _) _).setCell (Nat.le_refl _) _,Or.inr ⟨Ae.out,Or.inl ⟨?_,rfl⟩⟩⟩;rw[hf.out,oq HT.out Ah.out HC.out];rfl
     | true =>
       have HC:Hid _:=hc;clear hc;have l1:=qc (Lib.trimPrefix (bL A3) [44]);have l2:=Lib.trimPrefix_le (bL A3) [44];have l3:=qc A3;obtain⟨r',Aj⟩:∃ r',bL (Lib.trimPrefix (bL A3) [44])=r':=⟨_,rfl⟩;rw[Aj] at l1;have HR:Hid _:=Aj;go_wp2;refine⟨⟨r',k-1,a++[(wk,nm)],rfl,by omega,by simp;omega,A9,?_,?_⟩,?_⟩
       ·rw[List.length_append,List.length_singleton,ia];exact Af
       ·show _=_;obtain⟨k',rfl⟩:∃ k',k=k'+1:=⟨k-1,by omega⟩;rw[hf.out,qR HT.out Ah.out HC.out,HR.out,Nat.add_sub_cancel];cases ct k' r'<;>simp
       ·show (⟨r'.toArray⟩:ByteArray).size<(⟨r.toArray⟩:ByteArray).size;rw[Lib.size_eq,Lib.size_eq];simp;omega
   ·have A2:=tg.below Ad;have Aa:Below w2.heap.size w2 (w2.alloc (.cells #[.bool false,.string ⟨#[]⟩] 303)):=(Below.refl _ _).alloc (Nat.le_refl _) _;have A1:=A2.below Aa;have k1:=A2.c0;have k2:=A2.c1;have k3:=A2.f0;have k4:=A2.f1;(have Ap:w.heap.size<w2.heap.size:=by have:=A2.z;omega);have HT:Hid _:=ht;clear ht;go_wp2;refine bodyPost_ret (v:=.tuple #[.agg #[.bool false,.slice none 0 0],.bool false]) (by simp[results,Tryz.results283,go_sem,k1,k2,Ap]) rfl ⟨?_,Or.inr ⟨Ae.out,Or.inl ⟨?_,rfl⟩⟩⟩
    ·first|exact ((A2.old.setCell (Nat.le_refl _) _).setCell (Nat.le_refl _) _).alloc (by simp[World.setCell];omega) _|exact (A1.old.setCell (Nat.le_refl _) _).setCell (Nat.le_refl _) _
    ·rw[hf.out,mz HT.out];rfl
structure Tgt where
 kind:Nat
 key:List UInt8
 num:Nat
def tgV (t:Tgt):Value:=.agg #[.int .i64 (t.kind:Int),.string ⟨t.key.toArray⟩,.int .i64 (t.num:Int)]
def dY (key query:List UInt8):Option Tgt :=
 if query=[118,101,114,115,105,111,110,115] then some ⟨3,key,0⟩
 else if Lib.hasPrefix query [118,61] then (gj (Lib.trimPrefix query [118,61])).map (λ n=>⟨2,key,n⟩) else none
def dt:List UInt8:=[63,97,102,116,101,114,61]
def kQ (p:List UInt8):Option Tgt :=
 if p=[] then some ⟨0,[],0⟩
 else if Lib.hasPrefix p dt then (if aA (Lib.trimPrefix p dt) then some ⟨0,Lib.trimPrefix p dt,0⟩ else none)
 else if aA (Lib.cut p [63]).1 then (if (Lib.cut p [63]).2.2 then dY (Lib.cut p [63]).1 (Lib.cut p [63]).2.1 else some ⟨1,(Lib.cut p [63]).1,0⟩) else none
def bi (l:List UInt8):Option Tgt:=if Lib.hasPrefix l [47] then kQ (Lib.trimPrefix l [47]) else none
def lC (o:Option Tgt)(w:World)(e:Ending)(w':World):Prop :=
 Below w.heap.size w w'/\((∃ t,o=some t/\e=.returned (.tuple #[tgV t,.bool true]))\/(o=none/\∃ (k n:Int) (s:ByteArray),e=.returned (.tuple #[.agg #[.int .i64 k,.string s,.int .i64 n],.bool false])))
theorem eY {o:Option Tgt}{w w':World}(t:Tgt)(hb:Below w.heap.size w w')(h:o=some t):lC o w (.returned (.tuple #[.agg #[.int .i64 (t.kind:Int),.string ⟨t.key.toArray⟩,.int .i64 (t.num:Int)],.bool true])) w':=⟨hb,Or.inl ⟨t,h,rfl⟩⟩
theorem eZ {o:Option Tgt}{w w':World}(k n:Int)(s:ByteArray)(hb:Below w.heap.size w w')(h:o=none):lC o w (.returned (.tuple #[.agg #[.int .i64 k,.string s,.int .i64 n],.bool false])) w':=⟨hb,Or.inr ⟨h,k,n,s,rfl⟩⟩
theorem nB (key query:List UInt8)(w:World)(hq:query.length<=9223372036854775807):Calls Tryz.prog 187 #[.string ⟨key.toArray⟩,.string ⟨query.toArray⟩] w (lC (dY key query) w):=by
 by_cases h1:query=[118,101,114,115,105,111,110,115]
 ·subst h1;go_enter Tryz.func187,Tryz.ntmps187;go_wp2;exact bodyPost_ret (v:=.tuple #[.agg #[.int .i64 3,.string ⟨key.toArray⟩,.int .i64 0],.bool true]) (by simp[results,Tryz.results187,go_sem]) rfl (eY ⟨3,key,0⟩ (by repeat (first|exact Below.refl _ _|refine Below.setCell ?_ (by simp) _|refine Below.alloc ?_ (by simp) _)) rfl)
 ·(have b1:(query==[118,101,114,115,105,111,110,115])=false:=by simpa using h1);(have HQ:Hid (dY key query=if Lib.hasPrefix query [118,61] then (gj (Lib.trimPrefix query [118,61])).map (λ n=>⟨2,key,n⟩) else none):=by show _=_;unfold dY;rw[if_neg h1]);have hl:=Lib.trimPrefix_le query [118,61];clear h1;go_enter Tryz.func187,Tryz.ntmps187;go_wp2_with fail;refine (Tryz.strings_CutPrefix _ _ _).mono ?_;rintro e w1 ⟨rfl,rfl⟩;cases hp:Lib.hasPrefix query [118,61] with
  | false =>(have HN:Hid (dY key query=none):=by show _=_;rw[HQ.out,hp];rfl);clear HQ;go_wp2;exact bodyPost_ret (v:=.tuple #[.agg #[.int .i64 0,.string ⟨#[]⟩,.int .i64 0],.bool false]) (by simp[results,Tryz.results187,go_sem]) rfl (eZ 0 0 ⟨#[]⟩ (by repeat (first|exact Below.refl _ _|refine Below.setCell ?_ (by simp) _|refine Below.alloc ?_ (by simp) _)) HN.out)
  | true =>
    (have HY:Hid (dY key query=(gj (Lib.trimPrefix query [118,61])).map (λ n=>⟨2,key,n⟩)):=by show _=_;rw[HQ.out,hp];rfl);obtain⟨ds,A0⟩:∃ ds,Lib.trimPrefix query [118,61]=ds:=⟨_,rfl⟩;rw[A0] at hl HY ⊢;clear HQ hp A0;go_wp2_with fail;refine (mh ⟨ds.toArray⟩ _ (by rw[Lib.size_eq];simp;omega)).mono ?_;rintro e w2 ⟨rfl,rfl⟩;(have e0:(⟨ds.toArray⟩:ByteArray).data.toList=ds:=by simp);rw[e0];cases hn:gj ds with
    | none =>rw[hn] at HY;simp only[je];go_wp2;exact bodyPost_ret (v:=.tuple #[.agg #[.int .i64 2,.string ⟨key.toArray⟩,.int .i64 0],.bool false]) (by simp[results,Tryz.results187,go_sem]) rfl (eZ 2 0 ⟨key.toArray⟩ (by repeat (first|exact Below.refl _ _|refine Below.setCell ?_ (by simp) _|refine Below.alloc ?_ (by simp) _)) HY.out)
    | some n =>rw[hn] at HY;simp only[je];go_wp2;exact bodyPost_ret (v:=.tuple #[.agg #[.int .i64 2,.string ⟨key.toArray⟩,.int .i64 (n:Int)],.bool true]) (by simp[results,Tryz.results187,go_sem]) rfl (eY ⟨2,key,n⟩ (by repeat (first|exact Below.refl _ _|refine Below.setCell ?_ (by simp) _|refine Below.alloc ?_ (by simp) _)) HY.out)
theorem jA (s sep:List UInt8)(w:World)(hM:bP w)(hs:s.length<4294967281) :
 Calls Tryz.prog 122 #[.string ⟨s.toArray⟩,.string ⟨sep.toArray⟩] w λ e w'=>e=.returned (.tuple #[.string ⟨(Lib.cut s sep).1.toArray⟩,.string ⟨(Lib.cut s sep).2.1.toArray⟩,.bool (Lib.cut s sep).2.2])/\Below w.heap.size w w':=by
 obtain⟨m,hm⟩:=hM;have:=Tryz.strings_Cut ⟨s.toArray⟩ ⟨sep.toArray⟩ m w (by rw[Lib.size_eq];simpa using hs) hm;refine this.mono ?_;rintro e w' ⟨rfl,n,rfl⟩;exact⟨rfl,below_drewN (Below.refl _ _) n⟩
theorem mA (s p:List UInt8)(w:World) :
 Calls Tryz.prog 185 #[.string ⟨s.toArray⟩,.string ⟨p.toArray⟩] w λ e w'=>e=.returned (.tuple #[.string ⟨(Lib.trimPrefix s p).toArray⟩,.bool (Lib.hasPrefix s p)])/\w'=w:=Tryz.strings_CutPrefix ⟨s.toArray⟩ ⟨p.toArray⟩ w
theorem pJ (s:List UInt8)(w:World)(hs:s.length<=9223372036854775807):Calls Tryz.prog 186 #[.string ⟨s.toArray⟩] w λ e w'=>e=.returned (.bool (aA s))/\w'=w :=
 uT ⟨s.toArray⟩ w (by rw[Lib.size_eq];simpa using hs)
theorem ms (l p:List UInt8):(Lib.cut l p).1.length<=l.length/\(Lib.cut l p).2.1.length<=l.length:=by
 unfold Lib.cut;split
 ·simp;omega
 ·simp
structure Tb (w x:World):Prop where
 b:Below w.heap.size w x
 c0:x.cell? ⟨w.heap.size,0,none⟩=some (.int .i64 0)
 c1:x.cell? ⟨w.heap.size,1,none⟩=some (.string ⟨#[]⟩)
 c2:x.cell? ⟨w.heap.size,2,none⟩=some (.int .i64 0)
 f0:x.frozen? ⟨w.heap.size,0,none⟩=false
 f1:x.frozen? ⟨w.heap.size,1,none⟩=false
 f2:x.frozen? ⟨w.heap.size,2,none⟩=false
 lt:w.heap.size<x.heap.size
theorem Tb.made (w:World):Tb w (w.alloc (.cells #[.int .i64 0,.string ⟨#[]⟩,.int .i64 0] 88)) :=
 ⟨(Below.refl _ _).alloc (Nat.le_refl _) _,by simp,by simp,by simp,by simp,by simp,by simp,by simp⟩
theorem Tb.below {w x y:World}(h:Tb w x)(hb:Below x.heap.size x y):Tb w y:=by
 have lt:=h.lt;have k:=hb.size;exact⟨h.b.trans (hb.mono (by omega)),(hb.cell (p:=⟨_,0,none⟩) lt).trans h.c0,(hb.cell (p:=⟨_,1,none⟩) lt).trans h.c1,(hb.cell (p:=⟨_,2,none⟩) lt).trans h.c2,(hb.frozen (p:=⟨_,0,none⟩) lt).trans h.f0,(hb.frozen (p:=⟨_,1,none⟩) lt).trans h.f1,(hb.frozen (p:=⟨_,2,none⟩) lt).trans h.f2,by omega⟩
theorem mX (l:List UInt8)(w:World)(hM:bP w)(hl:l.length<=4000000000):Calls Tryz.prog 124 #[.string ⟨l.toArray⟩] w (lC (bi l) w):=by
 have tb:=Tb.made w;have Aa:=Lib.trimPrefix_le l [47];go_enter Tryz.func124,Tryz.ntmps124;go_wp2_with fail;refine (mA l [47] _).mono ?_;rintro e w1 ⟨rfl,A5⟩;rw[<- A5] at tb;clear A5;cases hp:Lib.hasPrefix l [47] with
 | false =>(have HN:Hid (bi l=none):=by show _=_;unfold bi;rw[hp];rfl);obtain⟨q1,q2,q3,q4,q5,q6,q7,q8⟩:=tb;clear hp;go_wp2;exact bodyPost_ret (v:=.tuple #[.agg #[.int .i64 0,.string ⟨#[]⟩,.int .i64 0],.bool false]) (by simp[results,Tryz.results124,go_sem,q2,q3,q4]) rfl (eZ 0 0 ⟨#[]⟩ (((q1.setCell (Nat.le_refl _) _).setCell (Nat.le_refl _) _).setCell (Nat.le_refl _) _) HN.out)
 | true =>
   (have HT:Hid (bi l=kQ (Lib.trimPrefix l [47])):=by show _=_;unfold bi;rw[hp];rfl);obtain⟨p,A4⟩:∃ p,Lib.trimPrefix l [47]=p:=⟨_,rfl⟩;rw[A4] at Aa HT ⊢;clear hp A4;by_cases hp0:p=[]
   ·subst hp0;obtain⟨q1,q2,q3,q4,q5,q6,q7,q8⟩:=tb;go_wp2;exact bodyPost_ret (v:=.tuple #[.agg #[.int .i64 0,.string ⟨#[]⟩,.int .i64 0],.bool true]) (by simp[results,Tryz.results124,go_sem,q2,q3,q4]) rfl (eY ⟨0,[],0⟩ (((q1.setCell (Nat.le_refl _) _).setCell (Nat.le_refl _) _).setCell (Nat.le_refl _) _) (HT.out.trans rfl))
   ·(have A9:(p==[])=false:=by simpa using hp0);(have A0:Hid (bi l=if Lib.hasPrefix p dt then (if aA (Lib.trimPrefix p dt) then some ⟨0,Lib.trimPrefix p dt,0⟩ else none) else if aA (Lib.cut p [63]).1 then (if (Lib.cut p [63]).2.2 then dY (Lib.cut p [63]).1 (Lib.cut p [63]).2.1 else some ⟨1,(Lib.cut p [63]).1,0⟩) else none):=by show _=_;rw[HT.out,kQ,if_neg hp0]);clear hp0 HT;go_wp2_with fail;refine (mA p dt _).mono ?_;rintro e w2 ⟨rfl,rfl⟩;have A7:=Lib.trimPrefix_le p dt;cases ha:Lib.hasPrefix p dt with
    | true =>
      rw[ha,if_pos rfl] at A0;obtain⟨k,hk⟩:∃ k,Lib.trimPrefix p dt=k:=⟨_,rfl⟩;rw[hk] at A7 A0 ⊢;clear ha hk;go_wp2_with fail;refine (pJ k _ (by omega)).mono ?_;rintro e w3 ⟨rfl,rfl⟩;obtain⟨q1,q2,q3,q4,q5,q6,q7,q8⟩:=tb;cases hok:aA k with
      | true =>rw[hok,if_pos rfl] at A0;clear hok;go_wp2;exact bodyPost_ret (v:=.tuple #[.agg #[.int .i64 0,.string ⟨k.toArray⟩,.int .i64 0],.bool true]) (by simp[results,Tryz.results124,go_sem,q2,q3,q4]) rfl (eY ⟨0,k,0⟩ (((q1.setCell (Nat.le_refl _) _).setCell (Nat.le_refl _) _).setCell (Nat.le_refl _) _) A0.out)
      | false =>rw[hok,if_neg (by decide)] at A0;clear hok;go_wp2;exact bodyPost_ret (v:=.tuple #[.agg #[.int .i64 0,.string ⟨k.toArray⟩,.int .i64 0],.bool false]) (by simp[results,Tryz.results124,go_sem,q2,q3,q4]) rfl (eZ 0 0 ⟨k.toArray⟩ (((q1.setCell (Nat.le_refl _) _).setCell (Nat.le_refl _) _).setCell (Nat.le_refl _) _) A0.out)
    | false =>
      rw[ha,if_neg (by decide)] at A0;have A6:=ms p [63];clear ha A7;go_wp2_with fail;refine (jA p [63] _ (hM.below tb.b) (by omega)).mono ?_;rintro e w3 ⟨rfl,A8⟩;have A1:=tb.below A8;obtain⟨c,hc⟩:∃ c,Lib.cut p [63]=c:=⟨_,rfl⟩;rw[hc] at A6 A0 ⊢;obtain⟨k,q,b⟩:=c;simp only at A6 A0 ⊢;clear A8 tb hc;go_wp2_with fail;refine (pJ k _ (by omega)).mono ?_;rintro e w4 ⟨rfl,rfl⟩;cases hok:aA k with
      | false =>rw[hok,if_neg (by decide)] at A0;obtain⟨q1,q2,q3,q4,q5,q6,q7,q8⟩:=A1;clear hok;go_wp2;exact bodyPost_ret (v:=.tuple #[.agg #[.int .i64 0,.string ⟨#[]⟩,.int .i64 0],.bool false]) (by simp[results,Tryz.results124,go_sem,q2,q3,q4]) rfl (eZ 0 0 ⟨#[]⟩ (((q1.setCell (Nat.le_refl _) _).setCell (Nat.le_refl _) _).setCell (Nat.le_refl _) _) A0.out)
      | true =>
        rw[hok,if_pos rfl] at A0;clear hok;cases b with
        | false =>rw[if_neg (by decide)] at A0;obtain⟨q1,q2,q3,q4,q5,q6,q7,q8⟩:=A1;go_wp2;exact bodyPost_ret (v:=.tuple #[.agg #[.int .i64 1,.string ⟨k.toArray⟩,.int .i64 0],.bool true]) (by simp[results,Tryz.results124,go_sem,q2,q3,q4]) rfl (eY ⟨1,k,0⟩ (((q1.setCell (Nat.le_refl _) _).setCell (Nat.le_refl _) _).setCell (Nat.le_refl _) _) A0.out)
        | true =>
          rw[if_pos rfl] at A0;go_wp2_with fail;refine (nB k q _ (by omega)).mono ?_;rintro e w5 ⟨A3,⟨t,ht,rfl⟩|⟨hn,k5,n5,s5,rfl⟩⟩
          ·obtain⟨q1,q2,q3,q4,q5,q6,q7,q8⟩:=A1.below A3;rw[ht] at A0;obtain⟨tk,A2,tn⟩:=t;simp only[tgV];clear ht A3 A1;go_wp2;exact bodyPost_ret (v:=.tuple #[.agg #[.int .i64 (tk:Int),.string ⟨A2.toArray⟩,.int .i64 (tn:Int)],.bool true]) (by simp[results,Tryz.results124,go_sem,q2,q3,q4]) rfl (eY ⟨tk,A2,tn⟩ (((q1.setCell (Nat.le_refl _) _).setCell (Nat.le_refl _) _).setCell (Nat.le_refl _) _) A0.out)
          ·obtain⟨q1,q2,q3,q4,q5,q6,q7,q8⟩:=A1.below A3;rw[hn] at A0;clear hn A3 A1;go_wp2;exact bodyPost_ret (v:=.tuple #[.agg #[.int .i64 k5,.string s5,.int .i64 n5],.bool false]) (by simp[results,Tryz.results124,go_sem,q2,q3,q4]) rfl (eZ k5 n5 s5 (((q1.setCell (Nat.le_refl _) _).setCell (Nat.le_refl _) _).setCell (Nat.le_refl _) _) A0.out)
end Go.Proofs.YtmehkneofinmiaaGreatDoor

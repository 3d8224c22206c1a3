/-part 17-/
import Derived.Test.YtmehkneofinmiaaGreatDoorP16
set_option maxRecDepth 100000
set_option maxHeartbeats 4000000
namespace Go.Proofs.YtmehkneofinmiaaGreatDoor
open Go.RowKit
def eU (k t:Nat)(key:List UInt8)(n:Nat)(body:List UInt8):List UInt8:=be k 1++(be t 8++(be key.length 1++(key++(be n 4++body))))
def aF (k t:Nat)(key:List UInt8)(n:Nat)(body:List UInt8):List UInt8 :=
 be (eU k t key n body).length 2++(eU k t key n body++be (cB (eU k t key n body)) 4)
theorem jJ (k t:Nat)(key:List UInt8)(n:Nat)(body:List UInt8):(eU k t key n body).length=14+key.length+body.length:=by
 simp[eU,aR];omega
theorem de (k t:Nat)(key:List UInt8)(n:Nat)(body:List UInt8):(aF k t key n body).length=20+key.length+body.length:=by
 simp only[aF,List.length_append,aR,jJ];omega
structure Pl (w x:World)(cs:Array Value)(v:Value)(l:List UInt8):Prop where
 lo:Below (w.heap.size+1) (w.alloc (.cells cs 181)) x
 own:Byt x (w.heap.size+1) v l
theorem Pl.size {w x:World}{cs:Array Value}{v:Value}{l:List UInt8}(h:Pl w x cs v l):w.heap.size+1<=x.heap.size:=by
 have:=h.lo.size;simpa using this
theorem Pl.blk {w x:World}{cs:Array Value}{v:Value}{l:List UInt8}(h:Pl w x cs v l):x.heap[w.heap.size]?=some (.cells cs 181 (0,0)) :=
 (h.lo.block w.heap.size (by omega)).trans (heap_alloc_new _ _)
theorem Pl.low {w x:World}{cs:Array Value}{v:Value}{l:List UInt8}(h:Pl w x cs v l):Below w.heap.size w x :=
 ((Below.refl _ _).alloc (Nat.le_refl _) _).trans (h.lo.mono (by omega))
theorem Pl.next {w x y:World}{cs:Array Value}{v v':Value}{l l':List UInt8}(h:Pl w x cs v l)(hb:Below (w.heap.size+1) x y)(hy:Byt y (w.heap.size+1) v' l'):Pl w y cs v' l':=⟨h.lo.trans hb,hy⟩
theorem j5 (l:List UInt8):Lib.strCells ⟨l.toArray⟩=u8s l:=by simp[Lib.strCells,u8s]
theorem Pl.app {w x y:World}{cs:Array Value}{v v':Value}{l s:List UInt8}(h:Pl w x cs v l)(hr:y.ownsRow (w.heap.size+1) 5 1 v' (l.length+(⟨s.toArray⟩:ByteArray).size) (u8s l++Lib.strCells ⟨s.toArray⟩))(hg:x.grownBy y v.ownBlock):Pl w y cs v' (l++s):=by
 refine⟨h.lo.grown hg h.size (λ r hr=>(h.own.lt r hr).1),?_⟩;rw[Lib.size_eq,j5,<- uC] at hr;unfold Byt;rw[List.length_append];exact hr
theorem Byt.conv {w:World}{base:Nat}{v:Value}{l:List UInt8}(h:Byt w base v l):(convert 115 9 v).run Tryz.prog w=.ok (.string ⟨l.toArray⟩) w:=by
 rcases h.2 with ⟨rfl,h0⟩|⟨g,A0,A2,rfl,_,hg,hn,hm,hs,A1⟩
 ·rw[List.length_eq_zero_iff.1 h0];exact run_convert_bytes_nil w 115 5 Tryz.underlying115 Tryz.underlying5 0 0 9 Tryz.underlying9
 ·have hx:=run_convert_bytes_arg (P:=Tryz.prog) w 115 5 Tryz.underlying115 Tryz.underlying5 g 0 l.length A0 (l.map λ c=>(c.toNat:Int)) (by simp) (λ i hi=>by
   (have h1:(u8s l)[i]?=some (.int .u8 ((l[i]).toNat:Int)):=by simp[u8s,hi]);rw[<- A1,List.getElem?_take_of_lt (by omega)] at h1;simp only[World.cell?,hg,Nat.zero_add]
   simpa [List.getD,hi] using h1) 9 Tryz.underlying9
  (have e:strOfNums (l.map λ c=>(c.toNat:Int))=⟨l.toArray⟩:=by apply ByteArray.ext;apply Array.ext';rw[strOfNums_data,List.map_map];(have h1:((λ n:Int=>UInt8.ofNat n.toNat) ∘ λ c:UInt8=>(c.toNat:Int))=id:=by funext c;simp);rw[h1,List.map_id]);rw[hx,e]
theorem rE (k t n:Nat)(key body:List UInt8)(w:World)(hk:k<256)(ht:t<9223372036854775807)(hn:n<9223372036854775807)(hkl:key.length<100000)(hbl:body.length<100000) :
 Calls Tryz.prog 304 #[.agg #[.int .u8 k,.int .i64 t,.string ⟨key.toArray⟩,.int .i64 n,.string ⟨body.toArray⟩]] w λ e w'=>e=.returned (.string ⟨(eU k t key n body).toArray⟩)/\Below w.heap.size w w':=by
 obtain⟨i0,A0,A7,A1,A2⟩:=info_parts pw;go_enter Tryz.func304,Tryz.ntmps304;have P0:Pl w (w.alloc (.cells #[.int .u8 k,.int .i64 t,.string ⟨key.toArray⟩,.int .i64 n,.string ⟨body.toArray⟩] 181)) #[.int .u8 k,.int .i64 t,.string ⟨key.toArray⟩,.int .i64 n,.string ⟨body.toArray⟩] (.slice none 0 0) []:=⟨Below.refl _ _,Byt.nil _ _⟩;go_wp2_with fail;refine (bR _ [] (w.heap.size+1) k 1 _ P0.own (by simp) (by omega) (by simp)).mono ?_;rintro e x1 ⟨v1,rfl,y1,b1⟩;have P1:=P0.next b1 y1;have A3:=P1.blk;have c1:x1.cell? ⟨w.heap.size,1,none⟩=some (.int .i64 t):=by simp[World.cell?,A3]
 have H1:Hid _:=P1;clear P0 P1 A3 y1 b1;go_wp2_with fail;refine (bR _ _ (w.heap.size+1) t 8 _ H1.out.own H1.out.size (by omega) (by simp[aR])).mono ?_;rintro e x2 ⟨v2,rfl,y2,b2⟩;have P2:=H1.out.next b2 y2;have A6:=P2.blk;have c2:x2.cell? ⟨w.heap.size,2,none⟩=some (.string ⟨key.toArray⟩):=by simp[World.cell?,A6]
 have H2:Hid _:=P2;clear P2 A6 y2 b2 c1;go_wp2_with fail;refine (bR _ _ (w.heap.size+1) key.length 1 _ H2.out.own H2.out.size (by omega) (by simp[aR])).mono ?_;rintro e x3 ⟨v3,rfl,y3,b3⟩;have P3:=H2.out.next b3 y3;have A5:=P3.blk;have c3:x3.cell? ⟨w.heap.size,2,none⟩=some (.string ⟨key.toArray⟩):=by simp[World.cell?,A5]
 have H3:Hid _:=P3;clear P3 A5 y3 b3 c2;have A9:([]++be k 1++be t 8++be key.length 1:List UInt8).length<300000:=by simp[aR]
 have Aa:(⟨key.toArray⟩:ByteArray).size<100000:=by rw[Lib.size_eq];exact hkl
 go_wp2_with (at_builtin;refine Lib.wpList_append_own_string _ rfl (.tmp 19) (.tmp 21) 115 9 rfl (w.heap.size+1) 5 i0 Tryz.underlying115 Tryz.underlying9 A0 A7 A1 A2 _ _ _ rfl H3.out.own _ rfl (by unfold maxLen;omega) (by omega) H3.out.size ?_;intro v4 x4 y4 g4 _;have P4:=H3.out.app (s:=key) y4 g4;have A4:=P4.blk;have c4:x4.cell? ⟨w.heap.size,3,none⟩=some (.int .i64 n):=(by simp[World.cell?,A4]);have H4:Hid _:=P4;clear P4 A4 y4 g4);refine (bR _ _ (w.heap.size+1) n 4 _ H4.out.own H4.out.size (by omega) (by simp[aR];omega)).mono ?_;rintro e x5 ⟨v5,rfl,y5,b5⟩;have P5:=H4.out.next b5 y5;have A8:=P5.blk;have c5:x5.cell? ⟨w.heap.size,4,none⟩=some (.string ⟨body.toArray⟩):=by simp[World.cell?,A8]
 have H5:Hid _:=P5;clear P5 A8 y5 b5 c4;have Ab:([]++be k 1++be t 8++be key.length 1++key++be n 4:List UInt8).length<300000:=by simp[aR];omega
 have Ac:(⟨body.toArray⟩:ByteArray).size<100000:=by rw[Lib.size_eq];exact hbl
 go_wp2_with (at_builtin;refine Lib.wpList_append_own_string _ rfl (.tmp 28) (.tmp 30) 115 9 rfl (w.heap.size+1) 5 i0 Tryz.underlying115 Tryz.underlying9 A0 A7 A1 A2 _ _ _ rfl H5.out.own _ rfl (by unfold maxLen;omega) (by omega) H5.out.size ?_;intro v6 x6 y6 g6 _;have P6:=H5.out.app (s:=body) y6 g6;have H6:Hid _:=P6;have cv:=P6.own.conv;clear P6 y6 g6);go_ret;exact⟨rfl,H6.out.low⟩
theorem qW (k t n:Nat)(key body:List UInt8)(w:World)(hk:k<256)(ht:t<9223372036854775807)(hn:n<9223372036854775807)(hkl:key.length<100000)(hbl:body.length<100000) :
 Calls Tryz.prog 274 #[.agg #[.int .u8 k,.int .i64 t,.string ⟨key.toArray⟩,.int .i64 n,.string ⟨body.toArray⟩]] w λ e w'=>e=.returned (.string ⟨(aF k t key n body).toArray⟩)/\Below w.heap.size w w':=by
 obtain⟨i0,A1,A5,A2,A3⟩:=info_parts pw;go_enter Tryz.func274,Tryz.ntmps274;have P0:Pl w (w.alloc (.cells #[.int .u8 k,.int .i64 t,.string ⟨key.toArray⟩,.int .i64 n,.string ⟨body.toArray⟩] 181)) #[.int .u8 k,.int .i64 t,.string ⟨key.toArray⟩,.int .i64 n,.string ⟨body.toArray⟩] (.slice none 0 0) []:=⟨Below.refl _ _,Byt.nil _ _⟩;go_wp2_with fail;refine (rE k t n key body _ hk ht hn hkl hbl).mono ?_;rintro e x1 ⟨rfl,b1⟩;have A0:=jJ k t key n body;obtain⟨p,hp⟩:∃ p,eU k t key n body=p:=⟨_,rfl⟩;have P1:=P0.next (b1.mono (by simp)) (Byt.nil x1 _);have HR:Hid (aF k t key n body=be p.length 2++(p++be (cB p) 4)):=by show _=_;rw[<- hp];rfl
 rw[hp] at A0 ⊢;have A4:p.length<300000:=by omega
 have H1:Hid _:=P1;clear P0 P1 b1 hp A0;go_wp2_with fail;refine (bR _ _ (w.heap.size+1) p.length 2 _ H1.out.own H1.out.size (by omega) (by simp)).mono ?_;rintro e x2 ⟨v2,rfl,y2,b2⟩;have P2:=H1.out.next b2 y2;have H2:Hid _:=P2;clear P2 y2 b2;have A7:([]++be p.length 2:List UInt8).length<300000:=by simp[aR]
 have A6:(⟨p.toArray⟩:ByteArray).size<300000:=by rw[Lib.size_eq];exact A4
 go_wp2_with (at_builtin;refine Lib.wpList_append_own_string _ rfl (.tmp 11) (.tmp 12) 115 9 rfl (w.heap.size+1) 5 i0 Tryz.underlying115 Tryz.underlying9 A1 A5 A2 A3 _ _ _ rfl H2.out.own _ rfl (by unfold maxLen;omega) (by omega) H2.out.size ?_;intro v3 x3 y3 g3 _;have P3:=H2.out.app (s:=p) y3 g3;have H3:Hid _:=P3;clear P3 y3 g3);refine (oa p _ (by omega)).mono ?_;rintro e x4 ⟨rfl,rfl⟩;have hc:=oO p;obtain⟨C,hC⟩:∃ C,cB p=C:=⟨_,rfl⟩;rw[hC] at hc HR ⊢;clear hC;go_wp2_with fail;refine (bR _ _ (w.heap.size+1) C 4 _ H3.out.own H3.out.size (by omega) (by simp[aR];omega)).mono ?_;rintro e x5 ⟨v5,rfl,y5,b5⟩;have cv:=y5.conv;have P5:=H3.out.next b5 y5;have H5:Hid _:=P5;clear P5 y5 b5;go_wp2;go_ret;refine⟨?_,H5.out.low⟩;rw[HR.out];rfl
def aJ (E:Ent)(k n:Nat):Nat :=
 if k=3 then (if (cV E.vers n).isSome then 0 else 404)
 else if k=2/\(aU E).isSome=false then 404
 else if 20<=E.vers.length then 507 else 0
def cK (E:Ent)(k:Nat):Nat:=if k=1 then (if (aU E).isSome then 200 else 201) else 204
abbrev bt (k t:Nat) (key:List UInt8) (n:Nat) (body:List UInt8):Value:=.agg #[.int .u8 k,.int .i64 t,.string ⟨key.toArray⟩,.int .i64 n,.string ⟨body.toArray⟩]
theorem mv (p:Nat)(E:Ent)(vs:Value)(w:World)(h:al w p E vs)(hl:E.last<4611686018427387904) :
 Calls Tryz.prog 147 #[.pointer (some ⟨p,0,none⟩)] w λ e w'=>e=.returned (.int .i64 ((E.last+1:Nat):Int))/\w'=w:=by
 have h2:=h.c1;go_enter Tryz.func147,Tryz.ntmps147;go_wp2;go_ret;exact⟨rfl,rfl⟩
theorem dP (p:Nat)(E:Ent)(vs:Value)(k:Nat)(w:World)(h:al w p E vs)(hl:E.vers.length<1000) :
 Calls Tryz.prog 206 #[.pointer (some ⟨p,0,none⟩),.int .u8 (k:Int)] w λ e w'=>e=.returned (.int .i64 (cK E k:Nat))/\Below w.heap.size w w':=by
 have HE:Hid _:=h;clear h;by_cases hk:k=1
 ·subst hk;cases hc:(aU E).isSome with
  | false =>go_enter Tryz.func206,Tryz.ntmps206;go_wp2_with fail;refine (eG p E vs _ HE.out hl).mono ?_;rintro e w1 ⟨⟨v,rfl,_⟩,A0⟩;rw[hc];unfold aW;go_wp2;go_ret;exact⟨by simp[cK,hc],A0.alloc A0.size _⟩
  | true =>go_enter Tryz.func206,Tryz.ntmps206;go_wp2_with fail;refine (eG p E vs _ HE.out hl).mono ?_;rintro e w1 ⟨⟨v,rfl,_⟩,A0⟩;rw[hc];unfold aW;go_wp2;go_ret;exact⟨by simp[cK,hc],A0.alloc A0.size _⟩
 ·have A1:((k:Int)==1)=false:=beq_eq_false_iff_ne.2 (by omega);go_enter Tryz.func206,Tryz.ntmps206;go_wp2;go_ret;exact⟨by simp[cK,hk],Below.refl _ _⟩
theorem bC (p:Nat)(E:Ent)(vs:Value)(k t n:Nat)(key body:List UInt8)(w:World)(h:al w p E vs)(hl:E.vers.length<1000) :
 Calls Tryz.prog 204 #[.pointer (some ⟨p,0,none⟩),bt k t key n body] w λ e w'=>e=.returned (.int .i64 (aJ E k n:Nat))/\Below w.heap.size w w':=by
 have A5:Below w.heap.size w (w.alloc (.cells #[.int .u8 k,.int .i64 t,.string ⟨key.toArray⟩,.int .i64 n,.string ⟨body.toArray⟩] 181)):=(Below.refl _ _).alloc (Nat.le_refl _) _;have HE:Hid _:=h.below A5;have HA:Hid _:=A5;clear h A5;by_cases hk:k=3
 ·subst hk;go_enter Tryz.func204,Tryz.ntmps204;go_wp2_with fail;refine (iH p E vs n _ HE.out (by omega)).mono ?_;rintro e w1 ⟨rfl,A0⟩;have HB:Hid (Below w.heap.size w w1):=HA.out.trans (A0.mono (by simp));clear A0;cases hv:cV E.vers n with
  | none =>rw[jh hv];go_wp2;go_ret;exact⟨by simp[aJ,hv],HB.out⟩
  | some i =>rw[gq hv];(have A7:((i:Int)<0)=False:=by simp);go_wp2;go_ret;exact⟨by simp[aJ,hv],HB.out⟩
 ·have A8:((k:Int)==3)=false:=beq_eq_false_iff_ne.2 (by omega);go_enter Tryz.func204,Tryz.ntmps204;go_wp2_with fail;refine (eG p E vs _ HE.out hl).mono ?_;rintro e w1 ⟨⟨v,rfl,_⟩,A0⟩;have A6:w1.heap[w.heap.size]?=some (.cells #[.int .u8 k,.int .i64 t,.string ⟨key.toArray⟩,.int .i64 n,.string ⟨body.toArray⟩] 181 (0,0)):=(A0.block _ (by simp)).trans (heap_alloc_new _ _);(have r0:w1.cell? ⟨w.heap.size,0,none⟩=some (.int .u8 k):=by simp[World.cell?,A6]);have A3:=HE.out.below A0;have A9:=A3.lt;have Aa:w.heap.size<w1.heap.size:=(gL A6);have HB:Hid (Below w.heap.size w w1):=HA.out.trans (A0.mono (by simp));have A2:Hid _:=A3.below ((Below.refl _ _).alloc (Nat.le_refl _) (.cells #[.int .i64 v.num,.int .i64 v.time,.bool v.mark,.string ⟨v.body.toArray⟩] 174));clear A0 A6 A3;unfold aW;obtain⟨c,hc⟩:∃ c,(aU E).isSome=c:=⟨_,rfl⟩;rw[hc];have HC:Hid _:=hc;clear hc;by_cases hf:20<=E.vers.length
  ·(have A1:decide (20<=(E.vers.length:Int))=true:=by simp;omega);by_cases hk2:k=2
   ·subst hk2;cases c with
    | false =>go_wp2;go_ret;exact⟨by simp[aJ,HC.out],HB.out.alloc HB.out.size _⟩
    | true =>go_wp2_with fail;refine (gA p E vs _ A2.out).mono ?_;rintro e w2 ⟨rfl,rfl⟩;rw[A1];go_wp2;go_ret;exact⟨by simp[aJ,HC.out,hf],HB.out.alloc HB.out.size _⟩
   ·have A4:((k:Int)==2)=false:=beq_eq_false_iff_ne.2 (by omega);go_wp2_with fail;refine (gA p E vs _ A2.out).mono ?_;rintro e w2 ⟨rfl,rfl⟩;rw[A1];go_wp2;go_ret;exact⟨by simp[aJ,hk,hk2,hf],HB.out.alloc HB.out.size _⟩
  ·(have A1:decide (20<=(E.vers.length:Int))=false:=by simp;omega);by_cases hk2:k=2
   ·subst hk2;cases c with
    | false =>go_wp2;go_ret;exact⟨by simp[aJ,HC.out],HB.out.alloc HB.out.size _⟩
    | true =>go_wp2_with fail;refine (gA p E vs _ A2.out).mono ?_;rintro e w2 ⟨rfl,rfl⟩;rw[A1];go_wp2;go_ret;exact⟨by simp[aJ,HC.out,hf],HB.out.alloc HB.out.size _⟩
   ·have A4:((k:Int)==2)=false:=beq_eq_false_iff_ne.2 (by omega);go_wp2_with fail;refine (gA p E vs _ A2.out).mono ?_;rintro e w2 ⟨rfl,rfl⟩;rw[A1];go_wp2;go_ret;exact⟨by simp[aJ,hk,hk2,hf],HB.out.alloc HB.out.size _⟩
def ie (E:Ent)(n:Nat):Option Ver:=match E.vers.find? (λ v=>v.num==n) with
 | none=>none
 | some v=>if v.mark then none else some v
def d9 (E:Ent)(t:Tgt):Option Ver:=if t.kind=2 then ie E t.num else aU E
theorem oe (l:List Ver)(n:Nat):(match cV l n with|some i=>l[i]?|none=>none)=l.find? (λ v=>v.num==n):=by
 induction l with
 | nil=>rfl
 | cons a l ih =>
   unfold cV at ih ⊢;rw[List.findIdx?_cons,List.find?_cons];by_cases h:a.num=n
   ·simp[h]
   ·have h1:((a.num:Int)==(n:Int))=false:=beq_eq_false_iff_ne.2 (by omega);have h2:(a.num==n)=false:=beq_eq_false_iff_ne.2 h;rw[h1,h2,if_neg (by simp)];rw[<- ih];cases List.findIdx? (λ v:Ver=>(v.num:Int)==(n:Int)) l<;>rfl
theorem oQ (p:Nat)(E:Ent)(vs:Value)(n:Nat)(w:World)(h:al w p E vs)(hl:E.vers.length<1000) :
 Calls Tryz.prog 140 #[.pointer (some ⟨p,0,none⟩),.int .i64 n] w λ e w'=>(∃ v:Ver,e=.returned (.tuple #[aW v,.bool (ie E n).isSome])/\(∀ u,ie E n=some u->v=u))/\Below w.heap.size w w':=by
 have hf:=oe E.vers n;cases hv:cV E.vers n with
 | none =>
   rw[hv] at hf;refine (nx p E vs n w h (by omega) hv).mono ?_;rintro e w' ⟨rfl,hb⟩;refine⟨⟨⟨0,0,false,[]⟩,?_,λ u hu=>?_⟩,hb⟩
   ·simp only[ie,<- hf];rfl
   ·simp[ie,<- hf] at hu
 | some i =>
   obtain⟨v,A0,_⟩:=fg hv;rw[hv] at hf;simp only[A0] at hf;refine (nI p E vs n w h (by omega) i v hv A0).mono ?_;rintro e w' ⟨rfl,hb⟩;refine⟨⟨v,?_,λ u hu=>?_⟩,hb⟩
   ·cases hm:v.mark<;>simp[ie,<- hf,hm]
   ·cases hm:v.mark<;>simp[ie,<- hf,hm] at hu;exact hu
theorem yU (p:Nat)(E:Ent)(vs:Value)(t:Tgt)(w:World)(h:al w p E vs)(hl:E.vers.length<1000) :
 Calls Tryz.prog 90 #[.pointer (some ⟨p,0,none⟩),tgV t] w λ e w'=>(∃ v:Ver,e=.returned (.tuple #[aW v,.bool (d9 E t).isSome])/\(∀ u,d9 E t=some u->v=u))/\Below w.heap.size w w':=by
 have HE:Hid _:=h;clear h;unfold tgV;by_cases hk:t.kind=2
 ·(have A4:((t.kind:Int)==2)=true:=by rw[hk];rfl);(have ha:d9 E t=ie E t.num:=by simp[d9,hk]);rw[ha];clear ha;go_enter Tryz.func90,Tryz.ntmps90;go_wp2_with fail;have A2:Below w.heap.size w ((w.alloc (.cells #[.int .i64 2,.string ⟨t.key.toArray⟩,.int .i64 (t.num:Int)] 88)).alloc (.cells #[.int .i64 0,.int .i64 0,.bool false,.string ⟨#[]⟩] 174)):=((Below.refl _ _).alloc (Nat.le_refl _) _).alloc (by simp) _;refine (oQ p E vs t.num _ (HE.out.below A2) hl).mono ?_;rintro e w1 ⟨⟨v,rfl,hv⟩,A1⟩;(have hz:w1.heap[w.heap.size+1]?=some (.cells #[.int .i64 0,.int .i64 0,.bool false,.string ⟨#[]⟩] 174 (0,0)):=by refine (A1.block _ (by simp)).trans ?_;have:=heap_alloc_new (w.alloc (.cells #[.int .i64 2,.string ⟨t.key.toArray⟩,.int .i64 (t.num:Int)] 88)) (.cells #[.int .i64 0,.int .i64 0,.bool false,.string ⟨#[]⟩] 174);simpa using this);have HB:Hid (Below w.heap.size w w1):=A2.trans (A1.mono (by simp;omega));have HV:Hid _:=hv;have HZ:Hid _:=hz;obtain⟨cc,A0⟩:∃ x,(ie E t.num).isSome=x:=⟨_,rfl⟩;have A3:Hid _:=A0;rw[A0];clear A1 A2 hv hz A0;unfold aW;go_wp2_with (refine wpList_store_row rfl 174 (.tmp 4) (.tmp 13) rfl (w.heap.size+1) #[.int .i64 v.num,.int .i64 v.time,.bool v.mark,.string ⟨v.body.toArray⟩] rfl rfl 174 #[.int .i64 0,.int .i64 0,.bool false,.string ⟨#[]⟩] HZ.out jR rfl (by simp[Value.oneCell']) ?_);refine bodyPost_ret (v:=.tuple #[aW v,.bool cc]) (aN Tryz.results90 _ _ (w.heap.size+1) _ _ _ _ rfl (setRow_heap _ _ _ _ _ _ HZ.out) Tryz.underlying174 rfl jR) rfl ⟨⟨v,by rw[A3.out],HV.out⟩,below_setRow HB.out (by omega) _⟩
 ·have A4:((t.kind:Int)==2)=false:=beq_eq_false_iff_ne.2 (by omega);(have ha:d9 E t=aU E:=by simp[d9,hk]);rw[ha];clear ha;go_enter Tryz.func90,Tryz.ntmps90;go_wp2_with fail;have A2:Below w.heap.size w ((w.alloc (.cells #[.int .i64 (t.kind:Int),.string ⟨t.key.toArray⟩,.int .i64 (t.num:Int)] 88)).alloc (.cells #[.int .i64 0,.int .i64 0,.bool false,.string ⟨#[]⟩] 174)):=((Below.refl _ _).alloc (Nat.le_refl _) _).alloc (by simp) _;refine (eG p E vs _ (HE.out.below A2) hl).mono ?_;rintro e w1 ⟨⟨v,rfl,hv⟩,A1⟩;(have hz:w1.heap[w.heap.size+1]?=some (.cells #[.int .i64 0,.int .i64 0,.bool false,.string ⟨#[]⟩] 174 (0,0)):=by refine (A1.block _ (by simp)).trans ?_;have:=heap_alloc_new (w.alloc (.cells #[.int .i64 (t.kind:Int),.string ⟨t.key.toArray⟩,.int .i64 (t.num:Int)] 88)) (.cells #[.int .i64 0,.int .i64 0,.bool false,.string ⟨#[]⟩] 174);simpa using this);have HB:Hid (Below w.heap.size w w1):=A2.trans (A1.mono (by simp;omega));have HV:Hid _:=hv;have HZ:Hid _:=hz;obtain⟨cc,A0⟩:∃ x,(aU E).isSome=x:=⟨_,rfl⟩;have A3:Hid _:=A0;rw[A0];clear A1 A2 hv hz A0;unfold aW;go_wp2_with (refine wpList_store_row rfl 174 (.tmp 4) (.tmp 17) rfl (w.heap.size+1) #[.int .i64 v.num,.int .i64 v.time,.bool v.mark,.string ⟨v.body.toArray⟩] rfl rfl 174 #[.int .i64 0,.int .i64 0,.bool false,.string ⟨#[]⟩] HZ.out jR rfl (by simp[Value.oneCell']) ?_);refine bodyPost_ret (v:=.tuple #[aW v,.bool cc]) (aN Tryz.results90 _ _ (w.heap.size+1) _ _ _ _ rfl (setRow_heap _ _ _ _ _ _ HZ.out) Tryz.underlying174 rfl jR) rfl ⟨⟨v,by rw[A3.out],HV.out⟩,below_setRow HB.out (by omega) _⟩
structure St where
 time:Nat
 ents:List Ent
 log:List UInt8
def cA (l:List Ent):Prop:=l.Pairwise λ a b=>aE a.key b.key = -1
structure ld (E:Ent):Prop where
 key:aA E.key=true
 last:0<E.last
 len:E.vers.length<=20
 num:∀ v∈E.vers,v.num<=E.last
 rise:E.vers.Pairwise λ a b=>a.num<b.num
 time:∀ v∈E.vers,v.time<=253402300799
 body:∀ v∈E.vers,v.body.length<=400
def aa (l:List Ent)(key:List UInt8):Ent:=(l.find? λ E=>E.key==key).getD ⟨key,0,[]⟩
def bJ:List Ent->Ent->List Ent
 | [],E=>[E]
 | a::l,E=>if a.key=E.key then E::l else if aE E.key a.key = -1 then E::a::l else a::bJ l E
def bf (E:Ent)(k t n:Nat)(body:List UInt8):Ent :=
 if k=3 then ⟨E.key,E.last,E.vers.eraseIdx ((cV E.vers n).getD 0)⟩ else ⟨E.key,n,E.vers++[⟨n,t,k==2,body⟩]⟩
def ca (σ:St)(key:List UInt8)(k n:Nat)(body:List UInt8):Nat×Option St :=
 if aJ (aa σ.ents key) k n≠0 then (aJ (aa σ.ents key) k n,none)
 else if (aa σ.ents key).last=0/\60<=σ.ents.length then (507,none)
 else (cK (aa σ.ents key) k,some ⟨σ.time,bJ σ.ents (bf (aa σ.ents key) k σ.time n body),σ.log++aF k σ.time key n body⟩)
theorem cF (l:List Ent)(key:List UInt8):(aa l key).key=key:=by
 unfold aa;cases h:l.find? λ E=>E.key==key with
 | none=>rfl
 | some E =>have:=List.find?_some h;simpa using this
theorem jl (E:Ent)(k t n:Nat)(body:List UInt8):(bf E k t n body).key=E.key:=by
 unfold bf;split<;>rfl
theorem cU {l:List Ent}{key:List UInt8}(h:(aa l key).last≠0):aa l key∈l:=by
 unfold aa at h ⊢;cases h':l.find? λ E=>E.key==key with
 | none=>rw[h'] at h;exact absurd rfl h
 | some E=>exact List.mem_of_find?_eq_some h'
theorem df {l:List Ent}{key:List UInt8}(hok:∀ E∈l,0<E.last)(h:(aa l key).last=0):(∀ E∈l,E.key≠key)/\aa l key=⟨key,0,[]⟩:=by
 unfold aa at h ⊢;cases h':l.find? λ E=>E.key==key with
 | none =>refine⟨λ E hE e=>?_,rfl⟩;have:=List.find?_eq_none.1 h' E hE;simp[e] at this
 | some E =>rw[h'] at h;have:=hok E (List.mem_of_find?_eq_some h');simp at h;omega
theorem fw {l:List Ent}{E A:Ent}(h:A∈bJ l E):A=E\/A∈l:=by
 induction l with
 | nil=>simpa [bJ] using h
 | cons a l ih =>
   unfold bJ at h;split at h
   ·rcases List.mem_cons.1 h with h|h
    ·exact Or.inl h
    ·exact Or.inr (List.mem_cons_of_mem _ h)
   ·split at h
    ·rcases List.mem_cons.1 h with h|h
     ·exact Or.inl h
     ·exact Or.inr h
    ·rcases List.mem_cons.1 h with h|h
     ·exact Or.inr (by rw[h];exact List.mem_cons_self)
     ·exact (ih h).imp_right (List.mem_cons_of_mem _)
theorem iJ {l:List Ent}(h:cA l)(E:Ent):cA (bJ l E):=by
 induction l with
 | nil=>simp[bJ,cA]
 | cons a l ih =>
   have ⟨h1,h2⟩:=List.pairwise_cons.1 h;unfold bJ;split
   ·rename_i e;exact List.pairwise_cons.2 ⟨λ b hb=>by rw[<- e];exact h1 b hb,h2⟩
   ·split
    ·rename_i e;refine List.pairwise_cons.2 ⟨λ b hb=>?_,h⟩;rcases List.mem_cons.1 hb with rfl|hb
     ·exact e
     ·exact bK _ _ _ e (h1 b hb)
    ·rename_i e1 e2;refine List.pairwise_cons.2 ⟨λ b hb=>?_,ih h2⟩;rcases fw hb with h0|hb
     ·rw[h0];rcases bz E.key a.key with h|h|h
      ·exact absurd h e2
      ·exact absurd (fE _ _ h).symm e1
      ·rw[bS,h]
     ·exact h1 b hb
theorem iF {a b:List UInt8}(h:aE a b = -1):a≠b:=by
 intro e;rw[e,ci] at h;cases h
theorem uK {l:List Ent}{E A:Ent}{i:Nat}(hr:cA l)(h:l[i]?=some A)(hk:A.key=E.key):bJ l E=l.set i E:=by
 induction l generalizing i with
 | nil=>simp at h
 | cons a l ih =>
   have ⟨h1,h2⟩:=List.pairwise_cons.1 hr;unfold bJ;cases i with
   | zero =>simp at h;rw[h,if_pos hk];rfl
   | succ i =>(have hA:l[i]?=some A:=by simpa using h);have A0:=h1 A (List.mem_of_getElem? hA);rw[if_neg (by rw[<- hk];exact iF A0),if_neg (by rw[<- hk,bS,A0];decide),ih h2 hA];rfl
theorem rK {l:List Ent}{E:Ent}{i:Nat}(hr:cA l)(hp:cX (l.map Ent.key) E.key i)(hn:∀ A∈l,A.key≠E.key):bJ l E=l.take i++E::l.drop i:=by
 induction l generalizing i with
 | nil=>simp[bJ]
 | cons a l ih =>
   have ⟨h1,h2⟩:=List.pairwise_cons.1 hr;unfold bJ;rw[if_neg (hn a List.mem_cons_self)];cases i with
   | zero =>
     have h0:=hp.hi 0 a.key (Nat.le_refl _) (by simp);have:aE E.key a.key = -1:=by
      rcases bz E.key a.key with h|h|h
      ·exact h
      ·exact absurd (fE _ _ h).symm (hn a List.mem_cons_self)
      ·rw[bS,h] at h0;omega
     rw[if_pos this];rfl
   | succ i =>have h0:=hp.lo 0 a.key (by omega) (by simp);rw[if_neg (by rw[bS,h0];decide)];rw[ih h2 (i:=i) ⟨by have:=hp.le;simp at this ⊢;omega,λ j b hj hb=>hp.lo (j+1) b (by omega) (by simpa using hb),λ j b hj hb=>hp.hi (j+1) b (by omega) (by simpa using hb)⟩ (λ A hA=>hn A (List.mem_cons_of_mem _ hA))];rfl
theorem qu {l:List Ent}(hr:cA l)(t:List UInt8):∃ i,cX (l.map Ent.key) t i:=by
 induction l with
 | nil=>exact⟨0,by simp,λ j a hj=>by omega,λ j a _ h=>by simp at h⟩
 | cons a l ih =>
   have ⟨h1,h2⟩:=List.pairwise_cons.1 hr;by_cases ha:aE a.key t = -1
   ·obtain⟨i,hi⟩:=ih h2;refine⟨i+1,by have:=hi.le;simp at this ⊢;omega,λ j b hj hb=>?_,λ j b hj hb=>?_⟩
    ·cases j with
     | zero=>simp at hb;rw[<- hb];exact ha
     | succ j=>exact hi.lo j b (by omega) (by simpa using hb)
    ·cases j with
     | zero=>omega
     | succ j=>exact hi.hi j b (by omega) (by simpa using hb)
   ·refine⟨0,by simp,λ j b hj=>by omega,λ j b _ hb=>?_⟩;(have A2:0<=aE a.key t:=by rcases bz a.key t with h|h|h<;>omega);cases j with
    | zero=>simp at hb;rw[<- hb];exact A2
    | succ j =>
      (have A0:(l.map Ent.key)[j]?=some b:=by simpa using hb);obtain⟨B,hB,rfl⟩:=List.mem_map.1 (List.mem_of_getElem? A0);have A1:=h1 B hB;rcases bz B.key t with h|h|h
      ·have:=bK _ _ _ A1 h;omega
      ·omega
      ·omega
theorem cA.rising {l:List Ent}(h:cA l):dK (l.map Ent.key):=by
 intro i j a b A0 ha hb;rw[List.getElem?_map] at ha hb;obtain⟨A,hA,rfl⟩:=Option.map_eq_some_iff.1 ha;obtain⟨B,hB,rfl⟩:=Option.map_eq_some_iff.1 hb;obtain⟨hi,rfl⟩:=List.getElem?_eq_some_iff.1 hA;obtain⟨hj,rfl⟩:=List.getElem?_eq_some_iff.1 hB;exact List.pairwise_iff_getElem.1 h i j hi hj A0
theorem cA.filter {l:List Ent}(h:cA l)(P:Ent->Bool):cA (l.filter P):=List.Pairwise.filter _ h
theorem cT (a:Ent)(l:List Ent)(E:Ent):bJ (a::l) E=if a.key=E.key then E::l else if aE E.key a.key = -1 then E::a::l else a::bJ l E:=rfl
theorem gK {l:List Ent}(hr:cA l)(E:Ent)(P:List UInt8->Bool)(hp:P E.key=true):(bJ l E).filter (λ A=>P A.key)=bJ (l.filter λ A=>P A.key) E:=by
 induction l with
 | nil=>simp[bJ,hp]
 | cons a l ih =>
   have ⟨h1,h2⟩:=List.pairwise_cons.1 hr;rw[cT];by_cases e:a.key=E.key
   ·rw[if_pos e,List.filter_cons,if_pos hp,List.filter_cons,if_pos (by rw[e];exact hp),];simp[cT,e]
   ·rw[if_neg e];by_cases hlt:aE E.key a.key = -1
    ·rw[if_pos hlt,List.filter_cons,if_pos hp];by_cases ha:P a.key=true
     ·rw[List.filter_cons,if_pos ha];simp[cT,e,hlt]
     ·rw[List.filter_cons,if_neg ha];cases hf:l.filter λ A=>P A.key with
      | nil=>rfl
      | cons b r =>have hb:b∈l:=(List.mem_filter.1 (by rw[hf];exact List.mem_cons_self:b∈l.filter λ A=>P A.key)).1;have A0:=bK _ _ _ hlt (h1 b hb);simp[cT,A0,(iF A0).symm]
    ·rw[if_neg hlt,List.filter_cons];by_cases ha:P a.key=true
     ·rw[if_pos ha,ih h2,List.filter_cons,if_pos ha];simp[cT,e,hlt]
     ·rw[if_neg ha,ih h2,List.filter_cons,if_neg ha]
theorem iw {l:List Ent}(E:Ent)(P:List UInt8->Bool)(hp:P E.key=false):(bJ l E).filter (λ A=>P A.key)=l.filter λ A=>P A.key:=by
 induction l with
 | nil=>simp[bJ,hp]
 | cons a l ih =>
   rw[cT];by_cases e:a.key=E.key
   ·rw[if_pos e,List.filter_cons,List.filter_cons,e,hp];simp
   ·rw[if_neg e];by_cases hlt:aE E.key a.key = -1
    ·rw[if_pos hlt,List.filter_cons,hp];simp
    ·rw[if_neg hlt,List.filter_cons,ih,List.filter_cons]
theorem ge {E:Ent}{k n:Nat}(h:aJ E k n=0):(k=3->∃ i,cV E.vers n=some i)/\(k≠3->E.vers.length<20):=by
 unfold aJ at h;refine⟨λ hk=>?_,λ hk=>?_⟩
 ·rw[if_pos hk] at h;cases hv:cV E.vers n with
  | none=>rw[hv] at h;simp at h
  | some i=>exact⟨i,rfl⟩
 ·rw[if_neg hk] at h;split at h
  ·omega
  ·split at h
   ·omega
   ·omega
theorem uU {E:Ent}{k t n:Nat}{body:List UInt8}(hkey:aA E.key=true)(hnum:∀ v∈E.vers,v.num<=E.last)(hrise:E.vers.Pairwise λ a b=>a.num<b.num)(htime:∀ v∈E.vers,v.time<=253402300799)(hbody:∀ v∈E.vers,v.body.length<=400)(hlen:E.vers.length<=20)
 (ho:aJ E k n=0)(h3:k=3->0<E.last)(hn:k≠3->n=E.last+1)(ht:t<=253402300799)(hb:body.length<=400):ld (bf E k t n body):=by
 have ⟨o1,o2⟩:=ge ho;unfold bf;split
 ·rename_i hk;have A0:∀ v∈E.vers.eraseIdx ((cV E.vers n).getD 0),v∈E.vers:=λ v hv=>List.mem_of_mem_eraseIdx hv;refine⟨hkey,h3 hk,?_,λ v hv=>hnum v (A0 v hv),?_,λ v hv=>htime v (A0 v hv),λ v hv=>hbody v (A0 v hv)⟩
  ·exact Nat.le_trans (List.length_eraseIdx_le _ _) hlen
  ·exact hrise.sublist (List.eraseIdx_sublist _ _)
 ·rename_i hk;have A1:=hn hk;have hl:=o2 hk;refine⟨hkey,by show 0<n;omega,by show (E.vers++_).length<=20;simp;omega,λ v hv=>?_,?_,λ v hv=>?_,λ v hv=>?_⟩
  ·rcases List.mem_append.1 hv with hv|hv
   ·have:=hnum v hv;show v.num<=n;omega
   ·simp at hv;rw[hv];exact Nat.le_refl _
  ·refine List.pairwise_append.2 ⟨hrise,by simp,λ a ha b hb=>?_⟩;simp at hb;rw[hb];have:=hnum a ha;show a.num<n;omega
  ·rcases List.mem_append.1 hv with hv|hv
   ·exact htime v hv
   ·simp at hv;rw[hv];exact ht
  ·rcases List.mem_append.1 hv with hv|hv
   ·exact hbody v hv
   ·simp at hv;rw[hv];exact hb
theorem pZ {E:Ent}{k t n:Nat}{body:List UInt8}(hn:k≠3->n=E.last+1):(bf E k t n body).last<=E.last+1:=by
 unfold bf;split
 ·exact Nat.le_succ _
 ·rename_i hk;rw[hn hk];exact Nat.le_refl _
end Go.Proofs.YtmehkneofinmiaaGreatDoor

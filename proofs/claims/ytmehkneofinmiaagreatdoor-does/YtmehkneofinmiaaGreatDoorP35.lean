/-
 Texts of this proof, part 35.
-/
import Derived.Test.YtmehkneofinmiaaGreatDoorP34
set_option maxRecDepth 100000
set_option maxHeartbeats 4000000
namespace Go.Proofs.YtmehkneofinmiaaGreatDoor
open Go.RowKit
theorem chk_two (h l:Nat)(c:UInt8)(_hh:h<65536)(hl:l<65536):chkS (h*65536+l) c=((h*403+(l ^^^ c.toNat)*256+(l ^^^ c.toNat)*403/65536)%65536)*65536+(l ^^^ c.toNat)*403%65536/\l ^^^ c.toNat<65536:=by
 have hc:=c.toNat_lt
 have e1:=xor_low (h*256+l/256) (l%256) c.toNat (by omega) (by omega)
 have e2:=xor_low (l/256) (l%256) c.toNat (by omega) (by omega)
 rw[show 256*(h*256+l/256)+l%256=h*65536+l by omega] at e1
 rw[show 256*(l/256)+l%256=l by omega] at e2
 have hx:l%256 ^^^ c.toNat<2 ^ 8:=Nat.xor_lt_two_pow (n:=8) (by omega) (by omega)
 unfold chkS
 rw[e1,e2]
 have hy:l/256<256:=by omega
 generalize l%256 ^^^ c.toNat=x at hx
 generalize l/256=y at hy
 omega
theorem be_two (h l:Nat)(_hh:h<65536)(hl:l<65536):be (h*65536+l) 4=be h 2++be l 2:=by
 show [UInt8.ofNat ((h*65536+l)/256 ^ 3%256),UInt8.ofNat ((h*65536+l)/256 ^ 2%256),UInt8.ofNat ((h*65536+l)/256 ^ 1%256),UInt8.ofNat ((h*65536+l)/256 ^ 0%256)]=[UInt8.ofNat (h/256 ^ 1%256),UInt8.ofNat (h/256 ^ 0%256),UInt8.ofNat (l/256 ^ 1%256),UInt8.ofNat (l/256 ^ 0%256)]
 rw[show (h*65536+l)/256 ^ 3%256=h/256 ^ 1%256 by omega,show (h*65536+l)/256 ^ 2%256=h/256 ^ 0%256 by omega,show (h*65536+l)/256 ^ 1%256=l/256 ^ 1%256 by omega,show (h*65536+l)/256 ^ 0%256=l/256 ^ 0%256 by omega]
theorem refCheck_any (l:List UInt8)(w:World)(hs:l.length<4611686018427387904) :
 Calls Tryz.prog 103 #[.string ⟨l.toArray⟩] w fun e w'=>e=.returned (.string ⟨(be (chkF l) 4).toArray⟩)/\Below w.heap.size w w':=by
 obtain⟨s,hS⟩:∃ S:ByteArray,S=⟨l.toArray⟩:=⟨_,rfl⟩
 have hd:s.data.toList=l:=by rw[hS]
 have hsz:s.size=l.length:=by rw[hS];exact List.size_toArray
 rw[<- hS,<- hd]
 have hsl:s.size<4611686018427387904:=by omega
 clear hS hsz hd hs
 go_enter Tryz.func103,Tryz.ntmps103
 go_wp2
 go_loop [3,4,5] (fun hv lv i=>∃ (k h l:Nat),k<=s.size/\i=.int .i64 k/\h<65536/\l<65536/\hv=.int .i64 h/\lv=.int .i64 l/\Hid (chkF (s.data.toList.take k)=h*65536+l)) (fun _ _ i=>s.size-(intOf i).toNat)
 case atStart=>exact⟨0,33052,40389,Nat.zero_le _,rfl,by omega,by omega,rfl,rfl,rfl⟩
 case round =>
  obtain⟨k,h,l,hk,rfl,hh,hl,rfl,rfl,hc⟩:=hrel
  by_cases hlt:k<s.size
  ·have hct:=s[k].toNat_lt
   have h2:=chk_two h l s[k] hh hl
   have HX:Hid (chkF (s.data.toList.take (k+1))=chkS (h*65536+l) s[k]):=by
    show _=_
    rw[take_snoc s k hlt,chk_snoc,hc.out]
   have hxv:=(xor_val l s[k] hl).1
   obtain⟨X,hX⟩:∃ X,l ^^^ s[k].toNat=X:=⟨_,rfl⟩
   rw[hX] at h2 hxv
   have HX2:Hid _:=HX.out.trans h2.1
   have hXl:=h2.2
   rw[show wrap64 (s[k].toNat:Int)=(s[k].toNat:Int) by unfold wrap64;omega] at hxv
   clear h2 HX hX hc
   go_wp2
   exact⟨⟨k+1,(h*403+X*256+X*403/65536)%65536,X*403%65536,by omega,by go_num,Nat.mod_lt _ (by omega),Nat.mod_lt _ (by omega),congrArg (Value.int .i64) (by rw[show (X:Int)*403/65536=((X*403/65536:Nat):Int) by omega];generalize X*403/65536=z;omega),congrArg (Value.int .i64) (by omega),HX2.out⟩,by simp[intOf];omega⟩
  ·have HC:Hid (chkF s.data.toList=h*65536+l):=by
    have:=hc.out
    rw[List.take_of_length_le (by rw[Array.length_toList];show s.size<=k;omega)] at this
    exact this
   have HBE:Hid _:=be_two h l hh hl
   have b1:=be_len h 2
   have b2:=be_len l 2
   have HB1:Hid _:=fun x=>refBytes_any h 2 x (by omega) (by omega)
   have HB2:Hid _:=fun x=>refBytes_any l 2 x (by omega) (by omega)
   obtain⟨A,hA⟩:∃ A,be h 2=A:=⟨_,rfl⟩
   obtain⟨B,hB⟩:∃ B,be l 2=B:=⟨_,rfl⟩
   rw[hA] at HBE b1 HB1
   rw[hB] at HBE b2 HB2
   have s1:(⟨A.toArray⟩:ByteArray).size=2:=by rw[Lib.size_eq];exact b1
   have s2:(⟨B.toArray⟩:ByteArray).size=2:=by rw[Lib.size_eq];exact b2
   clear hc hA hB b1 b2
   go_wp2_with (first
    | (go_at_call_of 163 (Value.int .i64 h);refine Calls.mono (HB1.out _) ?_;rintro e w1 ⟨rfl,hb1⟩)
    | (go_at_call_of 163 (Value.int .i64 l);refine Calls.mono (HB2.out _) ?_;rintro e w2 ⟨rfl,hb2⟩))
   go_ret
   refine⟨ret_str ?_,hb1.trans (hb2.mono hb1.size)⟩
   rw[HC.out,HBE.out]
   apply ByteArray.ext
   simp[ByteArray.data_append]
theorem sz0 (l:List UInt8):(⟨l.toArray⟩:ByteArray).size=l.length:=Lib.size_eq _
theorem addR (a b:List UInt8)(h:a.length+b.length<=1000000000000000):∀ w:World,(Op.stringOp .add ⟨a.toArray⟩ ⟨b.toArray⟩).run Tryz.prog w=.ok (.string ⟨(a++b).toArray⟩) w:=by
 intro w
 have:=run_string_add_sum (P:=Tryz.prog) w ⟨a.toArray⟩ ⟨b.toArray⟩ (by simp[ByteArray.size];omega)
 have e:(⟨a.toArray⟩:ByteArray)++⟨b.toArray⟩=⟨(a++b).toArray⟩:=by apply ByteArray.ext;simp[ByteArray.data_append]
 rw[e] at this
 exact this
theorem refRecord_any (k t n:Nat)(key body:List UInt8)(w:World)(hk:k<4611686018427387904)(ht:t<4611686018427387904)(hn:n<4611686018427387904)(hkl:key.length<=1000)(hbl:body.length<=1000) :
 Calls Tryz.prog 220 #[.int .i64 k,.int .i64 t,.string ⟨key.toArray⟩,.int .i64 n,.string ⟨body.toArray⟩] w fun e w'=>e=.returned (.string ⟨(recF k t key n body).toArray⟩)/\Below w.heap.size w w':=by
 have l1:=be_len k 1
 have l2:=be_len t 8
 have l3:=be_len key.length 1
 have l4:=be_len n 4
 have H1:Hid _:=fun x=>refBytes_any k 1 x hk (by omega)
 have H2:Hid _:=fun x=>refBytes_any t 8 x ht (by omega)
 have H3:Hid _:=fun x=>refBytes_any key.length 1 x (by omega) (by omega)
 have H4:Hid _:=fun x=>refBytes_any n 4 x hn (by omega)
 have HP:Hid (payF k t key n body=be k 1++be t 8++be key.length 1++key++be n 4++body):=by show _=_;simp[payF]
 have HR:Hid (recF k t key n body=be (payF k t key n body).length 2++payF k t key n body++be (chkF (payF k t key n body)) 4):=by show _=_;simp[recF]
 obtain⟨p1,e1⟩:∃ p,be k 1=p:=⟨_,rfl⟩
 obtain⟨p2,e2⟩:∃ p,be t 8=p:=⟨_,rfl⟩
 obtain⟨p3,e3⟩:∃ p,be key.length 1=p:=⟨_,rfl⟩
 obtain⟨p4,e4⟩:∃ p,be n 4=p:=⟨_,rfl⟩
 rw[e1] at l1 H1 HP
 rw[e2] at l2 H2 HP
 rw[e3] at l3 H3 HP
 rw[e4] at l4 H4 HP
 clear e1 e2 e3 e4
 have hks:=sz0 key
 obtain⟨q1,f1⟩:∃ q,p1++p2=q:=⟨_,rfl⟩
 obtain⟨q2,f2⟩:∃ q,q1++p3=q:=⟨_,rfl⟩
 obtain⟨q3,f3⟩:∃ q,q2++key=q:=⟨_,rfl⟩
 obtain⟨q4,f4⟩:∃ q,q3++p4=q:=⟨_,rfl⟩
 obtain⟨P,f5⟩:∃ q,q4++body=q:=⟨_,rfl⟩
 have m1:q1.length=9:=by rw[<- f1,List.length_append];omega
 have m2:q2.length=10:=by rw[<- f2,List.length_append];omega
 have m3:q3.length=10+key.length:=by rw[<- f3,List.length_append];omega
 have m4:q4.length=14+key.length:=by rw[<- f4,List.length_append];omega
 have lP:P.length=14+key.length+body.length:=by rw[<- f5,List.length_append];omega
 have a1:=addR p1 p2 (by omega)
 have a2:=addR q1 p3 (by omega)
 have a3:=addR q2 key (by omega)
 have a4:=addR q3 p4 (by omega)
 have a5:=addR q4 body (by omega)
 rw[f1] at a1 HP
 rw[f2] at a2 HP
 rw[f3] at a3 HP
 rw[f4] at a4 HP
 rw[f5] at a5 HP
 rw[HP.out] at HR
 have hps:=sz0 P
 have H5:Hid _:=fun x=>refBytes_any P.length 2 x (by omega) (by omega)
 have H6:Hid _:=fun x=>refCheck_any P x (by omega)
 have l5:=be_len P.length 2
 have l6:=be_len (chkF P) 4
 obtain⟨p5,e5⟩:∃ p,be P.length 2=p:=⟨_,rfl⟩
 obtain⟨p6,e6⟩:∃ p,be (chkF P) 4=p:=⟨_,rfl⟩
 rw[e5] at l5 H5 HR
 rw[e6] at l6 H6 HR
 obtain⟨q5,f6⟩:∃ q,p5++P=q:=⟨_,rfl⟩
 have m5:q5.length=P.length+2:=by rw[<- f6,List.length_append];omega
 have a6:=addR p5 P (by omega)
 have a7:=addR q5 p6 (by omega)
 obtain⟨q6,f7⟩:∃ q,q5++p6=q:=⟨_,rfl⟩
 rw[f6] at a6 HR
 rw[f7] at a7 HR
 have lP2:P.length<=3000:=by omega
 clear e5 e6 HP hk ht hn f1 f2 f3 f4 f5 f6 f7 m1 m2 m3 m4 m5 l1 l2 l3 l4 l5 l6 lP hbl
 go_enter Tryz.func220,Tryz.ntmps220
 go_wp2_with fail
 refine Calls.mono (H1.out _) ?_
 rintro e w1 ⟨rfl,hb1⟩
 go_wp2_with fail
 refine Calls.mono (H2.out _) ?_
 rintro e w2 ⟨rfl,hb2⟩
 go_wp2_with fail
 refine Calls.mono (H3.out _) ?_
 rintro e w3 ⟨rfl,hb3⟩
 go_wp2_with fail
 refine Calls.mono (H4.out _) ?_
 rintro e w4 ⟨rfl,hb4⟩
 go_wp2_with fail
 refine Calls.mono (H5.out _) ?_
 rintro e w5 ⟨rfl,hb5⟩
 go_wp2_with fail
 refine Calls.mono (H6.out _) ?_
 rintro e w6 ⟨rfl,hb6⟩
 have HB:Hid (Below w.heap.size w w6):=by
  have g1:=hb1
  have g2:=g1.trans (hb2.mono g1.size)
  have g3:=g2.trans (hb3.mono g2.size)
  have g4:=g3.trans (hb4.mono g3.size)
  have g5:=g4.trans (hb5.mono g4.size)
  exact g5.trans (hb6.mono g5.size)
 go_wp2
 go_ret
 exact⟨ret_str (by rw[HR.out]),HB.out⟩
structure Itm where
 key:List UInt8
 num:Nat
 time:Nat
 mark:Bool
 body:List UInt8
 gone:Bool
def itmCells (v:Itm):List Value:=[.string ⟨v.key.toArray⟩,.int .i64 v.num,.int .i64 v.time,.bool v.mark,.string ⟨v.body.toArray⟩,.bool v.gone]
def itmRow (l:List Itm):List Value:=l.flatMap itmCells
theorem itmRow_get (l:List Itm)(i:Nat)(v:Itm)(h:l[i]?=some v)(j:Nat)(hj:j<6):(itmRow l)[i*6+j]?=(itmCells v)[j]?:=by
 induction l generalizing i with
 | nil=>simp at h
 | cons a l ih =>
   simp only[itmRow,List.flatMap_cons]
   cases i with
   | zero =>
     simp at h;subst h
     rw[List.getElem?_append_left (by simp[itmCells];omega)]
     simp
   | succ i =>
     rw[List.getElem?_append_right (by simp[itmCells];omega)]
     have e:(i+1)*6+j-(itmCells a).length=i*6+j:=by simp[itmCells];omega
     rw[e]
     exact ih i (by simpa using h)
structure RefAt (w:World)(p:Nat)(t:Nat)(l:List Itm)(J:List UInt8)(vs:Value):Prop where
 blk:w.heap[p]?=some (.cells #[.int .i64 t,vs,.string ⟨J.toArray⟩] 78 (0,0))
 row:w.ownsRow 0 199 6 vs l.length (itmRow l)
 few:l.length<1000000000000
theorem RefAt.c0 {w:World}{p t:Nat}{l:List Itm}{J:List UInt8}{vs:Value}(h:RefAt w p t l J vs):w.cell? ⟨p,0,none⟩=some (.int .i64 t):=by simp[World.cell?,h.blk]
theorem RefAt.c1 {w:World}{p t:Nat}{l:List Itm}{J:List UInt8}{vs:Value}(h:RefAt w p t l J vs):w.cell? ⟨p,1,none⟩=some vs:=by simp[World.cell?,h.blk]
theorem RefAt.c2 {w:World}{p t:Nat}{l:List Itm}{J:List UInt8}{vs:Value}(h:RefAt w p t l J vs):w.cell? ⟨p,2,none⟩=some (.string ⟨J.toArray⟩):=by simp[World.cell?,h.blk]
theorem RefAt.lt {w:World}{p t:Nat}{l:List Itm}{J:List UInt8}{vs:Value}(h:RefAt w p t l J vs):p<w.heap.size:=(Array.getElem?_eq_some_iff.1 h.blk).1
def ItmsAt (w:World)(a:Option Addr)(l:List Itm):Prop :=
 ∀ i v,l[i]?=some v->∃ g,a=some ⟨g,0,none⟩/\g<w.heap.size/\w.cell? ⟨g,i*6,none⟩=some (.string ⟨v.key.toArray⟩)/\w.cell? ⟨g,i*6+1,none⟩=some (.int .i64 v.num)/\w.cell? ⟨g,i*6+2,none⟩=some (.int .i64 v.time)/\w.cell? ⟨g,i*6+3,none⟩=some (.bool v.mark)/\w.cell? ⟨g,i*6+4,none⟩=some (.string ⟨v.body.toArray⟩)/\w.cell? ⟨g,i*6+5,none⟩=some (.bool v.gone)
theorem RefAt.itms {w:World}{p t:Nat}{l:List Itm}{J:List UInt8}{vs:Value}(h:RefAt w p t l J vs):∃ a c,vs=.slice a l.length c/\ItmsAt w a l:=by
 rcases h.row.2 with ⟨hv,h0⟩|⟨g,cap,cur,hv,_,hg,hn,hm,hs,htk⟩
 ·have:l=[]:=List.eq_nil_of_length_eq_zero h0
  subst this
  exact⟨none,0,hv,fun i v hi=>by simp at hi⟩
 ·refine⟨_,cap,hv,fun i v hi=>⟨g,rfl,(Array.getElem?_eq_some_iff.1 hg).1,?_⟩⟩
  have hlt:i<l.length:=(List.getElem?_eq_some_iff.1 hi).1
  have key:∀ j,j<6->w.cell? ⟨g,i*6+j,none⟩=(itmCells v)[j]?:=by
   intro j hj
   rw[<- itmRow_get l i v hi j hj,<- htk,List.getElem?_take_of_lt (by omega)]
   simp[World.cell?,hg]
  exact⟨key 0 (by omega),key 1 (by omega),key 2 (by omega),key 3 (by omega),key 4 (by omega),key 5 (by omega)⟩
def knownF (l:List Itm):Nat:=l.countP fun v=>v.num==1
theorem countP_take {α:Type}(q:α->Bool)(l:List α)(k:Nat)(v:α)(h:l[k]?=some v):(l.take (k+1)).countP q=(l.take k).countP q+(if q v then 1 else 0):=by
 rw[List.take_add_one,h];simp[List.countP_append,List.countP_cons]
theorem refKnown_any (p t:Nat)(l:List Itm)(J:List UInt8)(vs:Value)(w:World)(h:RefAt w p t l J vs) :
 Calls Tryz.prog 218 #[.pointer (some ⟨p,0,none⟩)] w fun e w'=>e=.returned (.int .i64 (knownF l))/\w'=w:=by
 have h2:=h.c1
 have hf:=h.few
 obtain⟨a,c,rfl,hI⟩:=h.itms
 have HI:Hid (ItmsAt w a l):=hI
 clear h hI
 go_enter Tryz.func218,Tryz.ntmps218
 go_wp2
 go_loop [3,4] (fun n i=>∃ k:Nat,k<=l.length/\i=.int .i64 k/\n=.int .i64 ((l.take k).countP fun v=>v.num==1:Nat)) (fun _ i=>l.length-(intOf i).toNat)
 case atStart=>exact⟨0,Nat.zero_le _,rfl,rfl⟩
 case round =>
  obtain⟨k,hk,rfl,rfl⟩:=hrel
  have hcl:((l.take k).countP fun v=>v.num==1)<=k:=Nat.le_trans List.countP_le_length (by simp;omega)
  by_cases hlt:k<l.length
  ·obtain⟨v,hv⟩:∃ v,l[k]?=some v:=⟨_,List.getElem?_eq_getElem hlt⟩
   obtain⟨g,rfl,hg,i0,i1,_,_,_,i5⟩:=HI.out k v hv
   have HC:Hid _:=countP_take (fun v:Itm=>v.num==1) l k v hv
   clear hv
   obtain⟨C,hC⟩:∃ C,((l.take k).countP fun v=>v.num==1)=C:=⟨_,rfl⟩
   rw[hC] at HC hcl ⊢
   clear hC
   go_wp2
   all_goals refine⟨⟨k+1,by omega,by go_num,?_⟩,by simp[intOf];omega⟩
   all_goals rename_i hq
   all_goals rw[HC.out]
   ·rw[if_pos (by simp only[beq_iff_eq] at hq ⊢;omega)];go_num
   ·rw[if_neg (by simp only[beq_iff_eq,beq_eq_false_iff_ne,ne_eq] at hq ⊢;omega)];rfl
  ·have:k=l.length:=by omega
   subst this
   rw[List.take_length]
   go_wp2
   go_ret
   exact⟨rfl,rfl⟩
def manyF (key:List UInt8)(l:List Itm):Nat:=l.countP fun v=>v.key==key&&!v.gone
theorem refMany_any (p t:Nat)(l:List Itm)(J:List UInt8)(vs:Value)(key:List UInt8)(w:World)(h:RefAt w p t l J vs) :
 Calls Tryz.prog 219 #[.pointer (some ⟨p,0,none⟩),.string ⟨key.toArray⟩] w fun e w'=>e=.returned (.int .i64 (manyF key l))/\w'=w:=by
 have h2:=h.c1
 have hf:=h.few
 obtain⟨a,c,rfl,hI⟩:=h.itms
 have HI:Hid (ItmsAt w a l):=hI
 clear h hI
 go_enter Tryz.func219,Tryz.ntmps219
 go_wp2
 go_loop [5,6] (fun n i=>∃ k:Nat,k<=l.length/\i=.int .i64 k/\n=.int .i64 ((l.take k).countP fun v=>v.key==key&&!v.gone:Nat)) (fun _ i=>l.length-(intOf i).toNat)
 case atStart=>exact⟨0,Nat.zero_le _,rfl,rfl⟩
 case round =>
  obtain⟨k,hk,rfl,rfl⟩:=hrel
  have hcl:((l.take k).countP fun v=>v.key==key&&!v.gone)<=k:=Nat.le_trans List.countP_le_length (by simp;omega)
  by_cases hlt:k<l.length
  ·obtain⟨v,hv⟩:∃ v,l[k]?=some v:=⟨_,List.getElem?_eq_getElem hlt⟩
   obtain⟨g,rfl,hg,i0,i1,_,_,_,i5⟩:=HI.out k v hv
   have HC:Hid _:=countP_take (fun v:Itm=>v.key==key&&!v.gone) l k v hv
   clear hv
   obtain⟨C,hC⟩:∃ C,((l.take k).countP fun v=>v.key==key&&!v.gone)=C:=⟨_,rfl⟩
   rw[hC] at HC hcl ⊢
   clear hC
   go_wp2
   all_goals refine⟨⟨k+1,by omega,by go_num,?_⟩,by simp[intOf];omega⟩
   all_goals rw[HC.out]
   ·rw[if_pos (by simp_all)];go_num
   ·rw[if_neg (by simp_all)];rfl
   ·rw[if_neg (by simp_all)];rfl
  ·have:k=l.length:=by omega
   subst this
   rw[List.take_length]
   go_wp2
   go_ret
   exact⟨rfl,rfl⟩
def lastS (key:List UInt8)(n:Nat)(v:Itm):Nat:=if v.key=key/\n<v.num then v.num else n
def lastF (key:List UInt8)(l:List Itm):Nat:=l.foldl (lastS key) 0
theorem lastF_step (key:List UInt8)(l:List Itm)(k:Nat)(v:Itm)(h:l[k]?=some v):lastF key (l.take (k+1))=lastS key (lastF key (l.take k)) v:=by
 rw[List.take_add_one,h];simp[lastF,List.foldl_append]
theorem refLast_any (p t:Nat)(l:List Itm)(J:List UInt8)(vs:Value)(key:List UInt8)(w:World)(h:RefAt w p t l J vs) :
 Calls Tryz.prog 113 #[.pointer (some ⟨p,0,none⟩),.string ⟨key.toArray⟩] w fun e w'=>e=.returned (.int .i64 (lastF key l))/\w'=w:=by
 have h2:=h.c1
 have hf:=h.few
 obtain⟨a,c,rfl,hI⟩:=h.itms
 have HI:Hid (ItmsAt w a l):=hI
 clear h hI
 go_enter Tryz.func113,Tryz.ntmps113
 go_wp2
 go_loop [5,6] (fun n i=>∃ k:Nat,k<=l.length/\i=.int .i64 k/\n=.int .i64 (lastF key (l.take k):Nat)) (fun _ i=>l.length-(intOf i).toNat)
 case atStart=>exact⟨0,Nat.zero_le _,rfl,rfl⟩
 case round =>
  obtain⟨k,hk,rfl,rfl⟩:=hrel
  by_cases hlt:k<l.length
  ·obtain⟨v,hv⟩:∃ v,l[k]?=some v:=⟨_,List.getElem?_eq_getElem hlt⟩
   obtain⟨g,rfl,hg,i0,i1,_,_,_,i5⟩:=HI.out k v hv
   have HC:Hid _:=lastF_step key l k v hv
   clear hv
   obtain⟨C,hC⟩:∃ C,lastF key (l.take k)=C:=⟨_,rfl⟩
   rw[hC] at HC ⊢
   clear hC
   go_wp2
   all_goals refine⟨⟨k+1,by omega,by go_num,?_⟩,by simp[intOf];omega⟩
   all_goals rw[HC.out]
   all_goals (unfold lastS;split)
   all_goals first|rfl|(exfalso;simp_all;done)|(exfalso;simp_all;omega)
  ·have:k=l.length:=by omega
   subst this
   rw[List.take_length]
   go_wp2
   go_ret
   exact⟨rfl,rfl⟩
def newestS (key:List UInt8)(n:Nat)(v:Itm):Nat:=if v.key=key/\n<v.num/\v.gone=false then v.num else n
def newestF (key:List UInt8)(l:List Itm):Nat:=l.foldl (newestS key) 0
theorem newestF_step (key:List UInt8)(l:List Itm)(k:Nat)(v:Itm)(h:l[k]?=some v):newestF key (l.take (k+1))=newestS key (newestF key (l.take k)) v:=by
 rw[List.take_add_one,h];simp[newestF,List.foldl_append]
theorem refNewest_any (p t:Nat)(l:List Itm)(J:List UInt8)(vs:Value)(key:List UInt8)(w:World)(h:RefAt w p t l J vs) :
 Calls Tryz.prog 173 #[.pointer (some ⟨p,0,none⟩),.string ⟨key.toArray⟩] w fun e w'=>e=.returned (.int .i64 (newestF key l))/\w'=w:=by
 have h2:=h.c1
 have hf:=h.few
 obtain⟨a,c,rfl,hI⟩:=h.itms
 have HI:Hid (ItmsAt w a l):=hI
 clear h hI
 go_enter Tryz.func173,Tryz.ntmps173
 go_wp2
 go_loop [5,6] (fun n i=>∃ k:Nat,k<=l.length/\i=.int .i64 k/\n=.int .i64 (newestF key (l.take k):Nat)) (fun _ i=>l.length-(intOf i).toNat)
 case atStart=>exact⟨0,Nat.zero_le _,rfl,rfl⟩
 case round =>
  obtain⟨k,hk,rfl,rfl⟩:=hrel
  by_cases hlt:k<l.length
  ·obtain⟨v,hv⟩:∃ v,l[k]?=some v:=⟨_,List.getElem?_eq_getElem hlt⟩
   obtain⟨g,rfl,hg,i0,i1,_,_,_,i5⟩:=HI.out k v hv
   have HC:Hid _:=newestF_step key l k v hv
   clear hv
   obtain⟨C,hC⟩:∃ C,newestF key (l.take k)=C:=⟨_,rfl⟩
   rw[hC] at HC ⊢
   clear hC
   go_wp2
   all_goals refine⟨⟨k+1,by omega,by go_num,?_⟩,by simp[intOf];omega⟩
   all_goals rw[HC.out]
   all_goals (unfold newestS;split)
   all_goals first|rfl|(exfalso;simp_all;done)|(exfalso;simp_all;omega)
  ·have:k=l.length:=by omega
   subst this
   rw[List.take_length]
   go_wp2
   go_ret
   exact⟨rfl,rfl⟩
def findF (key:List UInt8)(n:Int)(l:List Itm):Option Nat:=l.findIdx? fun v=>v.key==key&&((v.num:Int)==n)&&!v.gone
def idxI:Option Nat->Int
 | none => -1
 | some i=>i
theorem refFind_any (p t:Nat)(l:List Itm)(J:List UInt8)(vs:Value)(key:List UInt8)(n:Int)(w:World)(h:RefAt w p t l J vs) :
 Calls Tryz.prog 114 #[.pointer (some ⟨p,0,none⟩),.string ⟨key.toArray⟩,.int .i64 n] w fun e w'=>e=.returned (.int .i64 (idxI (findF key n l)))/\w'=w:=by
 have h2:=h.c1
 have hf:=h.few
 obtain⟨a,c,rfl,hI⟩:=h.itms
 have HI:Hid (ItmsAt w a l):=hI
 clear h hI
 go_enter Tryz.func114,Tryz.ntmps114
 go_wp2
 go_loop [7] (fun i=>∃ k:Nat,k<=l.length/\i=.int .i64 k/\Hid (∀ v∈l.take k,(v.key==key&&((v.num:Int)==n)&&!v.gone)=false)) (fun i=>l.length-(intOf i).toNat)
 case atStart=>exact⟨0,Nat.zero_le _,rfl,fun v hv=>by simp at hv⟩
 case round =>
  obtain⟨k,hk,rfl,hno⟩:=hrel
  by_cases hlt:k<l.length
  ·obtain⟨v,hv⟩:∃ v,l[k]?=some v:=⟨_,List.getElem?_eq_getElem hlt⟩
   obtain⟨g,rfl,hg,i0,i1,_,_,_,i5⟩:=HI.out k v hv
   have HY:Hid ((v.key==key&&((v.num:Int)==n)&&!v.gone)=true->findF key n l=some k):=by
    intro hy
    unfold findF
    rw[List.findIdx?_eq_some_iff_getElem]
    refine⟨hlt,?_,?_⟩
    ·rw[(List.getElem?_eq_some_iff.1 hv).2];exact hy
    ·intro j hj
     have:=hno.out (l[j]'(by omega)) (List.mem_take_iff_getElem.2 ⟨j,by omega,rfl⟩)
     simp only[this,Bool.false_eq_true,not_false_eq_true]
   have HN:Hid ((v.key==key&&((v.num:Int)==n)&&!v.gone)=false->∀ v∈l.take (k+1),(v.key==key&&((v.num:Int)==n)&&!v.gone)=false):=by
    intro hn u hu
    rw[List.take_add_one,hv] at hu
    rcases List.mem_append.1 hu with hu|hu
    ·exact hno.out u hu
    ·simp at hu;subst hu;exact hn
   clear hv hno
   go_wp2
   all_goals first
    | exact⟨⟨k+1,by omega,by go_num,HN.out (by simp_all)⟩,by simp[intOf];omega⟩
    | (go_ret;rw[HY.out (by simp_all)];exact⟨rfl,rfl⟩)
  ·have hk':k=l.length:=by omega
   subst hk'
   have HF:Hid (findF key n l=none):=by
    show _=_
    unfold findF
    rw[List.findIdx?_eq_none_iff]
    intro v hv
    exact hno.out v (by simpa using hv)
   go_wp2
   go_ret
   rw[HF.out]
   exact⟨rfl,rfl⟩
def someF (key:List UInt8)(l:List Itm):Option Nat :=
 match findF key (newestF key l) l with
 | none=>none
 | some i=>match l[i]? with
   | none=>none
   | some v=>if v.mark then none else some i
theorem findF_lt {key:List UInt8}{n:Int}{l:List Itm}{i:Nat}(h:findF key n l=some i):i<l.length:=by
 unfold findF at h
 exact (List.findIdx?_eq_some_iff_getElem.1 h).1
theorem refSomething_any (p t:Nat)(l:List Itm)(J:List UInt8)(vs:Value)(key:List UInt8)(w:World)(h:RefAt w p t l J vs) :
 Calls Tryz.prog 110 #[.pointer (some ⟨p,0,none⟩),.string ⟨key.toArray⟩] w fun e w'=>e=.returned (.int .i64 (idxI (someF key l)))/\w'=w:=by
 have h2:=h.c1
 have hf:=h.few
 obtain⟨a,c,hvs,hI⟩:=h.itms
 have HI:Hid (ItmsAt w a l):=hI
 have HR:Hid (RefAt w p t l J vs):=h
 subst hvs
 clear h hI
 cases hfi:findF key (newestF key l) l with
 | none =>
   have HS:Hid (someF key l=none):=by show _=_;unfold someF;rw[hfi]
   have HF:Hid (findF key (newestF key l) l=none):=hfi
   clear hfi
   go_enter Tryz.func110,Tryz.ntmps110
   go_wp2_with (first
    | (go_at_call 173;refine (refNewest_any p t l J _ key _ HR.out).mono ?_;rintro e w' ⟨rfl,rfl⟩)
    | (go_at_call 114;refine (refFind_any p t l J _ key _ _ HR.out).mono ?_;rintro e w' ⟨rfl,rfl⟩;rw[HF.out];simp only[idxI]))
   all_goals go_ret
   all_goals rw[HS.out]
   all_goals exact⟨rfl,rfl⟩
 | some i =>
   have hlt:=findF_lt hfi
   obtain⟨v,hv⟩:∃ v,l[i]?=some v:=⟨_,List.getElem?_eq_getElem hlt⟩
   obtain⟨g,rfl,hg,i0,i1,_,i3,_,i5⟩:=HI.out i v hv
   have HS:Hid (someF key l=if v.mark then none else some i):=by show _=_;unfold someF;rw[hfi];simp only[hv]
   have HF:Hid (findF key (newestF key l) l=some i):=hfi
   clear hfi hv
   cases hm:v.mark
   all_goals
    rw[hm] at i3 HS
    clear hm
    go_enter Tryz.func110,Tryz.ntmps110
    go_wp2_with (first
     | (go_at_call 173;refine (refNewest_any p t l J _ key _ HR.out).mono ?_;rintro e w' ⟨rfl,rfl⟩)
     | (go_at_call 114;refine (refFind_any p t l J _ key _ _ HR.out).mono ?_;rintro e w' ⟨rfl,rfl⟩;rw[HF.out];simp only[idxI]))
    go_ret
    rw[HS.out]
    exact⟨rfl,rfl⟩
def roomF (key:List UInt8)(l:List Itm):Bool:=(decide (0<lastF key l)||decide (knownF l<60))&&decide (manyF key l<20)
theorem refRoom_any (p t:Nat)(l:List Itm)(J:List UInt8)(vs:Value)(key:List UInt8)(w:World)(h:RefAt w p t l J vs) :
 Calls Tryz.prog 164 #[.pointer (some ⟨p,0,none⟩),.string ⟨key.toArray⟩] w fun e w'=>e=.returned (.bool (roomF key l))/\w'=w:=by
 have HR:Hid (RefAt w p t l J vs):=h
 clear h
 unfold roomF
 go_enter Tryz.func164,Tryz.ntmps164
 go_wp2_with (first
  | (go_at_call 113;refine (refLast_any p t l J _ key _ HR.out).mono ?_;rintro e w' ⟨rfl,rfl⟩)
  | (go_at_call 218;refine (refKnown_any p t l J _ _ HR.out).mono ?_;rintro e w' ⟨rfl,rfl⟩)
  | (go_at_call 219;refine (refMany_any p t l J _ key _ HR.out).mono ?_;rintro e w' ⟨rfl,rfl⟩))
 all_goals go_ret
 all_goals refine⟨ret_bool ?_,rfl⟩
 all_goals (rw[Bool.eq_iff_iff];simp_all)
 all_goals omega
theorem sz (l:List UInt8):(⟨l.toArray⟩:ByteArray).size=l.length:=Lib.size_eq _
theorem refField_any (a b:List UInt8)(w:World)(ha:a.length<1000000)(hb:b.length<1000000) :
 Calls Tryz.prog 112 #[.string ⟨a.toArray⟩,.string ⟨b.toArray⟩] w fun e w'=>e=.returned (.string ⟨(fldText ⟨a,b⟩).toArray⟩)/\w'=w:=by
 have h1:=sz a
 have h2:=sz b
 go_enter Tryz.func112,Tryz.ntmps112
 go_wp2
 go_ret
 refine⟨ret_str ?_,rfl⟩
 apply ByteArray.ext
 simp[fldText,ByteArray.data_append]
theorem refQuoted_any (body:List UInt8)(w:World)(hb:body.length<1000000) :
 Calls Tryz.prog 111 #[.string ⟨body.toArray⟩] w fun e w'=>e=.returned (.string ⟨(qTag body).toArray⟩)/\Below w.heap.size w w':=by
 have h1:=sz body
 obtain⟨H,hH⟩:∃ H,hexN 16 (fnv body)=H:=⟨_,rfl⟩
 have hHl:H.length=16:=by rw[<- hH];exact hexN_len 16 _
 have HH:Hid _:=hH
 have hs:(⟨H.toArray⟩:ByteArray).size=16:=by rw[Lib.size_eq];exact hHl
 have HT:Hid (∀ w,Calls Tryz.prog 115 #[.string ⟨body.toArray⟩] w fun e w'=>e=.returned (.string ⟨H.toArray⟩)/\Below w.heap.size w w'):=by
  intro w
  have:=refTag ⟨body.toArray⟩ w (by omega)
  rwa [show (ByteArray.mk body.toArray).data.toList=body from rfl,hH] at this
 clear hH hHl
 go_enter Tryz.func111,Tryz.ntmps111
 go_wp2_with (go_at_call 115;refine (HT.out _).mono ?_;rintro e w1 ⟨rfl,hb1⟩)
 go_ret
 refine⟨ret_str ?_,hb1⟩
 unfold qTag
 rw[HH.out]
 apply ByteArray.ext
 simp[ByteArray.data_append]
theorem refReply_any (code:Nat)(fs body:List UInt8)(w:World)(hT:Tab w)(hc:code<100000)(hf:fs.length<100000)(hb:body.length<1000000000000000) :
 Calls Tryz.prog 55 #[.int .i64 code,.string ⟨fs.toArray⟩,.string ⟨body.toArray⟩] w fun e w'=>e=.returned (.string ⟨(Lib.decDigits code++[13,10]++fs++[13,10]++body).toArray⟩)/\Below w.heap.size w w':=by
 have h1:=sz fs
 have h2:=sz body
 obtain⟨D,hD⟩:∃ D,Lib.decDigits code=D:=⟨_,rfl⟩
 have hl:D.length<=5:=by rw[<- hD];exact dec_len code hc
 have h3:=sz D
 have HI:Hid (∀ x,Below w.heap.size w x->Calls Tryz.prog 17 #[.int .i64 code] x fun e w'=>e=.returned (.string ⟨D.toArray⟩)/\Below x.heap.size x w'):=by
  intro x hx
  rw[<- hD]
  exact itoaN code x (by omega) (hT.below hx)
 rw[hD]
 clear hD hT
 go_enter Tryz.func55,Tryz.ntmps55
 go_wp2_with (go_at_call 17;refine (HI.out _ (by first|exact Below.refl _ _|exact (Below.refl _ _).drew)).mono ?_;rintro e w1 ⟨rfl,hb1⟩)
 go_ret
 refine⟨ret_str ?_,hb1⟩
 apply ByteArray.ext
 simp[ByteArray.data_append]
def nextS (l:List Itm)(after best:List UInt8)(v:Itm):List UInt8 :=
 if Op.bytesLess after v.key&&(best.isEmpty||Op.bytesLess v.key best)&&(someF v.key l).isSome then v.key else best
def nextF (l:List Itm)(after:List UInt8):List UInt8:=l.foldl (nextS l after) []
theorem nextF_step (l m:List Itm)(after:List UInt8)(k:Nat)(v:Itm)(h:m[k]?=some v):(m.take (k+1)).foldl (nextS l after) []=nextS l after ((m.take k).foldl (nextS l after) []) v:=by
 rw[List.take_add_one,h];simp[List.foldl_append]
theorem less_not (a b:List UInt8):Op.bytesLess a b=(!Op.bytesLess b a&&!(b==a)):=by
 rw[less_cmp,less_cmp,cmpB_swap b a]
 by_cases e:b=a
 ·subst e;rw[cmpB_refl];simp
 ·rcases cmpB_range b a with h|h|h
  ·rw[h];rfl
  ·exact absurd (cmpB_eq _ _ h) e
  ·rw[h];simp[e]
theorem refNext_any (p t:Nat)(l:List Itm)(J:List UInt8)(vs:Value)(after:List UInt8)(w:World)(h:RefAt w p t l J vs) :
 Calls Tryz.prog 109 #[.pointer (some ⟨p,0,none⟩),.string ⟨after.toArray⟩] w fun e w'=>e=.returned (.string ⟨(nextF l after).toArray⟩)/\w'=w:=by
 have h2:=h.c1
 have hf:=h.few
 obtain⟨a,c,hvs,hI⟩:=h.itms
 have HI:Hid (ItmsAt w a l):=hI
 have HR:Hid (RefAt w p t l J vs):=h
 subst hvs
 clear h hI
 unfold nextF
 go_enter Tryz.func109,Tryz.ntmps109
 go_wp2
 go_loop [5,6] (fun n i=>∃ k:Nat,k<=l.length/\i=.int .i64 k/\n=.string ⟨((l.take k).foldl (nextS l after) []).toArray⟩) (fun _ i=>l.length-(intOf i).toNat)
 case atStart=>exact⟨0,Nat.zero_le _,rfl,rfl⟩
 case round =>
  obtain⟨k,hk,rfl,rfl⟩:=hrel
  by_cases hlt:k<l.length
  ·obtain⟨v,hv⟩:∃ v,l[k]?=some v:=⟨_,List.getElem?_eq_getElem hlt⟩
   obtain⟨g,rfl,hg,i0,i1,_,_,_,i5⟩:=HI.out k v hv
   have HC:Hid _:=nextF_step l l after k v hv
   clear hv
   obtain⟨C,hC⟩:∃ C,(l.take k).foldl (nextS l after) []=C:=⟨_,rfl⟩
   rw[hC] at HC ⊢
   clear hC
   have HA:Hid (Op.bytesLess after v.key=(!Op.bytesLess v.key after&&!(v.key==after))):=less_not _ _
   obtain⟨S,hs⟩:∃ S,someF v.key l=S:=⟨_,rfl⟩
   have HS:Hid (someF v.key l=S):=hs
   clear hs
   cases h1:Op.bytesLess v.key after
   all_goals by_cases h3:v.key=after
   all_goals cases h4:Op.bytesLess v.key C
   all_goals by_cases h5:C=[]
   all_goals cases S
   all_goals go_wp2_with (go_at_call 110;refine (refSomething_any p t l J _ v.key _ HR.out).mono ?_;rintro e w' ⟨rfl,rfl⟩;rw[HS.out];simp only[idxI])
   all_goals refine⟨⟨k+1,by omega,by go_num,?_⟩,by simp[intOf];omega⟩
   all_goals (rw[HC.out];unfold nextS;rw[HS.out,HA.out])
   all_goals first|rfl|(simp_all;done)
  ·have:k=l.length:=by omega
   subst this
   rw[List.take_length]
   go_wp2
   go_ret
   exact⟨rfl,rfl⟩
end Go.Proofs.YtmehkneofinmiaaGreatDoor

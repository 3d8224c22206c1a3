/-
 Texts of this proof, part 13.
-/
import Derived.Test.YtmehkneofinmiaaGreatDoorP12
import Derived.Test.YtmehkneofinmiaaGreatDoorP06
import Derived.Lib.ConvBytes
import Derived.Lib.QuietBelow
set_option maxRecDepth 100000
set_option maxHeartbeats 2000000
namespace Go.Proofs.YtmehkneofinmiaaGreatDoor
def hexD (n:Nat):UInt8:=UInt8.ofNat (if n<10 then 48+n else 87+n)
def hexN:Nat->Nat->List UInt8
 | 0,_=>[]
 | k+1,u=>hexN k (u/16)++[hexD (u%16)]
def hexM:Nat->Nat->List UInt8
 | 0,_=>[]
 | k+1,u=>if u<16 then [hexD u] else hexM k (u/16)++[hexD (u%16)]
theorem hexN_len (k u:Nat):(hexN k u).length=k:=by
 induction k generalizing u with
 | zero=>rfl
 | succ k ih=>simp[hexN,ih]
theorem hexM_len (k u:Nat):(hexM k u).length<=k:=by
 induction k generalizing u with
 | zero=>exact Nat.le_refl _
 | succ k ih =>
   unfold hexM
   split
   ·simp
   ·have:=ih (u/16)
    simp
    omega
theorem hexN_zero (k:Nat):hexN k 0=List.replicate k 48:=by
 induction k with
 | zero=>rfl
 | succ k ih =>
   rw[hexN,Nat.zero_div,ih,List.replicate_succ']
   rfl
theorem hexM_pos (k u:Nat):0<k->0<(hexM k u).length:=by
 cases k with
 | zero=>omega
 | succ k =>
   intro _
   unfold hexM
   split<;>simp
theorem hex_pad (k u:Nat)(h:u<16 ^ (k+1)):List.replicate (k+1-(hexM (k+1) u).length) 48++hexM (k+1) u=hexN (k+1) u:=by
 induction k generalizing u with
 | zero =>
   have h':u<16:=by simpa using h
   simp[hexM,hexN,h',Nat.mod_eq_of_lt h']
 | succ k ih =>
   by_cases hu:u<16
   ·have e:hexM (k+1+1) u=[hexD u]:=by rw[hexM,if_pos hu]
    rw[e,hexN,Nat.div_eq_of_lt hu,hexN_zero,Nat.mod_eq_of_lt hu]
    rfl
   ·have e:hexM (k+1+1) u=hexM (k+1) (u/16)++[hexD (u%16)]:=by rw[hexM,if_neg hu]
    have h2:u/16<16 ^ (k+1):=by
     rw[Nat.div_lt_iff_lt_mul (by decide),<- Nat.pow_succ]
     exact h
    rw[e,hexN,<- ih (u/16) h2,List.length_append,List.length_singleton,<- List.append_assoc]
    congr 3
    omega
theorem hexN_split (k u:Nat):hexN (k+4) u=hexN k (u/65536)++hexN 4 (u%65536):=by
 show ((((hexN k (u/16/16/16/16)++[hexD (u/16/16/16%16)])++[hexD (u/16/16%16)])++[hexD (u/16%16)])++[hexD (u%16)])=hexN k (u/65536)++(((([]++[hexD (u%65536/16/16/16%16)])++[hexD (u%65536/16/16%16)])++[hexD (u%65536/16%16)])++[hexD (u%65536%16)])
 rw[show u/16/16/16/16=u/65536 by omega,show u%65536/16/16/16%16=u/16/16/16%16 by omega,show u%65536/16/16%16=u/16/16%16 by omega,show u%65536/16%16=u/16%16 by omega,show u%65536%16=u%16 by omega]
 simp
def fnvS (h:Nat)(c:UInt8):Nat:=(h ^^^ c.toNat)*1099511628211%18446744073709551616
def fnv (l:List UInt8):Nat:=l.foldl fnvS 14695981039346656037
theorem fnv_snoc (l:List UInt8)(c:UInt8):fnv (l++[c])=fnvS (fnv l) c:=by
 unfold fnv
 rw[List.foldl_append,List.foldl_cons,List.foldl_nil]
theorem fnvS_lt (h:Nat)(c:UInt8):fnvS h c<18446744073709551616:=by
 unfold fnvS
 omega
theorem fnv_lt (l:List UInt8):fnv l<18446744073709551616:=by
 suffices h:∀ (l:List UInt8) (x:Nat),x<18446744073709551616->l.foldl fnvS x<18446744073709551616 from h l _ (by omega)
 intro l
 induction l with
 | nil=>exact fun x hx=>hx
 | cons c l ih=>exact fun x _=>ih _ (fnvS_lt x c)
theorem xor_step (H:Nat)(c:UInt8)(hH:H<18446744073709551616):IntKind.u64.wrap (bits .xor .u64 (H:Int) (c.toNat:Int)*1099511628211)=((fnvS H c:Nat):Int):=by
 rw[u64_xor_nat H c.toNat hH (by have:=c.toNat_lt;omega),IntKind.wrap_u64]
 unfold fnvS
 omega
end Go.Proofs.YtmehkneofinmiaaGreatDoor
namespace Go.Proofs.YtmehkneofinmiaaGreatDoor
open Go.RowKit
def Tz (w:World):Prop:=w.cell? ⟨3,15,none⟩=some (.int .u8 4)
theorem Tz.below {w w':World}(h:Tz w)(hb:Below w.heap.size w w'):Tz w':=(hb.cell (p:=⟨3,15,none⟩) (World.block_lt_of_cell? _ _ h)).trans h
theorem pow2_16 (w:World):Calls Tryz.prog 211 #[.int .i64 16] w fun e w'=>e=.returned (.bool true)/\w'=w:=by
 go_enter Tryz.func211,Tryz.ntmps211
 go_wp2
 go_ret
 exact⟨rfl,rfl⟩
theorem tz64_16 (w:World)(h:Tz w):Calls Tryz.prog 260 #[.int .u64 16] w fun e w'=>e=.returned (.int .i64 4)/\w'=w:=by
 unfold Tz at h
 have e4:IntKind.u64.wrap (bits .and .u64 16 (IntKind.u64.wrap (-16))*285870213051353865)/288230376151711744=15:=by decide +kernel
 go_enter Tryz.func260,Tryz.ntmps260
 go_wp2
 go_ret
 exact⟨rfl,rfl⟩
theorem tz_16 (w:World)(h:Tz w):Calls Tryz.prog 212 #[.int .u64 16] w fun e w'=>e=.returned (.int .i64 4)/\w'=w:=by
 go_enter Tryz.func212,Tryz.ntmps212
 go_wp2_with fail
 refine (tz64_16 _ h).mono ?_
 rintro e w1 ⟨rfl,rfl⟩
 go_wp2
 go_ret
 exact⟨rfl,rfl⟩
def digs:ByteArray:=⟨#[48,49,50,51,52,53,54,55,56,57,97,98,99,100,101,102,103,104,105,106,107,108,109,110,111,112,113,114,115,116,117,118,119,120,121,122]⟩
theorem digs_at:∀ k:Fin 16,digs[k.val]'(by have:digs.size=36:=rfl;omega)=hexD k.val:=by decide
theorem digs_run (k:Nat)(h:k<16)(w:World):(Instr.index 9 (.string digs) (.int .u64 (k:Int))).run Tryz.prog w=.ok (.int .u8 ((hexD k).toNat:Int)) w:=by
 have hd:digs.size=36:=rfl
 rw[run_index_string _ 9 digs .u64 k Tryz.underlying9,dif_pos ⟨by omega,by rw[hd];omega⟩]
 exact congrArg (fun z:UInt8=>Result.ok (Value.int .u8 (z.toNat:Int)) w) (digs_at ⟨k,h⟩)
structure Ar (w x:World)(D:List UInt8):Prop where
 b:Below w.heap.size w x
 c:∀ j,j<65->∃ v:UInt8,x.cell? ⟨w.heap.size,j,none⟩=some (.int .u8 (v.toNat:Int))
 d:∀ j,j<D.length->x.cell? ⟨w.heap.size,65-D.length+j,none⟩=some (.int .u8 ((D.getD j 0).toNat:Int))
 f:∀ j,j<65->x.frozen? ⟨w.heap.size,j,none⟩=false
 lt:w.heap.size<x.heap.size
theorem Ar.push {w x:World}{D:List UInt8}(h:Ar w x D)(c:UInt8)(hD:D.length<65):Ar w (x.setCell ⟨w.heap.size,64-D.length,none⟩ (.int .u8 (c.toNat:Int))) (c::D):=by
 obtain⟨v,hv⟩:=h.c (64-D.length) (by omega)
 have same:=World.cell?_setCell_same x ⟨w.heap.size,64-D.length,none⟩ (.int .u8 (c.toNat:Int)) hv
 have other:∀ j,j≠64-D.length->(x.setCell ⟨w.heap.size,64-D.length,none⟩ (.int .u8 (c.toNat:Int))).cell? ⟨w.heap.size,j,none⟩=x.cell? ⟨w.heap.size,j,none⟩:=fun j hj =>
  World.cell?_setCell_other _ _ _ _ (by intro e;injection e;omega)
 refine⟨h.b.setCell (Nat.le_refl _) _,fun j hj=>?_,fun j hj=>?_,fun j hj=>?_,?_⟩
 ·by_cases e:j=64-D.length
  ·rw[e];exact⟨c,same⟩
  ·rw[other j e];exact h.c j hj
 ·cases j with
  | zero =>
    rw[show 65-(c::D).length+0=64-D.length by simp]
    exact same
  | succ j =>
    have hj':j<D.length:=by simpa using hj
    rw[show 65-(c::D).length+(j+1)=65-D.length+j by simp;omega,other _ (by omega),h.d j hj']
    simp
 ·rw[World.frozen?_setCell]
  exact h.f j hj
 ·simpa [World.setCell] using h.lt
theorem Ar.text {w x:World}{D:List UInt8}(h:Ar w x D)(n cp:Nat)(hn:n=D.length):(convert 115 9 (.slice (some ⟨w.heap.size,65-D.length,none⟩) n cp)).run Tryz.prog x=.ok (.string ⟨D.toArray⟩) x:=by
 subst hn
 exact run_convert_bytes_back (P:=Tryz.prog) x 115 9 5 ⟨w.heap.size,65-D.length,none⟩ cp D Tryz.underlying115 Tryz.underlying5 Tryz.underlying9 (fun j hj=>by
  rw[Go.WideShapes.add_plain,h.d j hj]
  rw[List.getD,List.getElem?_eq_getElem hj]
  rfl)
theorem zero105:Tryz.zeroCells294=Array.replicate 65 (.int .u8 0):=by kernel_rfl
theorem Ar.made (w:World):Ar w (w.alloc (.cells Tryz.zeroCells294 294)) []:=by
 refine⟨(Below.refl _ _).alloc (Nat.le_refl _) _,fun j hj=>⟨0,?_⟩,fun j hj=>absurd hj (by simp),fun j hj=>?_,by simp⟩
 ·rw[zero105]
  simp[hj]
 ·rw[zero105]
  simp
theorem slice65 (W:World)(g j:Nat)(h:j<65):(Instr.sliceAt 294 (.pointer (some ⟨g,0,none⟩)) (some (.int .i64 (j:Int))) none none).run Tryz.prog W=.ok (.slice (some ⟨g,j,none⟩) (65-j) (65-j)) W:=by
 have hu:Tryz.prog.underlying 294=some (.array (Tryz.prog.arrayLen 294) (Tryz.prog.elem 294)):=by kernel_rfl
 have hl:Tryz.prog.arrayLen 294=65:=by kernel_rfl
 have he:Tryz.prog.elem 294=5:=by kernel_rfl
 rw[run_sliceAt_array_l W 294 ⟨g,0,none⟩ hu .i64 (j:Int) (by omega) (by rw[hl];omega),hl,he,Tryz.sizeOf5]
 simp only[Result.andThen,slicedAt,Int.toNat_natCast,Nat.mul_one]
 rw[if_neg (by omega),Go.WideShapes.add_plain,Nat.zero_add]
theorem and15 (u:Nat)(h:u<18446744073709551616):bits .and .u64 (u:Int) 15=((u%16:Nat):Int):=by
 have:=u64_and_nat u 15 h (by omega)
 rw[show (u &&& 15:Nat)=u%16 from Nat.and_two_pow_sub_one_eq_mod u 4] at this
 exact this
theorem formatBits_16 (U:Nat)(w:World)(hU:U<18446744073709551616)(h:Tz w):Calls Tryz.prog 151 #[.slice none 0 0,.int .u64 (U:Int),.int .i64 16,.bool false,.bool false] w fun e w'=>e=.returned (.tuple #[.slice none 0 0,.string ⟨(hexM 16 U).toArray⟩])/\Below w.heap.size w w':=by
 go_enter Tryz.func151,Tryz.ntmps151
 go_wp2_with fail
 refine (pow2_16 _).mono ?_
 rintro e w1 ⟨rfl,hw1⟩
 have ar1:Ar w w1 []:=by rw[hw1];exact Ar.made w
 clear hw1
 go_wp2_with fail
 refine (tz_16 _ (h.below ar1.b)).mono ?_
 rintro e w2 ⟨rfl,rfl⟩
 go_wp2
 go_loopw [1,13] (fun u i wr=>∃ (n k:Nat) (D:List UInt8),u=.int .u64 (n:Int)/\i=.int .i64 ((65-D.length:Nat):Int)/\D.length+k=16/\0<k/\n<16 ^ k/\Hid (hexM 16 U=hexM k n++D)/\Ar w wr D) (fun u _ _=>(intOf u).toNat)
 case atStart=>exact⟨U,16,[],rfl,rfl,rfl,by omega,by omega,(List.append_nil _).symm,ar1⟩
 case round =>
  obtain⟨n,k,D,rfl,rfl,hk,hk0,hn,hx,ar⟩:=hrel
  have hn64:n<18446744073709551616:=by
   have:16 ^ k<=16 ^ 16:=Nat.pow_le_pow_right (by decide) (by omega)
   omega
  obtain⟨j,hj⟩:∃ j,64-D.length=j:=⟨_,rfl⟩
  have e65:((65-D.length:Nat):Int)=(j:Int)+1:=by omega
  have hj65:j<65:=by omega
  obtain⟨v0,hv0⟩:=ar.c j hj65
  have hf0:=ar.f j hj65
  rw[e65]
  by_cases hge:16<=n
  ·have ha:=and15 n hn64
   have hd:=digs_run (n%16) (by omega)
   unfold digs at hd
   have HE:Hid (digs[n%16]'(by have:digs.size=36:=rfl;omega)=hexD (n%16)):=digs_at ⟨n%16,by omega⟩
   have HA:Hid _:=ar.push (hexD (n%16)) (by omega)
   clear hd
   go_wp2
   refine⟨⟨n/16,k-1,hexD (n%16)::D,by go_num,by simp;omega,by simp;omega,?_,?_,?_,?_⟩,by simp[intOf];omega⟩
   ·apply Classical.byContradiction
    intro hc
    obtain rfl:k=1:=by omega
    omega
   ·obtain⟨k',rfl⟩:∃ k',k=k'+1:=⟨k-1,by omega⟩
    rw[Nat.add_sub_cancel,Nat.div_lt_iff_lt_mul (by decide),<- Nat.pow_succ]
    exact hn
   ·show _=_
    obtain⟨k',rfl⟩:∃ k',k=k'+1:=⟨k-1,by omega⟩
    rw[hx.out,Nat.add_sub_cancel,hexM,if_neg (by omega)]
    simp
   ·have:=HA.out
    rw[hj] at this
    have e:=HE.out
    unfold digs at e
    rw[e]
    exact this
  ·have hd:=digs_run n (by omega)
   unfold digs at hd
   have HA:Hid _:=ar.push (hexD n) (by omega)
   have hsl:=fun W=>slice65 W w.heap.size j hj65
   have har:=(ar.push (hexD n) (by omega))
   rw[hj] at har
   have htx:=har.text (65-j) (65-j) (by simp;omega)
   rw[show 65-(hexD n::D).length=j by simp;omega] at htx
   have HR:Hid (hexM 16 U=hexD n::D):=by
    show _=_
    obtain⟨k',rfl⟩:∃ k',k=k'+1:=⟨k-1,by omega⟩
    rw[hx.out,hexM,if_pos (by omega)]
    rfl
   have hbb:=har.b
   clear HA
   go_wp2
   rw[HR.out]
   go_ret2
   exact⟨rfl,hbb⟩
theorem formatUint_in (U:Nat)(w:World)(hU:U<18446744073709551616)(h:Tz w):Calls Tryz.prog 254 #[.int .u64 (U:Int),.int .i64 16] w fun e w'=>e=.returned (.string ⟨(hexM 16 U).toArray⟩)/\Below w.heap.size w w':=by
 go_enter Tryz.func254,Tryz.ntmps254
 go_wp2_with fail
 refine (formatBits_16 U _ hU h).mono ?_
 rintro e w1 ⟨rfl,hb⟩
 go_wp2
 go_ret
 exact⟨rfl,hb⟩
theorem formatUint (U:Nat)(w:World)(hU:U<18446744073709551616)(h:Tz w):Calls Tryz.prog 201 #[.int .u64 (U:Int),.int .i64 16] w fun e w'=>e=.returned (.string ⟨(hexM 16 U).toArray⟩)/\Below w.heap.size w w':=by
 go_enter Tryz.func201,Tryz.ntmps201
 go_wp2_with fail
 refine (formatUint_in U _ hU h).mono ?_
 rintro e w1 ⟨rfl,hb⟩
 go_wp2
 go_ret
 exact⟨rfl,hb⟩
theorem rep_one (c:Nat):Lib.repeatL [48] c=List.replicate c 48:=by
 induction c with
 | zero=>rfl
 | succ c ih =>
   simp[Lib.repeatL,List.replicate_succ] at ih ⊢
   exact ih
theorem progTag (s:ByteArray)(w:World)(hs:s.size<=9223372036854775807)(h:Tz w):Calls Tryz.prog 141 #[.string s] w fun e w'=>e=.returned (.string ⟨(hexN 16 (fnv s.data.toList)).toArray⟩)/\Below w.heap.size w w':=by
 go_enter Tryz.func141,Tryz.ntmps141
 go_wp2
 go_loop [3,8] (fun hh i=>∃ k:Nat,k<=s.size/\i=.int .i64 k/\hh=.int .u64 ((fnv (s.data.toList.take k):Nat):Int)) (fun _ i=>s.size-(intOf i).toNat)
 case atStart=>exact⟨0,Nat.zero_le _,rfl,rfl⟩
 case round =>
  obtain⟨k,hk,rfl,rfl⟩:=hrel
  by_cases hlt:k<s.size
  ·have hlt':=fnv_lt (s.data.toList.take k)
   have HX:Hid (fnv (s.data.toList.take (k+1))=fnvS (fnv (s.data.toList.take k)) s[k]):=by
    show _=_
    rw[take_snoc s k hlt,fnv_snoc]
   obtain⟨F,hF⟩:∃ F,fnv (s.data.toList.take k)=F:=⟨_,rfl⟩
   rw[hF] at hlt' HX ⊢
   have hst:=xor_step F s[k] hlt'
   have hwr:IntKind.u64.wrap (s[k].toNat:Int)=(s[k].toNat:Int):=by
    rw[IntKind.wrap_u64]
    have:=s[k].toNat_lt
    omega
   rw[<- hwr] at hst
   obtain⟨F2,hF2⟩:∃ F2,fnvS F s[k]=F2:=⟨_,rfl⟩
   rw[hF2] at HX hst
   have HS:Hid _:=hst
   clear hst hwr
   go_wp2
   exact⟨⟨k+1,by omega,by go_num,by rw[HS.out,HX.out]⟩,by simp[intOf];omega⟩
  ·obtain rfl:k=s.size:=by omega
   rw[List.take_of_length_le (by rw[Lib.size_eq];exact Nat.le_refl _)]
   have hl:=fnv_lt s.data.toList
   obtain⟨F,hF⟩:∃ F,fnv s.data.toList=F:=⟨_,rfl⟩
   rw[hF] at hl ⊢
   have hp:=hex_pad 15 F (by omega)
   have hm:=hexM_len 16 F
   have hq:=hexM_pos 16 F (by omega)
   have HP:Hid _:=hp
   clear hp
   go_wp2_with fail
   refine (formatUint F _ hl h).mono ?_
   rintro e w1 ⟨rfl,hb1⟩
   obtain⟨M,hM⟩:∃ M,hexM 16 F=M:=⟨_,rfl⟩
   rw[hM] at hm hq HP ⊢
   go_wp2_with fail
   rw[show (16:Int)-(M.length:Int)=((16-M.length:Nat):Int) by omega]
   have hrp:=Tryz.strings_Repeat ⟨#[48]⟩ (16-M.length) w1 (by omega) (by show 1*_<=_;omega)
   rw[show (⟨#[48]⟩:ByteArray).data.toList=[48] from rfl,rep_one] at hrp
   refine hrp.mono ?_
   rintro e w2 ⟨rfl,hb2⟩
   clear hrp
   obtain⟨Z,hZ⟩:∃ Z,List.replicate (16-M.length) (48:UInt8)=Z:=⟨_,rfl⟩
   have hZl:Z.length<=16:=by rw[<- hZ];simp
   have HP2:Hid (Z++M=hexN 16 F):=by
    have:=HP.out
    rw[show 15+1-M.length=16-M.length by omega,hZ] at this
    exact this
   rw[hZ]
   clear hZ HP
   go_wp2
   go_ret
   refine⟨ret_str ?_,hb1.trans (hb2.mono hb1.size)⟩
   rw[hF,<- HP2.out]
   apply ByteArray.ext
   simp[ByteArray.data_append]
def qTag (body:List UInt8):List UInt8:=34::hexN 16 (fnv body)++[34]
theorem quotedTag_any (body:List UInt8)(w:World)(hb:body.length<1000000)(h:Tz w) :
 Calls Tryz.prog 136 #[.string ⟨body.toArray⟩] w fun e w'=>e=.returned (.string ⟨(qTag body).toArray⟩)/\Below w.heap.size w w':=by
 go_enter Tryz.func136,Tryz.ntmps136
 go_wp2_with fail
 refine (progTag ⟨body.toArray⟩ _ (by rw[Lib.size_eq];simp;omega) h).mono ?_
 rintro e w1 ⟨rfl,hb1⟩
 obtain⟨H,hH⟩:∃ H,hexN 16 (fnv body)=H:=⟨_,rfl⟩
 have hHl:H.length=16:=by rw[<- hH];exact hexN_len 16 _
 have HH:Hid _:=hH
 rw[show (ByteArray.mk body.toArray).data.toList=body from rfl,hH]
 have hs:(⟨H.toArray⟩:ByteArray).size=16:=by rw[Lib.size_eq];exact hHl
 clear hH hHl
 go_wp2
 go_ret
 refine⟨ret_str ?_,hb1⟩
 unfold qTag
 rw[HH.out]
 apply ByteArray.ext
 simp[ByteArray.data_append]
theorem itoaN (n:Nat)(w:World)(h:n<1000000000000000)(hT:Tab w) :
 Calls Tryz.prog 17 #[.int .i64 n] w fun e w'=>e=.returned (.string ⟨(Lib.decDigits n).toArray⟩)/\Below w.heap.size w w':=by
 refine (Tryz.strconv_Itoa n (by omega) (by omega) w hT.tab).mono ?_
 rintro e w' ⟨rfl,k,os,rfl⟩
 refine⟨ret_str ?_,Lib.below_grow _ _ (Nat.le_refl _) _ _⟩
 unfold Lib.itoa
 rw[if_neg (by omega)]
 rfl
theorem dec_len_pow (k:Nat):∀ n:Nat,n<10 ^ (k+1)->(Lib.decDigits n).length<=k+1:=by
 induction k with
 | zero =>
   intro n h
   rw[Lib.decDigits_one (by omega)]
   simp
 | succ k ih =>
   intro n h
   rw[Lib.decDigits]
   split
   ·simp
   ·rw[List.length_append]
    have:=ih (n/10) (by rw[Nat.pow_succ] at h;omega)
    simp only[List.length_singleton]
    omega
def lineF2 (v:Ver):List UInt8:=Lib.decDigits v.num++[32]++Lib.decDigits v.time++[32]++(if v.mark then [103,111,110,101] else qTag v.body)++[10]
theorem qTag_len (b:List UInt8):(qTag b).length=18:=by simp[qTag,hexN_len]
theorem addS (a b:ByteArray)(h:a.size+b.size<=1000000):∀ w:World,(Op.stringOp .add a b).run Tryz.prog w=.ok (.string (a++b)) w:=fun w=>run_string_add_sum w a b (by omega)
theorem line_any (v:Ver)(w:World)(hn:v.num<1000000000000000)(ht:v.time<1000000000000000)(hb:v.body.length<1000000)(h:Tz w)(hT:Tab w) :
 Calls Tryz.prog 139 #[verAgg v] w fun e w'=>e=.returned (.string ⟨(lineF2 v).toArray⟩)/\Below w.heap.size w w':=by
 have hl1:=dec_len_pow 14 v.num (by omega)
 have hl2:=dec_len_pow 14 v.time (by omega)
 obtain⟨D1,hD1⟩:∃ D,Lib.decDigits v.num=D:=⟨_,rfl⟩
 obtain⟨D2,hD2⟩:∃ D,Lib.decDigits v.time=D:=⟨_,rfl⟩
 have HI1:Hid (∀ w,Tab w->Calls Tryz.prog 17 #[.int .i64 v.num] w fun e w'=>e=.returned (.string ⟨D1.toArray⟩)/\Below w.heap.size w w'):=by rw[<- hD1];exact fun w h=>itoaN v.num w hn h
 have HI2:Hid (∀ w,Tab w->Calls Tryz.prog 17 #[.int .i64 v.time] w fun e w'=>e=.returned (.string ⟨D2.toArray⟩)/\Below w.heap.size w w'):=by rw[<- hD2];exact fun w h=>itoaN v.time w ht h
 have HL:Hid (lineF2 v=D1++[32]++D2++[32]++(if v.mark then [103,111,110,101] else qTag v.body)++[10]):=by rw[<- hD1,<- hD2];rfl
 rw[hD1] at hl1
 rw[hD2] at hl2
 have hs1:(⟨D1.toArray⟩:ByteArray).size<=15:=by rw[Lib.size_eq];exact hl1
 have hs2:(⟨D2.toArray⟩:ByteArray).size<=15:=by rw[Lib.size_eq];exact hl2
 have hq:=qTag_len v.body
 obtain⟨q,hqq⟩:∃ q,qTag v.body=q:=⟨_,rfl⟩
 have hs3:(⟨q.toArray⟩:ByteArray).size=18:=by rw[Lib.size_eq,<- hqq];exact hq
 have hal:Below w.heap.size w (w.alloc (.cells #[.int .i64 v.num,.int .i64 v.time,.bool v.mark,.string ⟨v.body.toArray⟩] 174)):=(Below.refl _ _).alloc (Nat.le_refl _) _
 have HA:Hid _:=hal
 have hTz:Tz (w.alloc (.cells #[.int .i64 v.num,.int .i64 v.time,.bool v.mark,.string ⟨v.body.toArray⟩] 174)):=h.below hal
 have hTb:Tab (w.alloc (.cells #[.int .i64 v.num,.int .i64 v.time,.bool v.mark,.string ⟨v.body.toArray⟩] 174)):=hT.below hal
 have HQ:Hid (∀ w,Tz w->Calls Tryz.prog 136 #[.string ⟨v.body.toArray⟩] w fun e w'=>e=.returned (.string ⟨q.toArray⟩)/\Below w.heap.size w w'):=by rw[<- hqq];exact fun w h=>quotedTag_any v.body w hb h
 rw[hqq] at HL
 clear hl1 hl2 hq hqq hD1 hD2 hal h hT
 unfold verAgg
 obtain⟨vn,hvn⟩:∃ x:Nat,v.num=x:=⟨_,rfl⟩
 obtain⟨vt,hvt⟩:∃ x:Nat,v.time=x:=⟨_,rfl⟩
 rw[hvn] at HI1 HA hTz hTb hn ⊢
 rw[hvt] at HI2 HA hTz hTb ht ⊢
 clear hvn hvt
 cases hm:v.mark with
 | true =>
   rw[hm] at HL HA hTz hTb
   go_enter Tryz.func139,Tryz.ntmps139
   go_wp2_with fail
   obtain⟨W,hW⟩:∃ W,W=(w.alloc (.cells #[.int .i64 vn,.int .i64 vt,.bool true,.string ⟨v.body.toArray⟩] 174)):=⟨_,rfl⟩
   have B0:W.cell? ⟨w.heap.size,0,none⟩=some (.int .i64 vn):=by rw[hW];simp
   have B1:W.cell? ⟨w.heap.size,1,none⟩=some (.int .i64 vt):=by rw[hW];simp
   have z3:(⟨#[103,111,110,101]⟩:ByteArray).size=4:=rfl
   rw[<- hW] at HA hTb ⊢
   clear hW hTz
   have b0:∀ d os,(Sort.grow (redrawn W d) os).cell? ⟨w.heap.size,0,none⟩=some (.int .i64 vn):=fun d os=>cell_regrown B0 d os
   have b1:∀ d os,(Sort.grow (redrawn W d) os).cell? ⟨w.heap.size,1,none⟩=some (.int .i64 vt):=fun d os=>cell_regrown B1 d os
   have HC1:Hid (∀ (d:Nat) (os:Array Obj),_):=fun d os=>Calls.regrown_of (HI1.out (Sort.grow (redrawn W d) os) (hTb.below (below_regrown W d os)))
   have HC2:Hid (∀ (d:Nat) (os:Array Obj),_):=fun d os=>Calls.regrown_of (HI2.out (Sort.grow (redrawn W d) os) (hTb.below (below_regrown W d os)))
   have z1:(⟨#[32]⟩:ByteArray).size=1:=rfl
   have z2:(⟨#[10]⟩:ByteArray).size=1:=rfl
   have a1:=addS ⟨D1.toArray⟩ ⟨#[32]⟩ (by omega)
   have a2:=addS (⟨D1.toArray⟩++⟨#[32]⟩) ⟨D2.toArray⟩ (by rw[ByteArray.size_append];omega)
   have a3:=addS (⟨D1.toArray⟩++⟨#[32]⟩++⟨D2.toArray⟩) ⟨#[32]⟩ (by rw[ByteArray.size_append,ByteArray.size_append];omega)
   have a4:=addS (⟨D1.toArray⟩++⟨#[32]⟩++⟨D2.toArray⟩++⟨#[32]⟩) ⟨#[103,111,110,101]⟩ (by rw[ByteArray.size_append,ByteArray.size_append,ByteArray.size_append];omega)
   have a5:=addS (⟨D1.toArray⟩++⟨#[32]⟩++⟨D2.toArray⟩++⟨#[32]⟩++⟨#[103,111,110,101]⟩) ⟨#[10]⟩ (by rw[ByteArray.size_append,ByteArray.size_append,ByteArray.size_append,ByteArray.size_append];omega)
   clear hTb HI1 HI2 HQ B0 B1 hs3
   refine wp_region_quiet_below (by kernel_rfl) (by kernel_rfl) ?_
   repeat (first|go_big_quiet_step (first|(go_at_call_of 17 (Value.int IntKind.i64 vn);exact HC1.out _ _)|(go_at_call_of 17 (Value.int IntKind.i64 vt);exact HC2.out _ _))|quiet_step (first|(go_at_call_of 17 (Value.int IntKind.i64 vn);exact HC1.out _ _)|(go_at_call_of 17 (Value.int IntKind.i64 vt);exact HC2.out _ _)))
   refine wpQuiet_nil ?_
   intro w2 hw'
   have hB2:Below W.heap.size W w2:=by
    obtain⟨⟨dq,osq⟩,hw''⟩:=hw'
    rw[hw'']
    exact below_regrown W dq osq
   clear hw'
   go_wp2
   go_ret
   refine⟨ret_str ?_,HA.out.trans (hB2.mono HA.out.size)⟩
   rw[HL.out]
   apply ByteArray.ext
   simp[ByteArray.data_append]
 | false =>
   rw[hm] at HL HA hTz hTb
   go_enter Tryz.func139,Tryz.ntmps139
   go_wp2_with fail
   refine (HQ.out _ hTz).mono ?_
   rintro e W ⟨rfl,hbW⟩
   have B0:W.cell? ⟨w.heap.size,0,none⟩=some (.int .i64 vn):=(hbW.cell (p:=⟨w.heap.size,0,none⟩) (by simp)).trans (by simp)
   have B1:W.cell? ⟨w.heap.size,1,none⟩=some (.int .i64 vt):=(hbW.cell (p:=⟨w.heap.size,1,none⟩) (by simp)).trans (by simp)
   replace hTb:=hTb.below hbW
   have HA:Hid (Below w.heap.size w W):=HA.out.trans (hbW.mono HA.out.size)
   clear hbW hTz
   go_wp2_with fail
   have b0:∀ d os,(Sort.grow (redrawn W d) os).cell? ⟨w.heap.size,0,none⟩=some (.int .i64 vn):=fun d os=>cell_regrown B0 d os
   have b1:∀ d os,(Sort.grow (redrawn W d) os).cell? ⟨w.heap.size,1,none⟩=some (.int .i64 vt):=fun d os=>cell_regrown B1 d os
   have HC1:Hid (∀ (d:Nat) (os:Array Obj),_):=fun d os=>Calls.regrown_of (HI1.out (Sort.grow (redrawn W d) os) (hTb.below (below_regrown W d os)))
   have HC2:Hid (∀ (d:Nat) (os:Array Obj),_):=fun d os=>Calls.regrown_of (HI2.out (Sort.grow (redrawn W d) os) (hTb.below (below_regrown W d os)))
   have z1:(⟨#[32]⟩:ByteArray).size=1:=rfl
   have z2:(⟨#[10]⟩:ByteArray).size=1:=rfl
   have a1:=addS ⟨D1.toArray⟩ ⟨#[32]⟩ (by omega)
   have a2:=addS (⟨D1.toArray⟩++⟨#[32]⟩) ⟨D2.toArray⟩ (by rw[ByteArray.size_append];omega)
   have a3:=addS (⟨D1.toArray⟩++⟨#[32]⟩++⟨D2.toArray⟩) ⟨#[32]⟩ (by rw[ByteArray.size_append,ByteArray.size_append];omega)
   have a4:=addS (⟨D1.toArray⟩++⟨#[32]⟩++⟨D2.toArray⟩++⟨#[32]⟩) ⟨q.toArray⟩ (by rw[ByteArray.size_append,ByteArray.size_append,ByteArray.size_append];omega)
   have a5:=addS (⟨D1.toArray⟩++⟨#[32]⟩++⟨D2.toArray⟩++⟨#[32]⟩++⟨q.toArray⟩) ⟨#[10]⟩ (by rw[ByteArray.size_append,ByteArray.size_append,ByteArray.size_append,ByteArray.size_append];omega)
   clear hTb HI1 HI2 HQ B0 B1 hs3
   refine wp_region_quiet_below (by kernel_rfl) (by kernel_rfl) ?_
   repeat (first|go_big_quiet_step (first|(go_at_call_of 17 (Value.int IntKind.i64 vn);exact HC1.out _ _)|(go_at_call_of 17 (Value.int IntKind.i64 vt);exact HC2.out _ _))|quiet_step (first|(go_at_call_of 17 (Value.int IntKind.i64 vn);exact HC1.out _ _)|(go_at_call_of 17 (Value.int IntKind.i64 vt);exact HC2.out _ _)))
   refine wpQuiet_nil ?_
   intro w2 hw'
   have hB2:Below W.heap.size W w2:=by
    obtain⟨⟨dq,osq⟩,hw''⟩:=hw'
    rw[hw'']
    exact below_regrown W dq osq
   clear hw'
   go_wp2
   go_ret
   refine⟨ret_str ?_,HA.out.trans (hB2.mono HA.out.size)⟩
   rw[HL.out]
   apply ByteArray.ext
   simp[ByteArray.data_append]
end Go.Proofs.YtmehkneofinmiaaGreatDoor

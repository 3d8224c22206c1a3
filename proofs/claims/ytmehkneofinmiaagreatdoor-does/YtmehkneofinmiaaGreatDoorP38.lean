/-
 Texts of this proof, part 38.
-/
import Derived.Test.YtmehkneofinmiaaGreatDoorP37
set_option maxRecDepth 100000
set_option maxHeartbeats 2000000
namespace Go.Proofs.YtmehkneofinmiaaGreatDoor
open Go.RowKit
theorem refBegins_any (s t:List UInt8)(w:World)(_hs:s.length<=1000000)(_ht:t.length<=1000000) :
 Calls Tryz.prog 167 #[.string ⟨s.toArray⟩,.string ⟨t.toArray⟩] w fun e w'=>e=.returned (.bool (s.take t.length==t))/\w'=w:=by
 have h1:=sz s
 have h2:=sz t
 by_cases hl:t.length<=s.length
 ·go_enter Tryz.func167,Tryz.ntmps167
  go_wp2
  all_goals go_ret
  all_goals refine⟨ret_bool ?_,rfl⟩
  rw[ByteArray.toList_eq,Lib.extract_data]
  simp
 ·have HE:Hid ((s.take t.length==t)=false):=by
   show _=_
   rw[beq_eq_false_iff_ne]
   intro e
   have:=congrArg List.length e
   simp at this
   omega
  go_enter Tryz.func167,Tryz.ntmps167
  go_wp2
  all_goals go_ret
  all_goals rw[HE.out]
  all_goals exact⟨ret_bool rfl,rfl⟩
def lineAt:List UInt8->Option (List UInt8×List UInt8)
 | []=>none
 | c::l=>if crlfB c then (if c=13/\l.head?=some 10 then some ([],l.tail) else none) else (lineAt l).map fun x=>(c::x.1,x.2)
theorem lineAt_skip (a l:List UInt8)(h:∀ c∈a,crlfB c=false):lineAt (a++l)=(lineAt l).map fun x=>(a++x.1,x.2):=by
 induction a with
 | nil =>
   rw[List.nil_append]
   cases lineAt l<;>rfl
 | cons c a ih =>
   rw[List.cons_append,lineAt,h c List.mem_cons_self,ih (fun c hc=>h c (List.mem_cons_of_mem _ hc))]
   cases lineAt l<;>rfl
theorem ne13 {c:UInt8}(h:¬ c=13):¬ (c.toNat:Int)=13:=fun e=>h (UInt8.toNat_inj.1 (by show c.toNat=13;omega))
theorem ne10 {c:UInt8}(h:¬ c=10):¬ (c.toNat:Int)=10:=fun e=>h (UInt8.toNat_inj.1 (by show c.toNat=10;omega))
def lineV (s:List UInt8)(n:Nat):Value:=match lineAt (s.drop n) with
 | none=>.tuple #[.string ⟨#[]⟩,.int .i64 (-1)]
 | some x=>.tuple #[.string ⟨x.1.toArray⟩,.int .i64 ((s.length-x.2.length:Nat):Int)]
theorem refLine_any (s:ByteArray)(n:Nat)(w:World)(hs:s.size<4611686018427387904)(hn:n<=s.size) :
 Calls Tryz.prog 105 #[.string s,.int .i64 n] w fun e w'=>e=.returned (lineV s.data.toList n)/\w'=w:=by
 obtain⟨V,hV⟩:∃ V,lineV s.data.toList n=V:=⟨_,rfl⟩
 have HV:Hid _:=hV
 have HZ:Hid (s.data.toList.length=s.size):=Array.length_toList
 rw[hV]
 clear hV
 go_enter Tryz.func105,Tryz.ntmps105
 go_wp2
 go_loop [6] (fun iv=>∃ i:Nat,n<=i/\i<=s.size/\iv=.int .i64 i/\Hid (∀ c∈(s.data.toList.drop n).take (i-n),crlfB c=false)) (fun iv=>s.size-(intOf iv).toNat)
 case atStart=>exact⟨n,Nat.le_refl _,hn,rfl,fun c hc=>by rw[Nat.sub_self,List.take_zero] at hc;cases hc⟩
 case round =>
  obtain⟨i,hni,his,rfl,ha⟩:=hrel
  have HSP:Hid (lineAt (s.data.toList.drop n)=(lineAt (s.data.toList.drop i)).map fun x=>((s.data.toList.drop n).take (i-n)++x.1,x.2)):=by
   have e:s.data.toList.drop n=(s.data.toList.drop n).take (i-n)++s.data.toList.drop i:=by
    have:=(List.take_append_drop (i-n) (s.data.toList.drop n)).symm
    rw[List.drop_drop,show n+(i-n)=i by omega] at this
    exact this
   show _=_
   have h2:=lineAt_skip ((s.data.toList.drop n).take (i-n)) (s.data.toList.drop i) ha.out
   rw[<- e] at h2
   exact h2
  by_cases hlt:i<s.size
  ·have hiI:(i:Int)<(s.size:Int):=by omega
   have HD:Hid (s.data.toList.drop i=s[i]::s.data.toList.drop (i+1)):=by
    show _=_
    rw[List.drop_eq_getElem_cons (by rw[HZ.out];exact hlt)]
    rfl
   have hct:=s[i].toNat_lt
   by_cases h13:s[i]=13
   ·have h13I:(s[i].toNat:Int)=13:=by rw[h13];rfl
    by_cases hnx:i+1<s.size
    ·have hnI:(i:Int)+1<(s.size:Int):=by omega
     have HD2:Hid (s.data.toList.drop (i+1)=s[i+1]::s.data.toList.drop (i+2)):=by
      show _=_
      rw[List.drop_eq_getElem_cons (by rw[HZ.out];exact hnx)]
      rfl
     by_cases h10:s[i+1]=10
     ·have HVV:Hid (V=.tuple #[.string ⟨((s.data.toList.drop n).take (i-n)).toArray⟩,.int .i64 ((i+2:Nat):Int)]):=by
       show _=_
       have hl:lineAt (s.data.toList.drop i)=some ([],s.data.toList.drop (i+2)):=by
        rw[HD.out,HD2.out,h13,h10]
        rfl
       rw[<- HV.out]
       unfold lineV
       rw[HSP.out,hl]
       simp only[Option.map_some,List.append_nil,List.length_drop,HZ.out]
       rw[show s.size-(s.size-(i+2))=i+2 by omega]
      have hex:s.extract n i=⟨((s.data.toList.drop n).take (i-n)).toArray⟩:=by
       apply ByteArray.ext
       apply Array.toList_inj.1
       rw[Lib.extract_data]
      have HEX:Hid _:=hex
      clear hex
      go_wp2
      refine bodyPost_ret (results_tmp2 Tryz.results105 _ _ _) rfl ⟨?_,rfl⟩
      rw[HVV.out,HEX.out]
      exact congrArg Ending.returned (congrArg Value.tuple (by simp))
     ·have h10n:¬ (s[i+1].toNat:Int)=10:=ne10 h10
      have HVV:Hid (V=.tuple #[.string ⟨#[]⟩,.int .i64 (-1)]):=by
       show _=_
       have hl:lineAt (s.data.toList.drop i)=none:=by
        rw[HD.out,HD2.out,h13,lineAt,if_pos (by decide),if_neg (fun h=>h10 (by simpa using h.2))]
       rw[<- HV.out]
       unfold lineV
       rw[HSP.out,hl]
       rfl
      go_wp2
      refine bodyPost_ret (results_tmp2 Tryz.results105 _ _ _) rfl ⟨?_,rfl⟩
      rw[HVV.out]
      rfl
    ·have hnI:¬ (i:Int)+1<(s.size:Int):=by omega
     have HVV:Hid (V=.tuple #[.string ⟨#[]⟩,.int .i64 (-1)]):=by
      show _=_
      have hl:lineAt (s.data.toList.drop i)=none:=by
       rw[HD.out,h13,List.drop_eq_nil_of_le (by rw[HZ.out];omega),lineAt,if_pos (by decide),if_neg (fun h=>by simp at h)]
      rw[<- HV.out]
      unfold lineV
      rw[HSP.out,hl]
      rfl
     go_wp2
     refine bodyPost_ret (results_tmp2 Tryz.results105 _ _ _) rfl ⟨?_,rfl⟩
     rw[HVV.out]
     rfl
   ·have h13n:¬ (s[i].toNat:Int)=13:=ne13 h13
    by_cases h10:s[i]=10
    ·have h10I:(s[i].toNat:Int)=10:=by rw[h10];rfl
     have HVV:Hid (V=.tuple #[.string ⟨#[]⟩,.int .i64 (-1)]):=by
      show _=_
      have hl:lineAt (s.data.toList.drop i)=none:=by
       rw[HD.out,h10,lineAt,if_pos (by decide),if_neg (fun h=>by simp at h)]
      rw[<- HV.out]
      unfold lineV
      rw[HSP.out,hl]
      rfl
     go_wp2
     refine bodyPost_ret (results_tmp2 Tryz.results105 _ _ _) rfl ⟨?_,rfl⟩
     rw[HVV.out]
     rfl
    ·have h10n:¬ (s[i].toNat:Int)=10:=ne10 h10
     have b13:((s[i].toNat:Int)==13)=false:=by rw[beq_eq_false_iff_ne];exact h13n
     have b10:((s[i].toNat:Int)==10)=false:=by rw[beq_eq_false_iff_ne];exact h10n
     have HA2:Hid (∀ c∈(s.data.toList.drop n).take (i+1-n),crlfB c=false):=by
      intro c hc
      rw[show i+1-n=(i-n)+1 by omega,List.take_add_one,List.getElem?_drop,show n+(i-n)=i by omega] at hc
      rcases List.mem_append.1 hc with h|h
      ·exact ha.out c h
      ·have e:s.data.toList[i]?=some s[i]:=by
        have h2:=congrArg List.head? HD.out
        rw[List.head?_drop] at h2
        exact h2
       rw[e] at h
       simp at h
       rw[h]
       unfold crlfB
       simp[h13,h10]
     go_wp2
     exact⟨⟨i+1,by omega,by omega,by go_num,HA2⟩,by simp[intOf];omega⟩
  ·have hiI:¬ (i:Int)<(s.size:Int):=by omega
   have HVV:Hid (V=.tuple #[.string ⟨#[]⟩,.int .i64 (-1)]):=by
    show _=_
    have hl:lineAt (s.data.toList.drop i)=none:=by
     rw[List.drop_eq_nil_of_le (by rw[HZ.out];omega)]
     rfl
    rw[<- HV.out]
    unfold lineV
    rw[HSP.out,hl]
    rfl
   go_wp2
   refine bodyPost_ret (results_tmp2 Tryz.results105 _ _ _) rfl ⟨?_,rfl⟩
   rw[HVV.out]
   rfl
def lowB (c:UInt8):UInt8:=if 65<=c.toNat/\c.toNat<=90 then UInt8.ofNat (c.toNat+32) else c
theorem lowB_is (c:UInt8):lowB c=Lib.lowerB c:=by
 unfold lowB Lib.lowerB Lib.isUpperB
 by_cases h:65<=c.toNat/\c.toNat<=90
 ·rw[if_pos h,if_pos (by simp[UInt8.le_iff_toNat_le,h.1,h.2])]
  apply UInt8.toNat_inj.1
  rw[UInt8.toNat_ofNat',UInt8.toNat_add]
  rfl
 ·rw[if_neg h,if_neg (by simpa [UInt8.le_iff_toNat_le] using h)]
theorem small_is (l:List UInt8):l.map lowB=Lib.toLowerA l:=by
 unfold Lib.toLowerA
 exact List.map_congr_left (fun c _=>lowB_is c)
theorem refSmall_any (l:List UInt8)(w:World)(hs:l.length<=1000000) :
 Calls Tryz.prog 170 #[.string ⟨l.toArray⟩] w fun e w'=>e=.returned (.string ⟨(l.map lowB).toArray⟩)/\Below w.heap.size w w':=by
 obtain⟨s,hS⟩:∃ S:ByteArray,S=⟨l.toArray⟩:=⟨_,rfl⟩
 have hd:s.data.toList=l:=by rw[hS]
 have hsz:s.size=l.length:=by rw[hS];exact List.size_toArray
 rw[<- hS,<- hd]
 have hsl:s.size<=1000000:=by omega
 clear hS hsz hd hs
 go_enter Tryz.func170,Tryz.ntmps170
 go_wp2
 go_loopw [3,4] (fun ov iv wr=>∃ i:Nat,i<=s.size/\iv=.int .i64 i/\ov=.string ⟨((s.data.toList.take i).map lowB).toArray⟩/\Below w.heap.size w wr) (fun _ iv _=>s.size-(intOf iv).toNat)
 case atStart=>exact⟨0,Nat.zero_le _,rfl,rfl,Below.refl _ _⟩
 case round =>
  obtain⟨i,hi,rfl,rfl,hb⟩:=hrel
  have HB:Hid _:=hb
  clear hb
  by_cases hlt:i<s.size
  ·have hiI:(i:Int)<(s.size:Int):=by omega
   have HX:Hid ((s.data.toList.take (i+1)).map lowB=(s.data.toList.take i).map lowB++[lowB s[i]]):=by
    show _=_
    rw[take_snoc s i hlt,List.map_append]
    rfl
   have hln:((s.data.toList.take i).map lowB).length<=1000000:=by
    rw[List.length_map,List.length_take]
    omega
   obtain⟨O,hO⟩:∃ O,(s.data.toList.take i).map lowB=O:=⟨_,rfl⟩
   rw[hO] at HX hln ⊢
   have hct:=s[i].toNat_lt
   have ha:=addR O [lowB s[i]] (by simp;omega)
   obtain⟨O2,hO2⟩:∃ O2,O++[lowB s[i]]=O2:=⟨_,rfl⟩
   rw[hO2] at ha HX
   have hfin:∀ v,Below w.heap.size w (wr.alloc (.cells #[.int .u8 v] 5)):=fun v=>HB.out.trans (((Below.refl _ _).alloc (Nat.le_refl _) _).mono HB.out.size)
   have HFIN:Hid _:=hfin
   clear hO hO2 hfin
   by_cases hu:65<=s[i].toNat/\s[i].toNat<=90
   ·have hl:lowB s[i]=UInt8.ofNat (s[i].toNat+32):=by unfold lowB;rw[if_pos hu]
    have h1:(65:Int)<=(s[i].toNat:Int):=by omega
    have h2:(s[i].toNat:Int)<=90:=by omega
    have hbs:=byteStr wr (lowB s[i]) ((s[i].toNat:Int)+32) (by rw[hl,UInt8.toNat_ofNat'];omega)
    have hwp:IntKind.u8.wrap ((s[i].toNat:Int)+32)=(s[i].toNat:Int)+32:=by rw[IntKind.wrap_u8];omega
    clear hl hu
    go_wp2_with fail
    exact⟨⟨i+1,by omega,by go_num,by rw[HX.out],HFIN.out _⟩,by simp[intOf];omega⟩
   ·have hl:lowB s[i]=s[i]:=by unfold lowB;rw[if_neg hu]
    have hbs:=byteStr wr (lowB s[i]) (s[i].toNat:Int) (by rw[hl])
    have hor:¬ (65:Int)<=(s[i].toNat:Int)\/¬ (s[i].toNat:Int)<=90:=by omega
    clear hl hu
    by_cases h1:(65:Int)<=(s[i].toNat:Int)
    ·have h2:¬ (s[i].toNat:Int)<=90:=by omega
     clear hor
     go_wp2_with fail
     exact⟨⟨i+1,by omega,by go_num,by rw[HX.out],HFIN.out _⟩,by simp[intOf];omega⟩
    ·clear hor
     go_wp2_with fail
     exact⟨⟨i+1,by omega,by go_num,by rw[HX.out],HFIN.out _⟩,by simp[intOf];omega⟩
  ·obtain rfl:i=s.size:=by omega
   rw[List.take_of_length_le (by rw[Array.length_toList];exact Nat.le_refl _)]
   go_wp2
   go_ret
   exact⟨rfl,HB.out⟩
end Go.Proofs.YtmehkneofinmiaaGreatDoor

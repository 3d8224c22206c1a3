/-
 Texts of this proof, part 41.
-/
import Derived.Test.YtmehkneofinmiaaGreatDoorP40
set_option maxHeartbeats 2000000
namespace Go.Proofs.YtmehkneofinmiaaGreatDoor
def scan:List UInt8->Option (List UInt8×List UInt8)
 | []=>none
 | c::r=>if c=34 then some ([],r) else if tb c then (scan r).map (fun x=>(c::x.1,x.2)) else none
theorem index_least (l p:List UInt8) : -1<=Lib.index l p:=by
 induction l with
 | nil=>unfold Lib.index;split<;>decide
 | cons c r ih =>
   unfold Lib.index
   split
   ·decide
   ·split
    ·decide
    ·omega
theorem cut_cons (c:UInt8)(r:List UInt8):Lib.cut (c::r) [34]=if c=34 then ([],r,true) else (c::(Lib.cut r [34]).1,(Lib.cut r [34]).2.1,(Lib.cut r [34]).2.2):=by
 by_cases h:c=34
 ·subst h
  simp[Lib.cut,Lib.index]
 ·have hne:((34:UInt8)==c)=false:=by simp;exact fun e=>h e.symm
  rw[if_neg h]
  have hi:Lib.index (c::r) [34]=if Lib.index r [34] == -1 then -1 else Lib.index r [34]+1:=by
   simp[Lib.index,List.isPrefixOf,hne]
  have hg:=index_least r [34]
  unfold Lib.cut
  rw[hi]
  by_cases e:Lib.index r [34] = -1
  ·simp[e]
  ·have e':(if (Lib.index r [34] == -1)=true then (-1:Int) else Lib.index r [34]+1)=Lib.index r [34]+1:=by
    rw[if_neg]
    simpa using e
   rw[e',if_pos (show 0<=Lib.index r [34]+1 by omega),if_pos (show 0<=Lib.index r [34] by omega),show (Lib.index r [34]+1).toNat=(Lib.index r [34]).toNat+1 by omega]
   simp
theorem scan_cut (l:List UInt8):scan l=if (Lib.cut l [34]).2.2&&okText (Lib.cut l [34]).1 then some ((Lib.cut l [34]).1,(Lib.cut l [34]).2.1) else none:=by
 induction l with
 | nil=>rfl
 | cons c r ih =>
   rw[cut_cons,scan]
   by_cases h:c=34
   ·simp[h,okText]
   ·rw[if_neg h,if_neg h,ih]
    cases ht:tb c with
    | false=>simp[okText,ht]
    | true =>
      by_cases hb:((Lib.cut r [34]).2.2&&okText (Lib.cut r [34]).1)=true
      ·have hb':((Lib.cut r [34]).2.2&&okText (c::(Lib.cut r [34]).1))=true:=by
        simp only[okText,List.all_cons,ht,Bool.true_and] at hb ⊢
        exact hb
       simp only[hb,hb',if_true]
       rfl
      ·have hb':¬ ((Lib.cut r [34]).2.2&&okText (c::(Lib.cut r [34]).1))=true:=by
        simp only[okText,List.all_cons,ht,Bool.true_and] at hb ⊢
        exact hb
       simp only[hb,hb',if_true]
       rfl
theorem tagF_scan (l:List UInt8):tagF l=if Lib.hasPrefix (Lib.trimPrefix l [87,47]) [34] then (scan (Lib.trimPrefix (Lib.trimPrefix l [87,47]) [34])).map (fun x=>(Lib.hasPrefix l [87,47],x.1,x.2)) else none:=by
 rw[tagF_def,scan_cut]
 cases Lib.hasPrefix (Lib.trimPrefix l [87,47]) [34] with
 | false=>rfl
 | true =>
   rw[Bool.true_and,if_pos rfl]
   split<;>rfl
theorem byte_eq {c:UInt8}{n:Nat}(hn:n<256)(h:(c.toNat:Int)=(n:Int)):c=UInt8.ofNat n:=by
 apply UInt8.toNat_inj.1
 rw[UInt8.toNat_ofNat',Nat.mod_eq_of_lt hn]
 omega
theorem byte_ne {c:UInt8}{n:Nat}(hn:n<256)(h:¬ (c.toNat:Int)=(n:Int)):¬ c=UInt8.ofNat n:=by
 intro e
 subst e
 rw[UInt8.toNat_ofNat',Nat.mod_eq_of_lt hn] at h
 exact h rfl
theorem tag_weak (s:ByteArray)(a:Nat)(h:a+2<s.size)(h1:(s[a].toNat:Int)=87)(h2:(s[a+1].toNat:Int)=47) :
 tagF (s.data.toList.drop a)=if (s[a+2].toNat:Int)=34 then (scan (s.data.toList.drop (a+2+1))).map (fun x=>(true,x.1,x.2)) else none:=by
 have e1:s[a]=87:=byte_eq (n:=87) (by decide) h1
 have e2:s[a+1]=47:=byte_eq (n:=47) (by decide) h2
 rw[tagF_scan,drop_cons s a (by omega),drop_cons s (a+1) (by omega),drop_cons s (a+2) (by omega),e1,e2]
 have p1:∀ x:List UInt8,Lib.hasPrefix (87::47::x) [87,47]=true:=fun x=>by simp[Lib.hasPrefix]
 have p2:∀ x:List UInt8,Lib.trimPrefix (87::47::x) [87,47]=x:=fun x=>by simp[Lib.trimPrefix,Lib.hasPrefix]
 rw[p1,p2]
 by_cases hq:(s[a+2].toNat:Int)=34
 ·have e3:s[a+2]=34:=byte_eq (n:=34) (by decide) hq
  rw[if_pos hq,e3]
  simp[Lib.trimPrefix,Lib.hasPrefix]
 ·have e3:=byte_ne (n:=34) (by decide) hq
  rw[if_neg hq,if_neg]
  simp[Lib.hasPrefix]
  exact fun e=>e3 e.symm
theorem tag_plain (s:ByteArray)(a:Nat)(hn:∀ h:a+2<s.size,¬ ((s[a].toNat:Int)=87/\(s[a+1].toNat:Int)=47)) :
 tagF (s.data.toList.drop a)=if h:a<s.size then (if (s[a].toNat:Int)=34 then (scan (s.data.toList.drop (a+1))).map (fun x=>(false,x.1,x.2)) else none) else none:=by
 by_cases h:a<s.size
 ·rw[dif_pos h,tagF_scan,drop_cons s a h]
  by_cases hw:Lib.hasPrefix (s[a]::s.data.toList.drop (a+1)) [87,47]=true
  ·have h2:a+1<s.size:=by
    apply Classical.byContradiction
    intro hc
    rw[List.drop_of_length_le (by rw[<- Lib.size_eq];omega)] at hw
    simp[Lib.hasPrefix] at hw
   rw[drop_cons s (a+1) h2] at hw ⊢
   have hw':(87:UInt8)=s[a]/\(47:UInt8)=s[a+1]:=by simpa [Lib.hasPrefix] using hw
   have h3:¬ a+2<s.size:=fun hc=>hn hc ⟨by rw[<- hw'.1];rfl,by rw[<- hw'.2];rfl⟩
   rw[List.drop_of_length_le (by rw[<- Lib.size_eq];omega),<- hw'.1,<- hw'.2]
   rfl
  ·have hw0:Lib.hasPrefix (s[a]::s.data.toList.drop (a+1)) [87,47]=false:=by simpa using hw
   have ht:Lib.trimPrefix (s[a]::s.data.toList.drop (a+1)) [87,47]=s[a]::s.data.toList.drop (a+1):=by unfold Lib.trimPrefix;rw[if_neg hw]
   rw[ht,hw0]
   by_cases hq:(s[a].toNat:Int)=34
   ·have e3:s[a]=34:=byte_eq (n:=34) (by decide) hq
    rw[if_pos hq,e3]
    simp[Lib.trimPrefix,Lib.hasPrefix]
   ·have e3:=byte_ne (n:=34) (by decide) hq
    rw[if_neg hq,if_neg]
    simp[Lib.hasPrefix]
    exact fun e=>e3 e.symm
 ·rw[dif_neg h,List.drop_of_length_le (by rw[<- Lib.size_eq];omega)]
  decide
end Go.Proofs.YtmehkneofinmiaaGreatDoor
namespace Go.Proofs.YtmehkneofinmiaaGreatDoor
open Go.RowKit
def Sc (s:ByteArray)(f m:Nat):Prop:=scan (s.data.toList.drop f)=(scan (s.data.toList.drop m)).map (fun x=>((s.data.toList.drop f).take (m-f)++x.1,x.2))
theorem Sc.start (s:ByteArray)(f:Nat):Sc s f f:=by
 unfold Sc
 rw[Nat.sub_self,List.take_zero]
 cases scan (s.data.toList.drop f)<;>rfl
theorem Sc.quote {s:ByteArray}{f m:Nat}(h:Sc s f m)(hm:m<s.size)(hc:(s[m].toNat:Int)=34):scan (s.data.toList.drop f)=some ((s.data.toList.drop f).take (m-f),s.data.toList.drop (m+1)):=by
 unfold Sc at h
 have g:s[m]=34:=byte_eq (n:=34) (by decide) hc
 rw[h,drop_cons s m hm,scan,if_pos g]
 simp
theorem Sc.bad {s:ByteArray}{f m:Nat}(h:Sc s f m)(hm:m<s.size)(hc:(s[m].toNat:Int)<33\/(s[m].toNat:Int)=127):scan (s.data.toList.drop f)=none:=by
 unfold Sc at h
 have h1:¬ s[m]=34:=byte_ne (n:=34) (by decide) (by omega)
 have h2:tb s[m]=false:=by
  unfold tb tbI
  simp
  omega
 rw[h,drop_cons s m hm,scan,if_neg h1,h2]
 rfl
theorem Sc.go {s:ByteArray}{f m:Nat}(h:Sc s f m)(hf:f<=m)(hm:m<s.size)(h1:¬ (s[m].toNat:Int)=34)(h2:¬ (s[m].toNat:Int)<33)(h3:¬ (s[m].toNat:Int)=127):Sc s f (m+1):=by
 unfold Sc at h ⊢
 have g1:¬ s[m]=34:=byte_ne (n:=34) (by decide) h1
 have g2:tb s[m]=true:=by
  unfold tb tbI
  simp
  omega
 have g3:(s.data.toList.drop f).take (m+1-f)=(s.data.toList.drop f).take (m-f)++[s[m]]:=by
  rw[show m+1-f=m-f+1 by omega,List.take_add_one,List.getElem?_drop,show f+(m-f)=m by omega,List.getElem?_eq_getElem (by rw[<- Lib.size_eq];exact hm)]
  rfl
 rw[h,drop_cons s m hm,scan,if_neg g1,if_pos g2,g3]
 cases scan (s.data.toList.drop (m+1))<;>simp
theorem Sc.stop {s:ByteArray}{f m:Nat}(h:Sc s f m)(hm:s.size<=m):scan (s.data.toList.drop f)=none:=by
 unfold Sc at h
 rw[h,show s.data.toList.drop m=[] from List.drop_of_length_le (by rw[<- Lib.size_eq];exact hm)]
 rfl
def TagP (s:ByteArray)(a:Nat)(w:World)(e:Ending)(w':World):Prop :=
 Below w.heap.size w w' /\
 ((∃ wk nm n,n<=s.size/\a<n/\tagF (s.data.toList.drop a)=some (wk,nm,s.data.toList.drop n)/\e=.returned (.tuple #[.agg #[.bool wk,.string ⟨nm.toArray⟩],.int .i64 (n:Int)])) \/
  (tagF (s.data.toList.drop a)=none/\e=.returned (.tuple #[.agg #[.bool false,.string ⟨#[]⟩],.int .i64 (-1)])))
def Quo (s:ByteArray)(a q:Nat)(wk:Bool):Prop:=tagF (s.data.toList.drop a)=if h:q<s.size then (if (s[q].toNat:Int)=34 then (scan (s.data.toList.drop (q+1))).map (fun x=>(wk,x.1,x.2)) else none) else none
theorem Quo.none {s:ByteArray}{a q:Nat}{wk:Bool}(h:Quo s a q wk)(hn:∀ h:q<s.size,¬ (s[q].toNat:Int)=34):tagF (s.data.toList.drop a)=none:=by
 unfold Quo at h
 rw[h]
 split
 ·rw[if_neg (hn _)]
 ·rfl
theorem Quo.some {s:ByteArray}{a q:Nat}{wk:Bool}(h:Quo s a q wk)(hq:q<s.size)(hn:(s[q].toNat:Int)=34):tagF (s.data.toList.drop a)=(scan (s.data.toList.drop (q+1))).map (fun x=>(wk,x.1,x.2)):=by
 unfold Quo at h
 rw[h,dif_pos hq,if_pos hn]
theorem ex_mk (s:ByteArray)(a b:Nat):s.extract a b=⟨((s.data.toList.drop a).take (b-a)).toArray⟩:=by
 apply ByteArray.ext
 apply Array.toList_inj.1
 rw[ex_data]
theorem tagP_some {s:ByteArray}{a q m:Nat}{wk:Bool}{w w':World}(hb:Below w.heap.size w w')(ha:a<=q)(hq:q<=m)(hm:m<s.size)
 (h:tagF (s.data.toList.drop a)=Option.map (fun x=>(wk,x.1,x.2)) (some ((s.data.toList.drop (q+1)).take (m-(q+1)),s.data.toList.drop (m+1)))) :
 TagP s a w (.returned (.tuple #[.agg #[.bool wk,.string (s.extract (q+1) m)],.int .i64 ((m:Int)+1)])) w' :=
 ⟨hb,Or.inl ⟨wk,_,m+1,by omega,by omega,h,by rw[ex_mk];rfl⟩⟩
theorem tagP_none {s:ByteArray}{a:Nat}{w w':World}(hb:Below w.heap.size w w')(h:tagF (s.data.toList.drop a)=none) :
 TagP s a w (.returned (.tuple #[.agg #[.bool false,.string ⟨#[]⟩],.int .i64 (-1)])) w':=⟨hb,Or.inr ⟨h,rfl⟩⟩
theorem tag_any (s:ByteArray)(a:Nat)(w:World)(ha:a<=s.size)(hs:s.size<=67108864):Calls Tryz.prog 222 #[.string s,.int .i64 (a:Int)] w (TagP s a w):=by
 by_cases h1:a+2<s.size
 ·by_cases h2:(s[a].toNat:Int)=87
  ·by_cases h3:(s[a+1].toNat:Int)=47
   ·have HQ:Hid (Quo s a (a+2) true):=by
     show tagF _=_
     rw[dif_pos h1]
     exact tag_weak s a h1 h2 h3
    by_cases h4:(s[a+2].toNat:Int)=34
    ·go_enter Tryz.func222,Tryz.ntmps222
     go_wp2
     go_loop [8] (fun i=>∃ m:Nat,(a+2)+1<=m/\m<=s.size/\i=.int .i64 m/\Hid (Sc s ((a+2)+1) m)) (fun i=>s.size-(intOf i).toNat)
     case atStart=>exact⟨(a+2)+1,Nat.le_refl _,by omega,by go_num,Sc.start s _⟩
     case round =>
      obtain⟨m,hqm,hm,rfl,hsc⟩:=hrel
      by_cases hlt:m<s.size
      ·by_cases c1:(s[m].toNat:Int)=34
       ·have HR:Hid _:=(HQ.out.some (by omega) h4).trans (congrArg _ (hsc.out.quote hlt c1))
        go_wp2
        exact bodyPost_ret (v:=.tuple #[.agg #[.bool true,.string (s.extract ((a+2)+1) m)],.int .i64 ((m:Int)+1)]) (by simp[results,Tryz.results222,go_sem]) rfl (tagP_some (by repeat (first|exact Below.refl _ _|refine Below.setCell ?_ (by simp) _|refine Below.alloc ?_ (by simp) _)) (by omega) (by omega) hlt HR.out)
       ·by_cases c2:(s[m].toNat:Int)<33
        ·have HR:Hid _:=(HQ.out.some (by omega) h4).trans (congrArg _ (hsc.out.bad hlt (Or.inl c2)))
         go_wp2
         exact bodyPost_ret (v:=.tuple #[.agg #[.bool false,.string ⟨#[]⟩],.int .i64 (-1)]) (by simp[results,Tryz.results222,go_sem]) rfl (tagP_none (by repeat (first|exact Below.refl _ _|refine Below.setCell ?_ (by simp) _|refine Below.alloc ?_ (by simp) _)) HR.out)
        ·by_cases c3:(s[m].toNat:Int)=127
         ·have HR:Hid _:=(HQ.out.some (by omega) h4).trans (congrArg _ (hsc.out.bad hlt (Or.inr c3)))
          go_wp2
          exact bodyPost_ret (v:=.tuple #[.agg #[.bool false,.string ⟨#[]⟩],.int .i64 (-1)]) (by simp[results,Tryz.results222,go_sem]) rfl (tagP_none (by repeat (first|exact Below.refl _ _|refine Below.setCell ?_ (by simp) _|refine Below.alloc ?_ (by simp) _)) HR.out)
         ·have HG:Hid _:=hsc.out.go hqm hlt c1 c2 c3
          go_wp2
          exact⟨⟨m+1,by omega,by omega,by go_num,HG.out⟩,by simp[intOf];omega⟩
      ·have HR:Hid _:=(HQ.out.some (by omega) h4).trans (congrArg _ (hsc.out.stop (by omega)))
       go_wp2
       exact bodyPost_ret (v:=.tuple #[.agg #[.bool false,.string ⟨#[]⟩],.int .i64 (-1)]) (by simp[results,Tryz.results222,go_sem]) rfl (tagP_none (by repeat (first|exact Below.refl _ _|refine Below.setCell ?_ (by simp) _|refine Below.alloc ?_ (by simp) _)) HR.out)
    ·have h4':((s[a+2].toNat:Int) != 34)=true:=by simpa using h4
     have HR:Hid _:=HQ.out.none (fun _=>h4)
     go_enter Tryz.func222,Tryz.ntmps222
     go_wp2
     exact bodyPost_ret (v:=.tuple #[.agg #[.bool false,.string ⟨#[]⟩],.int .i64 (-1)]) (by simp[results,Tryz.results222,go_sem]) rfl (tagP_none (by repeat (first|exact Below.refl _ _|refine Below.setCell ?_ (by simp) _|refine Below.alloc ?_ (by simp) _)) HR.out)
   ·have HQ:Hid (Quo s a a false):=tag_plain s a (fun _ h=>h3 h.2)
    have h3':((s[a+1].toNat:Int)==47)=false:=by simpa using h3
    have HR:Hid _:=HQ.out.none (fun _=>by omega)
    go_enter Tryz.func222,Tryz.ntmps222
    go_wp2
    exact bodyPost_ret (v:=.tuple #[.agg #[.bool false,.string ⟨#[]⟩],.int .i64 (-1)]) (by simp[results,Tryz.results222,go_sem]) rfl (tagP_none (by repeat (first|exact Below.refl _ _|refine Below.setCell ?_ (by simp) _|refine Below.alloc ?_ (by simp) _)) HR.out)
  ·have h2':((s[a].toNat:Int)==87)=false:=by simpa using h2
   have HQ:Hid (Quo s a a false):=tag_plain s a (fun _=>fun h=>h2 h.1)
   by_cases h5:a<s.size
   ·by_cases h4:(s[a].toNat:Int)=34
    ·go_enter Tryz.func222,Tryz.ntmps222
     go_wp2
     go_loop [8] (fun i=>∃ m:Nat,a+1<=m/\m<=s.size/\i=.int .i64 m/\Hid (Sc s (a+1) m)) (fun i=>s.size-(intOf i).toNat)
     case atStart=>exact⟨a+1,Nat.le_refl _,by omega,by go_num,Sc.start s _⟩
     case round =>
      obtain⟨m,hqm,hm,rfl,hsc⟩:=hrel
      by_cases hlt:m<s.size
      ·by_cases c1:(s[m].toNat:Int)=34
       ·have HR:Hid _:=(HQ.out.some (by omega) h4).trans (congrArg _ (hsc.out.quote hlt c1))
        go_wp2
        exact bodyPost_ret (v:=.tuple #[.agg #[.bool false,.string (s.extract (a+1) m)],.int .i64 ((m:Int)+1)]) (by simp[results,Tryz.results222,go_sem]) rfl (tagP_some (by repeat (first|exact Below.refl _ _|refine Below.setCell ?_ (by simp) _|refine Below.alloc ?_ (by simp) _)) (by omega) (by omega) hlt HR.out)
       ·by_cases c2:(s[m].toNat:Int)<33
        ·have HR:Hid _:=(HQ.out.some (by omega) h4).trans (congrArg _ (hsc.out.bad hlt (Or.inl c2)))
         go_wp2
         exact bodyPost_ret (v:=.tuple #[.agg #[.bool false,.string ⟨#[]⟩],.int .i64 (-1)]) (by simp[results,Tryz.results222,go_sem]) rfl (tagP_none (by repeat (first|exact Below.refl _ _|refine Below.setCell ?_ (by simp) _|refine Below.alloc ?_ (by simp) _)) HR.out)
        ·by_cases c3:(s[m].toNat:Int)=127
         ·have HR:Hid _:=(HQ.out.some (by omega) h4).trans (congrArg _ (hsc.out.bad hlt (Or.inr c3)))
          go_wp2
          exact bodyPost_ret (v:=.tuple #[.agg #[.bool false,.string ⟨#[]⟩],.int .i64 (-1)]) (by simp[results,Tryz.results222,go_sem]) rfl (tagP_none (by repeat (first|exact Below.refl _ _|refine Below.setCell ?_ (by simp) _|refine Below.alloc ?_ (by simp) _)) HR.out)
         ·have HG:Hid _:=hsc.out.go hqm hlt c1 c2 c3
          go_wp2
          exact⟨⟨m+1,by omega,by omega,by go_num,HG.out⟩,by simp[intOf];omega⟩
      ·have HR:Hid _:=(HQ.out.some (by omega) h4).trans (congrArg _ (hsc.out.stop (by omega)))
       go_wp2
       exact bodyPost_ret (v:=.tuple #[.agg #[.bool false,.string ⟨#[]⟩],.int .i64 (-1)]) (by simp[results,Tryz.results222,go_sem]) rfl (tagP_none (by repeat (first|exact Below.refl _ _|refine Below.setCell ?_ (by simp) _|refine Below.alloc ?_ (by simp) _)) HR.out)
    ·have h4':((s[a].toNat:Int) != 34)=true:=by simpa using h4
     have HR:Hid _:=HQ.out.none (fun _=>h4)
     go_enter Tryz.func222,Tryz.ntmps222
     go_wp2
     exact bodyPost_ret (v:=.tuple #[.agg #[.bool false,.string ⟨#[]⟩],.int .i64 (-1)]) (by simp[results,Tryz.results222,go_sem]) rfl (tagP_none (by repeat (first|exact Below.refl _ _|refine Below.setCell ?_ (by simp) _|refine Below.alloc ?_ (by simp) _)) HR.out)
   ·exact absurd (show a<s.size by omega) h5
 ·have HQ:Hid (Quo s a a false):=tag_plain s a (fun _=>absurd (by assumption) h1)
  by_cases h5:a<s.size
  ·by_cases h4:(s[a].toNat:Int)=34
   ·go_enter Tryz.func222,Tryz.ntmps222
    go_wp2
    go_loop [8] (fun i=>∃ m:Nat,a+1<=m/\m<=s.size/\i=.int .i64 m/\Hid (Sc s (a+1) m)) (fun i=>s.size-(intOf i).toNat)
    case atStart=>exact⟨a+1,Nat.le_refl _,by omega,by go_num,Sc.start s _⟩
    case round =>
     obtain⟨m,hqm,hm,rfl,hsc⟩:=hrel
     by_cases hlt:m<s.size
     ·by_cases c1:(s[m].toNat:Int)=34
      ·have HR:Hid _:=(HQ.out.some (by omega) h4).trans (congrArg _ (hsc.out.quote hlt c1))
       go_wp2
       exact bodyPost_ret (v:=.tuple #[.agg #[.bool false,.string (s.extract (a+1) m)],.int .i64 ((m:Int)+1)]) (by simp[results,Tryz.results222,go_sem]) rfl (tagP_some (by repeat (first|exact Below.refl _ _|refine Below.setCell ?_ (by simp) _|refine Below.alloc ?_ (by simp) _)) (by omega) (by omega) hlt HR.out)
      ·by_cases c2:(s[m].toNat:Int)<33
       ·have HR:Hid _:=(HQ.out.some (by omega) h4).trans (congrArg _ (hsc.out.bad hlt (Or.inl c2)))
        go_wp2
        exact bodyPost_ret (v:=.tuple #[.agg #[.bool false,.string ⟨#[]⟩],.int .i64 (-1)]) (by simp[results,Tryz.results222,go_sem]) rfl (tagP_none (by repeat (first|exact Below.refl _ _|refine Below.setCell ?_ (by simp) _|refine Below.alloc ?_ (by simp) _)) HR.out)
       ·by_cases c3:(s[m].toNat:Int)=127
        ·have HR:Hid _:=(HQ.out.some (by omega) h4).trans (congrArg _ (hsc.out.bad hlt (Or.inr c3)))
         go_wp2
         exact bodyPost_ret (v:=.tuple #[.agg #[.bool false,.string ⟨#[]⟩],.int .i64 (-1)]) (by simp[results,Tryz.results222,go_sem]) rfl (tagP_none (by repeat (first|exact Below.refl _ _|refine Below.setCell ?_ (by simp) _|refine Below.alloc ?_ (by simp) _)) HR.out)
        ·have HG:Hid _:=hsc.out.go hqm hlt c1 c2 c3
         go_wp2
         exact⟨⟨m+1,by omega,by omega,by go_num,HG.out⟩,by simp[intOf];omega⟩
     ·have HR:Hid _:=(HQ.out.some (by omega) h4).trans (congrArg _ (hsc.out.stop (by omega)))
      go_wp2
      exact bodyPost_ret (v:=.tuple #[.agg #[.bool false,.string ⟨#[]⟩],.int .i64 (-1)]) (by simp[results,Tryz.results222,go_sem]) rfl (tagP_none (by repeat (first|exact Below.refl _ _|refine Below.setCell ?_ (by simp) _|refine Below.alloc ?_ (by simp) _)) HR.out)
   ·have h4':((s[a].toNat:Int) != 34)=true:=by simpa using h4
    have HR:Hid _:=HQ.out.none (fun _=>h4)
    go_enter Tryz.func222,Tryz.ntmps222
    go_wp2
    exact bodyPost_ret (v:=.tuple #[.agg #[.bool false,.string ⟨#[]⟩],.int .i64 (-1)]) (by simp[results,Tryz.results222,go_sem]) rfl (tagP_none (by repeat (first|exact Below.refl _ _|refine Below.setCell ?_ (by simp) _|refine Below.alloc ?_ (by simp) _)) HR.out)
  ·have HR:Hid _:=HQ.out.none (fun h=>absurd h h5)
   go_enter Tryz.func222,Tryz.ntmps222
   go_wp2
   exact bodyPost_ret (v:=.tuple #[.agg #[.bool false,.string ⟨#[]⟩],.int .i64 (-1)]) (by simp[results,Tryz.results222,go_sem]) rfl (tagP_none (by repeat (first|exact Below.refl _ _|refine Below.setCell ?_ (by simp) _|refine Below.alloc ?_ (by simp) _)) HR.out)
def Tight (l:List UInt8):Prop:=∀ x c,l=x++[c]->blank c=false
theorem trimR_tight (l:List UInt8):Tight (Lib.trimRightS l [32,9]):=by
 intro x c h
 unfold Lib.trimRightS at h
 have h2:l.reverse.dropWhile (fun c=>[32,9].contains c)=c::x.reverse:=by
  have:=congrArg List.reverse h
  simpa using this
 have:=List.head?_dropWhile_not (p:=fun c:UInt8=>[32,9].contains c) l.reverse
 rw[h2] at this
 simpa [blank] using this
theorem tight_drop {l:List UInt8}(h:Tight l)(k:Nat):Tight (l.drop k):=by
 intro x c e
 apply h (l.take k++x) c
 rw[List.append_assoc,<- e,List.take_append_drop]
theorem trim_tight (l:List UInt8):Tight (Lib.trimS l [32,9]):=by
 intro x c e
 unfold Lib.trimS Lib.trimLeftS at e
 obtain⟨y,hy⟩:=List.dropWhile_suffix (fun c:UInt8=>[32,9].contains c) (l:=Lib.trimRightS l [32,9])
 apply trimR_tight l (y++x) c
 rw[List.append_assoc,<- e,hy]
theorem dropW_nil (p:UInt8->Bool):∀ l:List UInt8,l.dropWhile p=[]->∀ c∈l,p c=true
 | [],_,c,hc=>by cases hc
 | a::l,h,c,hc=>by
   rw[List.dropWhile_cons] at h
   split at h
   ·rename_i ha
    rcases List.mem_cons.1 hc with rfl|hm
    ·exact ha
    ·exact dropW_nil p l h c hm
   ·cases h
theorem tight_strip {l:List UInt8}(h:Tight l)(hn:l≠[]):strip l≠[]:=by
 intro e
 have hb:blank (l.getLast hn)=false:=h l.dropLast _ (List.dropLast_concat_getLast hn).symm
 have ha:∀ c∈l,[32,9].contains c=true:=by
  unfold strip Lib.trimLeftS at e
  exact dropW_nil _ l e
 have:=ha _ (List.getLast_mem hn)
 unfold blank at hb
 rw[this] at hb
 cases hb
def Sk (s:ByteArray)(f m:Nat):Prop:=strip (s.data.toList.drop f)=strip (s.data.toList.drop m)
theorem Sk.go {s:ByteArray}{f m:Nat}(h:Sk s f m)(hm:m<s.size)(hc:(s[m].toNat:Int)=32\/(s[m].toNat:Int)=9):Sk s f (m+1):=by
 unfold Sk at h ⊢
 rw[h,drop_cons s m hm]
 exact strip_gap [s[m]] _ (by simpa using (blank_iff s[m]).2 hc)
theorem Sk.stop {s:ByteArray}{f m:Nat}(h:Sk s f m)(hc:∀ hm:m<s.size,¬ ((s[m].toNat:Int)=32\/(s[m].toNat:Int)=9)):strip (s.data.toList.drop f)=s.data.toList.drop m:=by
 unfold Sk at h
 rw[h]
 by_cases hm:m<s.size
 ·rw[drop_cons s m hm]
  exact strip_head _ _ (by rw[Bool.eq_false_iff,Ne,blank_iff];exact hc hm)
 ·rw[List.drop_of_length_le (by rw[<- Lib.size_eq];omega)]
  rfl
theorem drop_nil_iff (s:ByteArray)(m:Nat):s.data.toList.drop m=[] ↔ s.size<=m:=by
 rw[List.drop_eq_nil_iff,<- Lib.size_eq]
theorem ref_end {s:ByteArray}{a n m k:Nat}{wk:Bool}{nm:List UInt8}(ht:Tight s.data.toList)(hk:(s.data.toList.drop a).length<k)(hf:tagF (s.data.toList.drop a)=some (wk,nm,s.data.toList.drop n))(hs:strip (s.data.toList.drop n)=s.data.toList.drop m)(hm:s.size<=m) :
 tagsF k (s.data.toList.drop a)=some [(wk,nm)]:=by
 have hn:s.data.toList.drop n=[]:=by
  apply Classical.byContradiction
  intro hc
  exact tight_strip (tight_drop ht n) hc (by rw[hs,drop_nil_iff];exact hm)
 rw[hn] at hf
 exact tagsF_end hk hf
theorem ref_bad {s:ByteArray}{a n m k:Nat}{wk:Bool}{nm:List UInt8}(hf:tagF (s.data.toList.drop a)=some (wk,nm,s.data.toList.drop n))(hs:strip (s.data.toList.drop n)=s.data.toList.drop m)(hn:n<=m)(hm:m<s.size)(hc:¬ (s[m].toNat:Int)=44) :
 tagsF k (s.data.toList.drop a)=none:=by
 refine tagsF_bad hf (by rw[Ne,drop_nil_iff];omega) ?_
 rw[hs,drop_cons s m hm]
 have:=byte_ne (n:=44) (by decide) hc
 cases h:Lib.hasPrefix (s[m]::s.data.toList.drop (m+1)) [44] with
 | false=>rfl
 | true =>
   simp[Lib.hasPrefix] at h
   exact absurd h.symm this
theorem ref_on {s:ByteArray}{a n m p k:Nat}{wk:Bool}{nm:List UInt8}(hf:tagF (s.data.toList.drop a)=some (wk,nm,s.data.toList.drop n))(hs:strip (s.data.toList.drop n)=s.data.toList.drop m)(hn:n<=m)(hm:m<s.size)(hc:(s[m].toNat:Int)=44)
 (hp:strip (s.data.toList.drop (m+1))=s.data.toList.drop p):tagsF (k+1) (s.data.toList.drop a)=(tagsF k (s.data.toList.drop p)).map ((wk,nm)::·):=by
 have e:s[m]=44:=byte_eq (n:=44) (by decide) hc
 rw[tagsF_on hf (by rw[Ne,drop_nil_iff];omega) (by rw[hs,drop_cons s m hm,e];simp[Lib.hasPrefix]),hs,drop_cons s m hm,e,show Lib.trimPrefix (44::s.data.toList.drop (m+1)) [44]=s.data.toList.drop (m+1) by simp[Lib.trimPrefix,Lib.hasPrefix],hp]
structure Ou (w x:World)(g:Nat)(v:Value)(acc:TagL):Prop where
 b:Below w.heap.size w x
 r0:x.cell? ⟨w.heap.size,0,none⟩=some (.bool false)
 r1:x.cell? ⟨w.heap.size,1,none⟩=some (.slice none 0 0)
 rf0:x.frozen? ⟨w.heap.size,0,none⟩=false
 rf1:x.frozen? ⟨w.heap.size,1,none⟩=false
 o0:x.cell? ⟨g,0,none⟩=some (.bool false)
 o1:x.cell? ⟨g,1,none⟩=some v
 of1:x.frozen? ⟨g,1,none⟩=false
 own:x.ownsRow (g+1) 303 2 v acc.length (cellsT acc)
 gl:w.heap.size<g
 lt:g<x.heap.size
theorem Ou.below {w x y:World}{g:Nat}{v:Value}{acc:TagL}(h:Ou w x g v acc)(hb:Below x.heap.size x y):Ou w y g v acc:=by
 have lt:=h.lt
 have gl:=h.gl
 have hw:w.heap.size<x.heap.size:=by omega
 exact⟨h.b.trans (hb.mono h.b.size),(hb.cell (p:=⟨_,0,none⟩) hw).trans h.r0,(hb.cell (p:=⟨_,1,none⟩) hw).trans h.r1,(hb.frozen (p:=⟨_,0,none⟩) hw).trans h.rf0,(hb.frozen (p:=⟨_,1,none⟩) hw).trans h.rf1,
  (hb.cell (p:=⟨g,0,none⟩) lt).trans h.o0,(hb.cell (p:=⟨g,1,none⟩) lt).trans h.o1,(hb.frozen (p:=⟨g,1,none⟩) lt).trans h.of1,owns_below h.own hb,gl,by have:=hb.size;omega⟩
theorem Ou.next {w x y:World}{g:Nat}{v v':Value}{acc:TagL}{t:Bool×List UInt8}(h:Ou w x g v acc)(hb:Below (g+1) x y)(ho:y.ownsRow (g+1) 303 2 v' (acc.length+1) (cellsT acc++[.bool t.1,.string ⟨t.2.toArray⟩])) :
 Ou w (y.setCell ⟨g,1,none⟩ v') g v' (acc++[t]):=by
 have lt:=h.lt
 have gl:=h.gl
 have c1:=(hb.cell (p:=⟨g,1,none⟩) (Nat.lt_succ_self g)).trans h.o1
 have ne:∀ (b o:Nat),(b=w.heap.size\/o=0)->(⟨g,1,none⟩:Addr)≠⟨b,o,none⟩:=by
  intro b o hh e
  injection e
  omega
 refine⟨(h.b.trans (hb.mono (by omega))).setCell (by show w.heap.size<=g;omega) _,?_,?_,?_,?_,?_,?_,?_,?_,gl,?_⟩
 ·rw[World.cell?_setCell_other _ _ _ _ (ne _ _ (Or.inl rfl))]
  exact (hb.cell (p:=⟨_,0,none⟩) (show w.heap.size<g+1 by omega)).trans h.r0
 ·rw[World.cell?_setCell_other _ _ _ _ (ne _ _ (Or.inl rfl))]
  exact (hb.cell (p:=⟨_,1,none⟩) (show w.heap.size<g+1 by omega)).trans h.r1
 ·rw[World.frozen?_setCell]
  exact (hb.frozen (p:=⟨_,0,none⟩) (show w.heap.size<g+1 by omega)).trans h.rf0
 ·rw[World.frozen?_setCell]
  exact (hb.frozen (p:=⟨_,1,none⟩) (show w.heap.size<g+1 by omega)).trans h.rf1
 ·rw[World.cell?_setCell_other _ _ _ _ (ne _ _ (Or.inr rfl))]
  exact (hb.cell (p:=⟨g,0,none⟩) (Nat.lt_succ_self g)).trans h.o0
 ·exact World.cell?_setCell_same _ _ _ c1
 ·rw[World.frozen?_setCell]
  exact (hb.frozen (p:=⟨g,1,none⟩) (Nat.lt_succ_self g)).trans h.of1
 ·rw[List.length_append,List.length_singleton,cellsT_snoc]
  exact owns_set ho (by show g<g+1;omega)
 ·have:=World.block_lt_of_cell? _ _ c1
  simpa [World.setCell] using this
end Go.Proofs.YtmehkneofinmiaaGreatDoor
namespace Go.Proofs.YtmehkneofinmiaaGreatDoor
def gapOf (k:Int):List UInt8:=if k=0 then [] else if k=1 then [32] else if k=2 then [9] else [32,32]
def itemOf (weak gaps:Int)(T:Nat->ByteArray)(j:Nat):Bool×List UInt8×List UInt8 :=
 (pk (RowKit.wrap64 (weak+j)) 2==1,(T j).data.toList.filter tb,gapOf (pk (RowKit.wrap64 (gaps+j)) 4))
def its (weak gaps:Int)(T:Nat->ByteArray):Nat->Items
 | 0=>[]
 | j+1=>its weak gaps T j++[itemOf weak gaps T j]
end Go.Proofs.YtmehkneofinmiaaGreatDoor
namespace Go.Proofs.YtmehkneofinmiaaGreatDoor
open Go.RowKit
def wantL (a:Items):List Value:=a.map fun x=>.string ⟨x.2.1.toArray⟩
structure Qs (w x:World)(want:Value)(a:Items):Prop where
 b:Below w.heap.size w x
 o:x.ownsRow w.heap.size 9 1 want a.length (wantL a)
theorem ownsQ_mono {w:World}{base base':Nat}{e:TypeId}{size:Nat}{v:Value}{n:Nat}{xs:List Value}(h:w.ownsRow base e size v n xs)(hb:base'<=base):w.ownsRow base' e size v n xs :=
 ⟨h.1,h.2.imp id fun ⟨g,cap,cur,hv,hg,r⟩=>⟨g,cap,cur,hv,Nat.le_trans hb hg,r⟩⟩
end Go.Proofs.YtmehkneofinmiaaGreatDoor

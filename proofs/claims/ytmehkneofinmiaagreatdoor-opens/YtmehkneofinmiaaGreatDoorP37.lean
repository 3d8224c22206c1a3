/-part 37-/
import Derived.Test.YtmehkneofinmiaaGreatDoorP36
set_option maxRecDepth 100000
set_option maxHeartbeats 2000000
namespace Go.Proofs.YtmehkneofinmiaaGreatDoor
open Go.RowKit
def Sc (s:ByteArray)(f m:Nat):Prop:=gP (s.data.toList.drop f)=(gP (s.data.toList.drop m)).map (λ x=>((s.data.toList.drop f).take (m-f)++x.1,x.2))
theorem Sc.start (s:ByteArray)(f:Nat):Sc s f f:=by
 unfold Sc;rw[Nat.sub_self,List.take_zero];cases gP (s.data.toList.drop f)<;>rfl
theorem Sc.quote {s:ByteArray}{f m:Nat}(h:Sc s f m)(hm:m<s.size)(hc:(s[m].toNat:Int)=34):gP (s.data.toList.drop f)=some ((s.data.toList.drop f).take (m-f),s.data.toList.drop (m+1)):=by
 unfold Sc at h;have g:s[m]=34:=iN (n:=34) (by decide) hc;rw[h,bw s m hm,gP,if_pos g];simp
theorem Sc.bad {s:ByteArray}{f m:Nat}(h:Sc s f m)(hm:m<s.size)(hc:(s[m].toNat:Int)<33\/(s[m].toNat:Int)=127):gP (s.data.toList.drop f)=none:=by
 unfold Sc at h;have h1:¬ s[m]=34:=jI (n:=34) (by decide) (by omega);have h2:tb s[m]=false:=by unfold tb tbI;simp;omega
 rw[h,bw s m hm,gP,if_neg h1,h2];rfl
theorem Sc.go {s:ByteArray}{f m:Nat}(h:Sc s f m)(hf:f<=m)(hm:m<s.size)(h1:¬ (s[m].toNat:Int)=34)(h2:¬ (s[m].toNat:Int)<33)(h3:¬ (s[m].toNat:Int)=127):Sc s f (m+1):=by
 unfold Sc at h ⊢;have g1:¬ s[m]=34:=jI (n:=34) (by decide) h1;have g2:tb s[m]=true:=by unfold tb tbI;simp;omega
 have g3:(s.data.toList.drop f).take (m+1-f)=(s.data.toList.drop f).take (m-f)++[s[m]]:=by rw[show m+1-f=m-f+1 by omega,List.take_add_one,List.getElem?_drop,show f+(m-f)=m by omega,List.getElem?_eq_getElem (by rw[<- Lib.size_eq];exact hm)];rfl
 rw[h,bw s m hm,gP,if_neg g1,if_pos g2,g3];cases gP (s.data.toList.drop (m+1))<;>simp
theorem Sc.stop {s:ByteArray}{f m:Nat}(h:Sc s f m)(hm:s.size<=m):gP (s.data.toList.drop f)=none:=by
 unfold Sc at h;rw[h,show s.data.toList.drop m=[] from List.drop_of_length_le (by rw[<- Lib.size_eq];exact hm)];rfl
def Aw (s:ByteArray)(a:Nat)(w:World)(e:Ending)(w':World):Prop :=
 Below w.heap.size w w' /\
 ((∃ wk nm n,n<=s.size/\a<n/\fe (s.data.toList.drop a)=some (wk,nm,s.data.toList.drop n)/\e=.returned (.tuple #[.agg #[.bool wk,.string ⟨nm.toArray⟩],.int .i64 (n:Int)])) \/
  (fe (s.data.toList.drop a)=none/\e=.returned (.tuple #[.agg #[.bool false,.string ⟨#[]⟩],.int .i64 (-1)])))
def Quo (s:ByteArray)(a q:Nat)(wk:Bool):Prop:=fe (s.data.toList.drop a)=if h:q<s.size then (if (s[q].toNat:Int)=34 then (gP (s.data.toList.drop (q+1))).map (λ x=>(wk,x.1,x.2)) else none) else none
theorem Quo.none {s:ByteArray}{a q:Nat}{wk:Bool}(h:Quo s a q wk)(hn:∀ h:q<s.size,¬ (s[q].toNat:Int)=34):fe (s.data.toList.drop a)=none:=by
 unfold Quo at h;rw[h];split
 ·rw[if_neg (hn _)]
 ·rfl
theorem Quo.some {s:ByteArray}{a q:Nat}{wk:Bool}(h:Quo s a q wk)(hq:q<s.size)(hn:(s[q].toNat:Int)=34):fe (s.data.toList.drop a)=(gP (s.data.toList.drop (q+1))).map (λ x=>(wk,x.1,x.2)):=by
 unfold Quo at h;rw[h,dif_pos hq,if_pos hn]
theorem Bz (s:ByteArray)(a b:Nat):s.extract a b=⟨((s.data.toList.drop a).take (b-a)).toArray⟩:=by
 apply ByteArray.ext;apply Array.toList_inj.1;rw[tV]
theorem kq {s:ByteArray}{a q m:Nat}{wk:Bool}{w w':World}(hb:Below w.heap.size w w')(ha:a<=q)(hq:q<=m)(hm:m<s.size)
 (h:fe (s.data.toList.drop a)=Option.map (λ x=>(wk,x.1,x.2)) (some ((s.data.toList.drop (q+1)).take (m-(q+1)),s.data.toList.drop (m+1)))) :
 Aw s a w (.returned (.tuple #[.agg #[.bool wk,.string (s.extract (q+1) m)],.int .i64 ((m:Int)+1)])) w' :=
 ⟨hb,Or.inl ⟨wk,_,m+1,by omega,by omega,h,by rw[Bz];rfl⟩⟩
theorem bG {s:ByteArray}{a:Nat}{w w':World}(hb:Below w.heap.size w w')(h:fe (s.data.toList.drop a)=none) :
 Aw s a w (.returned (.tuple #[.agg #[.bool false,.string ⟨#[]⟩],.int .i64 (-1)])) w':=⟨hb,Or.inr ⟨h,rfl⟩⟩
theorem zm (s:ByteArray)(a:Nat)(w:World)(ha:a<=s.size)(hs:s.size<=67108864):Calls Tryz.prog 222 #[.string s,.int .i64 (a:Int)] w (Aw s a w):=by
 by_cases h1:a+2<s.size
 ·by_cases h2:(s[a].toNat:Int)=87
  ·by_cases h3:(s[a+1].toNat:Int)=47
   ·(have HQ:Hid (Quo s a (a+2) true):=by show fe _=_;rw[dif_pos h1];exact yA s a h1 h2 h3);by_cases h4:(s[a+2].toNat:Int)=34
    ·go_enter Tryz.func222,Tryz.ntmps222;go_wp2;go_loop [8] (λ i=>∃ m:Nat,(a+2)+1<=m/\m<=s.size/\i=.int .i64 m/\Hid (Sc s ((a+2)+1) m)) (λ i=>s.size-(intOf i).toNat);(case atStart=>exact⟨(a+2)+1,Nat.le_refl _,by omega,by go_num,Sc.start s _⟩);case round =>
      obtain⟨m,A1,hm,rfl,A0⟩:=hrel;by_cases hlt:m<s.size
      ·by_cases c1:(s[m].toNat:Int)=34
       ·have HR:Hid _:=(HQ.out.some (by omega) h4).trans (congrArg _ (A0.out.quote hlt c1));go_wp2;exact bodyPost_ret (v:=.tuple #[.agg #[.bool true,.string (s.extract ((a+2)+1) m)],.int .i64 ((m:Int)+1)]) (by simp[results,Tryz.results222,go_sem]) rfl (kq (by repeat (first|exact Below.refl _ _|refine Below.setCell ?_ (by simp) _|refine Below.alloc ?_ (by simp) _)) (by omega) (by omega) hlt HR.out)
       ·by_cases c2:(s[m].toNat:Int)<33
        ·have HR:Hid _:=(HQ.out.some (by omega) h4).trans (congrArg _ (A0.out.bad hlt (Or.inl c2)));go_wp2;exact bodyPost_ret (v:=.tuple #[.agg #[.bool false,.string ⟨#[]⟩],.int .i64 (-1)]) (by simp[results,Tryz.results222,go_sem]) rfl (bG (by repeat (first|exact Below.refl _ _|refine Below.setCell ?_ (by simp) _|refine Below.alloc ?_ (by simp) _)) HR.out)
        ·by_cases c3:(s[m].toNat:Int)=127
         ·have HR:Hid _:=(HQ.out.some (by omega) h4).trans (congrArg _ (A0.out.bad hlt (Or.inr c3)));go_wp2;exact bodyPost_ret (v:=.tuple #[.agg #[.bool false,.string ⟨#[]⟩],.int .i64 (-1)]) (by simp[results,Tryz.results222,go_sem]) rfl (bG (by repeat (first|exact Below.refl _ _|refine Below.setCell ?_ (by simp) _|refine Below.alloc ?_ (by simp) _)) HR.out)
         ·have HG:Hid _:=A0.out.go A1 hlt c1 c2 c3;go_wp2;exact⟨⟨m+1,by omega,by omega,by go_num,HG.out⟩,by simp[intOf];omega⟩
      ·have HR:Hid _:=(HQ.out.some (by omega) h4).trans (congrArg _ (A0.out.stop (by omega)));go_wp2;exact bodyPost_ret (v:=.tuple #[.agg #[.bool false,.string ⟨#[]⟩],.int .i64 (-1)]) (by simp[results,Tryz.results222,go_sem]) rfl (bG (by repeat (first|exact Below.refl _ _|refine Below.setCell ?_ (by simp) _|refine Below.alloc ?_ (by simp) _)) HR.out)
    ·(have A2:((s[a+2].toNat:Int) != 34)=true:=by simpa using h4);have HR:Hid _:=HQ.out.none (λ _=>h4);go_enter Tryz.func222,Tryz.ntmps222;go_wp2;exact bodyPost_ret (v:=.tuple #[.agg #[.bool false,.string ⟨#[]⟩],.int .i64 (-1)]) (by simp[results,Tryz.results222,go_sem]) rfl (bG (by repeat (first|exact Below.refl _ _|refine Below.setCell ?_ (by simp) _|refine Below.alloc ?_ (by simp) _)) HR.out)
   ·have HQ:Hid (Quo s a a false):=ka s a (λ _ h=>h3 h.2);(have A3:((s[a+1].toNat:Int)==47)=false:=by simpa using h3);have HR:Hid _:=HQ.out.none (λ _=>by omega);go_enter Tryz.func222,Tryz.ntmps222;go_wp2;exact bodyPost_ret (v:=.tuple #[.agg #[.bool false,.string ⟨#[]⟩],.int .i64 (-1)]) (by simp[results,Tryz.results222,go_sem]) rfl (bG (by repeat (first|exact Below.refl _ _|refine Below.setCell ?_ (by simp) _|refine Below.alloc ?_ (by simp) _)) HR.out)
  ·(have A4:((s[a].toNat:Int)==87)=false:=by simpa using h2);have HQ:Hid (Quo s a a false):=ka s a (λ _=>λ h=>h2 h.1);by_cases h5:a<s.size
   ·by_cases h4:(s[a].toNat:Int)=34
    ·go_enter Tryz.func222,Tryz.ntmps222;go_wp2;go_loop [8] (λ i=>∃ m:Nat,a+1<=m/\m<=s.size/\i=.int .i64 m/\Hid (Sc s (a+1) m)) (λ i=>s.size-(intOf i).toNat);(case atStart=>exact⟨a+1,Nat.le_refl _,by omega,by go_num,Sc.start s _⟩);case round =>
      obtain⟨m,A1,hm,rfl,A0⟩:=hrel;by_cases hlt:m<s.size
      ·by_cases c1:(s[m].toNat:Int)=34
       ·have HR:Hid _:=(HQ.out.some (by omega) h4).trans (congrArg _ (A0.out.quote hlt c1));go_wp2;exact bodyPost_ret (v:=.tuple #[.agg #[.bool false,.string (s.extract (a+1) m)],.int .i64 ((m:Int)+1)]) (by simp[results,Tryz.results222,go_sem]) rfl (kq (by repeat (first|exact Below.refl _ _|refine Below.setCell ?_ (by simp) _|refine Below.alloc ?_ (by simp) _)) (by omega) (by omega) hlt HR.out)
       ·by_cases c2:(s[m].toNat:Int)<33
        ·have HR:Hid _:=(HQ.out.some (by omega) h4).trans (congrArg _ (A0.out.bad hlt (Or.inl c2)));go_wp2;exact bodyPost_ret (v:=.tuple #[.agg #[.bool false,.string ⟨#[]⟩],.int .i64 (-1)]) (by simp[results,Tryz.results222,go_sem]) rfl (bG (by repeat (first|exact Below.refl _ _|refine Below.setCell ?_ (by simp) _|refine Below.alloc ?_ (by simp) _)) HR.out)
        ·by_cases c3:(s[m].toNat:Int)=127
         ·have HR:Hid _:=(HQ.out.some (by omega) h4).trans (congrArg _ (A0.out.bad hlt (Or.inr c3)));go_wp2;exact bodyPost_ret (v:=.tuple #[.agg #[.bool false,.string ⟨#[]⟩],.int .i64 (-1)]) (by simp[results,Tryz.results222,go_sem]) rfl (bG (by repeat (first|exact Below.refl _ _|refine Below.setCell ?_ (by simp) _|refine Below.alloc ?_ (by simp) _)) HR.out)
         ·have HG:Hid _:=A0.out.go A1 hlt c1 c2 c3;go_wp2;exact⟨⟨m+1,by omega,by omega,by go_num,HG.out⟩,by simp[intOf];omega⟩
      ·have HR:Hid _:=(HQ.out.some (by omega) h4).trans (congrArg _ (A0.out.stop (by omega)));go_wp2;exact bodyPost_ret (v:=.tuple #[.agg #[.bool false,.string ⟨#[]⟩],.int .i64 (-1)]) (by simp[results,Tryz.results222,go_sem]) rfl (bG (by repeat (first|exact Below.refl _ _|refine Below.setCell ?_ (by simp) _|refine Below.alloc ?_ (by simp) _)) HR.out)
    ·(have A2:((s[a].toNat:Int) != 34)=true:=by simpa using h4);have HR:Hid _:=HQ.out.none (λ _=>h4);go_enter Tryz.func222,Tryz.ntmps222;go_wp2;exact bodyPost_ret (v:=.tuple #[.agg #[.bool false,.string ⟨#[]⟩],.int .i64 (-1)]) (by simp[results,Tryz.results222,go_sem]) rfl (bG (by repeat (first|exact Below.refl _ _|refine Below.setCell ?_ (by simp) _|refine Below.alloc ?_ (by simp) _)) HR.out)
   ·exact absurd (show a<s.size by omega) h5
 ·have HQ:Hid (Quo s a a false):=ka s a (λ _=>absurd (by assumption) h1);by_cases h5:a<s.size
  ·by_cases h4:(s[a].toNat:Int)=34
   ·go_enter Tryz.func222,Tryz.ntmps222;go_wp2;go_loop [8] (λ i=>∃ m:Nat,a+1<=m/\m<=s.size/\i=.int .i64 m/\Hid (Sc s (a+1) m)) (λ i=>s.size-(intOf i).toNat);(case atStart=>exact⟨a+1,Nat.le_refl _,by omega,by go_num,Sc.start s _⟩);case round =>
     obtain⟨m,A1,hm,rfl,A0⟩:=hrel;by_cases hlt:m<s.size
     ·by_cases c1:(s[m].toNat:Int)=34
      ·have HR:Hid _:=(HQ.out.some (by omega) h4).trans (congrArg _ (A0.out.quote hlt c1));go_wp2;exact bodyPost_ret (v:=.tuple #[.agg #[.bool false,.string (s.extract (a+1) m)],.int .i64 ((m:Int)+1)]) (by simp[results,Tryz.results222,go_sem]) rfl (kq (by repeat (first|exact Below.refl _ _|refine Below.setCell ?_ (by simp) _|refine Below.alloc ?_ (by simp) _)) (by omega) (by omega) hlt HR.out)
      ·by_cases c2:(s[m].toNat:Int)<33
       ·have HR:Hid _:=(HQ.out.some (by omega) h4).trans (congrArg _ (A0.out.bad hlt (Or.inl c2)));go_wp2;exact bodyPost_ret (v:=.tuple #[.agg #[.bool false,.string ⟨#[]⟩],.int .i64 (-1)]) (by simp[results,Tryz.results222,go_sem]) rfl (bG (by repeat (first|exact Below.refl _ _|refine Below.setCell ?_ (by simp) _|refine Below.alloc ?_ (by simp) _)) HR.out)
       ·by_cases c3:(s[m].toNat:Int)=127
        ·have HR:Hid _:=(HQ.out.some (by omega) h4).trans (congrArg _ (A0.out.bad hlt (Or.inr c3)));go_wp2;exact bodyPost_ret (v:=.tuple #[.agg #[.bool false,.string ⟨#[]⟩],.int .i64 (-1)]) (by simp[results,Tryz.results222,go_sem]) rfl (bG (by repeat (first|exact Below.refl _ _|refine Below.setCell ?_ (by simp) _|refine Below.alloc ?_ (by simp) _)) HR.out)
        ·have HG:Hid _:=A0.out.go A1 hlt c1 c2 c3;go_wp2;exact⟨⟨m+1,by omega,by omega,by go_num,HG.out⟩,by simp[intOf];omega⟩
     ·have HR:Hid _:=(HQ.out.some (by omega) h4).trans (congrArg _ (A0.out.stop (by omega)));go_wp2;exact bodyPost_ret (v:=.tuple #[.agg #[.bool false,.string ⟨#[]⟩],.int .i64 (-1)]) (by simp[results,Tryz.results222,go_sem]) rfl (bG (by repeat (first|exact Below.refl _ _|refine Below.setCell ?_ (by simp) _|refine Below.alloc ?_ (by simp) _)) HR.out)
   ·(have A2:((s[a].toNat:Int) != 34)=true:=by simpa using h4);have HR:Hid _:=HQ.out.none (λ _=>h4);go_enter Tryz.func222,Tryz.ntmps222;go_wp2;exact bodyPost_ret (v:=.tuple #[.agg #[.bool false,.string ⟨#[]⟩],.int .i64 (-1)]) (by simp[results,Tryz.results222,go_sem]) rfl (bG (by repeat (first|exact Below.refl _ _|refine Below.setCell ?_ (by simp) _|refine Below.alloc ?_ (by simp) _)) HR.out)
  ·have HR:Hid _:=HQ.out.none (λ h=>absurd h h5);go_enter Tryz.func222,Tryz.ntmps222;go_wp2;exact bodyPost_ret (v:=.tuple #[.agg #[.bool false,.string ⟨#[]⟩],.int .i64 (-1)]) (by simp[results,Tryz.results222,go_sem]) rfl (bG (by repeat (first|exact Below.refl _ _|refine Below.setCell ?_ (by simp) _|refine Below.alloc ?_ (by simp) _)) HR.out)
def kR (l:List UInt8):Prop:=∀ x c,l=x++[c]->bY c=false
theorem rQ (l:List UInt8):kR (Lib.trimRightS l [32,9]):=by
 intro x c h;unfold Lib.trimRightS at h;have h2:l.reverse.dropWhile (λ c=>[32,9].contains c)=c::x.reverse:=by have:=congrArg List.reverse h;simpa using this
 have:=List.head?_dropWhile_not (p:=λ c:UInt8=>[32,9].contains c) l.reverse;rw[h2] at this;simpa [bY] using this
theorem sV {l:List UInt8}(h:kR l)(k:Nat):kR (l.drop k):=by
 intro x c e;apply h (l.take k++x) c;rw[List.append_assoc,<- e,List.take_append_drop]
theorem tO (l:List UInt8):kR (Lib.trimS l [32,9]):=by
 intro x c e;unfold Lib.trimS Lib.trimLeftS at e;obtain⟨y,hy⟩:=List.dropWhile_suffix (λ c:UInt8=>[32,9].contains c) (l:=Lib.trimRightS l [32,9]);apply rQ l (y++x) c;rw[List.append_assoc,<- e,hy]
theorem nW (p:UInt8->Bool):∀ l:List UInt8,l.dropWhile p=[]->∀ c∈l,p c=true
 | [],_,c,hc=>by cases hc
 | a::l,h,c,hc=>by
   rw[List.dropWhile_cons] at h
   split at h
   ·rename_i ha
    rcases List.mem_cons.1 hc with rfl|hm
    ·exact ha
    ·exact nW p l h c hm
   ·cases h
theorem rH {l:List UInt8}(h:kR l)(hn:l≠[]):bL l≠[]:=by
 intro e;have hb:bY (l.getLast hn)=false:=h l.dropLast _ (List.dropLast_concat_getLast hn).symm;have ha:∀ c∈l,[32,9].contains c=true:=by unfold bL Lib.trimLeftS at e;exact nW _ l e
 have:=ha _ (List.getLast_mem hn);unfold bY at hb;rw[this] at hb;cases hb
def Sk (s:ByteArray)(f m:Nat):Prop:=bL (s.data.toList.drop f)=bL (s.data.toList.drop m)
theorem Sk.go {s:ByteArray}{f m:Nat}(h:Sk s f m)(hm:m<s.size)(hc:(s[m].toNat:Int)=32\/(s[m].toNat:Int)=9):Sk s f (m+1):=by
 unfold Sk at h ⊢;rw[h,bw s m hm];exact ks [s[m]] _ (by simpa using (iC s[m]).2 hc)
theorem Sk.stop {s:ByteArray}{f m:Nat}(h:Sk s f m)(hc:∀ hm:m<s.size,¬ ((s[m].toNat:Int)=32\/(s[m].toNat:Int)=9)):bL (s.data.toList.drop f)=s.data.toList.drop m:=by
 unfold Sk at h;rw[h];by_cases hm:m<s.size
 ·rw[bw s m hm];exact jk _ _ (by rw[Bool.eq_false_iff,Ne,iC];exact hc hm)
 ·rw[List.drop_of_length_le (by rw[<- Lib.size_eq];omega)];rfl
theorem gC (s:ByteArray)(m:Nat):s.data.toList.drop m=[] ↔ s.size<=m:=by
 rw[List.drop_eq_nil_iff,<- Lib.size_eq]
theorem yR {s:ByteArray}{a n m k:Nat}{wk:Bool}{nm:List UInt8}(ht:kR s.data.toList)(hk:(s.data.toList.drop a).length<k)(hf:fe (s.data.toList.drop a)=some (wk,nm,s.data.toList.drop n))(hs:bL (s.data.toList.drop n)=s.data.toList.drop m)(hm:s.size<=m) :
 ct k (s.data.toList.drop a)=some [(wk,nm)]:=by
 have hn:s.data.toList.drop n=[]:=by apply Classical.byContradiction;intro hc;exact rH (sV ht n) hc (by rw[hs,gC];exact hm)
 rw[hn] at hf;exact ol hk hf
theorem zO {s:ByteArray}{a n m k:Nat}{wk:Bool}{nm:List UInt8}(hf:fe (s.data.toList.drop a)=some (wk,nm,s.data.toList.drop n))(hs:bL (s.data.toList.drop n)=s.data.toList.drop m)(hn:n<=m)(hm:m<s.size)(hc:¬ (s[m].toNat:Int)=44) :
 ct k (s.data.toList.drop a)=none:=by
 refine oq hf (by rw[Ne,gC];omega) ?_;rw[hs,bw s m hm];have:=jI (n:=44) (by decide) hc;cases h:Lib.hasPrefix (s[m]::s.data.toList.drop (m+1)) [44] with
 | false=>rfl
 | true =>simp[Lib.hasPrefix] at h;exact absurd h.symm this
theorem xc {s:ByteArray}{a n m p k:Nat}{wk:Bool}{nm:List UInt8}(hf:fe (s.data.toList.drop a)=some (wk,nm,s.data.toList.drop n))(hs:bL (s.data.toList.drop n)=s.data.toList.drop m)(hn:n<=m)(hm:m<s.size)(hc:(s[m].toNat:Int)=44)
 (hp:bL (s.data.toList.drop (m+1))=s.data.toList.drop p):ct (k+1) (s.data.toList.drop a)=(ct k (s.data.toList.drop p)).map ((wk,nm)::·):=by
 have e:s[m]=44:=iN (n:=44) (by decide) hc;rw[qR hf (by rw[Ne,gC];omega) (by rw[hs,bw s m hm,e];simp[Lib.hasPrefix]),hs,bw s m hm,e,show Lib.trimPrefix (44::s.data.toList.drop (m+1)) [44]=s.data.toList.drop (m+1) by simp[Lib.trimPrefix,Lib.hasPrefix],hp]
structure Ou (w x:World)(g:Nat)(v:Value)(acc:dz):Prop where
 b:Below w.heap.size w x
 r0:x.cell? ⟨w.heap.size,0,none⟩=some (.bool false)
 r1:x.cell? ⟨w.heap.size,1,none⟩=some (.slice none 0 0)
 rf0:x.frozen? ⟨w.heap.size,0,none⟩=false
 rf1:x.frozen? ⟨w.heap.size,1,none⟩=false
 o0:x.cell? ⟨g,0,none⟩=some (.bool false)
 o1:x.cell? ⟨g,1,none⟩=some v
 of1:x.frozen? ⟨g,1,none⟩=false
 own:x.ownsRow (g+1) 303 2 v acc.length (bW acc)
 gl:w.heap.size<g
 lt:g<x.heap.size
theorem Ou.below {w x y:World}{g:Nat}{v:Value}{acc:dz}(h:Ou w x g v acc)(hb:Below x.heap.size x y):Ou w y g v acc:=by
 have lt:=h.lt;have gl:=h.gl;have hw:w.heap.size<x.heap.size:=by omega
 exact⟨h.b.trans (hb.mono h.b.size),(hb.cell (p:=⟨_,0,none⟩) hw).trans h.r0,(hb.cell (p:=⟨_,1,none⟩) hw).trans h.r1,(hb.frozen (p:=⟨_,0,none⟩) hw).trans h.rf0,(hb.frozen (p:=⟨_,1,none⟩) hw).trans h.rf1,
  (hb.cell (p:=⟨g,0,none⟩) lt).trans h.o0,(hb.cell (p:=⟨g,1,none⟩) lt).trans h.o1,(hb.frozen (p:=⟨g,1,none⟩) lt).trans h.of1,fl h.own hb,gl,by have:=hb.size;omega⟩
theorem Ou.next {w x y:World}{g:Nat}{v v':Value}{acc:dz}{t:Bool×List UInt8}(h:Ou w x g v acc)(hb:Below (g+1) x y)(ho:y.ownsRow (g+1) 303 2 v' (acc.length+1) (bW acc++[.bool t.1,.string ⟨t.2.toArray⟩])) :
 Ou w (y.setCell ⟨g,1,none⟩ v') g v' (acc++[t]):=by
 have lt:=h.lt;have gl:=h.gl;have c1:=(hb.cell (p:=⟨g,1,none⟩) (Nat.lt_succ_self g)).trans h.o1;have ne:∀ (b o:Nat),(b=w.heap.size\/o=0)->(⟨g,1,none⟩:Addr)≠⟨b,o,none⟩:=by intro b o hh e;injection e;omega
 refine⟨(h.b.trans (hb.mono (by omega))).setCell (by show w.heap.size<=g;omega) _,?_,?_,?_,?_,?_,?_,?_,?_,gl,?_⟩
 ·rw[World.cell?_setCell_other _ _ _ _ (ne _ _ (Or.inl rfl))];exact (hb.cell (p:=⟨_,0,none⟩) (show w.heap.size<g+1 by omega)).trans h.r0
 ·rw[World.cell?_setCell_other _ _ _ _ (ne _ _ (Or.inl rfl))];exact (hb.cell (p:=⟨_,1,none⟩) (show w.heap.size<g+1 by omega)).trans h.r1
 ·rw[World.frozen?_setCell];exact (hb.frozen (p:=⟨_,0,none⟩) (show w.heap.size<g+1 by omega)).trans h.rf0
 ·rw[World.frozen?_setCell];exact (hb.frozen (p:=⟨_,1,none⟩) (show w.heap.size<g+1 by omega)).trans h.rf1
 ·rw[World.cell?_setCell_other _ _ _ _ (ne _ _ (Or.inr rfl))];exact (hb.cell (p:=⟨g,0,none⟩) (Nat.lt_succ_self g)).trans h.o0
 ·exact World.cell?_setCell_same _ _ _ c1
 ·rw[World.frozen?_setCell];exact (hb.frozen (p:=⟨g,1,none⟩) (Nat.lt_succ_self g)).trans h.of1
 ·rw[List.length_append,List.length_singleton,ia];exact aZ ho (by show g<g+1;omega)
 ·have:=World.block_lt_of_cell? _ _ c1;simpa [World.setCell] using this
def Bq (k:Int):List UInt8:=if k=0 then [] else if k=1 then [32] else if k=2 then [9] else [32,32]
def Au (weak gaps:Int)(T:Nat->ByteArray)(j:Nat):Bool×List UInt8×List UInt8 :=
 (pk (RowKit.wrap64 (weak+j)) 2==1,(T j).data.toList.filter tb,Bq (pk (RowKit.wrap64 (gaps+j)) 4))
def its (weak gaps:Int)(T:Nat->ByteArray):Nat->xz
 | 0=>[]
 | j+1=>its weak gaps T j++[Au weak gaps T j]
open Go.RowKit
def Bb (a:xz):List Value:=a.map λ x=>.string ⟨x.2.1.toArray⟩
structure Qs (w x:World)(want:Value)(a:xz):Prop where
 b:Below w.heap.size w x
 o:x.ownsRow w.heap.size 9 1 want a.length (Bb a)
theorem sU {w:World}{base base':Nat}{e:TypeId}{size:Nat}{v:Value}{n:Nat}{xs:List Value}(h:w.ownsRow base e size v n xs)(hb:base'<=base):w.ownsRow base' e size v n xs :=
 ⟨h.1,h.2.imp id λ ⟨g,cap,cur,hv,hg,r⟩=>⟨g,cap,cur,hv,Nat.le_trans hb hg,r⟩⟩
theorem toList_data (s:ByteArray):s.toList=s.data.toList:=by
 obtain⟨⟨l⟩⟩:=s;simp
def Rd (s:ByteArray)(a:Nat)(b:Bool)(acc:dz):Prop :=
 match b with
 | true=>∃ k,(s.data.toList.drop a).length<k/\ct (s.data.toList.length+1) s.data.toList=(ct k (s.data.toList.drop a)).map (acc++·)
 | false=>ct (s.data.toList.length+1) s.data.toList=some acc
theorem rk (s0:ByteArray)(s:ByteArray)(w:World)(hl:Lib.trimS s0.data.toList [32,9]=s.data.toList)(hs0:s0.size<=67108864)(hs:s.size<=67108864):Calls Tryz.prog 171 #[.string s0] w (mP s.data.toList w):=by
 obtain⟨ti,i1,i2,i3,i4⟩:=xn;have HI:Hid _:=i1;have Au:Hid _:=i2;have Aw:Hid _:=i3;have At:Hid _:=i4;have TI:Hid (kR s.data.toList):=by show kR _;rw[<- hl];exact tO _
 have As:(⟨(Lib.trimS s0.data.toList [32,9]).toArray⟩:ByteArray)=s:=by rw[hl]
 have Ao:Hid _:=As;clear i1 i2 i3 i4 As hl;go_enter Tryz.func171,Tryz.ntmps171;go_wp2_with fail;refine (on _ _ (by omega)).mono ?_;rintro e w1 ⟨rfl,rfl⟩;rw[Ao.out];clear Ao;by_cases hstar:s.data.toList=[42]
 ·(obtain rfl:s=⟨#[42]⟩:=by apply ByteArray.ext;apply Array.toList_inj.1;exact hstar);go_wp2;exact bodyPost_ret (v:=.tuple #[.agg #[.bool true,.slice none 0 0],.bool true]) (by simp[results,Tryz.results171,go_sem]) rfl ⟨(by repeat (first|exact Below.refl _ _|refine Below.setCell ?_ (by simp) _|refine Below.alloc ?_ (by simp) _)),Or.inl ⟨rfl,rfl⟩⟩
 ·(have Ax:(s.data.toList==[42])=false:=by simpa using hstar);(have Av:(s.toList==[42])=false:=by rw[toList_data];exact Ax);have A2:Hid _:=hstar;clear hstar;go_wp2;go_loopw [6,7] (λ at_ more wr=>∃ (a:Nat) (b:Bool) (A0:dz) (bo:Option Addr) (cp:Nat),a<=s.size/\A0.length<=a/\at_=.int .i64 a/\more=.bool b/\Ou w wr (w.heap.size+1) (.slice bo A0.length cp) A0/\Hid (Rd s a b A0))
   (λ at_ more _=>s.size-(intOf at_).toNat+(match more with|.bool true=>1|_=>0))
  case atStart =>
   refine⟨0,true,[],none,0,Nat.zero_le _,Nat.le_refl _,rfl,rfl,?_,⟨s.data.toList.length+1,by simp,?_⟩⟩
   ·exact⟨by repeat (first|exact Below.refl _ _|refine Below.alloc ?_ (by simp) _),by simp,by simp,by simp,by simp,by simp,by simp,by simp,⟨rfl,Or.inl ⟨rfl,rfl⟩⟩,by omega,by simp⟩
   ·exact (ii _).symm
  case round =>
   obtain⟨a,b,A0,bo,cp,ha,B0,rfl,rfl,ou,Ac⟩:=hrel;cases b with
   | false =>obtain⟨q1,q2,q3,q4,q5,q6,q7,q8,q9,Ar,Aq⟩:=ou;go_wp2;exact bodyPost_ret (v:=.tuple #[.agg #[.bool false,.slice bo A0.length cp],.bool true]) (by simp[results,Tryz.results171,go_sem,q2,q3]) rfl ⟨(q1.setCell (Nat.le_refl _) _).setCell (Nat.le_refl _) _,Or.inr ⟨A2.out,Or.inr ⟨A0,_,Ac.out,rfl,aZ (aZ (sU q9 (by omega)) (by simp)) (by simp)⟩⟩⟩
   | true =>
     go_wp2_with fail;refine (zm s a _ ha hs).mono ?_;rintro e w2 ⟨An,⟨wk,nm,n,hn,B1,hf,rfl⟩|⟨hf,rfl⟩⟩
     ·have A4:=ou.below An;have Ai:Below w2.heap.size w2 ((w2.alloc (.cells #[.bool wk,.string ⟨nm.toArray⟩] 303)).alloc (.cells #[.bool wk,.string ⟨nm.toArray⟩] 303)):=((Below.refl _ _).alloc (Nat.le_refl _) _).alloc (by simp) _;have HO:Hid _:=fl A4.own Ai;(have A6:∀ j u,([.bool wk,.string ⟨nm.toArray⟩]:List Value)[j]?=some u->((w2.alloc (.cells #[.bool wk,.string ⟨nm.toArray⟩] 303)).alloc (.cells #[.bool wk,.string ⟨nm.toArray⟩] 303)).cell? ((⟨w2.heap.size+1,0,none⟩:Addr).add j)=some u:=by have:=cell_two_new (w2.alloc (.cells #[.bool wk,.string ⟨nm.toArray⟩] 303)) (.bool wk) (.string ⟨nm.toArray⟩) 303;simpa using this);have HN:Hid _:=A6;have HF:Hid _:=hf;have A5:=A4.lt;have k0:=A4.o0;have k1:=A4.o1;clear A6 hf ou An;go_wp2_with (first|(at_builtin;refine wpList_append_own _ rfl (.tmp 26) (.tmp 28) 89 rfl (w.heap.size+1+1) 303 ti (.agg #[.bool false,.string ⟨#[]⟩]) 2 24 Tryz.underlying89 HI.out At.out Au.out Aw.out rfl (by omega) (.slice bo A0.length cp) A0.length (bW A0) rfl HO.out ⟨w2.heap.size+1,0,none⟩ 1 1 [.bool wk,.string ⟨nm.toArray⟩] rfl rfl HN.out (by intro u hu;simp at hu;rcases hu with rfl|rfl<;>rfl) (by unfold maxLen;omega) (by omega) (by simp;omega) ?_;intro v' w3 A1 Ap _;obtain⟨gg,Ad,Ak⟩:=mN A1;rw[Ak] at A1;rw[Ak];clear Ak;have hB:Below (w.heap.size+1+1) w2 w3:=(Ai.mono (by omega)).grown Ap (by simp;omega) (js A4.own);have k2:=(hB.cell (p:=⟨w.heap.size+1,1,none⟩) (Nat.lt_succ_self _)).trans A4.o1;have k3:=(hB.frozen (p:=⟨w.heap.size+1,1,none⟩) (Nat.lt_succ_self _)).trans A4.of1));obtain⟨w4,Aj⟩:∃ w4,w4=w3.setCell ⟨w.heap.size+1,1,none⟩ (.slice (some ⟨gg,0,none⟩) (A0.length+1) Ad):=⟨_,rfl⟩;(have Aa:Ou w w4 (w.heap.size+1) (.slice (some ⟨gg,0,none⟩) (A0.length+1) Ad) (A0++[(wk,nm)]):=by rw[Aj];exact A4.next hB A1);rw[<- Aj];clear Aj A4 hB A1 Ap k0 k1 k2 k3 Ai HO HN A5;(have Al:A0.length+1=(A0++[(wk,nm)]).length:=by simp);rw[Al] at Aa ⊢;obtain⟨ac,Af⟩:∃ ac,A0++[(wk,nm)]=ac:=⟨_,rfl⟩;(have Ay:ac.length<=n:=by rw[<- Af,<- Al];omega);have Ag:Hid _:=Ac.out;rw[Af] at Aa ⊢;clear Al Ac;go_loop [6] (λ i=>∃ m:Nat,n<=m/\m<=s.size/\i=.int .i64 m/\Hid (Sk s n m)) (λ i=>s.size-(intOf i).toNat);(case atStart=>exact⟨n,Nat.le_refl _,hn,rfl,rfl⟩);case round =>
       obtain⟨m,Am,hm,rfl,Ah⟩:=hrel;by_cases A8:m<s.size
       ·by_cases Ae:(s[m].toNat:Int)=32\/(s[m].toNat:Int)=9
        ·have HG:Hid _:=Ah.out.go A8 Ae;rcases Ae with Ae|Ae
         ·go_wp2;all_goals exact⟨⟨m+1,by omega,by omega,by go_num,HG.out⟩,by simp[intOf];omega⟩
         ·go_wp2;all_goals exact⟨⟨m+1,by omega,by omega,by go_num,HG.out⟩,by simp[intOf];omega⟩
        ·have Ab:Hid _:=Ah.out.stop (λ _=>Ae);(have B2:((s[m].toNat:Int)==32)=false:=by simp;omega);(have n9:((s[m].toNat:Int)==9)=false:=by simp;omega);by_cases h44:(s[m].toNat:Int)=44
         ·go_wp2;go_loop [6] (λ i=>∃ p:Nat,m+1<=p/\p<=s.size/\i=.int .i64 p/\Hid (Sk s (m+1) p)) (λ i=>s.size-(intOf i).toNat);(case atStart=>exact⟨m+1,Nat.le_refl _,by omega,by go_num,rfl⟩);case round =>
           obtain⟨p,Az,hp,rfl,A9⟩:=hrel;by_cases A5:p<s.size
           ·by_cases A3:(s[p].toNat:Int)=32\/(s[p].toNat:Int)=9
            ·have HG:Hid _:=A9.out.go A5 A3;rcases A3 with A3|A3
             ·go_wp2;all_goals exact⟨⟨p+1,by omega,by omega,by go_num,HG.out⟩,by simp[intOf];omega⟩
             ·go_wp2;all_goals exact⟨⟨p+1,by omega,by omega,by go_num,HG.out⟩,by simp[intOf];omega⟩
            ·have A7:Hid _:=A9.out.stop (λ _=>A3);(have B4:((s[p].toNat:Int)==32)=false:=by simp;omega);(have m9:((s[p].toNat:Int)==9)=false:=by simp;omega);go_wp2;refine⟨⟨p,true,ac,_,Ad,by omega,by omega,rfl,?_,Aa,?_⟩,?_⟩
             ·(first|rfl|simp);try omega
             ·obtain⟨k,hk,h⟩:=Ag.out;obtain⟨k',rfl⟩:∃ k',k=k'+1:=⟨k-1,by omega⟩;refine⟨k',?_,?_⟩
              ·have z:=Lib.size_eq s;simp only[List.length_drop] at hk ⊢;omega
              ·rw[h,xc HF.out Ab.out Am A8 h44 A7.out,<- Af];cases ct k' (s.data.toList.drop p)<;>simp
             ·simp[intOf];omega
           ·have A7:Hid _:=A9.out.stop (λ h=>absurd h A5);go_wp2;refine⟨⟨p,true,ac,_,Ad,by omega,by omega,rfl,?_,Aa,?_⟩,?_⟩
            ·(first|rfl|simp);try omega
            ·obtain⟨k,hk,h⟩:=Ag.out;obtain⟨k',rfl⟩:∃ k',k=k'+1:=⟨k-1,by omega⟩;refine⟨k',?_,?_⟩
             ·have z:=Lib.size_eq s;simp only[List.length_drop] at hk ⊢;omega
             ·rw[h,xc HF.out Ab.out Am A8 h44 A7.out,<- Af];cases ct k' (s.data.toList.drop p)<;>simp
            ·simp[intOf];omega
         ·(have B3:((s[m].toNat:Int) != 44)=true:=by simpa using h44);(have HR:Hid (ct (s.data.toList.length+1) s.data.toList=none):=by obtain⟨k,hk,h⟩:=Ag.out;show _=_;rw[h,zO HF.out Ab.out Am A8 h44];rfl);obtain⟨q1,q2,q3,q4,q5,q6,q7,q8,q9,Ar,Aq⟩:=Aa;go_wp2;exact bodyPost_ret (v:=.tuple #[.agg #[.bool false,.slice none 0 0],.bool false]) (by simp[results,Tryz.results171,go_sem,q2,q3]) rfl ⟨(q1.setCell (Nat.le_refl _) _).setCell (Nat.le_refl _) _,Or.inr ⟨A2.out,Or.inl ⟨HR.out,rfl⟩⟩⟩
       ·have Ab:Hid _:=Ah.out.stop (λ h=>absurd h A8);go_wp2;refine⟨⟨m,false,ac,_,Ad,by omega,by omega,by go_num,?_,Aa,?_⟩,?_⟩
        ·(first|rfl|simp);try omega
        ·show ct _ _=_;obtain⟨k,hk,h⟩:=Ag.out;rw[h,yR TI.out hk HF.out Ab.out (by omega),<- Af];rfl
        ·simp[intOf];omega
     ·obtain⟨q1,q2,q3,q4,q5,q6,q7,q8,q9,Ar,Aq⟩:=ou.below An;(have HR:Hid (ct (s.data.toList.length+1) s.data.toList=none):=by obtain⟨k,hk,h⟩:=Ac.out;show _=_;rw[h,mz hf];rfl);clear hf Ac;(have A8:w.heap.size<w2.heap.size:=by omega);go_wp2;refine bodyPost_ret (v:=.tuple #[.agg #[.bool false,.slice none 0 0],.bool false]) (by simp[results,Tryz.results171,go_sem,q2,q3,A8]) rfl ⟨?_,Or.inr ⟨A2.out,Or.inl ⟨HR.out,rfl⟩⟩⟩;first|exact ((q1.setCell (Nat.le_refl _) _).setCell (Nat.le_refl _) _).alloc (by simp[World.setCell];omega) _|exact ((q1.alloc (by omega) _).setCell (Nat.le_refl _) _).setCell (Nat.le_refl _) _
end Go.Proofs.YtmehkneofinmiaaGreatDoor

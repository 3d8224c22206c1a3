/-part 34-/
import Derived.Test.YtmehkneofinmiaaGreatDoorP33
set_option maxRecDepth 100000
set_option maxHeartbeats 2000000
namespace Go.Proofs.YtmehkneofinmiaaGreatDoor
def bN (key:List UInt8)(l:List Itm):List Itm:=l.filter λ v=>v.key==key&&!v.gone
def cJ (it:Itm):Ver:=⟨it.num,it.time,it.mark,it.body⟩
structure lu (σ:St)(s:Rst):Prop where
 log:s.J=σ.log
 last:∀ key,aH key s.l=(aa σ.ents key).last
 vers:∀ key,(bN key s.l).map cJ=(aa σ.ents key).vers
 known:iA s.l=σ.ents.length
 rise:∀ key,(bN key s.l).Pairwise λ a b=>a.num<b.num
theorem lu.many {σ:St}{s:Rst}(h:lu σ s)(key:List UInt8):uJ key s.l=(aa σ.ents key).vers.length:=by
 rw[<- h.vers key,List.length_map];unfold uJ bN;rw[List.countP_eq_length_filter]
theorem jB (p:Itm->Bool):∀ l:List Itm,(l.findIdx? p).bind (λ i=>l[i]?)=l.find? p
 | []=>rfl
 | a::l=>by
   rw[List.findIdx?_cons,List.find?_cons]
   cases h:p a with
   | true=>simp
   | false =>
     have:=jB p l
     simp only[Bool.false_eq_true,if_false]
     rw[<- this]
     cases l.findIdx? p<;>rfl
theorem oo (key:List UInt8)(n:Nat)(l:List Itm):(bH key (n:Int) l).bind (λ i=>l[i]?)=(bN key l).find? (λ v=>v.num==n):=by
 unfold bH bN;rw[jB,List.find?_filter];congr 1;funext v;have e:((v.num:Int)==(n:Int))=(v.num==n):=by rw[Bool.eq_iff_iff];simp only[beq_iff_eq];omega
 rw[e];cases v.key==key<;>cases v.gone<;>cases v.num==n<;>rfl
theorem yj (l:List Itm)(n:Nat):(l.find? λ v=>v.num==n).map cJ=(l.map cJ).find? (λ v=>v.num==n):=by
 rw[List.find?_map];rfl
theorem lu.numbered {σ:St}{s:Rst}(h:lu σ s)(key:List UInt8)(n:Nat):((bH key (n:Int) s.l).bind (λ i=>s.l[i]?)).map cJ=(aa σ.ents key).vers.find? (λ v=>v.num==n):=by
 rw[oo,yj,h.vers key]
theorem qL (key:List UInt8)(l:List Itm):∀ n,l.foldl (jH key) n=(bN key l).foldl (λ n v=>if n<v.num then v.num else n) n:=by
 induction l with
 | nil=>exact λ n=>rfl
 | cons a l ih =>
   intro n;rw[List.foldl_cons,ih];unfold bN jH;by_cases hk:a.key=key
   ·cases hg:a.gone with
    | true=>simp[hk,hg]
    | false =>
      by_cases hn:n<a.num
      ·simp[hk,hg,hn]
      ·simp[hk,hg,hn]
   ·simp[hk]
theorem nQ:∀ (l:List Itm) (n:Nat),(l.Pairwise λ a b=>a.num<b.num)->(∀ v∈l,n<v.num)->l.foldl (λ n v=>if n<v.num then v.num else n) n=(match l.getLast? with|none=>n|some v=>v.num)
 | [],n,_,_=>rfl
 | a::l,n,hp,hv=>by
   have ⟨h1,h2⟩:=List.pairwise_cons.1 hp
   rw[List.foldl_cons,if_pos (hv a List.mem_cons_self),nQ l a.num h2 h1]
   cases l with
   | nil=>rfl
   | cons b l =>
     rw[List.getLast?_cons_cons]
     cases hx:(b::l).getLast? with
     | none=>simp at hx
     | some v=>rfl
theorem lu.newest {σ:St}{s:Rst}(h:lu σ s)(key:List UInt8)(hp:∀ v∈bN key s.l,0<v.num):cR key s.l=(match (bN key s.l).getLast? with|none=>0|some v=>v.num):=by
 unfold cR;rw[qL,nQ _ 0 (h.rise key) hp]
theorem nX:∀ (l:List Itm) (v:Itm),(l.Pairwise λ a b=>a.num<b.num)->l.getLast?=some v->l.find? (λ x=>x.num==v.num)=some v
 | [],_,_,h=>by cases h
 | [a],v,_,h=>by
   have:a=v:=by simpa using h
   subst this
   simp
 | a::b::l,v,hp,h=>by
   have ⟨h1,h2⟩:=List.pairwise_cons.1 hp
   rw[List.getLast?_cons_cons] at h
   have hm:v∈b::l:=List.mem_of_getLast? h
   have hlt:=h1 v hm
   rw[List.find?_cons]
   have:(a.num==v.num)=false:=by rw[beq_eq_false_iff_ne];omega
   rw[this]
   exact nX (b::l) v h2 h
theorem lu.current {σ:St}{s:Rst}(h:lu σ s)(key:List UInt8)(hp:∀ v∈bN key s.l,0<v.num):((bg key s.l).bind (λ i=>s.l[i]?)).map cJ=aU (aa σ.ents key):=by
 have hv:=h.vers key;have hn:=h.newest key hp;have hf:=oo key (cR key s.l) s.l;unfold aU;rw[<- hv,List.getLast?_map];cases hx:(bN key s.l).getLast? with
 | none =>
   rw[hx] at hn;have A0:bN key s.l=[]:=List.getLast?_eq_none_iff.1 hx;rw[A0] at hf;unfold bg;cases hff:bH key (cR key s.l) s.l with
   | none=>rfl
   | some i =>rw[hff] at hf;have:s.l[i]?=none:=hf;simp only[this];rfl
 | some v =>
   rw[hx] at hn;have A1:cR key s.l=v.num:=hn;rw[A1,nX _ v (h.rise key) hx] at hf;unfold bg;rw[A1];cases hff:bH key (v.num:Int) s.l with
   | none=>rw[hff] at hf;cases hf
   | some i =>
     rw[hff] at hf;have hi:s.l[i]?=some v:=hf;simp only[hi];cases hm:v.mark with
     | true=>simp[cJ,hm]
     | false=>simp[cJ,hm,hi]
theorem vP (v:Ver):cg v≠[]:=by
 unfold cg;simp
theorem vS {σ:St}{s:Rst}(h:lu σ s)(key:List UInt8)(n:Nat):ro s.l key n=match (aa σ.ents key).vers.find? (λ v=>v.num==n) with|none=>[]|some v=>cg v:=by
 have hn:=h.numbered key n;unfold ro;cases hf:bH key (n:Int) s.l with
 | none =>rw[hf] at hn;rw[<- hn];rfl
 | some i =>rw[hf] at hn;obtain⟨it,hit⟩:∃ v,s.l[i]?=some v:=⟨_,List.getElem?_eq_getElem (dZ hf)⟩;simp only[Option.bind_some,hit,Option.map_some] at hn ⊢;rw[<- hn];have hq:=List.find?_some hn.symm;(have A0:it.num=n:=by simpa [cJ] using hq);simp only;unfold tX cg cJ;rw[A0]
theorem gV:∀ (l:List Ver) (n:Nat),(l.Pairwise λ a b=>a.num<b.num)->l.filter (λ v=>decide (v.num<=n+1))=l.filter (λ v=>decide (v.num<=n))++(l.find? (λ v=>v.num==n+1)).toList
 | [],_,_=>rfl
 | a::l,n,h=>by
   have ⟨h1,h2⟩:=List.pairwise_cons.1 h
   have far:∀ k,k<=a.num->l.filter (λ v=>decide (v.num<=k))=[]:=λ k hk=>by
    rw[List.filter_eq_nil_iff]
    intro v hv
    have:=h1 v hv
    simp
    omega
   rw[List.filter_cons,List.filter_cons,List.find?_cons]
   by_cases e1:a.num<=n
   ·rw[if_pos (by simp;omega),if_pos (by simpa using e1),show (a.num==n+1)=false by simp;omega,gV l n h2]
    rfl
   ·by_cases e2:a.num=n+1
    ·rw[if_pos (by simp;omega),if_neg (by simpa using e1),show (a.num==n+1)=true by simpa using e2,far (n+1) (by omega),far n (by omega)]
     rfl
    ·rw[if_neg (by simp;omega),if_neg (by simpa using e1),show (a.num==n+1)=false by simpa using e2,far (n+1) (by omega),far n (by omega)]
     have:l.find? (λ v=>v.num==n+1)=none:=by
      rw[List.find?_eq_none];intro v hv;have:=h1 v hv;simp;omega
     rw[this];rfl
theorem mF {σ:St}{s:Rst}(h:lu σ s)(key:List UInt8)(hr:(aa σ.ents key).vers.Pairwise λ a b=>a.num<b.num)(hp:∀ v∈(aa σ.ents key).vers,0<v.num):∀ n,gI s.l key n=(((aa σ.ents key).vers.filter λ v=>decide (v.num<=n)).reverse).flatMap cg
 | 0=>by
   have:(aa σ.ents key).vers.filter (λ v=>decide (v.num<=0))=[]:=by
    rw[List.filter_eq_nil_iff];intro v hv;have:=hp v hv;simp;omega
   rw[this];rfl
 | n+1=>by
   rw[gI,vS h,mF h key hr hp n,gV _ n hr];cases (aa σ.ents key).vers.find? (λ v=>v.num==n+1) with
   | none=>simp
   | some v=>simp
theorem vY {σ:St}{s:Rst}(h:lu σ s)(key:List UInt8)(hr:(aa σ.ents key).vers.Pairwise λ a b=>a.num<b.num)(hp:∀ v∈(aa σ.ents key).vers,0<v.num)(hl:∀ v∈(aa σ.ents key).vers,v.num<=(aa σ.ents key).last) :
 kP s.l key=if (aa σ.ents key).vers=[] then ap 404 [] [] else ap 200 [] ((aa σ.ents key).vers.reverse.flatMap cg):=by
 have e:(aa σ.ents key).vers.filter (λ v=>decide (v.num<=aH key s.l))=(aa σ.ents key).vers:=by rw[List.filter_eq_self];intro v hv;rw[h.last key];simpa using hl v hv
 unfold kP;rw[mF h key hr hp,e];by_cases h0:(aa σ.ents key).vers=[]
 ·rw[if_pos h0,h0];rfl
 ·rw[if_neg h0,if_neg];intro hh;rw[List.flatMap_eq_nil_iff] at hh;cases hv:(aa σ.ents key).vers with
  | nil=>exact h0 hv
  | cons a l=>exact vP a (hh a (by rw[hv];simp))
open Go.RowKit
def mK (m tg:Nat):Bool:=m==1||(if m=3 then tg==2 else (tg==2||tg==4))
theorem pV (g:Nat)(RC:Array Value)(m tg:Nat)(w:World)(h:w.heap[g]?=some (.cells RC 130 (0,0)))(h1:RC[1]?=some (.int .i64 (m:Int)))(h2:RC[2]?=some (.int .i64 (tg:Int))) :
 Calls Tryz.prog 108 #[.pointer (some ⟨g,0,none⟩)] w λ e w'=>e=.returned (.bool (mK m tg))/\w'=w:=by
 have c1:w.cell? ⟨g,1,none⟩=some (.int .i64 (m:Int)):=by simp only[World.cell?,h];exact h1
 have c2:w.cell? ⟨g,2,none⟩=some (.int .i64 (tg:Int)):=by simp only[World.cell?,h];exact h2
 have hg:=(gL h);clear h h1 h2;obtain⟨V,hV⟩:∃ V,mK m tg=V:=⟨_,rfl⟩;have HV:Hid _:=hV;rw[hV];clear hV;by_cases m1:m=1
 ·(have A1:(m:Int)=1:=by omega);(have HX:Hid (V=true):=by rw[<- HV.out,m1];rfl);go_enter Tryz.func108,Tryz.ntmps108;go_wp2;(all_goals go_ret);all_goals exact⟨aw HX.out.symm,rfl⟩
 ·(have A1:¬ (m:Int)=1:=by omega);by_cases m3:m=3
  ·(have A0:(m:Int)=3:=by omega);(have HX:Hid (V=(tg==2)):=by show _=_;rw[<- HV.out];simp[mK,m3]);go_enter Tryz.func108,Tryz.ntmps108;go_wp2;(all_goals go_ret);(all_goals refine⟨aw ?_,rfl⟩);(all_goals (rw[HX.out,Bool.eq_iff_iff];simp_all));all_goals omega
  ·(have A0:¬ (m:Int)=3:=by omega);(have HX:Hid (V=(tg==2||tg==4)):=by show _=_;rw[<- HV.out];simp[mK,m1,m3]);go_enter Tryz.func108,Tryz.ntmps108;go_wp2;(all_goals go_ret);(all_goals refine⟨aw ?_,rfl⟩);(all_goals (rw[HX.out,Bool.eq_iff_iff];simp_all));all_goals omega
theorem vQ (x:Int)(w:World)(hx:x<1\/8<x) :
 Calls Tryz.prog 29 #[.int .i64 x] w λ e w'=>e=.returned (.tuple #[.pointer none,.int .i64 1])/\w'=w:=by
 by_cases h1:x<1
 ·clear hx;go_enter Tryz.func29,Tryz.ntmps29;go_wp2;all_goals exact bodyPost_ret (results_tmp2 Tryz.results29 _ _ _) rfl ⟨rfl,rfl⟩
 ·have h8:8<x:=hx.resolve_left h1;clear hx;go_enter Tryz.func29,Tryz.ntmps29;go_wp2;all_goals exact bodyPost_ret (results_tmp2 Tryz.results29 _ _ _) rfl ⟨rfl,rfl⟩
theorem mE (x:Int)(w:World)(h1:1<=x)(h8:x<=8) :
 Calls Tryz.prog 29 #[.int .i64 x] w λ e w'=>∃ p,e=.returned (.tuple #[.pointer (some ⟨p,0,none⟩),.int .i64 0])/\aC w' p 0 [] [] (.slice none 0 0)/\w.heap.size<=p/\Below w.heap.size w w':=by
 have a1:¬ x<1:=by omega
 have a8:¬ 8<x:=by omega
 go_enter Tryz.func29,Tryz.ntmps29;go_wp2;exact bodyPost_ret (results_tmp2 Tryz.results29 _ _ _) rfl ⟨w.heap.size,rfl,⟨heap_alloc_new w _,⟨rfl,Or.inl ⟨rfl,rfl⟩⟩,by simp⟩,Nat.le_refl _,(Below.refl _ _).alloc (Nat.le_refl _) _⟩
theorem jF (c:Int)(w:World):Calls Tryz.prog 162 #[.int .u8 c] w λ e w'=>e=.returned (.bool (nw c))/\w'=w:=by
 go_enter Tryz.func162,Tryz.ntmps162;go_wp2;all_goals go_ret
 all_goals refine⟨aw ?_,rfl⟩
 all_goals (rw[Bool.eq_iff_iff];simp_all [nw,eQ,fP])
 all_goals omega
theorem jp (s:ByteArray)(w:World)(hs:s.size<=9223372036854775807) :
 Calls Tryz.prog 102 #[.string s] w λ e w'=>e=.returned (.bool (aA s.data.toList))/\w'=w:=by
 have HZ:Hid (s.size=s.data.toList.length):=Lib.size_eq s;go_enter Tryz.func102,Tryz.ntmps102;go_wp2;go_loop [3] (λ i=>∃ k:Nat,k<=s.size/\i=.int .i64 k/\Hid ((s.data.toList.take k).all jq=true)) (λ i=>s.size-(intOf i).toNat);case atStart=>exact⟨0,Nat.zero_le _,rfl,rfl⟩
 case round =>
  obtain⟨k,hk,rfl,ha⟩:=hrel;by_cases hlt:k<s.size
  ·(have HA:Hid ((s.data.toList.take (k+1)).all jq=jq s[k]):=by have:=ha.out;show _=_;rw[aV s k hlt,List.all_append,this];simp);cases hb:jq s[k] with
   | false =>(have HN:Hid (aA s.data.toList=false):=by show _=_;unfold aA;(have:s.data.toList.all jq=false:=by rw[List.all_eq_false];exact⟨s[k],List.getElem_mem (l:=s.data.toList) (by simpa using hlt),by simp[hb]⟩);rw[this,Bool.and_false,Bool.and_false]);have A0:nw (s[k].toNat:Int)=false:=hb;clear hb;go_wp2_with (go_at_call 162;refine (jF _ _).mono ?_;rintro e w' ⟨rfl,rfl⟩;rw[A0]);go_ret;exact⟨aw HN.out.symm,rfl⟩
   | true =>have A0:nw (s[k].toNat:Int)=true:=hb;have A1:Hid ((s.data.toList.take (k+1)).all jq=true):=HA.out.trans hb;clear hb HA;go_wp2_with (go_at_call 162;refine (jF _ _).mono ?_;rintro e w' ⟨rfl,rfl⟩;rw[A0]);exact⟨⟨k+1,by omega,by go_num,A1⟩,by simp[intOf];omega⟩
  ·have HF:Hid (aA s.data.toList=(decide (1<=(s.size:Int))&&decide ((s.size:Int)<=40))):=by
    have h1:=ha.out;rw[List.take_of_length_le (by rw[<- HZ.out];omega)] at h1;show _=_;unfold aA;rw[h1,Bool.and_true,<- HZ.out];(have h2:s.data.toList.isEmpty=decide (s.size=0):=by rw[HZ.out];cases s.data.toList<;>simp);rw[h2];by_cases h0:s.size=0
    ·simp[h0]
    ·have:decide (1<=(s.size:Int))=true:=decide_eq_true (by omega);rw[this,decide_eq_false h0];simp only[Bool.not_false,Bool.true_and];exact decide_eq_decide.mpr (by omega)
   go_wp2;(all_goals go_ret);(all_goals refine⟨aw ?_,rfl⟩);(all_goals (rw[HF.out];simp_all));all_goals omega
theorem fI (s t:List UInt8)(w:World)(_hs:s.length<=1000000)(_ht:t.length<=1000000) :
 Calls Tryz.prog 167 #[.string ⟨s.toArray⟩,.string ⟨t.toArray⟩] w λ e w'=>e=.returned (.bool (s.take t.length==t))/\w'=w:=by
 have h1:=sz s;have h2:=sz t;by_cases hl:t.length<=s.length
 ·go_enter Tryz.func167,Tryz.ntmps167;go_wp2;(all_goals go_ret);(all_goals refine⟨aw ?_,rfl⟩);rw[ByteArray.toList_eq,Lib.extract_data];simp
 ·(have HE:Hid ((s.take t.length==t)=false):=by show _=_;rw[beq_eq_false_iff_ne];intro e;have:=congrArg List.length e;simp at this;omega);go_enter Tryz.func167,Tryz.ntmps167;go_wp2;(all_goals go_ret);(all_goals rw[HE.out]);all_goals exact⟨aw rfl,rfl⟩
def bh:List UInt8->Option (List UInt8×List UInt8)
 | []=>none
 | c::l=>if aK c then (if c=13/\l.head?=some 10 then some ([],l.tail) else none) else (bh l).map λ x=>(c::x.1,x.2)
theorem rC (a l:List UInt8)(h:∀ c∈a,aK c=false):bh (a++l)=(bh l).map λ x=>(a++x.1,x.2):=by
 induction a with
 | nil =>rw[List.nil_append];cases bh l<;>rfl
 | cons c a ih =>rw[List.cons_append,bh,h c List.mem_cons_self,ih (λ c hc=>h c (List.mem_cons_of_mem _ hc))];cases bh l<;>rfl
theorem BM {c:UInt8}(h:¬ c=13):¬ (c.toNat:Int)=13:=λ e=>h (UInt8.toNat_inj.1 (by show c.toNat=13;omega))
theorem Bj {c:UInt8}(h:¬ c=10):¬ (c.toNat:Int)=10:=λ e=>h (UInt8.toNat_inj.1 (by show c.toNat=10;omega))
def iT (s:List UInt8)(n:Nat):Value:=match bh (s.drop n) with
 | none=>.tuple #[.string ⟨#[]⟩,.int .i64 (-1)]
 | some x=>.tuple #[.string ⟨x.1.toArray⟩,.int .i64 ((s.length-x.2.length:Nat):Int)]
theorem kS (s:ByteArray)(n:Nat)(w:World)(hs:s.size<4611686018427387904)(hn:n<=s.size) :
 Calls Tryz.prog 105 #[.string s,.int .i64 n] w λ e w'=>e=.returned (iT s.data.toList n)/\w'=w:=by
 obtain⟨V,hV⟩:∃ V,iT s.data.toList n=V:=⟨_,rfl⟩;have HV:Hid _:=hV;have HZ:Hid (s.data.toList.length=s.size):=Array.length_toList;rw[hV];clear hV;go_enter Tryz.func105,Tryz.ntmps105;go_wp2;go_loop [6] (λ iv=>∃ i:Nat,n<=i/\i<=s.size/\iv=.int .i64 i/\Hid (∀ c∈(s.data.toList.drop n).take (i-n),aK c=false)) (λ iv=>s.size-(intOf iv).toNat);case atStart=>exact⟨n,Nat.le_refl _,hn,rfl,λ c hc=>by rw[Nat.sub_self,List.take_zero] at hc;cases hc⟩
 case round =>
  obtain⟨i,Af,Ag,rfl,ha⟩:=hrel;(have A1:Hid (bh (s.data.toList.drop n)=(bh (s.data.toList.drop i)).map λ x=>((s.data.toList.drop n).take (i-n)++x.1,x.2)):=by (have e:s.data.toList.drop n=(s.data.toList.drop n).take (i-n)++s.data.toList.drop i:=by have:=(List.take_append_drop (i-n) (s.data.toList.drop n)).symm;rw[List.drop_drop,show n+(i-n)=i by omega] at this;exact this);show _=_;have h2:=rC ((s.data.toList.drop n).take (i-n)) (s.data.toList.drop i) ha.out;rw[<- e] at h2;exact h2);by_cases hlt:i<s.size
  ·(have A6:(i:Int)<(s.size:Int):=by omega);(have HD:Hid (s.data.toList.drop i=s[i]::s.data.toList.drop (i+1)):=by show _=_;rw[List.drop_eq_getElem_cons (by rw[HZ.out];exact hlt)];rfl);have Ae:=s[i].toNat_lt;by_cases h13:s[i]=13
   ·(have A7:(s[i].toNat:Int)=13:=by rw[h13];rfl);by_cases hnx:i+1<s.size
    ·(have Aa:(i:Int)+1<(s.size:Int):=by omega);(have A5:Hid (s.data.toList.drop (i+1)=s[i+1]::s.data.toList.drop (i+2)):=by show _=_;rw[List.drop_eq_getElem_cons (by rw[HZ.out];exact hnx)];rfl);by_cases h10:s[i+1]=10
     ·(have A0:Hid (V=.tuple #[.string ⟨((s.data.toList.drop n).take (i-n)).toArray⟩,.int .i64 ((i+2:Nat):Int)]):=by show _=_;(have hl:bh (s.data.toList.drop i)=some ([],s.data.toList.drop (i+2)):=by rw[HD.out,A5.out,h13,h10];rfl);rw[<- HV.out];unfold iT;rw[A1.out,hl];simp only[Option.map_some,List.append_nil,List.length_drop,HZ.out];rw[show s.size-(s.size-(i+2))=i+2 by omega]);(have A4:s.extract n i=⟨((s.data.toList.drop n).take (i-n)).toArray⟩:=by apply ByteArray.ext;apply Array.toList_inj.1;rw[Lib.extract_data]);have A9:Hid _:=A4;clear A4;go_wp2;refine bodyPost_ret (results_tmp2 Tryz.results105 _ _ _) rfl ⟨?_,rfl⟩;rw[A0.out,A9.out];exact congrArg Ending.returned (congrArg Value.tuple (by simp))
     ·have A2:¬ (s[i+1].toNat:Int)=10:=Bj h10;(have A0:Hid (V=.tuple #[.string ⟨#[]⟩,.int .i64 (-1)]):=by show _=_;(have hl:bh (s.data.toList.drop i)=none:=by rw[HD.out,A5.out,h13,bh,if_pos (by decide),if_neg (λ h=>h10 (by simpa using h.2))]);rw[<- HV.out];unfold iT;rw[A1.out,hl];rfl);go_wp2;refine bodyPost_ret (results_tmp2 Tryz.results105 _ _ _) rfl ⟨?_,rfl⟩;rw[A0.out];rfl
    ·(have Aa:¬ (i:Int)+1<(s.size:Int):=by omega);(have A0:Hid (V=.tuple #[.string ⟨#[]⟩,.int .i64 (-1)]):=by show _=_;(have hl:bh (s.data.toList.drop i)=none:=by rw[HD.out,h13,List.drop_eq_nil_of_le (by rw[HZ.out];omega),bh,if_pos (by decide),if_neg (λ h=>by simp at h)]);rw[<- HV.out];unfold iT;rw[A1.out,hl];rfl);go_wp2;refine bodyPost_ret (results_tmp2 Tryz.results105 _ _ _) rfl ⟨?_,rfl⟩;rw[A0.out];rfl
   ·have A3:¬ (s[i].toNat:Int)=13:=BM h13;by_cases h10:s[i]=10
    ·(have Ab:(s[i].toNat:Int)=10:=by rw[h10];rfl);(have A0:Hid (V=.tuple #[.string ⟨#[]⟩,.int .i64 (-1)]):=by show _=_;(have hl:bh (s.data.toList.drop i)=none:=by rw[HD.out,h10,bh,if_pos (by decide),if_neg (λ h=>by simp at h)]);rw[<- HV.out];unfold iT;rw[A1.out,hl];rfl);go_wp2;refine bodyPost_ret (results_tmp2 Tryz.results105 _ _ _) rfl ⟨?_,rfl⟩;rw[A0.out];rfl
    ·have A2:¬ (s[i].toNat:Int)=10:=Bj h10;(have Ac:((s[i].toNat:Int)==13)=false:=by rw[beq_eq_false_iff_ne];exact A3);(have Ad:((s[i].toNat:Int)==10)=false:=by rw[beq_eq_false_iff_ne];exact A2);have A8:Hid (∀ c∈(s.data.toList.drop n).take (i+1-n),aK c=false):=by
      intro c hc;rw[show i+1-n=(i-n)+1 by omega,List.take_add_one,List.getElem?_drop,show n+(i-n)=i by omega] at hc;rcases List.mem_append.1 hc with h|h
      ·exact ha.out c h
      ·(have e:s.data.toList[i]?=some s[i]:=by have h2:=congrArg List.head? HD.out;rw[List.head?_drop] at h2;exact h2);rw[e] at h;simp at h;rw[h];unfold aK;simp[h13,h10]
     go_wp2;exact⟨⟨i+1,by omega,by omega,by go_num,A8⟩,by simp[intOf];omega⟩
  ·(have A6:¬ (i:Int)<(s.size:Int):=by omega);(have A0:Hid (V=.tuple #[.string ⟨#[]⟩,.int .i64 (-1)]):=by show _=_;(have hl:bh (s.data.toList.drop i)=none:=by rw[List.drop_eq_nil_of_le (by rw[HZ.out];omega)];rfl);rw[<- HV.out];unfold iT;rw[A1.out,hl];rfl);go_wp2;refine bodyPost_ret (results_tmp2 Tryz.results105 _ _ _) rfl ⟨?_,rfl⟩;rw[A0.out];rfl
def gO (c:UInt8):UInt8:=if 65<=c.toNat/\c.toNat<=90 then UInt8.ofNat (c.toNat+32) else c
theorem zd (c:UInt8):gO c=Lib.lowerB c:=by
 unfold gO Lib.lowerB Lib.isUpperB;by_cases h:65<=c.toNat/\c.toNat<=90
 ·rw[if_pos h,if_pos (by simp[UInt8.le_iff_toNat_le,h.1,h.2])];apply UInt8.toNat_inj.1;rw[UInt8.toNat_ofNat',UInt8.toNat_add];rfl
 ·rw[if_neg h,if_neg (by simpa [UInt8.le_iff_toNat_le] using h)]
theorem ir (l:List UInt8):l.map gO=Lib.toLowerA l:=by
 unfold Lib.toLowerA;exact List.map_congr_left (λ c _=>zd c)
theorem oK (l:List UInt8)(w:World)(hs:l.length<=1000000) :
 Calls Tryz.prog 170 #[.string ⟨l.toArray⟩] w λ e w'=>e=.returned (.string ⟨(l.map gO).toArray⟩)/\Below w.heap.size w w':=by
 obtain⟨s,hS⟩:∃ S:ByteArray,S=⟨l.toArray⟩:=⟨_,rfl⟩;have hd:s.data.toList=l:=by rw[hS]
 have A6:s.size=l.length:=by rw[hS];exact List.size_toArray
 rw[<- hS,<- hd];have A7:s.size<=1000000:=by omega
 clear hS A6 hd hs;go_enter Tryz.func170,Tryz.ntmps170;go_wp2;go_loopw [3,4] (λ ov iv wr=>∃ i:Nat,i<=s.size/\iv=.int .i64 i/\ov=.string ⟨((s.data.toList.take i).map gO).toArray⟩/\Below w.heap.size w wr) (λ _ iv _=>s.size-(intOf iv).toNat);case atStart=>exact⟨0,Nat.zero_le _,rfl,rfl,Below.refl _ _⟩
 case round =>
  obtain⟨i,hi,rfl,rfl,hb⟩:=hrel;have HB:Hid _:=hb;clear hb;by_cases hlt:i<s.size
  ·(have A8:(i:Int)<(s.size:Int):=by omega);(have HX:Hid ((s.data.toList.take (i+1)).map gO=(s.data.toList.take i).map gO++[gO s[i]]):=by show _=_;rw[aV s i hlt,List.map_append];rfl);(have A5:((s.data.toList.take i).map gO).length<=1000000:=by rw[List.length_map,List.length_take];omega);obtain⟨O,hO⟩:∃ O,(s.data.toList.take i).map gO=O:=⟨_,rfl⟩;rw[hO] at HX A5 ⊢;have Aa:=s[i].toNat_lt;have ha:=fj O [gO s[i]] (by simp;omega);obtain⟨O2,A2⟩:∃ O2,O++[gO s[i]]=O2:=⟨_,rfl⟩;rw[A2] at ha HX;have A1:∀ v,Below w.heap.size w (wr.alloc (.cells #[.int .u8 v] 5)):=λ v=>HB.out.trans (((Below.refl _ _).alloc (Nat.le_refl _) _).mono HB.out.size);have A0:Hid _:=A1;clear hO A2 A1;by_cases hu:65<=s[i].toNat/\s[i].toNat<=90
   ·(have hl:gO s[i]=UInt8.ofNat (s[i].toNat+32):=by unfold gO;rw[if_pos hu]);(have h1:(65:Int)<=(s[i].toNat:Int):=by omega);(have h2:(s[i].toNat:Int)<=90:=by omega);have A4:=o7 wr (gO s[i]) ((s[i].toNat:Int)+32) (by rw[hl,UInt8.toNat_ofNat'];omega);(have A9:IntKind.u8.wrap ((s[i].toNat:Int)+32)=(s[i].toNat:Int)+32:=by rw[IntKind.wrap_u8];omega);clear hl hu;go_wp2_with fail;exact⟨⟨i+1,by omega,by go_num,by rw[HX.out],A0.out _⟩,by simp[intOf];omega⟩
   ·(have hl:gO s[i]=s[i]:=by unfold gO;rw[if_neg hu]);have A4:=o7 wr (gO s[i]) (s[i].toNat:Int) (by rw[hl]);(have A3:¬ (65:Int)<=(s[i].toNat:Int)\/¬ (s[i].toNat:Int)<=90:=by omega);clear hl hu;by_cases h1:(65:Int)<=(s[i].toNat:Int)
    ·(have h2:¬ (s[i].toNat:Int)<=90:=by omega);clear A3;go_wp2_with fail;exact⟨⟨i+1,by omega,by go_num,by rw[HX.out],A0.out _⟩,by simp[intOf];omega⟩
    ·clear A3;go_wp2_with fail;exact⟨⟨i+1,by omega,by go_num,by rw[HX.out],A0.out _⟩,by simp[intOf];omega⟩
  ·(obtain rfl:i=s.size:=by omega);rw[List.take_of_length_le (by rw[Array.length_toList];exact Nat.le_refl _)];go_wp2;go_ret;exact⟨rfl,HB.out⟩
end Go.Proofs.YtmehkneofinmiaaGreatDoor

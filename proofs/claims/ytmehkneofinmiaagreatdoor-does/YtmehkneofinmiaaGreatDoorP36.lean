/-
 Texts of this proof, part 36.
-/
import Derived.Test.YtmehkneofinmiaaGreatDoorP35
set_option maxRecDepth 100000
set_option maxHeartbeats 4000000
namespace Go.Proofs.YtmehkneofinmiaaGreatDoor
open Go.RowKit
theorem RefAt.below {w x:World}{p t:Nat}{l:List Itm}{J:List UInt8}{vs:Value}(h:RefAt w p t l J vs)(hb:Below w.heap.size w x):RefAt x p t l J vs:=⟨(hb.block _ h.lt).trans h.blk,row_below h.row hb,h.few⟩
theorem nextS_good (l:List Itm)(after:List UInt8)(m:List Itm)(hm:∀ v∈m,v∈l):∀ b,(b=[]\/((someF b l).isSome/\∃ v∈l,v.key=b))->(m.foldl (nextS l after) b=[]\/((someF (m.foldl (nextS l after) b) l).isSome/\∃ v∈l,v.key=m.foldl (nextS l after) b)):=by
 induction m with
 | nil=>exact fun b h=>h
 | cons a m ih =>
   intro b h
   refine ih (fun v hv=>hm v (List.mem_cons_of_mem _ hv)) _ ?_
   unfold nextS
   split
   ·rename_i hq
    simp only[Bool.and_eq_true] at hq
    exact Or.inr ⟨hq.2,a,hm a (List.mem_cons_self ..),rfl⟩
   ·exact h
theorem nextF_good (l:List Itm)(after:List UInt8):nextF l after=[]\/((someF (nextF l after) l).isSome/\∃ v∈l,v.key=nextF l after):=nextS_good l after l (fun _ h=>h) [] (Or.inl rfl)
def bodyAt (l:List Itm)(k:List UInt8):List UInt8:=match someF k l with
 | none=>[]
 | some i=>match l[i]? with
   | none=>[]
   | some v=>v.body
structure Pg where
 out:List UInt8
 last:List UInt8
 k:List UInt8
def pgS (l:List Itm)(s:Pg):Pg:=if s.k=[] then s else ⟨s.out++s.k++[32]++qTag (bodyAt l s.k)++[10],s.k,nextF l s.k⟩
def pgF (l:List Itm)(after:List UInt8):Nat->Pg
 | 0=>⟨[],[],nextF l after⟩
 | n+1=>pgS l (pgF l after n)
theorem pgF_stop (l:List Itm)(after:List UInt8)(n:Nat)(h:(pgF l after n).k=[]):∀ m,n<=m->pgF l after m=pgF l after n:=by
 intro m hm
 induction m with
 | zero=>rw[Nat.le_zero.1 hm]
 | succ m ih =>
   by_cases e:n=m+1
   ·rw[e]
   ·rw[pgF,ih (by omega),pgS,if_pos h]
theorem pgF_good (l:List Itm)(after:List UInt8)(n:Nat):(pgF l after n).k=[]\/((someF (pgF l after n).k l).isSome/\∃ v∈l,v.key=(pgF l after n).k):=by
 induction n with
 | zero=>exact nextF_good l after
 | succ n ih =>
   rw[pgF,pgS]
   split
   ·exact ih
   ·exact nextF_good l _
theorem pgF_len (l:List Itm)(after:List UInt8)(hl:∀ v∈l,v.key.length<=40)(n:Nat):(pgF l after n).out.length<=n*100/\(pgF l after n).k.length<=40/\(pgF l after n).last.length<=40:=by
 have hk:∀ n,(pgF l after n).k.length<=40:=by
  intro n
  rcases pgF_good l after n with h|⟨_,v,hv,he⟩
  ·rw[h];simp
  ·rw[<- he];exact hl v hv
 induction n with
 | zero=>exact⟨by simp[pgF],hk 0,by simp[pgF]⟩
 | succ n ih =>
   refine⟨?_,hk _,?_⟩
   ·rw[pgF,pgS]
    split
    ·have:=ih.1;omega
    ·have:=ih.1
     have:=ih.2.1
     simp[qTag_len];omega
   ·rw[pgF,pgS]
    split
    ·exact ih.2.2
    ·exact ih.2.1
def listF (l:List Itm)(after:List UInt8):List UInt8 :=
 let s:=pgF l after 50
 textF 200 (if s.k=[] then [] else [⟨[77,111,114,101],s.last⟩]) s.out
theorem some_at {l:List Itm}{k:List UInt8}(h:(someF k l).isSome):∃ i v,someF k l=some i/\l[i]?=some v/\bodyAt l k=v.body:=by
 obtain⟨i,hi⟩:=Option.isSome_iff_exists.1 h
 have hi':=hi
 unfold someF at hi'
 split at hi'
 ·simp at hi'
 ·rename_i j hj
  split at hi'
  ·simp at hi'
  ·rename_i v hv
   split at hi'
   ·simp at hi'
   ·simp at hi'
    subst hi'
    exact⟨j,v,hi,hv,by unfold bodyAt;rw[hi];simp only[hv]⟩
theorem refList_any (p t:Nat)(l:List Itm)(J:List UInt8)(vs:Value)(after:List UInt8)(w:World)(h:RefAt w p t l J vs)(hT:Tab w)(hl:∀ v∈l,v.key.length<=40/\v.body.length<1000000) :
 Calls Tryz.prog 56 #[.pointer (some ⟨p,0,none⟩),.string ⟨after.toArray⟩] w fun e w'=>e=.returned (.string ⟨(listF l after).toArray⟩)/\Below w.heap.size w w':=by
 have HR:Hid (∀ x,Below w.heap.size w x->RefAt x p t l J vs):=fun x hx=>h.below hx
 have HT:Hid (∀ x,Below w.heap.size w x->Tab x):=fun x hx=>hT.below hx
 have HL:Hid _:=hl
 have hB:Hid (Below w.heap.size w w):=Below.refl _ _
 clear h hT hl
 go_enter Tryz.func56,Tryz.ntmps56
 go_wp2_with (go_at_call 109;refine (refNext_any p t l J _ after _ (HR.out _ hB.out)).mono ?_;rintro e w' ⟨rfl,rfl⟩)
 go_loopw [5,6,7,8] (fun o la k n wx=>∃ m:Nat,m<=50/\n=.int .i64 m/\o=.string ⟨(pgF l after m).out.toArray⟩/\la=.string ⟨(pgF l after m).last.toArray⟩/\k=.string ⟨(pgF l after m).k.toArray⟩/\Hid (Below w'.heap.size w' wx)) (fun _ _ _ n _=>50-(intOf n).toNat)
 case atStart=>exact⟨0,Nat.zero_le _,rfl,rfl,rfl,rfl,Below.refl _ _⟩
 case round =>
  obtain⟨m,hm,rfl,rfl,rfl,rfl,hbx⟩:=hrel
  rename_i wx
  have HN:Hid (pgF l after (m+1)=pgS l (pgF l after m)):=rfl
  have HZ:Hid (m=50\/(pgF l after m).k=[]->pgF l after 50=pgF l after m):=by
   rintro (rfl|e)
   ·rfl
   ·exact pgF_stop l after m e 50 hm
  have hlen:=pgF_len l after (fun v hv=>(HL.out v hv).1) m
  have HG:Hid _:=pgF_good l after m
  obtain⟨S,hS⟩:∃ S,pgF l after m=S:=⟨_,rfl⟩
  rw[hS] at HN HZ hlen HG ⊢
  clear hS
  obtain⟨out,last,k⟩:=S
  obtain⟨l1,l2,l3⟩:=hlen
  simp only at l1 l2 l3 HG HZ ⊢
  have s1:=sz out
  have s2:=sz last
  have s3:=sz k
  by_cases hk:k=[]
  ·subst hk
   have HF:Hid (listF l after=Lib.decDigits 200++[13,10]++[]++[13,10]++out):=by show _=_;unfold listF;rw[HZ.out (Or.inr rfl)];simp[textF]
   clear HZ HG HN
   have HP:Hid _:=refReply_any 200 [] out
   go_wp2_with (go_at_call 55;refine (HP.out _ (HT.out _ hbx.out) (by omega) (by simp) (by omega)).mono ?_;rintro e w2 ⟨rfl,hb2⟩)
   all_goals go_ret
   all_goals exact⟨ret_str (by rw[HF.out];simp),hbx.out.trans (hb2.mono hbx.out.size)⟩
  ·have hke:k.isEmpty=false:=by simpa using hk
   have hkn:(k=[])=False:=eq_false hk
   by_cases h50:m=50
   ·have HF:Hid (listF l after=Lib.decDigits 200++[13,10]++fldText ⟨[77,111,114,101],last⟩++[13,10]++out):=by show _=_;unfold listF;rw[HZ.out (Or.inl h50)];simp[textF,hk]
    have HFl:Hid _:=refField_any [77,111,114,101] last
    have hFT:(fldText ⟨[77,111,114,101],last⟩).length<=50:=by simp[fldText];omega
    obtain⟨ft,hft⟩:∃ ft,fldText ⟨[77,111,114,101],last⟩=ft:=⟨_,rfl⟩
    rw[hft] at HFl HF hFT
    subst h50
    clear hft HZ HG HN
    have HP:Hid _:=refReply_any 200 ft out
    go_wp2_with (first
     | (go_at_call 112;refine (HFl.out _ (by simp) (by omega)).mono ?_;rintro e w1 ⟨rfl,rfl⟩)
     | (go_at_call_of 55 (Value.string ⟨ft.toArray⟩);refine (HP.out _ (HT.out _ hbx.out) (by omega) (by omega) (by omega)).mono ?_;rintro e w2 ⟨rfl,hb2⟩)
     | (exfalso;simp_all;done))
    all_goals go_ret
    all_goals exact⟨ret_str (by rw[HF.out];simp),hbx.out.trans (hb2.mono hbx.out.size)⟩
   ·obtain⟨i,v,hi,hv,hbo⟩:=some_at ((HG.out.resolve_left hk).1)
    have hvl:=HL.out v (List.mem_of_getElem? hv)
    obtain⟨a,c,hvs,hI⟩:=(HR.out _ hbx.out).itms
    have hil:i<l.length:=(List.getElem?_eq_some_iff.1 hv).1
    have hfew:=(HR.out _ hbx.out).few
    have h2:=(HR.out _ hbx.out).c1
    obtain⟨g,rfl,hg,i0,i1,_,_,i4,i5⟩:=hI i v hv
    subst hvs
    have HS:Hid (someF k l=some i):=hi
    have hq:=qTag_len v.body
    have HQ:Hid (∀ x,Calls Tryz.prog 111 #[.string ⟨v.body.toArray⟩] x fun e w'=>e=.returned (.string ⟨(qTag v.body).toArray⟩)/\Below x.heap.size x w'):=fun x=>refQuoted_any v.body x hvl.2
    have HN2:Hid (pgF l after (m+1)=⟨out++k++[32]++qTag v.body++[10],k,nextF l k⟩):=by
     show _=_;rw[HN.out,pgS,if_neg hk];simp only[hbo]
    obtain⟨q,hqq⟩:∃ q,qTag v.body=q:=⟨_,rfl⟩
    rw[hqq] at hq HQ HN2
    have s4:=sz q
    clear hqq HN HZ HG hI hv hi hbo hvl
    go_wp2_with (first
     | (go_at_call 110;refine (refSomething_any p t l J _ k _ (HR.out _ hbx.out)).mono ?_;rintro e w1 ⟨rfl,rfl⟩;rw[HS.out];simp only[idxI])
     | (go_at_call 111;refine (HQ.out _).mono ?_;rintro e w2 ⟨rfl,hb2⟩)
     | (go_at_call 109;refine (refNext_any p t l J _ k _ (HR.out _ (hbx.out.trans (hb2.mono hbx.out.size)))).mono ?_;rintro e w3 ⟨rfl,rfl⟩))
    ·refine⟨⟨m+1,by omega,by go_num,?_,?_,?_,hbx.out.trans (hb2.mono hbx.out.size)⟩,by simp[intOf];omega⟩
     ·rw[HN2.out]
      exact congrArg Value.string (by apply ByteArray.ext;simp[ByteArray.data_append])
     ·rw[HN2.out]
     ·rw[HN2.out]
    all_goals (exfalso;simp_all;done)
theorem refTick_no (p t:Nat)(l:List Itm)(J:List UInt8)(vs:Value)(d:Int)(w:World)(h:RefAt w p t l J vs)(ht:t<=253402300799)(hd:d<0\/253402300799-(t:Int)<d) :
 Calls Tryz.prog 34 #[.pointer (some ⟨p,0,none⟩),.int .i64 d] w fun e w'=>e=.returned (.int .i64 1)/\w'=w:=by
 have h0:=h.c0
 have hf:w.frozen? ⟨p,0,none⟩=false:=by simp[World.frozen?,h.blk]
 clear h
 by_cases h1:d<0
 ·clear hd
  go_enter Tryz.func34,Tryz.ntmps34
  go_wp2
  all_goals go_ret
  all_goals exact⟨rfl,rfl⟩
 ·have h2:253402300799-(t:Int)<d:=hd.resolve_left h1
  clear hd
  go_enter Tryz.func34,Tryz.ntmps34
  go_wp2
  all_goals go_ret
  all_goals first|exact⟨rfl,rfl⟩|(exfalso;omega)
theorem refTick_yes (p t:Nat)(l:List Itm)(J:List UInt8)(vs:Value)(d:Nat)(w:World)(h:RefAt w p t l J vs)(hd:t+d<=253402300799) :
 Calls Tryz.prog 34 #[.pointer (some ⟨p,0,none⟩),.int .i64 d] w fun e w'=>e=.returned (.int .i64 0)/\w'=w.setCell ⟨p,0,none⟩ (.int .i64 (t+d:Nat)):=by
 have h0:=h.c0
 have hf:w.frozen? ⟨p,0,none⟩=false:=by simp[World.frozen?,h.blk]
 clear h
 go_enter Tryz.func34,Tryz.ntmps34
 go_wp2
 all_goals go_ret
 exact⟨rfl,by rw[Int.natCast_add]⟩
theorem ownsRow_cell {w:World}{base:Nat}{e:TypeId}{size:Nat}{v:Value}{n:Nat}{xs:List Value}(h:w.ownsRow base e size v n xs){g j:Nat}(hg:v.ownBlock=some g)(u:Value):(w.setCell ⟨g,j,none⟩ u).ownsRow base e size v n (xs.set j u):=by
 refine⟨by rw[List.length_set];exact h.1,?_⟩
 rcases h.2 with ⟨h0,_⟩|⟨g',cap,cur,hv,h1,hgg,h2,h3,h4,h5⟩
 ·rw[h0] at hg
  cases hg
 ·obtain rfl:g'=g:=by rw[hv] at hg;simpa [Value.ownBlock] using hg
  refine Or.inr ⟨g',cap,cur.setIfInBounds j u,hv,h1,heap_set hgg,h2,h3,by simpa using h4,?_⟩
  rw[Array.toList_setIfInBounds,List.take_set,h5]
theorem itmRow_gone (l:List Itm)(i:Nat)(v:Itm)(h:l[i]?=some v):itmRow (l.set i ⟨v.key,v.num,v.time,v.mark,v.body,true⟩)=(itmRow l).set (i*6+5) (.bool true):=by
 induction l generalizing i with
 | nil=>simp at h
 | cons a l ih =>
   cases i with
   | zero =>
     simp at h
     subst h
     simp[itmRow,itmCells]
   | succ i =>
     have h':l[i]?=some v:=by simpa using h
     have:=ih i h'
     simp only[itmRow,List.set_cons_succ,List.flatMap_cons] at this ⊢
     rw[this,show (i+1)*6+5=(itmCells a).length+(i*6+5) by simp[itmCells];omega,List.set_append_right _ _ (by omega)]
     congr 2
     omega
theorem RefAt.apart {w:World}{p t:Nat}{l:List Itm}{J:List UInt8}{vs:Value}(h:RefAt w p t l J vs):vs.ownBlock≠some p:=fun e=>by
 rcases h.row.2 with ⟨h0,_⟩|⟨g,cap,cur,hv,_,hg,_⟩
 ·rw[h0] at e
  cases e
 ·rw[hv] at e
  cases e
  have:=h.blk.symm.trans hg
  injection this with h1
  injection h1 with _ h2
  exact absurd h2 (by decide)
theorem refLeave_any (p t:Nat)(l:List Itm)(J:List UInt8)(vs:Value)(i:Nat)(v:Itm)(w:World)(h:RefAt w p t l J vs)(hi:l[i]?=some v)(hJ:J.length<=900000000000000)(ht:t<4611686018427387904)(hn:v.num<4611686018427387904)(hk:v.key.length<=1000) :
 Calls Tryz.prog 166 #[.pointer (some ⟨p,0,none⟩),.int .i64 i] w fun e w'=>(∃ u,e=.returned u)/\RefAt w' p t (l.set i ⟨v.key,v.num,v.time,v.mark,v.body,true⟩) (J++recF 3 t v.key v.num []) vs/\Off (fun k=>k=p\/vs.ownBlock=some k) w w':=by
 have HA:Hid _:=h.apart
 have HR:Hid _:=h
 have hil:i<l.length:=(List.getElem?_eq_some_iff.1 hi).1
 have hfew:=h.few
 obtain⟨a,c,hvs,hI⟩:=h.itms
 obtain⟨g,rfl,hg,i0,i1,i2,i3,i4,i5⟩:=hI i v hi
 have c1:=h.c1
 subst hvs
 have hgp:g≠p:=fun e=>HA.out (by rw[e];rfl)
 have hpl:=h.lt
 have hiI:(i:Int)<(l.length:Int):=by omega
 have hfz:w.frozen? ⟨g,i*6+5,none⟩=false:=by
  rcases h.row.2 with ⟨h0,_⟩|⟨g',cap,cur,hv,_,hgg,_⟩
  ·cases h0
  ·cases hv
   simp[World.frozen?,hgg]
 have HX:Hid (RefAt (w.setCell ⟨g,i*6+5,none⟩ (.bool true)) p t (l.set i ⟨v.key,v.num,v.time,v.mark,v.body,true⟩) J (.slice (some ⟨g,0,none⟩) l.length c)):=by
  refine⟨?_,?_,by rw[List.length_set];exact h.few⟩
  ·rw[<- h.blk]
   simp[World.setCell,Array.getElem?_modify,hgp]
  ·rw[List.length_set,itmRow_gone l i v hi]
   exact ownsRow_cell h.row rfl _
 have HO:Hid (Off (fun k=>k=p\/(Value.slice (some ⟨g,0,none⟩) l.length c).ownBlock=some k) w (w.setCell ⟨g,i*6+5,none⟩ (.bool true))):=(Off.refl _ _).set g _ _ (Or.inl (Or.inr rfl))
 have HRC:Hid _:=fun y=>refRecord_any 3 t v.num v.key [] y (by omega) ht hn hk (by simp)
 have hrl:=recF_len 3 t v.key v.num []
 obtain⟨R,hR⟩:∃ R,recF 3 t v.key v.num []=R:=⟨_,rfl⟩
 rw[hR] at hrl HRC ⊢
 have ha:=addR J R (by rw[hrl];simp;omega)
 clear hI h hR hrl hJ hn hk
 go_enter Tryz.func166,Tryz.ntmps166
 go_wp2_with fail
 obtain⟨x,hx⟩:∃ x,w.setCell ⟨g,i*6+5,none⟩ (.bool true)=x:=⟨_,rfl⟩
 rw[hx] at HX HO ⊢
 have d0:=HX.out.c0
 have d1:=HX.out.c1
 have d2:=HX.out.c2
 have hxl:=HX.out.lt
 have fz2:x.frozen? ⟨p,2,none⟩=false:=by simp[World.frozen?,HX.out.blk]
 have dk:x.cell? ⟨g,i*6,none⟩=some (.string ⟨v.key.toArray⟩):=by
  rw[<- hx,World.cell?_setCell_other _ _ _ _ (by intro q;injection q;omega)]
  exact i0
 have dn:x.cell? ⟨g,i*6+1,none⟩=some (.int .i64 v.num):=by
  rw[<- hx,World.cell?_setCell_other _ _ _ _ (by intro q;injection q;omega)]
  exact i1
 have hgl:g<x.heap.size:=by rw[<- hx];simpa using hg
 have HFIN:Hid (∀ y,Below x.heap.size x y->RefAt (y.setCell ⟨p,2,none⟩ (.string ⟨(J++R).toArray⟩)) p t (l.set i ⟨v.key,v.num,v.time,v.mark,v.body,true⟩) (J++R) (.slice (some ⟨g,0,none⟩) l.length c)/\Off (fun k=>k=p\/(Value.slice (some ⟨g,0,none⟩) l.length c).ownBlock=some k) w (y.setCell ⟨p,2,none⟩ (.string ⟨(J++R).toArray⟩))/\y.cell? ⟨p,2,none⟩=some (.string ⟨J.toArray⟩)/\y.frozen? ⟨p,2,none⟩=false):=fun y hy=>by
  have hr:=HX.out.below hy
  refine⟨⟨heap_set hr.blk,?_,hr.few⟩,(HO.out.trans (Off.of_below hy)).set p _ _ (Or.inl (Or.inl rfl)),hr.c2,by simp[World.frozen?,hr.blk]⟩
  have hrow:=hr.row
  rw[List.length_set] at hrow ⊢
  refine⟨hrow.1,?_⟩
  rcases hrow.2 with h0|⟨g',cap,cur,hv,h1,hgg,h2⟩
  ·exact Or.inl h0
  ·refine Or.inr ⟨g',cap,cur,hv,h1,?_,h2⟩
   cases hv
   rw[<- hgg]
   simp[World.setCell,Array.getElem?_modify,hgp.symm]
 clear hx i0 i1 i2 i3 i4 i5 c1 hfz HX HO HR
 refine wp_region_held_drew (S:=(fun y=>y.cell? ⟨p,0,none⟩=some (.int .i64 t)/\y.cell? ⟨p,1,none⟩=some (.slice (some ⟨g,0,none⟩) l.length c)/\y.cell? ⟨g,i*6,none⟩=some (.string ⟨v.key.toArray⟩)/\y.cell? ⟨g,i*6+1,none⟩=some (.int .i64 v.num))) (by kernel_rfl) ⟨d0,d1,dk,dn⟩ (fun hHeld=>?_)
 refine tkH 0 rfl (by kernel_rfl) (fun _ _ _ h=>h) (Or.inl ⟨by rfl,fun y hSw=>by go_simp;try with_reducible rfl⟩) hHeld ?_
 try simp only[Act.put]
 refine tkH 1 rfl (by kernel_rfl) (fun _ _ _ h=>h) (Or.inl ⟨by rfl,fun y hSw=>by go_simp;try with_reducible rfl⟩) hHeld ?_
 try simp only[Act.put]
 refine tkH 2 rfl (by kernel_rfl) (fun _ _ _ h=>h) (Or.inl ⟨by rfl,fun y hSw=>by go_simp;try with_reducible rfl⟩) hHeld ?_
 try simp only[Act.put]
 refine tkH 3 rfl (by kernel_rfl) (fun _ _ _ h=>h) (Or.inl ⟨by rfl,fun y hSw=>by go_simp;try with_reducible rfl⟩) hHeld ?_
 try simp only[Act.put]
 refine tkH 5 rfl (by kernel_rfl) (fun _ _ _ h=>h) (Or.inl ⟨by rfl,fun y hSw=>by go_simp;try with_reducible rfl⟩) hHeld ?_
 try simp only[Act.put]
 refine tkH 6 rfl (by kernel_rfl) (fun _ _ _ h=>h) (Or.inl ⟨by rfl,fun y hSw=>by go_simp;try with_reducible rfl⟩) hHeld ?_
 try simp only[Act.put]
 refine tkH 7 rfl (by kernel_rfl) (fun _ _ _ h=>h) (Or.inl ⟨by rfl,fun y hSw=>by go_simp;try with_reducible rfl⟩) hHeld ?_
 try simp only[Act.put]
 refine tkH 8 rfl (by kernel_rfl) (fun _ _ _ h=>h) (Or.inl ⟨by rfl,fun y hSw=>by go_simp;try with_reducible rfl⟩) hHeld ?_
 try simp only[Act.put]
 refine tkH 9 rfl (by kernel_rfl) (fun _ _ _ h=>h) (Or.inl ⟨by rfl,fun y hSw=>by go_simp;try with_reducible rfl⟩) hHeld ?_
 try simp only[Act.put]
 refine tkH 10 rfl (by kernel_rfl) (fun _ _ _ h=>h) (Or.inl ⟨by rfl,fun y hSw=>by go_simp;try with_reducible rfl⟩) hHeld ?_
 try simp only[Act.put]
 refine tkH 11 rfl (by kernel_rfl) (fun _ _ _ h=>h) (Or.inl ⟨by rfl,fun y hSw=>by go_simp;try with_reducible rfl⟩) hHeld ?_
 try simp only[Act.put]
 refine tkH 12 rfl (by kernel_rfl) (fun _ _ _ h=>h) (Or.inl ⟨by rfl,fun y hSw=>by go_simp;try with_reducible rfl⟩) hHeld ?_
 try simp only[Act.put]
 refine tkH 13 rfl (by kernel_rfl) (fun _ _ _ h=>h) (Or.inl ⟨by rfl,fun y hSw=>by go_simp;try with_reducible rfl⟩) hHeld ?_
 try simp only[Act.put]
 refine tkH 14 rfl (by kernel_rfl) (fun _ _ _ h=>h) (Or.inl ⟨by rfl,fun y hSw=>by go_simp;try with_reducible rfl⟩) hHeld ?_
 try simp only[Act.put]
 refine tkH 15 rfl (by kernel_rfl) (fun _ _ _ h=>h) (Or.inl ⟨by rfl,fun y hSw=>by go_simp;try with_reducible rfl⟩) hHeld ?_
 try simp only[Act.put]
 refine tkH 16 rfl (by kernel_rfl) (fun _ _ _ h=>h) (Or.inl ⟨by rfl,fun y hSw=>by go_simp;try with_reducible rfl⟩) hHeld ?_
 try simp only[Act.put]
 refine tkH 17 rfl (by kernel_rfl) (fun _ _ _ h=>h) (Or.inl ⟨by rfl,fun y hSw=>by go_simp;try with_reducible rfl⟩) hHeld ?_
 try simp only[Act.put]
 refine tkH 18 rfl (by kernel_rfl) (fun _ _ _ h=>h) (Or.inl ⟨by rfl,fun y hSw=>by go_simp;try with_reducible rfl⟩) hHeld ?_
 try simp only[Act.put]
 refine tkH 19 rfl (by kernel_rfl) (fun _ _ _ h=>h) (Or.inl ⟨by rfl,fun y hSw=>by go_simp;try with_reducible rfl⟩) hHeld ?_
 try simp only[Act.put]
 refine tkH 20 rfl (by kernel_rfl) (fun _ _ _ h=>h) (Or.inl ⟨by rfl,fun y hSw=>by go_simp;try with_reducible rfl⟩) hHeld ?_
 try simp only[Act.put]
 refine tkH 21 rfl (by kernel_rfl) (fun _ _ _ h=>h) (Or.inl ⟨by rfl,fun y hSw=>by go_simp;try with_reducible rfl⟩) hHeld ?_
 try simp only[Act.put]
 refine tkH 22 rfl (by kernel_rfl) (fun _ _ _ h=>h) (Or.inl ⟨by rfl,fun y hSw=>by go_simp;try with_reducible rfl⟩) hHeld ?_
 try simp only[Act.put]
 refine tkH 23 rfl (by kernel_rfl) (fun _ _ _ h=>h) (Or.inl ⟨by rfl,fun y hSw=>by go_simp;try with_reducible rfl⟩) hHeld ?_
 try simp only[Act.put]
 refine tkH 24 rfl (by kernel_rfl) (fun _ _ _ h=>h) (Or.inl ⟨by rfl,fun y hSw=>by go_simp;try with_reducible rfl⟩) hHeld ?_
 try simp only[Act.put]
 refine wpAnyH_ready (rs:=[4,25]) (by kernel_rfl) (by simp) ?_
 refine AllReadyH.cons rfl (fun K hK=>?_) (AllReadyH.cons rfl (fun K hK=>?_) AllReadyH.nil)
 ·go_simp
  refine hK.out _ _ hHeld (fun _=>?_)
  clear hK K
  try simp only[Act.put]
  refine wpAnyH_ready (rs:=[25]) (by kernel_rfl) (by simp) ?_
  refine AllReadyH.cons rfl (fun K hK=>?_) AllReadyH.nil
  go_simp
  refine Calls.mono (HRC.out _) ?_
  rintro e w1 ⟨rfl,hb1⟩
  have hB1:Below x.heap.size x w1:=(Below.refl _ _).drew.trans hb1
  have hS1:w1.cell? ⟨p,0,none⟩=some (.int .i64 t)/\w1.cell? ⟨p,1,none⟩=some (.slice (some ⟨g,0,none⟩) l.length c)/\w1.cell? ⟨g,i*6,none⟩=some (.string ⟨v.key.toArray⟩)/\w1.cell? ⟨g,i*6+1,none⟩=some (.int .i64 v.num):=⟨(hB1.cell (p:=⟨p,0,none⟩) hxl).trans d0,(hB1.cell (p:=⟨p,1,none⟩) hxl).trans d1,(hB1.cell (p:=⟨g,i*6,none⟩) hgl).trans dk,(hB1.cell (p:=⟨g,i*6+1,none⟩) hgl).trans dn⟩
  have HF:Hid _:=HFIN.out w1 hB1
  have y2:=HF.out.2.2.1
  have yf:=HF.out.2.2.2
  try go_wp2_with fail
  refine hK.out _ _ hS1 (fun hHeld1=>?_)
  clear hK K
  try simp only[Act.put]
  refine wpAnyH_ready (rs:=[26]) (by kernel_rfl) (by simp) ?_
  refine AllReadyH.cons rfl (fun K hK=>?_) AllReadyH.nil
  go_simp
  refine hK.out _ _ hHeld1 (fun _=>?_)
  clear hK K
  try simp only[Act.put]
  refine tkH 27 rfl (by kernel_rfl) (fun _ _ _ h=>h) (Or.inl ⟨by rfl,fun y hSw=>by go_simp;try with_reducible rfl⟩) hHeld1 ?_
  try simp only[Act.put]
  refine tkH 28 rfl (by kernel_rfl) (fun _ _ _ h=>h) (Or.inl ⟨by rfl,fun y hSw=>by go_simp;try with_reducible rfl⟩) hHeld1 ?_
  try simp only[Act.put]
  refine wpAnyH_ready (rs:=[29]) (by kernel_rfl) (by simp) ?_
  refine AllReadyH.cons rfl (fun K hK=>?_) AllReadyH.nil
  go_simp
  have hS2:(w1.setCell ⟨p,2,none⟩ (.string ⟨(J++R).toArray⟩)).cell? ⟨p,0,none⟩=some (.int .i64 t)/\(w1.setCell ⟨p,2,none⟩ (.string ⟨(J++R).toArray⟩)).cell? ⟨p,1,none⟩=some (.slice (some ⟨g,0,none⟩) l.length c)/\(w1.setCell ⟨p,2,none⟩ (.string ⟨(J++R).toArray⟩)).cell? ⟨g,i*6,none⟩=some (.string ⟨v.key.toArray⟩)/\(w1.setCell ⟨p,2,none⟩ (.string ⟨(J++R).toArray⟩)).cell? ⟨g,i*6+1,none⟩=some (.int .i64 v.num):=by
   refine⟨?_,?_,?_,?_⟩
   ·rw[World.cell?_setCell_other _ _ _ _ (by intro q;injection q;omega)];exact hS1.1
   ·rw[World.cell?_setCell_other _ _ _ _ (by intro q;injection q;omega)];exact hS1.2.1
   ·rw[World.cell?_setCell_other _ _ _ _ (by intro q;injection q with q1;exact hgp q1.symm)];exact hS1.2.2.1
   ·rw[World.cell?_setCell_other _ _ _ _ (by intro q;injection q with q1;exact hgp q1.symm)];exact hS1.2.2.2
  refine hK.out _ _ hS2 (fun _=>?_)
  clear hK K
  refine wpAnyH_done (by kernel_rfl) ?_ _
  go_wp2
  exact bodyPost_end (results_none Tryz.results166 _ _ _) rfl ⟨⟨_,rfl⟩,HF.out.1,HF.out.2.1⟩
 ·go_simp
  refine Calls.mono (HRC.out _) ?_
  rintro e w1 ⟨rfl,hb1⟩
  have hB1:Below x.heap.size x w1:=(Below.refl _ _).drew.trans hb1
  have hS1:w1.cell? ⟨p,0,none⟩=some (.int .i64 t)/\w1.cell? ⟨p,1,none⟩=some (.slice (some ⟨g,0,none⟩) l.length c)/\w1.cell? ⟨g,i*6,none⟩=some (.string ⟨v.key.toArray⟩)/\w1.cell? ⟨g,i*6+1,none⟩=some (.int .i64 v.num):=⟨(hB1.cell (p:=⟨p,0,none⟩) hxl).trans d0,(hB1.cell (p:=⟨p,1,none⟩) hxl).trans d1,(hB1.cell (p:=⟨g,i*6,none⟩) hgl).trans dk,(hB1.cell (p:=⟨g,i*6+1,none⟩) hgl).trans dn⟩
  have HF:Hid _:=HFIN.out w1 hB1
  have y2:=HF.out.2.2.1
  have yf:=HF.out.2.2.2
  try go_wp2_with fail
  refine hK.out _ _ hS1 (fun hHeld1=>?_)
  clear hK K
  try simp only[Act.put]
  refine wpAnyH_ready (rs:=[4]) (by kernel_rfl) (by simp) ?_
  refine AllReadyH.cons rfl (fun K hK=>?_) AllReadyH.nil
  go_simp
  refine hK.out _ _ hHeld1 (fun _=>?_)
  clear hK K
  try simp only[Act.put]
  refine wpAnyH_ready (rs:=[26]) (by kernel_rfl) (by simp) ?_
  refine AllReadyH.cons rfl (fun K hK=>?_) AllReadyH.nil
  go_simp
  refine hK.out _ _ hHeld1 (fun _=>?_)
  clear hK K
  try simp only[Act.put]
  refine tkH 27 rfl (by kernel_rfl) (fun _ _ _ h=>h) (Or.inl ⟨by rfl,fun y hSw=>by go_simp;try with_reducible rfl⟩) hHeld1 ?_
  try simp only[Act.put]
  refine tkH 28 rfl (by kernel_rfl) (fun _ _ _ h=>h) (Or.inl ⟨by rfl,fun y hSw=>by go_simp;try with_reducible rfl⟩) hHeld1 ?_
  try simp only[Act.put]
  refine wpAnyH_ready (rs:=[29]) (by kernel_rfl) (by simp) ?_
  refine AllReadyH.cons rfl (fun K hK=>?_) AllReadyH.nil
  go_simp
  have hS2:(w1.setCell ⟨p,2,none⟩ (.string ⟨(J++R).toArray⟩)).cell? ⟨p,0,none⟩=some (.int .i64 t)/\(w1.setCell ⟨p,2,none⟩ (.string ⟨(J++R).toArray⟩)).cell? ⟨p,1,none⟩=some (.slice (some ⟨g,0,none⟩) l.length c)/\(w1.setCell ⟨p,2,none⟩ (.string ⟨(J++R).toArray⟩)).cell? ⟨g,i*6,none⟩=some (.string ⟨v.key.toArray⟩)/\(w1.setCell ⟨p,2,none⟩ (.string ⟨(J++R).toArray⟩)).cell? ⟨g,i*6+1,none⟩=some (.int .i64 v.num):=by
   refine⟨?_,?_,?_,?_⟩
   ·rw[World.cell?_setCell_other _ _ _ _ (by intro q;injection q;omega)];exact hS1.1
   ·rw[World.cell?_setCell_other _ _ _ _ (by intro q;injection q;omega)];exact hS1.2.1
   ·rw[World.cell?_setCell_other _ _ _ _ (by intro q;injection q with q1;exact hgp q1.symm)];exact hS1.2.2.1
   ·rw[World.cell?_setCell_other _ _ _ _ (by intro q;injection q with q1;exact hgp q1.symm)];exact hS1.2.2.2
  refine hK.out _ _ hS2 (fun _=>?_)
  clear hK K
  refine wpAnyH_done (by kernel_rfl) ?_ _
  go_wp2
  exact bodyPost_end (results_none Tryz.results166 _ _ _) rfl ⟨⟨_,rfl⟩,HF.out.1,HF.out.2.1⟩
end Go.Proofs.YtmehkneofinmiaaGreatDoor

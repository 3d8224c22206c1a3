/-
 Texts of this proof, part 12.
-/
import Derived.Test.YtmehkneofinmiaaGreatDoorP11
import Derived.Test.YtmehkneofinmiaaGreatDoorP03
import Derived.Deep.RegionHeld3
set_option maxRecDepth 100000
set_option maxHeartbeats 4000000
namespace Go.Proofs.YtmehkneofinmiaaGreatDoor
open Go.RowKit
structure Off (S:Nat->Prop)(w x:World):Prop where
 os:x.os=w.os
 tape:x.tape=w.tape
 output:x.output=w.output
 size:w.heap.size<=x.heap.size
 block:∀ k,k<w.heap.size->¬ S k->x.heap[k]?=w.heap[k]?
theorem Off.refl (S:Nat->Prop)(w:World):Off S w w:=⟨rfl,rfl,rfl,Nat.le_refl _,fun _ _ _=>rfl⟩
theorem Off.trans {S:Nat->Prop}{a b c:World}(h:Off S a b)(k:Off S b c):Off S a c :=
 ⟨k.os.trans h.os,k.tape.trans h.tape,k.output.trans h.output,Nat.le_trans h.size k.size,fun i hi hs=>(k.block i (Nat.lt_of_lt_of_le hi h.size) hs).trans (h.block i hi hs)⟩
theorem Off.trans' {S T:Nat->Prop}{a b c:World}(h:Off S a b)(k:Off T b c)(hT:∀ i,i<a.heap.size->T i->S i):Off S a c :=
 ⟨k.os.trans h.os,k.tape.trans h.tape,k.output.trans h.output,Nat.le_trans h.size k.size,fun i hi hs=>(k.block i (Nat.lt_of_lt_of_le hi h.size) (fun t=>hs (hT i hi t))).trans (h.block i hi hs)⟩
theorem Off.mono {S T:Nat->Prop}{a b:World}(h:Off S a b)(hT:∀ i,S i->T i):Off T a b:=⟨h.os,h.tape,h.output,h.size,fun k hk hs=>h.block k hk (fun s=>hs (hT k s))⟩
theorem Off.of_below {S:Nat->Prop}{w x:World}(h:Below w.heap.size w x):Off S w x:=⟨h.os,h.tape,h.output,h.size,fun k hk _=>h.block k hk⟩
theorem Off.set {S:Nat->Prop}{w x:World}(h:Off S w x)(g i:Nat)(v:Value)(hg:S g\/w.heap.size<=g):Off S w (x.setCell ⟨g,i,none⟩ v):=by
 refine⟨h.os,h.tape,h.output,by simpa using h.size,fun k hk hs=>?_⟩
 have hne:g≠k:=fun e=>by subst e;rcases hg with hg|hg;exact hs hg;omega
 rw[<- h.block k hk hs]
 simp[World.setCell,Array.getElem?_modify,hne]
theorem Off.alloc {S:Nat->Prop}{w x:World}(h:Off S w x)(o:Obj):Off S w (x.alloc o):=by
 refine⟨h.os,h.tape,h.output,by have:=h.size;simp;omega,fun k hk hs=>?_⟩
 rw[<- h.block k hk hs]
 exact heap_alloc_old _ _ (Nat.lt_of_lt_of_le hk h.size)
theorem Off.drew {S:Nat->Prop}{w x:World}(h:Off S w x):Off S w x.drew:=⟨h.os,h.tape,h.output,h.size,h.block⟩
theorem Off.grown {S:Nat->Prop}{w x y:World}{r:Option Nat}(h:Off S w x)(hg:x.grownBy y r)(hr:∀ k,r=some k->S k\/w.heap.size<=k):Off S w y:=by
 refine⟨hg.os.trans h.os,hg.tape.trans h.tape,hg.output.trans h.output,Nat.le_trans h.size hg.size,fun k hk hs=>?_⟩
 rw[<- h.block k hk hs]
 refine hg.block k (Nat.lt_of_lt_of_le hk h.size) (fun e=>?_)
 rcases hr k e.symm with h1|h1
 ·exact hs h1
 ·omega
theorem info154m:(Tryz.prog.info? 174).map (fun i=>(i.zero,i.size,i.bytes))=some (some (.agg #[.int .i64 0,.int .i64 0,.bool false,.string ⟨#[]⟩]),4,40):=by kernel_rfl
end Go.Proofs.YtmehkneofinmiaaGreatDoor
namespace Go.Proofs.YtmehkneofinmiaaGreatDoor
open Go.RowKit
attribute [local go_sem ↓] appS_is
attribute [local go_sem] app_run
theorem clear_one (w:World)(ty:TypeId)(b o c:Nat)(hc:∀ j,j<4->(w.cell? ⟨b,o+j,none⟩).isSome=true)(hf:∀ j,j<4->w.frozen? ⟨b,o+j,none⟩=false) :
 (Builtin.clear_ #[228] ty #[.slice (some ⟨b,o,none⟩) 1 c]).run Tryz.prog w=.ok (.tuple #[]) (w.setCells b o [.int .i64 0,.int .i64 0,.bool false,.string ⟨#[]⟩]):=by
 have hst:=run_storeCells_cells (P:=Tryz.prog) b o [.int .i64 0,.int .i64 0,.bool false,.string ⟨#[]⟩] 0 w (by simpa using hc) (by simpa using hf) (by simp[Value.oneCell'])
 simp only[Nat.add_zero] at hst
 have hzc:(Builtin.zeroCells (Value.agg #[.int .i64 0,.int .i64 0,.bool false,.string ⟨#[]⟩]).cells 1).toList=[.int .i64 0,.int .i64 0,.bool false,.string ⟨#[]⟩]:=by simp[Builtin.zeroCells,Value.cells,List.range_succ]
 simp only[Builtin.clear_]
 simp[run_underlying Tryz.underlying228,Tryz.zeroValue174,hzc,hst]
theorem rowOf_append (a b:List Ver):rowOf (a++b)=rowOf a++rowOf b:=by simp[rowOf]
theorem rowOf_take (l:List Ver)(i:Nat)(h:i<=l.length):(rowOf l).take (i*4)=rowOf (l.take i):=by
 have e:rowOf l=rowOf (l.take i)++rowOf (l.drop i):=by rw[<- rowOf_append,List.take_append_drop]
 rw[e]
 have hl:(rowOf (l.take i)).length=i*4:=by rw[rowOf_length,List.length_take,Nat.min_eq_left h]
 rw[<- hl,List.take_left]
theorem rowOf_drop (l:List Ver)(i:Nat)(h:i<=l.length):(rowOf l).drop (i*4)=rowOf (l.drop i):=by
 have e:rowOf l=rowOf (l.take i)++rowOf (l.drop i):=by rw[<- rowOf_append,List.take_append_drop]
 rw[e]
 have hl:(rowOf (l.take i)).length=i*4:=by rw[rowOf_length,List.length_take,Nat.min_eq_left h]
 rw[<- hl,List.drop_left]
theorem rowOf_one {l:List Ver}{v:Value}(h:v∈rowOf l):v.oneCell'=true:=by
 simp only[rowOf,List.mem_flatMap] at h
 obtain⟨x,_,hx⟩:=h
 simp only[verCells,List.mem_cons,List.not_mem_nil,or_false] at hx
 rcases hx with rfl|rfl|rfl|rfl<;>rfl
theorem delete_any (l:List Ver)(g cap:Nat)(i:Nat)(w:World)(h:w.ownsRow 0 174 4 (.slice (some ⟨g,0,none⟩) l.length cap) l.length (rowOf l))(hi:i<l.length)(hl:l.length<1000000) :
 Calls Tryz.prog 295 #[.slice (some ⟨g,0,none⟩) l.length cap,.int .i64 i,.int .i64 ((i:Int)+1)] w fun e w'=>e=.returned (.slice (some ⟨g,0,none⟩) (l.length-1) cap) /\
  w'.ownsRow 0 174 4 (.slice (some ⟨g,0,none⟩) (l.length-1) cap) (l.length-1) (rowOf (l.eraseIdx i))/\Off (fun k=>k=g) w w':=by
 obtain⟨i0,hi0,hz0,hz1,hz2⟩:=info_parts info154m
 obtain⟨cur,hg,hnc,hcm,hcs,htk⟩:∃ cur,w.heap[g]?=some (.cells cur 174 (0,0))/\l.length<=cap/\cap<=maxLen/\cur.size=cap*4/\cur.toList.take (l.length*4)=rowOf l:=by
  rcases h.2 with ⟨h0,_⟩|⟨g',cap',cur,hv,_,hg,h2⟩
  ·cases h0
  ·cases hv;exact⟨cur,hg,h2⟩
 have hlt:g<w.heap.size:=(Array.getElem?_eq_some_iff.1 hg).1
 simp only[maxLen] at hcm
 have hown:w.drew.ownsRow 0 174 4 (.slice (some ⟨g,0,none⟩) i cap) i (rowOf (l.take i)):=by
  refine⟨by rw[rowOf_length,List.length_take,Nat.min_eq_left (by omega)],Or.inr ⟨g,cap,cur,rfl,Nat.zero_le _,hg,by omega,by simp only[maxLen];omega,hcs,?_⟩⟩
  rw[<- rowOf_take l i (by omega),<- htk,List.take_take,Nat.min_eq_left (by omega)]
 have hcell:∀ j u,(rowOf l)[j]?=some u->w.cell? ⟨g,j,none⟩=some u:=by
  intro j u hu
  have hj:j<l.length*4:=by have:=(List.getElem?_eq_some_iff.1 hu).1;rwa [rowOf_length] at this
  rw[<- htk,List.getElem?_take_of_lt hj] at hu
  simpa [World.cell?,hg] using hu
 obtain⟨A,hA,hsrc⟩:∃ A:Addr,(if cap=i+1 then some (⟨g,0,none⟩:Addr) else some ⟨g,(i+1)*4,none⟩)=some A/\Hid (∀ t u,(rowOf (l.drop (i+1)))[t]?=some u->w.drew.cell? (A.add t)=some u):=by
  by_cases hc:cap=i+1
  ·refine⟨⟨g,0,none⟩,by simp[hc],fun t u hu=>?_⟩
   have:l.drop (i+1)=[]:=List.drop_eq_nil_of_le (by omega)
   rw[this] at hu
   simp[rowOf] at hu
  ·refine⟨⟨g,(i+1)*4,none⟩,by simp[hc],fun t u hu=>?_⟩
   rw[<- rowOf_drop l (i+1) (by omega),List.getElem?_drop] at hu
   rw[Addr.add_lit]
   exact hcell _ _ hu
 obtain⟨w1,hrun,hown1,hgrow⟩:=run_append_fits (P:=Tryz.prog) w.drew 0 228 228 174 i0 4 Tryz.underlying228 hi0 hz1 g i cap (rowOf (l.take i)) hown A (l.length-(i+1)) (cap-(i+1)) (rowOf (l.drop (i+1))) (by rw[rowOf_length,List.length_drop]) hsrc.out (fun u hu=>rowOf_one hu) (by omega)
 obtain⟨hok,hr1,hr2⟩:=app_is hrun
 have HG:Hid _:=hgrow
 have HO:Hid _:=hown1
 obtain⟨cur1,hg1,hcs1,htk1⟩:∃ cur1,w1.heap[g]?=some (.cells cur1 174 (0,0))/\cur1.size=cap*4/\cur1.toList.take ((i+(l.length-(i+1)))*4)=rowOf (l.take i)++rowOf (l.drop (i+1)):=by
  rcases HO.out.2 with ⟨h0,_⟩|⟨g',cap',cur',hv,_,hg',_,_,h3,h4⟩
  ·cases h0
  ·cases hv;exact⟨cur',hg',h3,h4⟩
 have hcl:(Builtin.clear_ #[228] 0 #[.slice (some ⟨g,(i+(l.length-(i+1)))*4,none⟩) (l.length-(i+(l.length-(i+1)))) (cap-(i+(l.length-(i+1))))]).run Tryz.prog w1=.ok (.tuple #[]) (w1.setCells g ((i+(l.length-(i+1)))*4) [.int .i64 0,.int .i64 0,.bool false,.string ⟨#[]⟩]):=by
  have e1:l.length-(i+(l.length-(i+1)))=1:=by omega
  rw[e1]
  refine clear_one w1 0 g _ _ (fun j hj=>?_) (fun j hj=>?_)
  ·simp only[World.cell?,hg1]
   rw[Array.getElem?_eq_getElem (by omega)]
   rfl
  ·simp[World.frozen?,hg1]
 obtain⟨w2,hw2⟩:∃ w2,w2=w1.setCells g ((i+(l.length-(i+1)))*4) [.int .i64 0,.int .i64 0,.bool false,.string ⟨#[]⟩]:=⟨_,rfl⟩
 rw[<- hw2] at hcl
 have HW:Hid _:=hw2
 have H1:Hid _:=hg1
 have H2:Hid _:=hcs1
 have H3:Hid _:=htk1
 clear hrun hgrow hown1 hown hcell hsrc h htk hcs hg hw2 hg1 hcs1 htk1
 go_enter Tryz.func295,Tryz.ntmps295
 go_wp2_with fail
 go_region
 go_wp2
 go_ret
 have hk:i+(l.length-(i+1))=l.length-1:=by omega
 refine⟨by rw[<- hk];rfl,?_,?_⟩
 ·have hb:w2.heap[g]?=some (.cells (((((cur1.setIfInBounds ((l.length-1)*4) (.int .i64 0)).setIfInBounds ((l.length-1)*4+1) (.int .i64 0)).setIfInBounds ((l.length-1)*4+1+1) (.bool false)).setIfInBounds ((l.length-1)*4+1+1+1) (.string ⟨#[]⟩))) 174 (0,0)):=by
   rw[HW.out,hk]
   exact heap_set (heap_set (heap_set (heap_set H1.out)))
  refine⟨by rw[rowOf_length,List.length_eraseIdx_of_lt hi],Or.inr ⟨g,cap,_,rfl,Nat.zero_le _,hb,by omega,by simp only[maxLen];omega,by simpa using H2.out,?_⟩⟩
  have h3:=H3.out
  rw[hk] at h3
  have e2:rowOf (l.eraseIdx i)=rowOf (l.take i)++rowOf (l.drop (i+1)):=by rw[List.eraseIdx_eq_take_drop_succ,rowOf_append]
  rw[e2,<- h3]
  apply List.ext_getElem?
  intro t
  by_cases ht:t<(l.length-1)*4
  ·rw[List.getElem?_take_of_lt ht,List.getElem?_take_of_lt ht]
   simp only[Array.getElem?_toList]
   rw[Array.getElem?_setIfInBounds_ne (by omega),Array.getElem?_setIfInBounds_ne (by omega),Array.getElem?_setIfInBounds_ne (by omega),Array.getElem?_setIfInBounds_ne (by omega)]
  ·rw[List.getElem?_eq_none (by simp;omega),List.getElem?_eq_none (by simp;omega)]
 ·have ho:Off (fun k=>k=g) w w1:=(Off.refl _ w).drew.grown HG.out (fun k hk=>Or.inl (by cases hk;rfl))
  rw[HW.out]
  exact (((ho.set g _ _ (Or.inl rfl)).set g _ _ (Or.inl rfl)).set g _ _ (Or.inl rfl)).set g _ _ (Or.inl rfl)
end Go.Proofs.YtmehkneofinmiaaGreatDoor
namespace Go.Proofs.YtmehkneofinmiaaGreatDoor
open Go.RowKit
theorem remove_any (p:Nat)(E:Ent)(vs:Value)(n:Int)(w:World)(h:EntAt w p E vs)(hp:vs.ownBlock≠some p)(hl:E.vers.length<1000000)(i:Nat)(hn:vidx E.vers n=some i) :
 Calls Tryz.prog 256 #[.pointer (some ⟨p,0,none⟩),.int .i64 n] w fun e w'=>(∃ v,e=.returned v)/\∃ vs',EntAt w' p ⟨E.key,E.last,E.vers.eraseIdx i⟩ vs'/\vs'.ownBlock=vs.ownBlock/\Off (fun k=>k=p\/vs.ownBlock=some k) w w':=by
 obtain⟨v,hv,_⟩:=vidx_get hn
 have hi:i<E.vers.length:=(List.getElem?_eq_some_iff.1 hv).1
 go_enter Tryz.func256,Tryz.ntmps256
 go_wp2_with fail
 refine (place_any p E vs n _ h hl).mono ?_
 rintro e w2 ⟨rfl,hb2⟩
 rw[vidxI_some hn]
 have h2:=h.below hb2
 obtain⟨g,cap,rfl⟩:∃ g cap,vs=.slice (some ⟨g,0,none⟩) E.vers.length cap:=by
  obtain⟨g,cap,e,_⟩:=row_cells h2.row i v hv
  exact⟨g,cap,e⟩
 have c2:=h2.c2
 have hlt:=h2.lt
 have HH:Hid (EntAt w2 p E (.slice (some ⟨g,0,none⟩) E.vers.length cap)):=h2
 have HB:Hid (Below w.heap.size w w2):=hb2
 have HP:Hid ((Value.slice (some ⟨g,0,none⟩) E.vers.length cap).ownBlock≠some p):=hp
 clear h2 hb2 h hp
 go_wp2_with fail
 refine (delete_any E.vers g cap i _ HH.out.row hi hl).mono ?_
 rintro e w3 ⟨rfl,hown3,ho3⟩
 have hgp:g≠p:=fun e=>HP.out (by rw[e];rfl)
 have hb3:w3.heap[p]?=some (.cells #[.string ⟨E.key.toArray⟩,.int .i64 E.last,.slice (some ⟨g,0,none⟩) E.vers.length cap] 230 (0,0)):=(ho3.block p hlt (Ne.symm hgp)).trans HH.out.blk
 have c3:w3.cell? ⟨p,2,none⟩=some (.slice (some ⟨g,0,none⟩) E.vers.length cap):=by simp[World.cell?,hb3]
 have f3:w3.frozen? ⟨p,2,none⟩=false:=by simp[World.frozen?,hb3]
 have H1:Hid _:=hown3
 have H2:Hid _:=ho3
 have H3:Hid _:=hb3
 clear hown3 ho3 hb3
 go_wp2
 refine bodyPost_end (results_none Tryz.results256 _ _ _) rfl ⟨⟨_,rfl⟩,_,⟨heap_set (i:=2) H3.out,?_⟩,rfl,?_⟩
 ·have h0:=H1.out
  rw[List.length_eraseIdx_of_lt hi]
  refine⟨h0.1,?_⟩
  rcases h0.2 with ⟨hc,_⟩|⟨g',cap',cur,hv,h1,hg,h2⟩
  ·cases hc
  ·cases hv
   refine Or.inr ⟨g,cap,cur,rfl,h1,?_,h2⟩
   rw[<- hg]
   simp[World.setCell,Array.getElem?_modify,Ne.symm hgp]
 ·refine (((Off.of_below HB.out).trans' H2.out (fun k _ e=>?_)).set p 2 _ (Or.inl (Or.inl rfl)))
  right
  rw[e];rfl
end Go.Proofs.YtmehkneofinmiaaGreatDoor
namespace Go.Proofs.YtmehkneofinmiaaGreatDoor
open Go.RowKit
attribute [local go_sem ↓] appS_is
attribute [local go_sem] app_run
def recV (k t:Nat)(key:List UInt8)(n:Nat)(body:List UInt8):Value:=.agg #[.int .u8 k,.int .i64 t,.string ⟨key.toArray⟩,.int .i64 n,.string ⟨body.toArray⟩]
theorem push_any (p:Nat)(E:Ent)(vs:Value)(k t n:Nat)(key body:List UInt8)(w:World)(h:EntAt w p E vs)(hp:vs.ownBlock≠some p)(hl:E.vers.length<1000000)(hb:body.length<1000000) :
 Calls Tryz.prog 258 #[.pointer (some ⟨p,0,none⟩),recV k t key n body] w fun e w'=>∃ g cap,(∃ v,e=.returned v) /\
  EntAt w' p ⟨E.key,n,E.vers++[⟨n,t,k==2,body⟩]⟩ (.slice (some ⟨g,0,none⟩) (E.vers.length+1) cap)/\(vs.ownBlock=some g\/w.heap.size<=g)/\Off (fun k=>k=p\/vs.ownBlock=some k) w w':=by
 obtain⟨i0,hi0,hz0,hz1,hz2⟩:=info_parts info154m
 have e1:=h.c1
 have e2:=h.c2
 have hlt:=h.lt
 have f1:=h.fz 1
 have f2:=h.fz 2
 have HE:Hid (EntAt w p E vs):=h
 clear h
 unfold recV
 go_enter Tryz.func258,Tryz.ntmps258
 go_wp2_with fail
 obtain⟨x,hx⟩:∃ x,x=((w.setCell ⟨p,1,none⟩ (.int .i64 (n:Int))).alloc (.cells #[.int .u8 (k:Int),.int .i64 (t:Int),.string ⟨key.toArray⟩,.int .i64 (n:Int),.string ⟨body.toArray⟩] 181)):=⟨_,rfl⟩
 rw[<- hx]
 have hsz:x.heap.size=w.heap.size+1:=by rw[hx];simp
 have hO:Off (fun k=>k=p\/vs.ownBlock=some k) w x:=by rw[hx];exact ((Off.refl _ _).set p 1 _ (Or.inl (Or.inl rfl))).alloc _
 have hB:x.heap[p]?=some (.cells #[.string ⟨E.key.toArray⟩,.int .i64 (n:Int),vs] 230 (0,0)):=by
  rw[hx]
  rw[heap_alloc_old _ _ (by simpa using hlt)]
  exact heap_set (i:=1) HE.out.blk
 have hR:x.ownsRow 0 174 4 vs E.vers.length (rowOf E.vers):=by
  have h0:=HE.out.row
  refine⟨h0.1,?_⟩
  rcases h0.2 with h0|⟨g,cap,cur,hv,h1,hg,h2⟩
  ·exact Or.inl h0
  ·refine Or.inr ⟨g,cap,cur,hv,h1,?_,h2⟩
   have hne:p≠g:=fun e=>by subst e;apply hp;rw[hv];rfl
   rw[hx,heap_alloc_old _ _ (by simpa using (Array.getElem?_eq_some_iff.1 hg).1),<- hg]
   simp[World.setCell,Array.getElem?_modify,hne]
 have hC:x.heap[w.heap.size]?=some (.cells #[.int .u8 (k:Int),.int .i64 (t:Int),.string ⟨key.toArray⟩,.int .i64 (n:Int),.string ⟨body.toArray⟩] 181 (0,0)):=by
  rw[hx]
  have:=heap_alloc_new (w.setCell ⟨p,1,none⟩ (.int .i64 (n:Int))) (.cells #[.int .u8 (k:Int),.int .i64 (t:Int),.string ⟨key.toArray⟩,.int .i64 (n:Int),.string ⟨body.toArray⟩] 181)
  simpa using this
 have hnb:vs.ownBlock≠some w.heap.size:=by
  intro e
  rcases HE.out.row.2 with ⟨rfl,_⟩|⟨g,cap,cur,rfl,_,hg,_⟩
  ·cases e
  ·cases e
   exact absurd (Array.getElem?_eq_some_iff.1 hg).1 (Nat.lt_irrefl _)
 clear hx e1 e2 f1 f2
 have hpn:p≠w.heap.size:=by omega
 have HB:Hid _:=hB
 have HC:Hid _:=hC
 have HR:Hid _:=hR
 have HO:Hid _:=hO
 clear hB hC hR hO
 have HSZ:Hid (x.heap.size=w.heap.size+1):=hsz
 have hltx:p<x.heap.size:=by omega
 have hbx:w.heap.size<x.heap.size:=by omega
 clear hsz
 have e2:x.cell? ⟨p,2,none⟩=some vs:=by simp[World.cell?,HB.out]
 have f2:x.frozen? ⟨p,2,none⟩=false:=by simp[World.frozen?,HB.out]
 have b0:x.cell? ⟨w.heap.size,0,none⟩=some (.int .u8 (k:Int)):=by simp[World.cell?,HC.out]
 have b1:x.cell? ⟨w.heap.size,1,none⟩=some (.int .i64 (t:Int)):=by simp[World.cell?,HC.out]
 have b3:x.cell? ⟨w.heap.size,3,none⟩=some (.int .i64 (n:Int)):=by simp[World.cell?,HC.out]
 have b4:x.cell? ⟨w.heap.size,4,none⟩=some (.string ⟨body.toArray⟩):=by simp[World.cell?,HC.out]
 have hbs:(⟨body.toArray⟩:ByteArray).size<=281474976710656:=by simp only[ByteArray.size,List.size_toArray];omega
 have HT:Hid (∀ w1,Below x.drew.heap.size x.drew w1->∃ gg cap w2,(w1.cell? ⟨p,2,none⟩=some vs/\(w1.alloc (.cells #[.int .i64 (n:Int),.int .i64 (t:Int),.bool ((k:Int)==2),.string ⟨body.toArray⟩] 174)).cell? ⟨p,2,none⟩=some vs) /\
  AppOk Tryz.prog 228 228 (w1.alloc (.cells #[.int .i64 (n:Int),.int .i64 (t:Int),.bool ((k:Int)==2),.string ⟨body.toArray⟩] 174)) vs (.slice (some ⟨w1.heap.size,0,none⟩) 1 1) /\
  (appR Tryz.prog 228 228 (w1.alloc (.cells #[.int .i64 (n:Int),.int .i64 (t:Int),.bool ((k:Int)==2),.string ⟨body.toArray⟩] 174)) vs (.slice (some ⟨w1.heap.size,0,none⟩) 1 1)).1=.slice (some ⟨gg,0,none⟩) (E.vers.length+1) cap /\
  (appR Tryz.prog 228 228 (w1.alloc (.cells #[.int .i64 (n:Int),.int .i64 (t:Int),.bool ((k:Int)==2),.string ⟨body.toArray⟩] 174)) vs (.slice (some ⟨w1.heap.size,0,none⟩) 1 1)).2=w2 /\
  ((w1.alloc (.cells #[.int .i64 (n:Int),.int .i64 (t:Int),.bool ((k:Int)==2),.string ⟨body.toArray⟩] 174)).cell? ⟨w.heap.size,0,none⟩=some (.int .u8 (k:Int))/\(w1.alloc (.cells #[.int .i64 (n:Int),.int .i64 (t:Int),.bool ((k:Int)==2),.string ⟨body.toArray⟩] 174)).cell? ⟨w.heap.size,1,none⟩=some (.int .i64 (t:Int))/\(w1.alloc (.cells #[.int .i64 (n:Int),.int .i64 (t:Int),.bool ((k:Int)==2),.string ⟨body.toArray⟩] 174)).cell? ⟨w.heap.size,3,none⟩=some (.int .i64 (n:Int))/\(w1.alloc (.cells #[.int .i64 (n:Int),.int .i64 (t:Int),.bool ((k:Int)==2),.string ⟨body.toArray⟩] 174)).cell? ⟨w.heap.size,4,none⟩=some (.string ⟨body.toArray⟩))/\w2.cell? ⟨p,2,none⟩=some vs/\w2.frozen? ⟨p,2,none⟩=false /\
  ((w2.cell? ⟨w.heap.size,0,none⟩=some (.int .u8 (k:Int))/\w2.cell? ⟨w.heap.size,1,none⟩=some (.int .i64 (t:Int))/\w2.cell? ⟨w.heap.size,3,none⟩=some (.int .i64 (n:Int))/\w2.cell? ⟨w.heap.size,4,none⟩=some (.string ⟨body.toArray⟩))/\((w2.setCell ⟨p,2,none⟩ (.slice (some ⟨gg,0,none⟩) (E.vers.length+1) cap)).cell? ⟨w.heap.size,0,none⟩=some (.int .u8 (k:Int))/\(w2.setCell ⟨p,2,none⟩ (.slice (some ⟨gg,0,none⟩) (E.vers.length+1) cap)).cell? ⟨w.heap.size,1,none⟩=some (.int .i64 (t:Int))/\(w2.setCell ⟨p,2,none⟩ (.slice (some ⟨gg,0,none⟩) (E.vers.length+1) cap)).cell? ⟨w.heap.size,3,none⟩=some (.int .i64 (n:Int))/\(w2.setCell ⟨p,2,none⟩ (.slice (some ⟨gg,0,none⟩) (E.vers.length+1) cap)).cell? ⟨w.heap.size,4,none⟩=some (.string ⟨body.toArray⟩))) /\
  (EntAt (w2.setCell ⟨p,2,none⟩ (.slice (some ⟨gg,0,none⟩) (E.vers.length+1) cap)) p ⟨E.key,n,E.vers++[⟨n,t,k==2,body⟩]⟩ (.slice (some ⟨gg,0,none⟩) (E.vers.length+1) cap)/\(vs.ownBlock=some gg\/w.heap.size<=gg)/\Off (fun k=>k=p\/vs.ownBlock=some k) w (w2.setCell ⟨p,2,none⟩ (.slice (some ⟨gg,0,none⟩) (E.vers.length+1) cap)))):=by
  intro w1 hb1
  have hb1:Below x.heap.size x w1:=⟨hb1.os,hb1.tape,hb1.output,hb1.size,hb1.block⟩
  have hsz1:x.heap.size<=w1.heap.size:=hb1.size
  have hB1:w1.heap[p]?=_:=(hb1.block p hltx).trans HB.out
  have hC1:w1.heap[w.heap.size]?=_:=(hb1.block _ hbx).trans HC.out
  have hR1:=row_below HR.out hb1
  have hp1:p<w1.heap.size:=Nat.lt_of_lt_of_le hltx hsz1
  have hw1:w.heap.size<w1.heap.size:=Nat.lt_of_lt_of_le hbx hsz1
  obtain⟨gg,cap,w2,hrun,hown1,hgrow,hat,hlt2⟩:=run_append_lies (P:=Tryz.prog) (w1.alloc (.cells #[.int .i64 (n:Int),.int .i64 (t:Int),.bool ((k:Int)==2),.string ⟨body.toArray⟩] 174)) 228 228 0 174 i0 _ 4 40 Tryz.underlying228 hi0 hz0 hz1 hz2 rfl (by omega) vs E.vers.length (rowOf E.vers) (World.ownsRow.alloc hR1 _)
   ⟨w1.heap.size,0,none⟩ 1 1 [.int .i64 (n:Int),.int .i64 (t:Int),.bool ((k:Int)==2),.string ⟨body.toArray⟩] (by rfl) (World.news_of_block (cs:=#[.int .i64 (n:Int),.int .i64 (t:Int),.bool ((k:Int)==2),.string ⟨body.toArray⟩]) (t:=174) (fr:=(0,0)) (heap_alloc_new w1 _)) (by simp[Value.oneCell'])
   (by omega) (by simp only[maxLen];omega) (by omega) (by simp) _ rfl
  have hpa:p<(w1.alloc (.cells #[.int .i64 (n:Int),.int .i64 (t:Int),.bool ((k:Int)==2),.string ⟨body.toArray⟩] 174)).heap.size:=by simp;omega
  have hwa:w.heap.size<(w1.alloc (.cells #[.int .i64 (n:Int),.int .i64 (t:Int),.bool ((k:Int)==2),.string ⟨body.toArray⟩] 174)).heap.size:=by simp;omega
  have hB2:w2.heap[p]?=_:=((hgrow.block p hpa (Ne.symm hp)).trans (heap_alloc_old _ _ hp1)).trans hB1
  have hC2:w2.heap[w.heap.size]?=_:=((hgrow.block _ hwa (Ne.symm hnb)).trans (heap_alloc_old _ _ hw1)).trans hC1
  have hCa:(w1.alloc (.cells #[.int .i64 (n:Int),.int .i64 (t:Int),.bool ((k:Int)==2),.string ⟨body.toArray⟩] 174)).heap[w.heap.size]?=_:=(heap_alloc_old _ _ hw1).trans hC1
  have hBa:(w1.alloc (.cells #[.int .i64 (n:Int),.int .i64 (t:Int),.bool ((k:Int)==2),.string ⟨body.toArray⟩] 174)).heap[p]?=_:=(heap_alloc_old _ _ hp1).trans hB1
  have hC3:(w2.setCell ⟨p,2,none⟩ (.slice (some ⟨gg,0,none⟩) (E.vers.length+1) cap)).heap[w.heap.size]?=some (.cells #[.int .u8 (k:Int),.int .i64 (t:Int),.string ⟨key.toArray⟩,.int .i64 (n:Int),.string ⟨body.toArray⟩] 181 (0,0)):=by
   rw[<- hC2]
   simp[World.setCell,Array.getElem?_modify,hpn]
  obtain⟨hok,hr1,hr2⟩:=app_is hrun
  have hgs:vs.ownBlock=some gg\/w.heap.size<=gg:=by
   rcases hat with h1|h1
   ·exact Or.inl h1
   ·right
    have h2:gg=w1.heap.size+1:=by rw[h1];simp
    omega
  have hne:p≠gg:=by
   intro e
   rcases hgs with h1|h1
   ·exact hp (e ▸ h1)
   ·omega
  refine⟨gg,cap,w2,⟨by simp[World.cell?,hB1],by simp[World.cell?,hBa]⟩,hok,hr1,hr2,⟨by simp[World.cell?,hCa],by simp[World.cell?,hCa],by simp[World.cell?,hCa],by simp[World.cell?,hCa]⟩,by simp[World.cell?,hB2],by simp[World.frozen?,hB2],
   ⟨⟨by simp[World.cell?,hC2],by simp[World.cell?,hC2],by simp[World.cell?,hC2],by simp[World.cell?,hC2]⟩,⟨by simp only[World.cell?,hC3];simp,by simp only[World.cell?,hC3];simp,by simp only[World.cell?,hC3];simp,by simp only[World.cell?,hC3];simp⟩⟩,⟨heap_set (i:=2) hB2,?_⟩,hgs,?_⟩
  ·have e1:rowOf E.vers++[.int .i64 (n:Int),.int .i64 (t:Int),.bool ((k:Int)==2),.string ⟨body.toArray⟩]=rowOf (E.vers++[⟨n,t,k==2,body⟩]):=by
    have hmk:((k:Int)==2)=(k==2):=by
     rw[Bool.eq_iff_iff]
     simp only[beq_iff_eq]
     omega
    simp[rowOf,verCells,hmk]
   rw[e1] at hown1
   simp only[List.length_append,List.length_singleton]
   refine⟨hown1.1,?_⟩
   rcases hown1.2 with ⟨hc,_⟩|⟨g,cap',cur,hv,h1,hg,h2⟩
   ·cases hc
   ·cases hv
    refine Or.inr ⟨gg,cap,cur,rfl,h1,?_,h2⟩
    rw[<- hg]
    simp[World.setCell,Array.getElem?_modify,hne]
  ·exact (((HO.out.trans (Off.of_below hb1)).alloc _).grown hgrow (fun k hk=>Or.inl (Or.inr hk))).set p 2 _ (Or.inl (Or.inl rfl))
 refine wp_region_held_drew (S:=(fun y=>y.cell? ⟨w.heap.size,0,none⟩=some (.int .u8 (k:Int))/\y.cell? ⟨w.heap.size,1,none⟩=some (.int .i64 (t:Int))/\y.cell? ⟨w.heap.size,3,none⟩=some (.int .i64 (n:Int))/\y.cell? ⟨w.heap.size,4,none⟩=some (.string ⟨body.toArray⟩))) (by kernel_rfl) ⟨b0,b1,b3,b4⟩ (fun hHeld=>?_)
 refine tkH 0 rfl (by kernel_rfl) (fun _ _ _ h=>h) (Or.inl ⟨by rfl,fun y hSw=>by go_simp;try with_reducible rfl⟩) hHeld ?_
 try simp only[Act.put]
 refine tkH 1 rfl (by kernel_rfl) (fun _ _ _ h=>h) (Or.inl ⟨by rfl,fun y hSw=>by go_simp;try with_reducible rfl⟩) hHeld ?_
 try simp only[Act.put]
 refine tkH 2 rfl (by kernel_rfl) (fun _ _ _ h=>h) (Or.inl ⟨by rfl,fun y hSw=>by go_simp;try with_reducible rfl⟩) hHeld ?_
 try simp only[Act.put]
 refine tkH 3 rfl (by kernel_rfl) (fun _ _ _ h=>h) (Or.inl ⟨by rfl,fun y hSw=>by go_simp;try with_reducible rfl⟩) hHeld ?_
 try simp only[Act.put]
 refine tkH 5 rfl (by kernel_rfl) (fun _ _ _ h=>h) (Or.inl ⟨by rfl,fun y hSw=>by go_simp;try with_reducible rfl⟩) hHeld ?_
 try simp only[Act.put]
 refine tkH 6 rfl (by kernel_rfl) (fun _ _ _ h=>h) (Or.inl ⟨by rfl,fun y hSw=>by go_simp;try with_reducible rfl⟩) hHeld ?_
 try simp only[Act.put]
 refine tkH 7 rfl (by kernel_rfl) (fun _ _ _ h=>h) (Or.inl ⟨by rfl,fun y hSw=>by go_simp;try with_reducible rfl⟩) hHeld ?_
 try simp only[Act.put]
 refine tkH 8 rfl (by kernel_rfl) (fun _ _ _ h=>h) (Or.inl ⟨by rfl,fun y hSw=>by go_simp;try with_reducible rfl⟩) hHeld ?_
 try simp only[Act.put]
 refine tkH 9 rfl (by kernel_rfl) (fun _ _ _ h=>h) (Or.inl ⟨by rfl,fun y hSw=>by go_simp;try with_reducible rfl⟩) hHeld ?_
 try simp only[Act.put]
 refine tkH 10 rfl (by kernel_rfl) (fun _ _ _ h=>h) (Or.inl ⟨by rfl,fun y hSw=>by go_simp;try with_reducible rfl⟩) hHeld ?_
 try simp only[Act.put]
 refine tkH 11 rfl (by kernel_rfl) (fun _ _ _ h=>h) (Or.inl ⟨by rfl,fun y hSw=>by go_simp;try with_reducible rfl⟩) hHeld ?_
 try simp only[Act.put]
 refine tkH 12 rfl (by kernel_rfl) (fun _ _ _ h=>h) (Or.inl ⟨by rfl,fun y hSw=>by go_simp;try with_reducible rfl⟩) hHeld ?_
 try simp only[Act.put]
 refine tkH 13 rfl (by kernel_rfl) (fun _ _ _ h=>h) (Or.inl ⟨by rfl,fun y hSw=>by go_simp;try with_reducible rfl⟩) hHeld ?_
 try simp only[Act.put]
 refine wpAnyH_ready (rs:=[4,14]) (by kernel_rfl) (by simp) ?_
 refine AllReadyH.cons rfl (fun K hK=>?_) (AllReadyH.cons rfl (fun K hK=>?_) AllReadyH.nil)
 ·go_simp
  refine hK.out _ _ hHeld (fun _=>?_)
  clear hK K
  try simp only[Act.put]
  refine wpAnyH_ready (rs:=[14]) (by kernel_rfl) (by simp) ?_
  refine AllReadyH.cons rfl (fun K hK=>?_) AllReadyH.nil
  go_simp
  refine (clone_any ⟨body.toArray⟩ _ hbs).mono ?_
  rintro e w1 ⟨rfl,hb1⟩
  have hS1:w1.cell? ⟨w.heap.size,0,none⟩=some (.int .u8 (k:Int))/\w1.cell? ⟨w.heap.size,1,none⟩=some (.int .i64 (t:Int))/\w1.cell? ⟨w.heap.size,3,none⟩=some (.int .i64 (n:Int))/\w1.cell? ⟨w.heap.size,4,none⟩=some (.string ⟨body.toArray⟩) :=
   ⟨(hb1.cell (p:=⟨w.heap.size,0,none⟩) hbx).trans b0,(hb1.cell (p:=⟨w.heap.size,1,none⟩) hbx).trans b1,(hb1.cell (p:=⟨w.heap.size,3,none⟩) hbx).trans b3,(hb1.cell (p:=⟨w.heap.size,4,none⟩) hbx).trans b4⟩
  obtain⟨gg,cap,w2,hP⟩:=HT.out w1 hb1
  obtain⟨⟨g2,g3⟩,hok,hr1,hr2,hS2,c4,f4,hS3,hfin⟩:=hP
  have HF:Hid _:=hfin
  clear hfin
  try go_wp2_with fail
  refine hK.out _ _ hS1 (fun hHeld1=>?_)
  clear hK K
  try simp only[Act.put]
  refine tkH 15 rfl (by kernel_rfl) (fun _ _ _ h=>h) (Or.inl ⟨by rfl,fun y hSw=>by go_simp;try with_reducible rfl⟩) hHeld1 ?_
  try simp only[Act.put]
  refine wpAnyH_ready (rs:=[16]) (by kernel_rfl) (by simp) ?_
  refine AllReadyH.cons rfl (fun K hK=>?_) AllReadyH.nil
  go_simp
  refine hK.out _ _ hS2 (fun hHeld2=>?_)
  clear hK K
  try simp only[Act.put]
  refine wpAnyH_ready (rs:=[17]) (by kernel_rfl) (by simp) ?_
  refine AllReadyH.cons rfl (fun K hK=>?_) AllReadyH.nil
  go_simp
  refine hK.out _ _ hS3.1 (fun hHeld3=>?_)
  clear hK K
  try simp only[Act.put]
  refine tkH 18 rfl (by kernel_rfl) (fun _ _ _ h=>h) (Or.inl ⟨by rfl,fun y hSw=>by go_simp;try with_reducible rfl⟩) hHeld3 ?_
  try simp only[Act.put]
  refine tkH 19 rfl (by kernel_rfl) (fun _ _ _ h=>h) (Or.inl ⟨by rfl,fun y hSw=>by go_simp;try with_reducible rfl⟩) hHeld3 ?_
  try simp only[Act.put]
  refine wpAnyH_ready (rs:=[20]) (by kernel_rfl) (by simp) ?_
  refine AllReadyH.cons rfl (fun K hK=>?_) AllReadyH.nil
  go_simp
  refine hK.out _ _ hS3.2 (fun hHeld4=>?_)
  clear hK K
  try simp only[Act.put]
  refine wpAnyH_done (by kernel_rfl) ?_ _
  go_wp2
  exact bodyPost_end (results_none Tryz.results258 _ _ _) rfl ⟨gg,cap,⟨_,rfl⟩,HF.out⟩
 ·go_simp
  refine (clone_any ⟨body.toArray⟩ _ hbs).mono ?_
  rintro e w1 ⟨rfl,hb1⟩
  have hS1:w1.cell? ⟨w.heap.size,0,none⟩=some (.int .u8 (k:Int))/\w1.cell? ⟨w.heap.size,1,none⟩=some (.int .i64 (t:Int))/\w1.cell? ⟨w.heap.size,3,none⟩=some (.int .i64 (n:Int))/\w1.cell? ⟨w.heap.size,4,none⟩=some (.string ⟨body.toArray⟩) :=
   ⟨(hb1.cell (p:=⟨w.heap.size,0,none⟩) hbx).trans b0,(hb1.cell (p:=⟨w.heap.size,1,none⟩) hbx).trans b1,(hb1.cell (p:=⟨w.heap.size,3,none⟩) hbx).trans b3,(hb1.cell (p:=⟨w.heap.size,4,none⟩) hbx).trans b4⟩
  obtain⟨gg,cap,w2,hP⟩:=HT.out w1 hb1
  obtain⟨⟨g2,g3⟩,hok,hr1,hr2,hS2,c4,f4,hS3,hfin⟩:=hP
  have HF:Hid _:=hfin
  clear hfin
  try go_wp2_with fail
  refine hK.out _ _ hS1 (fun hHeld1=>?_)
  clear hK K
  try simp only[Act.put]
  refine tkH 15 rfl (by kernel_rfl) (fun _ _ _ h=>h) (Or.inl ⟨by rfl,fun y hSw=>by go_simp;try with_reducible rfl⟩) hHeld1 ?_
  try simp only[Act.put]
  refine wpAnyH_ready (rs:=[4,16]) (by kernel_rfl) (by simp) ?_
  refine AllReadyH.cons rfl (fun K hK=>?_) (AllReadyH.cons rfl (fun K hK=>?_) AllReadyH.nil)
  ·go_simp
   refine hK.out _ _ hHeld1 (fun _=>?_)
   clear hK K
   try simp only[Act.put]
   refine wpAnyH_ready (rs:=[16]) (by kernel_rfl) (by simp) ?_
   refine AllReadyH.cons rfl (fun K hK=>?_) AllReadyH.nil
   go_simp
   refine hK.out _ _ hS2 (fun hHeld2=>?_)
   clear hK K
   try simp only[Act.put]
   refine wpAnyH_ready (rs:=[17]) (by kernel_rfl) (by simp) ?_
   refine AllReadyH.cons rfl (fun K hK=>?_) AllReadyH.nil
   go_simp
   refine hK.out _ _ hS3.1 (fun hHeld3=>?_)
   clear hK K
   try simp only[Act.put]
   refine tkH 18 rfl (by kernel_rfl) (fun _ _ _ h=>h) (Or.inl ⟨by rfl,fun y hSw=>by go_simp;try with_reducible rfl⟩) hHeld3 ?_
   try simp only[Act.put]
   refine tkH 19 rfl (by kernel_rfl) (fun _ _ _ h=>h) (Or.inl ⟨by rfl,fun y hSw=>by go_simp;try with_reducible rfl⟩) hHeld3 ?_
   try simp only[Act.put]
   refine wpAnyH_ready (rs:=[20]) (by kernel_rfl) (by simp) ?_
   refine AllReadyH.cons rfl (fun K hK=>?_) AllReadyH.nil
   go_simp
   refine hK.out _ _ hS3.2 (fun hHeld4=>?_)
   clear hK K
   try simp only[Act.put]
   refine wpAnyH_done (by kernel_rfl) ?_ _
   go_wp2
   exact bodyPost_end (results_none Tryz.results258 _ _ _) rfl ⟨gg,cap,⟨_,rfl⟩,HF.out⟩
  ·go_simp
   refine hK.out _ _ hS2 (fun hHeld2=>?_)
   clear hK K
   try simp only[Act.put]
   refine wpAnyH_ready (rs:=[4]) (by kernel_rfl) (by simp) ?_
   refine AllReadyH.cons rfl (fun K hK=>?_) AllReadyH.nil
   go_simp
   refine hK.out _ _ hHeld2 (fun _=>?_)
   clear hK K
   try simp only[Act.put]
   refine wpAnyH_ready (rs:=[17]) (by kernel_rfl) (by simp) ?_
   refine AllReadyH.cons rfl (fun K hK=>?_) AllReadyH.nil
   go_simp
   refine hK.out _ _ hS3.1 (fun hHeld3=>?_)
   clear hK K
   try simp only[Act.put]
   refine tkH 18 rfl (by kernel_rfl) (fun _ _ _ h=>h) (Or.inl ⟨by rfl,fun y hSw=>by go_simp;try with_reducible rfl⟩) hHeld3 ?_
   try simp only[Act.put]
   refine tkH 19 rfl (by kernel_rfl) (fun _ _ _ h=>h) (Or.inl ⟨by rfl,fun y hSw=>by go_simp;try with_reducible rfl⟩) hHeld3 ?_
   try simp only[Act.put]
   refine wpAnyH_ready (rs:=[20]) (by kernel_rfl) (by simp) ?_
   refine AllReadyH.cons rfl (fun K hK=>?_) AllReadyH.nil
   go_simp
   refine hK.out _ _ hS3.2 (fun hHeld4=>?_)
   clear hK K
   try simp only[Act.put]
   refine wpAnyH_done (by kernel_rfl) ?_ _
   go_wp2
   exact bodyPost_end (results_none Tryz.results258 _ _ _) rfl ⟨gg,cap,⟨_,rfl⟩,HF.out⟩
end Go.Proofs.YtmehkneofinmiaaGreatDoor

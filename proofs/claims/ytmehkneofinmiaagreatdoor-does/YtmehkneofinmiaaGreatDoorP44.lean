/-
 Texts of this proof, part 44.
-/
import Derived.Test.YtmehkneofinmiaaGreatDoorP43
set_option maxRecDepth 100000
set_option maxHeartbeats 4000000
namespace Go.Proofs.YtmehkneofinmiaaGreatDoor
open Go.RowKit
theorem lineAt_parts:∀ (t:List UInt8) (x:List UInt8×List UInt8),lineAt t=some x->t=x.1++[13,10]++x.2/\x.1.any crlfB=false
 | [],_,h=>by cases h
 | c::l,x,h=>by
   rw[lineAt] at h
   split at h
   ·split at h
    ·rename_i h2
     cases h
     cases l with
     | nil=>cases h2.2
     | cons d r =>
       have:d=10:=by simpa using h2.2
       rw[h2.1,this]
       exact⟨rfl,rfl⟩
    ·cases h
   ·rename_i hc
    cases hl:lineAt l with
    | none=>rw[hl] at h;cases h
    | some y =>
      rw[hl] at h
      cases h
      obtain⟨h1,h2⟩:=lineAt_parts l y hl
      refine⟨?_,?_⟩
      ·show c::l=(c::y.1)++[13,10]++y.2
       rw[List.cons_append,List.cons_append,<- h1]
      ·rw[List.any_cons,h2,Bool.or_false]
       simpa using hc
def zRq (n:Nat):RReq:=⟨n,0,0,[],[],0,false,false,false,.slice none 0 0,false,false,.slice none 0 0,false,0,false,0,[]⟩
def okRq (m:Nat)(t:TgR)(c:Cst)(body:List UInt8):RReq:=⟨0,m,t.tg,t.key,t.after,t.v,m==3||m==4,c.hm,c.am,c.lm,c.hn,c.an,c.ln,c.hs,c.si,c.hu,c.ul,body⟩
def RdPost (l:List UInt8)(w:World)(e:Ending)(w':World):Prop :=
 Below w.heap.size w w'/\((∃ n:Nat,readR l=.error n/\e=.returned (.agg (rqCells (zRq n))))\/(∃ m t k body c g,readR l=.ok (m,t,k,body)/\e=.returned (.agg (rqCells (okRq m t c body)))/\w.heap.size<=g/\g<w'.heap.size/\Rq w' g c k))
theorem hiRq:(Tryz.prog.info? 130).map (·.size)=some 21:=by kernel_rfl
theorem allRq (r:RReq)(h1:r.lm.oneCell'=true)(h2:r.ln.oneCell'=true):(rqCells r).all (·.oneCell')=true:=by
 rw[Array.all_eq_true]
 intro i hi
 have hs:(rqCells r).size=21:=rfl
 rcases (by omega:i=9\/i=12\/i=0\/i=1\/i=2\/i=3\/i=4\/i=5\/i=6\/i=7\/i=8\/i=10\/i=11\/i=13\/i=14\/i=15\/i=16\/i=17\/i=18\/i=19\/i=20) with h|h|h|h|h|h|h|h|h|h|h|h|h|h|h|h|h|h|h|h|h<;>subst h
 ·exact h1
 ·exact h2
 all_goals rfl
theorem zl0:(#[.int .i64 0,.int .i64 0,.int .i64 0,.string ⟨#[]⟩,.string ⟨#[]⟩,.int .i64 0,.bool false,.bool false,.bool false,.slice none 0 0,.bool false,.bool false,.slice none 0 0,.bool false,.int .i64 0,.bool false,.int .i64 0,.bool false,.string ⟨#[]⟩,.int .i64 0,.string ⟨#[]⟩]:Array Value)=rqCells (zRq 0):=rfl
theorem zl400:(#[.int .i64 400,.int .i64 0,.int .i64 0,.string ⟨#[]⟩,.string ⟨#[]⟩,.int .i64 0,.bool false,.bool false,.bool false,.slice none 0 0,.bool false,.bool false,.slice none 0 0,.bool false,.int .i64 0,.bool false,.int .i64 0,.bool false,.string ⟨#[]⟩,.int .i64 0,.string ⟨#[]⟩]:Array Value)=rqCells (zRq 400):=rfl
theorem Rl.one {x:World}{g:Nat}{h a:Bool}{l:Value}{s:Bool}{o:Option (Bool×TagL)}(r:Rl x g h a l s o):l.oneCell'=true:=by
 obtain⟨_,_,r3⟩:=r
 cases o with
 | none=>rw[r3.2];rfl
 | some p =>
   rcases r3.2.2 with ⟨h0,_⟩|⟨_,_,_,hv,_⟩
   ·rw[h0];rfl
   ·rw[hv];rfl
theorem results_rread (tmps:Array Value)(x:World)(g:Nat)(vs:Array Value)(hp:tmps.getD 2 undef=.pointer (some ⟨g,0,none⟩))(hg:x.heap[g]?=some (.cells vs 130 (0,0)))(hs:vs.size=21) :
 (results Tryz.f54 tmps).run Tryz.prog x=.ok (.agg vs) x:=by
 have hp':tmps[2]?.getD undef=.pointer (some ⟨g,0,none⟩):=by simpa using hp
 have hr:=run_loadVar_row (P:=Tryz.prog) x g 130 130 vs (0,0) _ hg Tryz.underlying130 rfl (by rw[hs];exact hiRq)
 simp[results,Tryz.results54,hp',asAddr,hr]
structure Rz (w x:World):Prop where
 b:Below w.heap.size w x
 res:x.heap[w.heap.size]?=some (.cells (rqCells (zRq 0)) 130 (0,0))
 bad:x.heap[w.heap.size+1]?=some (.cells (rqCells (zRq 400)) 130 (0,0))
theorem Rz.lt {w x:World}(h:Rz w x):w.heap.size+1<x.heap.size:=(Array.getElem?_eq_some_iff.1 h.bad).1
theorem Rz.off {w x y:World}{S:Nat->Prop}(h:Rz w x)(ho:Off S x y)(hS:∀ k,S k->w.heap.size+1<k):Rz w y:=by
 have hl:=h.lt
 exact⟨⟨ho.os.trans h.b.os,ho.tape.trans h.b.tape,ho.output.trans h.b.output,Nat.le_trans h.b.size ho.size,fun k hk=>(ho.block k (by omega) (fun e=>by have:=hS k e;omega)).trans (h.b.block k hk)⟩,(ho.block _ (by omega) (fun e=>by have:=hS _ e;omega)).trans h.res,(ho.block _ (by omega) (fun e=>by have:=hS _ e;omega)).trans h.bad⟩
theorem Rz.row {w x:World}(h:Rz w x)(us:Array Value):Below w.heap.size w (x.setRow w.heap.size us)/\(x.setRow w.heap.size us).heap[w.heap.size]?=some (.cells us 130 (0,0)) :=
 ⟨below_setRow h.b (Nat.le_refl _) us,setRow_heap x _ _ us 130 (0,0) h.res⟩
theorem rr1 {l:List UInt8}(h:2000<l.length):readR l=.error 413:=by unfold readR;rw[if_pos h]
theorem rr2 {l:List UInt8}(h:¬ 2000<l.length)(hp:parseR l=none):readR l=.error 400:=by unfold readR;rw[if_neg h,hp]
theorem pr1 {l:List UInt8}(h:lineAt l=none):parseR l=none:=by unfold parseR;rw[h]
theorem pr2 {l:List UInt8}{x:List UInt8×List UInt8}(h:lineAt l=some x)(h2:firstR x.1=none):parseR l=none:=by unfold parseR;rw[h];simp only;rw[h2]
theorem pr3 {l:List UInt8}{x:List UInt8×List UInt8}{y:Nat×TgR}(h:lineAt l=some x)(h2:firstR x.1=some y)(h3:fieldsR (x.2.length+1) k0 x.2=none):parseR l=none:=by unfold parseR;rw[h];simp only;rw[h2];simp only;rw[h3]
theorem pr4 {l:List UInt8}{x:List UInt8×List UInt8}{y:Nat×TgR}{z:Cnd×List UInt8}(h:lineAt l=some x)(h2:firstR x.1=some y)(h3:fieldsR (x.2.length+1) k0 x.2=some z):parseR l=some (y.1,y.2,z.1,z.2):=by unfold parseR;rw[h];simp only;rw[h2];simp only;rw[h3]
theorem rr3 {l:List UInt8}{m:Nat}{t:TgR}{k:Cnd}{body:List UInt8}(h:¬ 2000<l.length)(hp:parseR l=some (m,t,k,body))(hb:body≠[]/\¬ (m=3/\t.tg=2)):readR l=.error 400:=by unfold readR;rw[if_neg h,hp];simp only;rw[if_pos hb]
theorem rr4 {l:List UInt8}{m:Nat}{t:TgR}{k:Cnd}{body:List UInt8}(h:¬ 2000<l.length)(hp:parseR l=some (m,t,k,body))(hb:¬ (body≠[]/\¬ (m=3/\t.tg=2)))(h4:400<body.length):readR l=.error 413:=by unfold readR;rw[if_neg h,hp];simp only;rw[if_neg hb,if_pos h4]
theorem rr5 {l:List UInt8}{m:Nat}{t:TgR}{k:Cnd}{body:List UInt8}(h:¬ 2000<l.length)(hp:parseR l=some (m,t,k,body))(hb:¬ (body≠[]/\¬ (m=3/\t.tg=2)))(h4:¬ 400<body.length)(hf:fitR m t.tg=false):readR l=.error 405:=by unfold readR;rw[if_neg h,hp];simp only;rw[if_neg hb,if_neg h4,if_neg (by rw[hf];exact Bool.false_ne_true)]
theorem rr6 {l:List UInt8}{m:Nat}{t:TgR}{k:Cnd}{body:List UInt8}(h:¬ 2000<l.length)(hp:parseR l=some (m,t,k,body))(hb:¬ (body≠[]/\¬ (m=3/\t.tg=2)))(h4:¬ 400<body.length)(hf:fitR m t.tg=true):readR l=.ok (m,t,k,body):=by unfold readR;rw[if_neg h,hp];simp only;rw[if_neg hb,if_neg h4,if_pos hf]
theorem seen0 (RC:Array Value)(h:∀ i,i≠1->i≠2->i≠3->i≠4->i≠5->RC[i]?=(rqCells (zRq 0))[i]?):∀ i,1<=i->i<=10->RC[i+6]?=some (z0.cell i):=by
 intro i h1 h2
 rw[h (i+6) (by omega) (by omega) (by omega) (by omega) (by omega)]
 rcases (by omega:i=1\/i=2\/i=3\/i=4\/i=5\/i=6\/i=7\/i=8\/i=9\/i=10) with rfl|rfl|rfl|rfl|rfl|rfl|rfl|rfl|rfl|rfl<;>rfl
theorem rq0 (x:World)(g:Nat):Rq x g z0 k0:=⟨⟨rfl,rfl,rfl,rfl⟩,⟨rfl,rfl,rfl,rfl⟩,⟨rfl,rfl,rfl⟩,⟨rfl,rfl,rfl⟩⟩
theorem arr21 {A:Array Value}{r:RReq}(hs:A.size=21)(h:∀ i,i<21->A[i]?=(rqCells r)[i]?):A=rqCells r:=by
 apply Array.ext_getElem?
 intro i
 by_cases hi:i<21
 ·exact h i hi
 ·rw[Array.getElem?_eq_none (by omega),Array.getElem?_eq_none (by show 21<=i;omega)]
theorem okCells {RC1 RC:Array Value}{m:Nat}{t:TgR}{c:Cst}{body:List UInt8}(hs:RC.size=21)(h0:∀ i,i≠1->i≠2->i≠3->i≠4->i≠5->RC1[i]?=(rqCells (zRq 0))[i]?)
 (h1:RC1[1]?=some (.int .i64 (m:Int))/\RC1[2]?=some (.int .i64 (t.tg:Int))/\RC1[3]?=some (.string ⟨t.key.toArray⟩)/\RC1[4]?=some (.string ⟨t.after.toArray⟩)/\RC1[5]?=some (.int .i64 t.v))
 (hk:∀ i,(i<7\/16<i)->RC[i]?=RC1[i]?)(ha:∀ i,1<=i->i<=10->RC[i+6]?=some (c.cell i)) :
 (RC.setIfInBounds 20 (.string ⟨body.toArray⟩)).setIfInBounds 6 (.bool (m==3||m==4))=rqCells (okRq m t c body):=by
 refine arr21 (by rw[Array.size_setIfInBounds,Array.size_setIfInBounds];exact hs) (fun i hi=>?_)
 by_cases e6:i=6
 ·subst e6
  rw[Array.getElem?_setIfInBounds_self_of_lt (by rw[Array.size_setIfInBounds];omega)]
  rfl
 ·rw[Array.getElem?_setIfInBounds_ne (fun e=>e6 e.symm)]
  by_cases e20:i=20
  ·subst e20
   rw[Array.getElem?_setIfInBounds_self_of_lt (by omega)]
   rfl
  ·rw[Array.getElem?_setIfInBounds_ne (fun e=>e20 e.symm)]
   by_cases hm:7<=i/\i<=16
   ·obtain⟨j,rfl⟩:∃ j,i=j+6:=⟨i-6,by omega⟩
    rw[ha j (by omega) (by omega)]
    rcases (by omega:j=1\/j=2\/j=3\/j=4\/j=5\/j=6\/j=7\/j=8\/j=9\/j=10) with rfl|rfl|rfl|rfl|rfl|rfl|rfl|rfl|rfl|rfl<;>rfl
   ·rw[hk i (by omega)]
    rcases (by omega:i=0\/i=1\/i=2\/i=3\/i=4\/i=5\/i=17\/i=18\/i=19) with rfl|rfl|rfl|rfl|rfl|rfl|rfl|rfl|rfl
    ·rw[h0 0 (by omega) (by omega) (by omega) (by omega) (by omega)];rfl
    ·rw[h1.1];rfl
    ·rw[h1.2.1];rfl
    ·rw[h1.2.2.1];rfl
    ·rw[h1.2.2.2.1];rfl
    ·rw[h1.2.2.2.2];rfl
    ·rw[h0 17 (by omega) (by omega) (by omega) (by omega) (by omega)];rfl
    ·rw[h0 18 (by omega) (by omega) (by omega) (by omega) (by omega)];rfl
    ·rw[h0 19 (by omega) (by omega) (by omega) (by omega) (by omega)];rfl
theorem refRead_any (l:List UInt8)(w:World)(hT:Tab w)(hl:l.length<=9223372036854775807) :
 Calls Tryz.prog 54 #[.string ⟨l.toArray⟩] w (RdPost l w):=by
 have hls:(⟨l.toArray⟩:ByteArray).size=l.length:=Lib.size_eq _
 by_cases h2:2000<l.length
 ·have HR:Hid _:=rr1 h2
  have h2I:(2000:Int)<(l.length:Int):=by omega
  go_enter Tryz.func54,Tryz.ntmps54
  go_wp2_with (refine wpList_store_row rfl 130 (.tmp 2) (.tmp 13) rfl w.heap.size #[.int .i64 413,.int .i64 0,.int .i64 0,.string ⟨#[]⟩,.string ⟨#[]⟩,.int .i64 0,.bool false,.bool false,.bool false,.slice none 0 0,.bool false,.bool false,.slice none 0 0,.bool false,.int .i64 0,.bool false,.int .i64 0,.bool false,.string ⟨#[]⟩,.int .i64 0,.string ⟨#[]⟩] rfl rfl 130 #[.int .i64 0,.int .i64 0,.int .i64 0,.string ⟨#[]⟩,.string ⟨#[]⟩,.int .i64 0,.bool false,.bool false,.bool false,.slice none 0 0,.bool false,.bool false,.slice none 0 0,.bool false,.int .i64 0,.bool false,.int .i64 0,.bool false,.string ⟨#[]⟩,.int .i64 0,.string ⟨#[]⟩] (heap_alloc_last _ _) hiRq rfl (allRq (zRq 413) rfl rfl) ?_;rw[World.setRow_alloc_new])
  exact bodyPost_ret (v:=.agg #[.int .i64 413,.int .i64 0,.int .i64 0,.string ⟨#[]⟩,.string ⟨#[]⟩,.int .i64 0,.bool false,.bool false,.bool false,.slice none 0 0,.bool false,.bool false,.slice none 0 0,.bool false,.int .i64 0,.bool false,.int .i64 0,.bool false,.string ⟨#[]⟩,.int .i64 0,.string ⟨#[]⟩]) (results_rread _ _ w.heap.size _ rfl (heap_alloc_last _ _) rfl) rfl ⟨(Below.refl _ _).alloc (Nat.le_refl _) _,Or.inl ⟨413,HR.out,rfl⟩⟩
 ·have h2I:¬ (2000:Int)<(l.length:Int):=by omega
  have hal2:((w.alloc (.cells #[.int .i64 0,.int .i64 0,.int .i64 0,.string ⟨#[]⟩,.string ⟨#[]⟩,.int .i64 0,.bool false,.bool false,.bool false,.slice none 0 0,.bool false,.bool false,.slice none 0 0,.bool false,.int .i64 0,.bool false,.int .i64 0,.bool false,.string ⟨#[]⟩,.int .i64 0,.string ⟨#[]⟩] 130)).alloc (.cells #[.int .i64 0,.int .i64 0,.int .i64 0,.string ⟨#[]⟩,.string ⟨#[]⟩,.int .i64 0,.bool false,.bool false,.bool false,.slice none 0 0,.bool false,.bool false,.slice none 0 0,.bool false,.int .i64 0,.bool false,.int .i64 0,.bool false,.string ⟨#[]⟩,.int .i64 0,.string ⟨#[]⟩] 130)).heap[w.heap.size+1]?=some (.cells #[.int .i64 0,.int .i64 0,.int .i64 0,.string ⟨#[]⟩,.string ⟨#[]⟩,.int .i64 0,.bool false,.bool false,.bool false,.slice none 0 0,.bool false,.bool false,.slice none 0 0,.bool false,.int .i64 0,.bool false,.int .i64 0,.bool false,.string ⟨#[]⟩,.int .i64 0,.string ⟨#[]⟩] 130 (0,0)):=heap_alloc2_new w _ _
  have HX0:Hid (∀ X,X=(((w.alloc (.cells #[.int .i64 0,.int .i64 0,.int .i64 0,.string ⟨#[]⟩,.string ⟨#[]⟩,.int .i64 0,.bool false,.bool false,.bool false,.slice none 0 0,.bool false,.bool false,.slice none 0 0,.bool false,.int .i64 0,.bool false,.int .i64 0,.bool false,.string ⟨#[]⟩,.int .i64 0,.string ⟨#[]⟩] 130)).alloc (.cells #[.int .i64 0,.int .i64 0,.int .i64 0,.string ⟨#[]⟩,.string ⟨#[]⟩,.int .i64 0,.bool false,.bool false,.bool false,.slice none 0 0,.bool false,.bool false,.slice none 0 0,.bool false,.int .i64 0,.bool false,.int .i64 0,.bool false,.string ⟨#[]⟩,.int .i64 0,.string ⟨#[]⟩] 130)).setRow (w.heap.size+1) #[.int .i64 400,.int .i64 0,.int .i64 0,.string ⟨#[]⟩,.string ⟨#[]⟩,.int .i64 0,.bool false,.bool false,.bool false,.slice none 0 0,.bool false,.bool false,.slice none 0 0,.bool false,.int .i64 0,.bool false,.int .i64 0,.bool false,.string ⟨#[]⟩,.int .i64 0,.string ⟨#[]⟩]).alloc (.cells #[.int .i64 0,.int .i64 0,.int .i64 0,.string ⟨#[]⟩,.string ⟨#[]⟩,.int .i64 0,.bool false,.bool false,.bool false,.slice none 0 0,.bool false,.bool false,.slice none 0 0,.bool false,.int .i64 0,.bool false,.int .i64 0,.bool false,.string ⟨#[]⟩,.int .i64 0,.string ⟨#[]⟩] 130)->Rz w X/\X.heap[w.heap.size+1+1]?=some (.cells (rqCells (zRq 0)) 130 (0,0))/\X.heap.size=w.heap.size+3):=by
   rintro X rfl
   obtain⟨y,hy⟩:∃ y,((w.alloc (.cells #[.int .i64 0,.int .i64 0,.int .i64 0,.string ⟨#[]⟩,.string ⟨#[]⟩,.int .i64 0,.bool false,.bool false,.bool false,.slice none 0 0,.bool false,.bool false,.slice none 0 0,.bool false,.int .i64 0,.bool false,.int .i64 0,.bool false,.string ⟨#[]⟩,.int .i64 0,.string ⟨#[]⟩] 130)).alloc (.cells #[.int .i64 0,.int .i64 0,.int .i64 0,.string ⟨#[]⟩,.string ⟨#[]⟩,.int .i64 0,.bool false,.bool false,.bool false,.slice none 0 0,.bool false,.bool false,.slice none 0 0,.bool false,.int .i64 0,.bool false,.int .i64 0,.bool false,.string ⟨#[]⟩,.int .i64 0,.string ⟨#[]⟩] 130)).setRow (w.heap.size+1) #[.int .i64 400,.int .i64 0,.int .i64 0,.string ⟨#[]⟩,.string ⟨#[]⟩,.int .i64 0,.bool false,.bool false,.bool false,.slice none 0 0,.bool false,.bool false,.slice none 0 0,.bool false,.int .i64 0,.bool false,.int .i64 0,.bool false,.string ⟨#[]⟩,.int .i64 0,.string ⟨#[]⟩]=y:=⟨_,rfl⟩
   have s2:y.heap.size=w.heap.size+2:=by rw[<- hy,setRow_size,World.size_alloc,World.size_alloc]
   have y1:y.heap[w.heap.size+1]?=some (.cells (rqCells (zRq 400)) 130 (0,0)):=by rw[<- hy,<- zl400];exact setRow_heap _ _ _ _ _ _ hal2
   have y0:y.heap[w.heap.size]?=some (.cells (rqCells (zRq 0)) 130 (0,0)):=by
    rw[<- hy,setRow_other _ _ _ _ (by omega),heap_alloc_old _ _ (by rw[World.size_alloc];omega),heap_alloc_new,zl0]
   have yb:Below w.heap.size w y:=by rw[<- hy];exact below_setRow (((Below.refl _ _).alloc (Nat.le_refl _) _).alloc (by rw[World.size_alloc];omega) _) (by omega) _
   rw[hy]
   refine⟨⟨yb.alloc (by omega) _,?_,?_⟩,?_,?_⟩
   ·rw[heap_alloc_old _ _ (by omega)];exact y0
   ·rw[heap_alloc_old _ _ (by omega)];exact y1
   ·rw[show w.heap.size+1+1=y.heap.size by omega,heap_alloc_new,zl0]
   ·rw[World.size_alloc,s2]
  go_enter Tryz.func54,Tryz.ntmps54
  go_wp2_with (refine wpList_store_row rfl 130 (.tmp 3) (.tmp 14) rfl (w.heap.size+1) #[.int .i64 400,.int .i64 0,.int .i64 0,.string ⟨#[]⟩,.string ⟨#[]⟩,.int .i64 0,.bool false,.bool false,.bool false,.slice none 0 0,.bool false,.bool false,.slice none 0 0,.bool false,.int .i64 0,.bool false,.int .i64 0,.bool false,.string ⟨#[]⟩,.int .i64 0,.string ⟨#[]⟩] rfl rfl 130 #[.int .i64 0,.int .i64 0,.int .i64 0,.string ⟨#[]⟩,.string ⟨#[]⟩,.int .i64 0,.bool false,.bool false,.bool false,.slice none 0 0,.bool false,.bool false,.slice none 0 0,.bool false,.int .i64 0,.bool false,.int .i64 0,.bool false,.string ⟨#[]⟩,.int .i64 0,.string ⟨#[]⟩] hal2 hiRq rfl (allRq (zRq 400) rfl rfl) ?_)
  obtain⟨x,hx⟩:∃ x,(((w.alloc (.cells #[.int .i64 0,.int .i64 0,.int .i64 0,.string ⟨#[]⟩,.string ⟨#[]⟩,.int .i64 0,.bool false,.bool false,.bool false,.slice none 0 0,.bool false,.bool false,.slice none 0 0,.bool false,.int .i64 0,.bool false,.int .i64 0,.bool false,.string ⟨#[]⟩,.int .i64 0,.string ⟨#[]⟩] 130)).alloc (.cells #[.int .i64 0,.int .i64 0,.int .i64 0,.string ⟨#[]⟩,.string ⟨#[]⟩,.int .i64 0,.bool false,.bool false,.bool false,.slice none 0 0,.bool false,.bool false,.slice none 0 0,.bool false,.int .i64 0,.bool false,.int .i64 0,.bool false,.string ⟨#[]⟩,.int .i64 0,.string ⟨#[]⟩] 130)).setRow (w.heap.size+1) #[.int .i64 400,.int .i64 0,.int .i64 0,.string ⟨#[]⟩,.string ⟨#[]⟩,.int .i64 0,.bool false,.bool false,.bool false,.slice none 0 0,.bool false,.bool false,.slice none 0 0,.bool false,.int .i64 0,.bool false,.int .i64 0,.bool false,.string ⟨#[]⟩,.int .i64 0,.string ⟨#[]⟩]).alloc (.cells #[.int .i64 0,.int .i64 0,.int .i64 0,.string ⟨#[]⟩,.string ⟨#[]⟩,.int .i64 0,.bool false,.bool false,.bool false,.slice none 0 0,.bool false,.bool false,.slice none 0 0,.bool false,.int .i64 0,.bool false,.int .i64 0,.bool false,.string ⟨#[]⟩,.int .i64 0,.string ⟨#[]⟩] 130)=x:=⟨_,rfl⟩
  have HX0:Hid (Rz w x/\x.heap[w.heap.size+1+1]?=some (.cells (rqCells (zRq 0)) 130 (0,0))/\x.heap.size=w.heap.size+3):=HX0.out x hx.symm
  rw[hx]
  clear hx hal2
  have HLN:Hid _:=refLine_any ⟨l.toArray⟩ 0 x (by rw[hls];omega) (by omega)
  have HLV:Hid (lineV (⟨l.toArray⟩:ByteArray).data.toList 0=match lineAt l with|none=>.tuple #[.string ⟨#[]⟩,.int .i64 (-1)]|some y=>.tuple #[.string ⟨y.1.toArray⟩,.int .i64 ((l.length-y.2.length:Nat):Int)]):=by
   show _=_
   unfold lineV
   rw[List.drop_zero]
   rfl
  rw[HLV.out] at HLN
  clear HLV
  have hT:Hid _:=hT
  cases hla:lineAt l with
  | none =>
    have HR:Hid _:=rr2 h2 (pr1 hla)
    rw[hla] at HLN
    have hRZ:=HX0.out.1
    clear hla
    refine Calls.mono HLN.out ?_
    rintro e w1 ⟨rfl,hw1⟩
    rw[hw1]
    clear hw1 HLN
    go_wp2_with (first
     | (refine wpList_load_row rfl 130 (.tmp 3) rfl (w.heap.size+1) rfl 130 (rqCells (zRq 400)) (0,0) _ hRZ.bad Tryz.underlying130 rfl hiRq ?_)
     | (refine wpList_store_row rfl 130 (.tmp 2) (.tmp 22) rfl w.heap.size (rqCells (zRq 400)) rfl rfl 130 (rqCells (zRq 0)) hRZ.res hiRq rfl (allRq _ rfl rfl) ?_))
    exact bodyPost_ret (v:=.agg (rqCells (zRq 400))) (results_rread _ _ w.heap.size _ rfl (hRZ.row _).2 rfl) rfl ⟨(hRZ.row _).1,Or.inl ⟨400,HR.out,rfl⟩⟩
  | some y =>
    obtain⟨line,rest⟩:=y
    have hps:=lineAt_parts l _ hla
    rw[hla] at HLN
    simp only at HLN hps
    have hlen:line.length+(2+rest.length)=l.length:=by
     have:=congrArg List.length hps.1
     simp only[List.length_append,List.length_cons,List.length_nil] at this
     omega
    have HFS:Hid _:=refFirst_any (w.heap.size+1+1) (rqCells (zRq 0)) line x HX0.out.2.1 rfl rfl rfl rfl (by omega)
    have HLA:Hid _:=hla
    have HDR:Hid (l.drop (l.length-rest.length)=rest):=by
     show _=_
     have e:l.length-rest.length=(line++[13,10]).length:=by simp;omega
     rw[e]
     conv=>lhs;rw[hps.1]
     rw[List.drop_left]
    obtain⟨a0,ha0⟩:∃ a,l.length-rest.length=a:=⟨_,rfl⟩
    rw[ha0] at HDR HLN
    have ha1:a0<=l.length:=by omega
    have HRL:Hid (rest.length+a0=l.length):=by show _=_;omega
    clear hla hps hlen ha0
    refine Calls.mono HLN.out ?_
    rintro e w1 ⟨rfl,hw1⟩
    rw[hw1]
    clear hw1 HLN
    go_wp2_with fail
    refine Calls.mono HFS.out ?_
    rintro e w2 ⟨RC1,hk,rfl,hxx⟩
    have HZ2:Hid (Rz w w2):=HX0.out.1.off hk.off (fun k hk=>by omega)
    have HKE:Hid _:=hk
    have HXX:Hid _:=hxx
    clear hk hxx HFS
    cases hfr:firstR line with
    | none =>
      have HR:Hid _:=rr2 h2 (pr2 HLA.out hfr)
      have hRZ:=HZ2.out
      clear hfr
      go_wp2_with (first
       | (refine wpList_load_row rfl 130 (.tmp 3) rfl (w.heap.size+1) rfl 130 (rqCells (zRq 400)) (0,0) _ hRZ.bad Tryz.underlying130 rfl hiRq ?_)
       | (refine wpList_store_row rfl 130 (.tmp 2) (.tmp 27) rfl w.heap.size (rqCells (zRq 400)) rfl rfl 130 (rqCells (zRq 0)) hRZ.res hiRq rfl (allRq _ rfl rfl) ?_))
      exact bodyPost_ret (v:=.agg (rqCells (zRq 400))) (results_rread _ _ w.heap.size _ rfl (hRZ.row _).2 rfl) rfl ⟨(hRZ.row _).1,Or.inl ⟨400,HR.out,rfl⟩⟩
    | some y =>
      obtain⟨m,t⟩:=y
      have HC:Hid _:=HXX.out _ hfr
      have HFR:Hid _:=hfr
      clear HXX hfr
      obtain⟨O,hO⟩:∃ O,fieldsR (rest.length+1) k0 rest=O:=⟨_,rfl⟩
      have HO:Hid _:=hO
      clear hO
      have HB0:Hid (∀ i,i≠1->i≠2->i≠3->i≠4->i≠5->RC1[i]?=(rqCells (zRq 0))[i]?):=HKE.out.same
      have hw2:w.heap.size+1+1<w2.heap.size:=(Array.getElem?_eq_some_iff.1 HKE.out.blk).1
      have HFA:Hid (Fa (w2.alloc (.cells #[.bool false,.bool false,.bool false,.bool false] 195)) (w.heap.size+1+1) w2.heap.size RC1 z0):=by
       refine⟨?_,?_,seen0 RC1 HB0.out,heap_alloc_new _ _,by omega⟩
       ·rw[heap_alloc_old _ _ hw2];exact HKE.out.blk
       ·rw[HKE.out.size];rfl
      have HZ3:Hid (Rz w (w2.alloc (.cells #[.bool false,.bool false,.bool false,.bool false] 195))):=HZ2.out.off (Off.of_below (S:=fun _=>False) ((Below.refl _ _).alloc (Nat.le_refl _) _)) (fun _ h=>h.elim)
      have HT3:Hid (Tab (w2.alloc (.cells #[.bool false,.bool false,.bool false,.bool false] 195))):=hT.out.below HZ3.out.b
      go_wp2_with fail
      obtain⟨X,hX⟩:∃ X,w2.alloc (.cells #[.bool false,.bool false,.bool false,.bool false] 195)=X:=⟨_,rfl⟩
      have hXs:w2.heap.size+1=X.heap.size:=by rw[<- hX,World.size_alloc]
      rw[hX] at HFA HZ3 HT3 ⊢
      clear hX HZ2 HX0
      obtain⟨q,hq⟩:∃ q,w2.heap.size=q:=⟨_,rfl⟩
      rw[hq] at hXs HFA hw2 ⊢
      clear hq
      obtain⟨g,hg⟩:∃ g,w.heap.size+1+1=g:=⟨_,rfl⟩
      have hgw:w.heap.size+1<g:=by omega
      rw[hg] at HFA hw2 ⊢
      clear hg HKE
      go_loopw [5,6,7,9] (fun v5 v6 v7 v9 wr=>∃ (a f:Nat) (k:Cnd) (c:Cst) (RC:Array Value) (mo:Bool),a<=l.length/\v6=.int .i64 a/\v9=.bool mo/\Hid (if mo then (l.length-a<f/\fieldsR f k (l.drop a)=O) else O=some (k,l.drop a))/\Hid (Rz w wr/\Fa wr g q RC c/\Rq wr q c k/\(∀ i,(i<7\/16<i)->RC[i]?=RC1[i]?)/\q+1<=wr.heap.size)) (fun _ v6 _ _ _=>l.length-(intOf v6).toNat)
      case atStart=>exact⟨a0,rest.length+1,k0,z0,RC1,true,ha1,rfl,rfl,⟨by have:=HRL.out;omega,by rw[HDR.out];exact HO.out⟩,⟨HZ3.out,HFA.out,rq0 _ _,fun _ _=>rfl,by omega⟩⟩
      case round =>
       obtain⟨a,f,k,c,RC,mo,ha,rfl,rfl,hmo,hw⟩:=hrel
       clear HFA HZ3 HT3 HDR HRL
       cases mo with
       | true =>
         obtain⟨hfu,hfo⟩:=hmo.out
         have HFO:Hid _:=hfo
         have HLN:Hid _:=refLine_any ⟨l.toArray⟩ a wr (by rw[hls];omega) (by rw[hls];exact ha)
         have HLV:Hid (lineV (⟨l.toArray⟩:ByteArray).data.toList a=match lineAt (l.drop a) with|none=>.tuple #[.string ⟨#[]⟩,.int .i64 (-1)]|some y=>.tuple #[.string ⟨y.1.toArray⟩,.int .i64 ((l.length-y.2.length:Nat):Int)]):=rfl
         rw[HLV.out] at HLN
         clear HLV hmo hfo
         obtain⟨f',hf'⟩:∃ f',f=f'+1:=⟨f-1,by omega⟩
         rw[hf',fieldsR] at HFO
         have HF':Hid (l.length-a<=f'):=by show _<=_;omega
         clear hf' hfu
         cases hla:lineAt (l.drop a) with
         | none =>
           rw[hla] at HLN HFO
           have HR:Hid _:=rr2 h2 (pr3 HLA.out HFR.out (HO.out.trans HFO.out.symm))
           have hRZ:=hw.out.1
           clear hla
           go_wp2_with fail
           refine Calls.mono HLN.out ?_
           rintro e w1 ⟨rfl,hw1⟩
           rw[hw1]
           clear hw1 HLN
           go_wp2_with (first
            | (refine wpList_load_row rfl 130 (.tmp 3) rfl (w.heap.size+1) rfl 130 (rqCells (zRq 400)) (0,0) _ hRZ.bad Tryz.underlying130 rfl hiRq ?_)
            | (refine wpList_store_row rfl 130 (.tmp 2) (.tmp 37) rfl w.heap.size (rqCells (zRq 400)) rfl rfl 130 (rqCells (zRq 0)) hRZ.res hiRq rfl (allRq _ rfl rfl) ?_))
           exact bodyPost_ret (v:=.agg (rqCells (zRq 400))) (results_rread _ _ w.heap.size _ rfl (hRZ.row _).2 rfl) rfl ⟨(hRZ.row _).1,Or.inl ⟨400,HR.out,rfl⟩⟩
         | some y =>
           obtain⟨ln,rs⟩:=y
           have hps:=lineAt_parts _ _ hla
           rw[hla] at HLN HFO
           simp only at HLN HFO hps
           have hlen:ln.length+(2+rs.length)=l.length-a:=by
            have:=congrArg List.length hps.1
            simp only[List.length_append,List.length_cons,List.length_nil,List.length_drop] at this
            omega
           have HDR:Hid (l.drop (l.length-rs.length)=rs):=by
            show _=_
            have e:l.length-rs.length=a+(ln++[13,10]).length:=by simp;omega
            rw[e,<- List.drop_drop,hps.1,List.drop_left]
           obtain⟨a1,he1⟩:∃ x,l.length-rs.length=x:=⟨_,rfl⟩
           rw[he1] at HDR HLN
           have HCR:Hid _:=hps.2
           have hlt1:a<a1:=by omega
           have hle1:a1<=l.length:=by omega
           have HLL:Hid (ln.length<=2000):=by show _<=_;omega
           clear hla hps hlen he1
           go_wp2_with fail
           refine Calls.mono HLN.out ?_
           rintro e w1 ⟨rfl,hw1⟩
           rw[hw1]
           clear hw1 HLN
           by_cases hn:ln=[]
           ·subst hn
            rw[if_pos rfl] at HFO
            go_wp2_with fail
            refine⟨⟨a1,0,k,c,RC,false,hle1,rfl,rfl,?_,hw⟩,?_⟩
            ·show O=some (k,l.drop a1)
             rw[<- HFO.out,HDR.out]
            ·simp[intOf];omega
           ·rw[if_neg hn] at HFO
            have hne:ln.isEmpty=false:=by simpa using hn
            have hnn:(ln=[])=False:=eq_false hn
            have hnb:(ln==[])=false:=by simpa using hn
            have HTB:Hid (Tab wr):=hT.out.below hw.out.1.b
            have HFI:Hid _:=rqField_any g q q RC c k ln wr hw.out.2.1 hw.out.2.2.1 (by omega) (by omega) hw.out.2.2.2.2 HTB.out (by have:=HLL.out;omega) HCR.out
            clear hn
            go_wp2_with fail
            all_goals first
             | (exfalso;simp_all;done)
             | skip
            refine Calls.mono HFI.out ?_
            rintro e w3 ⟨ho,⟨k',c',RC',hk',rfl,hFa,hRq,hsm⟩|⟨hk',rfl⟩⟩
            ·rw[hk'] at HFO
             have HW3:Hid (Rz w w3/\Fa w3 g q RC' c'/\Rq w3 q c' k'/\(∀ i,(i<7\/16<i)->RC'[i]?=RC1[i]?)/\q+1<=w3.heap.size):=⟨hw.out.1.off ho (fun k hk=>by rcases hk with rfl|rfl<;>omega),hFa,hRq,fun i hi=>(hsm i hi).trans (hw.out.2.2.2.1 i hi),Nat.le_trans hw.out.2.2.2.2 ho.size⟩
             clear ho hk' hFa hRq hsm
             go_wp2_with fail
             refine⟨⟨a1,f',k',c',RC',true,hle1,rfl,rfl,?_,HW3⟩,?_⟩
             ·show l.length-a1<f'/\fieldsR f' k' (l.drop a1)=O
              rw[HDR.out]
              exact⟨by have:=HF'.out;omega,HFO.out⟩
             ·simp[intOf];omega
            ·rw[hk'] at HFO
             have HR:Hid _:=rr2 h2 (pr3 HLA.out HFR.out (HO.out.trans HFO.out.symm))
             have HW3:Hid (Rz w w3):=hw.out.1.off ho (fun k hk=>by rcases hk with rfl|rfl<;>omega)
             have hRZ:=HW3.out
             clear ho hk'
             go_wp2_with (first
              | (refine wpList_load_row rfl 130 (.tmp 3) rfl (w.heap.size+1) rfl 130 (rqCells (zRq 400)) (0,0) _ hRZ.bad Tryz.underlying130 rfl hiRq ?_)
              | (refine wpList_store_row rfl 130 (.tmp 2) (.tmp 45) rfl w.heap.size (rqCells (zRq 400)) rfl rfl 130 (rqCells (zRq 0)) hRZ.res hiRq rfl (allRq _ rfl rfl) ?_))
             exact bodyPost_ret (v:=.agg (rqCells (zRq 400))) (results_rread _ _ w.heap.size _ rfl (hRZ.row _).2 rfl) rfl ⟨(hRZ.row _).1,Or.inl ⟨400,HR.out,rfl⟩⟩
       | false =>
         have HO2:Hid (O=some (k,l.drop a)):=hmo.out
         have HP:Hid (parseR l=some (m,t,k,l.drop a)):=pr4 HLA.out HFR.out (HO.out.trans HO2.out)
         obtain⟨body,hbd⟩:∃ b,l.drop a=b:=⟨_,rfl⟩
         rw[hbd] at HP
         obtain⟨n,hn⟩:∃ n,l.length=n:=⟨_,rfl⟩
         have hex:(⟨l.toArray⟩:ByteArray).extract a n=⟨body.toArray⟩:=by
          apply ByteArray.ext
          apply Array.toList_inj.1
          rw[Lib.extract_data]
          show ((l.drop a).take (n-a))=body
          rw[<- hbd,<- hn,List.take_of_length_le (by rw[List.length_drop];exact Nat.le_refl _)]
         have hbl:body.length<=2000:=by rw[<- hbd,List.length_drop];omega
         rw[hn] at hls ha h2I
         have h2':Hid _:=h2
         have hbs:(⟨body.toArray⟩:ByteArray).size=body.length:=Lib.size_eq _
         obtain⟨W,hW⟩:∃ W,wr.setCell ⟨g,20,none⟩ (.string ⟨body.toArray⟩)=W:=⟨_,rfl⟩
         have hRC20:=hw.out.2.2.2.1 20 (by omega)
         have hRCs:=hw.out.2.1.size
         have HBL:Hid (W.heap[g]?=some (.cells (RC.setIfInBounds 20 (.string ⟨body.toArray⟩)) 130 (0,0))):=by rw[<- hW];exact heap_set hw.out.2.1.blk
         have HWZ:Hid (Rz w W):=by rw[<- hW];exact hw.out.1.off ((Off.refl (fun k=>k=g) wr).set g 20 _ (Or.inl rfl)) (fun k hk=>by omega)
         have HWR:Hid (Rq W q c k):=by rw[<- hW];exact hw.out.2.2.1.set (by omega)
         have HWS:Hid (q+1<=W.heap.size):=by show _<=_;rw[<- hW];have:=hw.out.2.2.2.2;simpa using this
         obtain⟨v20,c20⟩:∃ v,wr.cell? ⟨g,20,none⟩=some v:=by
          simp only[World.cell?,hw.out.2.1.blk]
          exact⟨RC[20]'(by omega),Array.getElem?_eq_getElem (by omega)⟩
         have f20:=(hw.out.2.1.fz 20).1
         have HK1:Hid ((RC.setIfInBounds 20 (.string ⟨body.toArray⟩))[1]?=some (.int .i64 (m:Int))/\(RC.setIfInBounds 20 (.string ⟨body.toArray⟩))[2]?=some (.int .i64 (t.tg:Int))):=⟨by rw[Array.getElem?_setIfInBounds_ne (by omega),hw.out.2.2.2.1 1 (by omega)];exact HC.out.1,by rw[Array.getElem?_setIfInBounds_ne (by omega),hw.out.2.2.2.1 2 (by omega)];exact HC.out.2.1⟩
         have d20:W.cell? ⟨g,20,none⟩=some (.string ⟨body.toArray⟩):=by
          simp only[World.cell?,HBL.out]
          exact Array.getElem?_setIfInBounds_self_of_lt (by omega)
         have d1:W.cell? ⟨g,1,none⟩=some (.int .i64 (m:Int)):=by simp only[World.cell?,HBL.out];exact HK1.out.1
         have d2:W.cell? ⟨g,2,none⟩=some (.int .i64 (t.tg:Int)):=by simp only[World.cell?,HBL.out];exact HK1.out.2
         have f6:W.frozen? ⟨g,6,none⟩=false:=by simp[World.frozen?,HBL.out]
         have d6:∃ v,W.cell? ⟨g,6,none⟩=some v:=by
          simp only[World.cell?,HBL.out]
          exact⟨(RC.setIfInBounds 20 (.string ⟨body.toArray⟩))[6]'(by rw[Array.size_setIfInBounds];omega),Array.getElem?_eq_getElem (by rw[Array.size_setIfInBounds];omega)⟩
         obtain⟨v6,d6⟩:=d6
         have HCE:Hid ((RC.setIfInBounds 20 (.string ⟨body.toArray⟩)).setIfInBounds 6 (.bool (m==3||m==4))=rqCells (okRq m t c body)):=okCells hRCs HB0.out HC.out hw.out.2.2.2.1 hw.out.2.1.ask
         have HFT:Hid _:=refFits_any g (RC.setIfInBounds 20 (.string ⟨body.toArray⟩)) m t.tg W HBL.out HK1.out.1 HK1.out.2
         have hRZ:=HWZ.out
         clear hmo hbd h2 hn hRC20 hl
         by_cases hb:body=[]
         ·subst hb
          have HK:Hid (¬ (([]:List UInt8)≠[]/\¬ (m=3/\t.tg=2))):=fun h=>h.1 rfl
          have h4:¬ 400<([]:List UInt8).length:=by simp
          clear hbl
          go_wp2_with fail
          refine Calls.mono HFT.out ?_
          rintro e w4 ⟨rfl,hw4⟩
          rw[hw4]
          clear hw4
          cases hfi:fitR m t.tg with
          | false =>
            have HR:Hid _:=rr5 h2'.out HP.out HK.out h4 hfi
            clear hfi HFT
            go_wp2_with (refine wpList_store_row rfl 130 (.tmp 2) (.tmp 72) rfl w.heap.size (rqCells (zRq 405)) rfl rfl 130 (rqCells (zRq 0)) hRZ.res hiRq rfl (allRq (zRq 405) rfl rfl) ?_)
            exact bodyPost_ret (v:=.agg (rqCells (zRq 405))) (results_rread _ _ w.heap.size _ rfl (hRZ.row _).2 rfl) rfl ⟨(hRZ.row _).1,Or.inl ⟨405,HR.out,rfl⟩⟩
          | true =>
            have HR:Hid _:=rr6 h2'.out HP.out HK.out h4 hfi
            clear hfi hRZ
            by_cases m3:m=3
            ·have hwb:(m==3||m==4)=true:=by rw[m3];rfl
             have m3b:(m:Int)=3:=by omega
             clear m3
             have HBX:Hid ((W.setCell ⟨g,6,none⟩ (.bool true)).heap[g]?=some (.cells (rqCells (okRq m t c [])) 130 (0,0))):=by show _=_;rw[<- HCE.out,hwb];exact heap_set HBL.out
             have HZX:Hid (Rz w (W.setCell ⟨g,6,none⟩ (.bool true))):=HWZ.out.off ((Off.refl (fun k=>k=g) W).set g 6 _ (Or.inl rfl)) (fun k hk=>by omega)
             have HRX:Hid (Rq (W.setCell ⟨g,6,none⟩ (.bool true)) q c k):=HWR.out.set (by omega)
             have HSX:Hid (q<(W.setCell ⟨g,6,none⟩ (.bool true)).heap.size):=by show _<_;have:=HWS.out;simp;omega
             have HA1:Hid (c.lm.oneCell'=true/\c.ln.oneCell'=true):=⟨HWR.out.m.one,HWR.out.n.one⟩
             clear hwb HCE HFT
             go_wp2_with (first
              | (refine wpList_load_row rfl 130 (.tmp 4) rfl g rfl 130 (rqCells (okRq m t c [])) (0,0) _ HBX.out Tryz.underlying130 rfl hiRq ?_)
              | (refine wpList_store_row rfl 130 (.tmp 2) (.tmp 83) rfl w.heap.size (rqCells (okRq m t c [])) rfl rfl 130 (rqCells (zRq 0)) HZX.out.res hiRq rfl (allRq _ HA1.out.1 HA1.out.2) ?_))
             exact bodyPost_ret (v:=.agg (rqCells (okRq m t c []))) (results_rread _ _ w.heap.size _ rfl (HZX.out.row _).2 rfl) rfl ⟨(HZX.out.row _).1,Or.inr ⟨m,t,k,[],c,q,HR.out,rfl,by omega,by rw[setRow_size];exact HSX.out,HRX.out.row (by omega)⟩⟩
            ·by_cases m4:m=4
             ·have hwb:(m==3||m==4)=true:=by rw[m4];rfl
              have m3b:¬ (m:Int)=3:=by omega
              have m4b:(m:Int)=4:=by omega
              clear m3 m4
              have HBX:Hid ((W.setCell ⟨g,6,none⟩ (.bool true)).heap[g]?=some (.cells (rqCells (okRq m t c [])) 130 (0,0))):=by show _=_;rw[<- HCE.out,hwb];exact heap_set HBL.out
              have HZX:Hid (Rz w (W.setCell ⟨g,6,none⟩ (.bool true))):=HWZ.out.off ((Off.refl (fun k=>k=g) W).set g 6 _ (Or.inl rfl)) (fun k hk=>by omega)
              have HRX:Hid (Rq (W.setCell ⟨g,6,none⟩ (.bool true)) q c k):=HWR.out.set (by omega)
              have HSX:Hid (q<(W.setCell ⟨g,6,none⟩ (.bool true)).heap.size):=by show _<_;have:=HWS.out;simp;omega
              have HA1:Hid (c.lm.oneCell'=true/\c.ln.oneCell'=true):=⟨HWR.out.m.one,HWR.out.n.one⟩
              clear hwb HCE HFT
              go_wp2_with (first
               | (refine wpList_load_row rfl 130 (.tmp 4) rfl g rfl 130 (rqCells (okRq m t c [])) (0,0) _ HBX.out Tryz.underlying130 rfl hiRq ?_)
               | (refine wpList_store_row rfl 130 (.tmp 2) (.tmp 83) rfl w.heap.size (rqCells (okRq m t c [])) rfl rfl 130 (rqCells (zRq 0)) HZX.out.res hiRq rfl (allRq _ HA1.out.1 HA1.out.2) ?_))
              exact bodyPost_ret (v:=.agg (rqCells (okRq m t c []))) (results_rread _ _ w.heap.size _ rfl (HZX.out.row _).2 rfl) rfl ⟨(HZX.out.row _).1,Or.inr ⟨m,t,k,[],c,q,HR.out,rfl,by omega,by rw[setRow_size];exact HSX.out,HRX.out.row (by omega)⟩⟩
             ·have hwb:(m==3||m==4)=false:=by simp[m3,m4]
              have m3b:¬ (m:Int)=3:=by omega
              have m4b:¬ (m:Int)=4:=by omega
              have m3c:((m:Int)==3)=false:=by simp;omega
              have m4c:((m:Int)==4)=false:=by simp;omega
              clear m3 m4
              have HBX:Hid ((W.setCell ⟨g,6,none⟩ (.bool false)).heap[g]?=some (.cells (rqCells (okRq m t c [])) 130 (0,0))):=by show _=_;rw[<- HCE.out,hwb];exact heap_set HBL.out
              have HZX:Hid (Rz w (W.setCell ⟨g,6,none⟩ (.bool false))):=HWZ.out.off ((Off.refl (fun k=>k=g) W).set g 6 _ (Or.inl rfl)) (fun k hk=>by omega)
              have HRX:Hid (Rq (W.setCell ⟨g,6,none⟩ (.bool false)) q c k):=HWR.out.set (by omega)
              have HSX:Hid (q<(W.setCell ⟨g,6,none⟩ (.bool false)).heap.size):=by show _<_;have:=HWS.out;simp;omega
              have HA1:Hid (c.lm.oneCell'=true/\c.ln.oneCell'=true):=⟨HWR.out.m.one,HWR.out.n.one⟩
              clear hwb HCE HFT
              go_wp2_with (first
               | (refine wpList_load_row rfl 130 (.tmp 4) rfl g rfl 130 (rqCells (okRq m t c [])) (0,0) _ HBX.out Tryz.underlying130 rfl hiRq ?_)
               | (refine wpList_store_row rfl 130 (.tmp 2) (.tmp 83) rfl w.heap.size (rqCells (okRq m t c [])) rfl rfl 130 (rqCells (zRq 0)) HZX.out.res hiRq rfl (allRq _ HA1.out.1 HA1.out.2) ?_))
              exact bodyPost_ret (v:=.agg (rqCells (okRq m t c []))) (results_rread _ _ w.heap.size _ rfl (HZX.out.row _).2 rfl) rfl ⟨(HZX.out.row _).1,Or.inr ⟨m,t,k,[],c,q,HR.out,rfl,by omega,by rw[setRow_size];exact HSX.out,HRX.out.row (by omega)⟩⟩
         ·have hne:body.isEmpty=false:=by simpa using hb
          have hnn:(body=[])=False:=eq_false hb
          have hnb:(body==[])=false:=by simpa using hb
          by_cases hmt:m=3/\t.tg=2
          ·have HK:Hid (¬ (body≠[]/\¬ (m=3/\t.tg=2))):=fun h=>h.2 hmt
           have m3I:(m:Int)=3:=by omega
           have t2I:(t.tg:Int)=2:=by omega
           have HMT:Hid _:=hmt
           clear hb hmt
           by_cases h4:400<body.length
           ·have HR:Hid _:=rr4 h2'.out HP.out HK.out h4
            have h4I:(400:Int)<(body.length:Int):=by omega
            go_wp2_with (refine wpList_store_row rfl 130 (.tmp 2) (.tmp 68) rfl w.heap.size (rqCells (zRq 413)) rfl rfl 130 (rqCells (zRq 0)) hRZ.res hiRq rfl (allRq (zRq 413) rfl rfl) ?_)
            exact bodyPost_ret (v:=.agg (rqCells (zRq 413))) (results_rread _ _ w.heap.size _ rfl (hRZ.row _).2 rfl) rfl ⟨(hRZ.row _).1,Or.inl ⟨413,HR.out,rfl⟩⟩
           ·have h4I:¬ (400:Int)<(body.length:Int):=by omega
            go_wp2_with fail
            refine Calls.mono HFT.out ?_
            rintro e w4 ⟨rfl,hw4⟩
            rw[hw4]
            clear hw4
            cases hfi:fitR m t.tg with
            | false =>
              have HR:Hid _:=rr5 h2'.out HP.out HK.out h4 hfi
              clear hfi HFT
              go_wp2_with (refine wpList_store_row rfl 130 (.tmp 2) (.tmp 72) rfl w.heap.size (rqCells (zRq 405)) rfl rfl 130 (rqCells (zRq 0)) hRZ.res hiRq rfl (allRq (zRq 405) rfl rfl) ?_)
              exact bodyPost_ret (v:=.agg (rqCells (zRq 405))) (results_rread _ _ w.heap.size _ rfl (hRZ.row _).2 rfl) rfl ⟨(hRZ.row _).1,Or.inl ⟨405,HR.out,rfl⟩⟩
            | true =>
              have HR:Hid _:=rr6 h2'.out HP.out HK.out h4 hfi
              clear hfi hRZ
              have hwb:(m==3||m==4)=true:=by rw[HMT.out.1];rfl
              have HBX:Hid ((W.setCell ⟨g,6,none⟩ (.bool true)).heap[g]?=some (.cells (rqCells (okRq m t c body)) 130 (0,0))):=by show _=_;rw[<- HCE.out,hwb];exact heap_set HBL.out
              have HZX:Hid (Rz w (W.setCell ⟨g,6,none⟩ (.bool true))):=HWZ.out.off ((Off.refl (fun k=>k=g) W).set g 6 _ (Or.inl rfl)) (fun k hk=>by omega)
              have HRX:Hid (Rq (W.setCell ⟨g,6,none⟩ (.bool true)) q c k):=HWR.out.set (by omega)
              have HSX:Hid (q<(W.setCell ⟨g,6,none⟩ (.bool true)).heap.size):=by show _<_;have:=HWS.out;simp;omega
              have HA1:Hid (c.lm.oneCell'=true/\c.ln.oneCell'=true):=⟨HWR.out.m.one,HWR.out.n.one⟩
              clear hwb HCE HFT
              go_wp2_with (first
               | (refine wpList_load_row rfl 130 (.tmp 4) rfl g rfl 130 (rqCells (okRq m t c body)) (0,0) _ HBX.out Tryz.underlying130 rfl hiRq ?_)
               | (refine wpList_store_row rfl 130 (.tmp 2) (.tmp 83) rfl w.heap.size (rqCells (okRq m t c body)) rfl rfl 130 (rqCells (zRq 0)) HZX.out.res hiRq rfl (allRq _ HA1.out.1 HA1.out.2) ?_))
              exact bodyPost_ret (v:=.agg (rqCells (okRq m t c body))) (results_rread _ _ w.heap.size _ rfl (HZX.out.row _).2 rfl) rfl ⟨(HZX.out.row _).1,Or.inr ⟨m,t,k,body,c,q,HR.out,rfl,by omega,by rw[setRow_size];exact HSX.out,HRX.out.row (by omega)⟩⟩
          ·have HR:Hid _:=rr3 h2'.out HP.out ⟨hb,hmt⟩
           by_cases m3:m=3
           ·have t2:¬ t.tg=2:=fun h=>hmt ⟨m3,h⟩
            have m3b:(m:Int)=3:=by omega
            have t2b:¬ (t.tg:Int)=2:=by omega
            clear hb hmt m3 t2
            go_wp2_with (first
             | (refine wpList_load_row rfl 130 (.tmp 3) rfl (w.heap.size+1) rfl 130 (rqCells (zRq 400)) (0,0) _ hRZ.bad Tryz.underlying130 rfl hiRq ?_)
             | (refine wpList_store_row rfl 130 (.tmp 2) (.tmp 63) rfl w.heap.size (rqCells (zRq 400)) rfl rfl 130 (rqCells (zRq 0)) hRZ.res hiRq rfl (allRq _ rfl rfl) ?_))
            exact bodyPost_ret (v:=.agg (rqCells (zRq 400))) (results_rread _ _ w.heap.size _ rfl (hRZ.row _).2 rfl) rfl ⟨(hRZ.row _).1,Or.inl ⟨400,HR.out,rfl⟩⟩
           ·have m3b:¬ (m:Int)=3:=by omega
            clear hb hmt m3
            go_wp2_with (first
             | (refine wpList_load_row rfl 130 (.tmp 3) rfl (w.heap.size+1) rfl 130 (rqCells (zRq 400)) (0,0) _ hRZ.bad Tryz.underlying130 rfl hiRq ?_)
             | (refine wpList_store_row rfl 130 (.tmp 2) (.tmp 63) rfl w.heap.size (rqCells (zRq 400)) rfl rfl 130 (rqCells (zRq 0)) hRZ.res hiRq rfl (allRq _ rfl rfl) ?_))
            exact bodyPost_ret (v:=.agg (rqCells (zRq 400))) (results_rread _ _ w.heap.size _ rfl (hRZ.row _).2 rfl) rfl ⟨(hRZ.row _).1,Or.inl ⟨400,HR.out,rfl⟩⟩
end Go.Proofs.YtmehkneofinmiaaGreatDoor

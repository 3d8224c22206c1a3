/-part 44-/
import Derived.Test.YtmehkneofinmiaaGreatDoorP43
set_option maxRecDepth 100000
set_option maxHeartbeats 4000000
namespace Go.Proofs.YtmehkneofinmiaaGreatDoor
open Go.RowKit
theorem gx:∀ (t:List UInt8) (x:List UInt8×List UInt8),bh t=some x->t=x.1++[13,10]++x.2/\x.1.any aK=false
 | [],_,h=>by cases h
 | c::l,x,h=>by
   rw[bh] at h
   split at h
   ·split at h
    ·rename_i h2
     cases h
     cases l with
     | nil=>cases h2.2
     | cons d r =>
       have:d=10:=by simpa using h2.2
       rw[h2.1,this]
       exact⟨rfl,rfl⟩
    ·cases h
   ·rename_i hc
    cases hl:bh l with
    | none=>rw[hl] at h;cases h
    | some y =>
      rw[hl] at h
      cases h
      obtain⟨h1,h2⟩:=gx l y hl
      refine⟨?_,?_⟩
      ·show c::l=(c::y.1)++[13,10]++y.2
       rw[List.cons_append,List.cons_append,<- h1]
      ·rw[List.any_cons,h2,Bool.or_false]
       simpa using hc
def zRq (n:Nat):tP:=⟨n,0,0,[],[],0,false,false,false,.slice none 0 0,false,false,.slice none 0 0,false,0,false,0,[]⟩
def cG (m:Nat)(t:TgR)(c:Cst)(body:List UInt8):tP:=⟨0,m,t.tg,t.key,t.after,t.v,m==3||m==4,c.hm,c.am,c.lm,c.hn,c.an,c.ln,c.hs,c.si,c.hu,c.ul,body⟩
def AE (l:List UInt8)(w:World)(e:Ending)(w':World):Prop :=
 Below w.heap.size w w'/\((∃ n:Nat,dr l=.error n/\e=.returned (.agg (aj (zRq n))))\/(∃ m t k body c g,dr l=.ok (m,t,k,body)/\e=.returned (.agg (aj (cG m t c body)))/\w.heap.size<=g/\g<w'.heap.size/\Rq w' g c k))
theorem du:(Tryz.prog.info? 130).map (·.size)=some 21:=by kernel_rfl
theorem eJ (r:tP)(h1:r.lm.oneCell'=true)(h2:r.ln.oneCell'=true):(aj r).all (·.oneCell')=true:=by
 rw[Array.all_eq_true];intro i hi;have hs:(aj r).size=21:=rfl;rcases (by omega:i=9\/i=12\/i=0\/i=1\/i=2\/i=3\/i=4\/i=5\/i=6\/i=7\/i=8\/i=10\/i=11\/i=13\/i=14\/i=15\/i=16\/i=17\/i=18\/i=19\/i=20) with h|h|h|h|h|h|h|h|h|h|h|h|h|h|h|h|h|h|h|h|h<;>subst h
 ·exact h1
 ·exact h2
 all_goals rfl
theorem zl0:(#[.int .i64 0,.int .i64 0,.int .i64 0,.string ⟨#[]⟩,.string ⟨#[]⟩,.int .i64 0,.bool false,.bool false,.bool false,.slice none 0 0,.bool false,.bool false,.slice none 0 0,.bool false,.int .i64 0,.bool false,.int .i64 0,.bool false,.string ⟨#[]⟩,.int .i64 0,.string ⟨#[]⟩]:Array Value)=aj (zRq 0):=rfl
theorem BK:(#[.int .i64 400,.int .i64 0,.int .i64 0,.string ⟨#[]⟩,.string ⟨#[]⟩,.int .i64 0,.bool false,.bool false,.bool false,.slice none 0 0,.bool false,.bool false,.slice none 0 0,.bool false,.int .i64 0,.bool false,.int .i64 0,.bool false,.string ⟨#[]⟩,.int .i64 0,.string ⟨#[]⟩]:Array Value)=aj (zRq 400):=rfl
theorem Rl.one {x:World}{g:Nat}{h a:Bool}{l:Value}{s:Bool}{o:Option (Bool×dz)}(r:Rl x g h a l s o):l.oneCell'=true:=by
 obtain⟨_,_,r3⟩:=r;cases o with
 | none=>rw[r3.2];rfl
 | some p =>
   rcases r3.2.2 with ⟨h0,_⟩|⟨_,_,_,hv,_⟩
   ·rw[h0];rfl
   ·rw[hv];rfl
theorem aL (tmps:Array Value)(x:World)(g:Nat)(vs:Array Value)(hp:tmps.getD 2 undef=.pointer (some ⟨g,0,none⟩))(hg:x.heap[g]?=some (.cells vs 130 (0,0)))(hs:vs.size=21) :
 (results Tryz.f54 tmps).run Tryz.prog x=.ok (.agg vs) x:=by
 have A0:tmps[2]?.getD undef=.pointer (some ⟨g,0,none⟩):=by simpa using hp
 have hr:=run_loadVar_row (P:=Tryz.prog) x g 130 130 vs (0,0) _ hg Tryz.underlying130 rfl (by rw[hs];exact du);simp[results,Tryz.results54,A0,asAddr,hr]
structure Rz (w x:World):Prop where
 b:Below w.heap.size w x
 res:x.heap[w.heap.size]?=some (.cells (aj (zRq 0)) 130 (0,0))
 bad:x.heap[w.heap.size+1]?=some (.cells (aj (zRq 400)) 130 (0,0))
theorem Rz.lt {w x:World}(h:Rz w x):w.heap.size+1<x.heap.size:=(gL h.bad)
theorem Rz.off {w x y:World}{S:Nat->Prop}(h:Rz w x)(ho:Off S x y)(hS:∀ k,S k->w.heap.size+1<k):Rz w y:=by
 have hl:=h.lt;exact⟨⟨ho.os.trans h.b.os,ho.tape.trans h.b.tape,ho.output.trans h.b.output,Nat.le_trans h.b.size ho.size,λ k hk=>(ho.block k (by omega) (λ e=>by have:=hS k e;omega)).trans (h.b.block k hk)⟩,(ho.block _ (by omega) (λ e=>by have:=hS _ e;omega)).trans h.res,(ho.block _ (by omega) (λ e=>by have:=hS _ e;omega)).trans h.bad⟩
theorem Rz.row {w x:World}(h:Rz w x)(us:Array Value):Below w.heap.size w (x.setRow w.heap.size us)/\(x.setRow w.heap.size us).heap[w.heap.size]?=some (.cells us 130 (0,0)) :=
 ⟨below_setRow h.b (Nat.le_refl _) us,setRow_heap x _ _ us 130 (0,0) h.res⟩
theorem rr1 {l:List UInt8}(h:2000<l.length):dr l=.error 413:=by unfold dr;rw[if_pos h]
theorem rr2 {l:List UInt8}(h:¬ 2000<l.length)(hp:da l=none):dr l=.error 400:=by unfold dr;rw[if_neg h,hp]
theorem pr1 {l:List UInt8}(h:bh l=none):da l=none:=by unfold da;rw[h]
theorem pr2 {l:List UInt8}{x:List UInt8×List UInt8}(h:bh l=some x)(h2:gn x.1=none):da l=none:=by unfold da;rw[h];simp only;rw[h2]
theorem pr3 {l:List UInt8}{x:List UInt8×List UInt8}{y:Nat×TgR}(h:bh l=some x)(h2:gn x.1=some y)(h3:eD (x.2.length+1) k0 x.2=none):da l=none:=by unfold da;rw[h];simp only;rw[h2];simp only;rw[h3]
theorem pr4 {l:List UInt8}{x:List UInt8×List UInt8}{y:Nat×TgR}{z:Cnd×List UInt8}(h:bh l=some x)(h2:gn x.1=some y)(h3:eD (x.2.length+1) k0 x.2=some z):da l=some (y.1,y.2,z.1,z.2):=by unfold da;rw[h];simp only;rw[h2];simp only;rw[h3]
theorem rr3 {l:List UInt8}{m:Nat}{t:TgR}{k:Cnd}{body:List UInt8}(h:¬ 2000<l.length)(hp:da l=some (m,t,k,body))(hb:body≠[]/\¬ (m=3/\t.tg=2)):dr l=.error 400:=by unfold dr;rw[if_neg h,hp];simp only;rw[if_pos hb]
theorem rr4 {l:List UInt8}{m:Nat}{t:TgR}{k:Cnd}{body:List UInt8}(h:¬ 2000<l.length)(hp:da l=some (m,t,k,body))(hb:¬ (body≠[]/\¬ (m=3/\t.tg=2)))(h4:400<body.length):dr l=.error 413:=by unfold dr;rw[if_neg h,hp];simp only;rw[if_neg hb,if_pos h4]
theorem rr5 {l:List UInt8}{m:Nat}{t:TgR}{k:Cnd}{body:List UInt8}(h:¬ 2000<l.length)(hp:da l=some (m,t,k,body))(hb:¬ (body≠[]/\¬ (m=3/\t.tg=2)))(h4:¬ 400<body.length)(hf:mK m t.tg=false):dr l=.error 405:=by unfold dr;rw[if_neg h,hp];simp only;rw[if_neg hb,if_neg h4,if_neg (by rw[hf];exact Bool.false_ne_true)]
theorem rr6 {l:List UInt8}{m:Nat}{t:TgR}{k:Cnd}{body:List UInt8}(h:¬ 2000<l.length)(hp:da l=some (m,t,k,body))(hb:¬ (body≠[]/\¬ (m=3/\t.tg=2)))(h4:¬ 400<body.length)(hf:mK m t.tg=true):dr l=.ok (m,t,k,body):=by unfold dr;rw[if_neg h,hp];simp only;rw[if_neg hb,if_neg h4,if_pos hf]
theorem BL (RC:Array Value)(h:∀ i,i≠1->i≠2->i≠3->i≠4->i≠5->RC[i]?=(aj (zRq 0))[i]?):∀ i,1<=i->i<=10->RC[i+6]?=some (z0.cell i):=by
 intro i h1 h2;rw[h (i+6) (by omega) (by omega) (by omega) (by omega) (by omega)];rcases (by omega:i=1\/i=2\/i=3\/i=4\/i=5\/i=6\/i=7\/i=8\/i=9\/i=10) with rfl|rfl|rfl|rfl|rfl|rfl|rfl|rfl|rfl|rfl<;>rfl
theorem rq0 (x:World)(g:Nat):Rq x g z0 k0:=⟨⟨rfl,rfl,rfl,rfl⟩,⟨rfl,rfl,rfl,rfl⟩,⟨rfl,rfl,rfl⟩,⟨rfl,rfl,rfl⟩⟩
theorem BI {A:Array Value}{r:tP}(hs:A.size=21)(h:∀ i,i<21->A[i]?=(aj r)[i]?):A=aj r:=by
 apply Array.ext_getElem?;intro i;by_cases hi:i<21
 ·exact h i hi
 ·rw[Array.getElem?_eq_none (by omega),Array.getElem?_eq_none (by show 21<=i;omega)]
theorem yO {RC1 RC:Array Value}{m:Nat}{t:TgR}{c:Cst}{body:List UInt8}(hs:RC.size=21)(h0:∀ i,i≠1->i≠2->i≠3->i≠4->i≠5->RC1[i]?=(aj (zRq 0))[i]?)
 (h1:RC1[1]?=some (.int .i64 (m:Int))/\RC1[2]?=some (.int .i64 (t.tg:Int))/\RC1[3]?=some (.string ⟨t.key.toArray⟩)/\RC1[4]?=some (.string ⟨t.after.toArray⟩)/\RC1[5]?=some (.int .i64 t.v))
 (hk:∀ i,(i<7\/16<i)->RC[i]?=RC1[i]?)(ha:∀ i,1<=i->i<=10->RC[i+6]?=some (c.cell i)) :
 (RC.setIfInBounds 20 (.string ⟨body.toArray⟩)).setIfInBounds 6 (.bool (m==3||m==4))=aj (cG m t c body):=by
 refine BI (by rw[Array.size_setIfInBounds,Array.size_setIfInBounds];exact hs) (λ i hi=>?_);by_cases e6:i=6
 ·subst e6;rw[Array.getElem?_setIfInBounds_self_of_lt (by rw[Array.size_setIfInBounds];omega)];rfl
 ·rw[Array.getElem?_setIfInBounds_ne (λ e=>e6 e.symm)];by_cases e20:i=20
  ·subst e20;rw[Array.getElem?_setIfInBounds_self_of_lt (by omega)];rfl
  ·rw[Array.getElem?_setIfInBounds_ne (λ e=>e20 e.symm)];by_cases hm:7<=i/\i<=16
   ·obtain⟨j,rfl⟩:∃ j,i=j+6:=⟨i-6,by omega⟩;rw[ha j (by omega) (by omega)];rcases (by omega:j=1\/j=2\/j=3\/j=4\/j=5\/j=6\/j=7\/j=8\/j=9\/j=10) with rfl|rfl|rfl|rfl|rfl|rfl|rfl|rfl|rfl|rfl<;>rfl
   ·rw[hk i (by omega)];rcases (by omega:i=0\/i=1\/i=2\/i=3\/i=4\/i=5\/i=17\/i=18\/i=19) with rfl|rfl|rfl|rfl|rfl|rfl|rfl|rfl|rfl
    ·rw[h0 0 (by omega) (by omega) (by omega) (by omega) (by omega)];rfl
    ·rw[h1.1];rfl
    ·rw[h1.2.1];rfl
    ·rw[h1.2.2.1];rfl
    ·rw[h1.2.2.2.1];rfl
    ·rw[h1.2.2.2.2];rfl
    ·rw[h0 17 (by omega) (by omega) (by omega) (by omega) (by omega)];rfl
    ·rw[h0 18 (by omega) (by omega) (by omega) (by omega) (by omega)];rfl
    ·rw[h0 19 (by omega) (by omega) (by omega) (by omega) (by omega)];rfl
theorem qn (l:List UInt8)(w:World)(hT:Tab w)(hl:l.length<=9223372036854775807) :
 Calls Tryz.prog 54 #[.string ⟨l.toArray⟩] w (AE l w):=by
 have Ay:(⟨l.toArray⟩:ByteArray).size=l.length:=Lib.size_eq _;by_cases h2:2000<l.length
 ·have HR:Hid _:=rr1 h2;(have Ba:(2000:Int)<(l.length:Int):=by omega);go_enter Tryz.func54,Tryz.ntmps54;go_wp2_with (refine wpList_store_row rfl 130 (.tmp 2) (.tmp 13) rfl w.heap.size #[.int .i64 413,.int .i64 0,.int .i64 0,.string ⟨#[]⟩,.string ⟨#[]⟩,.int .i64 0,.bool false,.bool false,.bool false,.slice none 0 0,.bool false,.bool false,.slice none 0 0,.bool false,.int .i64 0,.bool false,.int .i64 0,.bool false,.string ⟨#[]⟩,.int .i64 0,.string ⟨#[]⟩] rfl rfl 130 #[.int .i64 0,.int .i64 0,.int .i64 0,.string ⟨#[]⟩,.string ⟨#[]⟩,.int .i64 0,.bool false,.bool false,.bool false,.slice none 0 0,.bool false,.bool false,.slice none 0 0,.bool false,.int .i64 0,.bool false,.int .i64 0,.bool false,.string ⟨#[]⟩,.int .i64 0,.string ⟨#[]⟩] (heap_alloc_last _ _) du rfl (eJ (zRq 413) rfl rfl) ?_;rw[World.setRow_alloc_new]);exact bodyPost_ret (v:=.agg #[.int .i64 413,.int .i64 0,.int .i64 0,.string ⟨#[]⟩,.string ⟨#[]⟩,.int .i64 0,.bool false,.bool false,.bool false,.slice none 0 0,.bool false,.bool false,.slice none 0 0,.bool false,.int .i64 0,.bool false,.int .i64 0,.bool false,.string ⟨#[]⟩,.int .i64 0,.string ⟨#[]⟩]) (aL _ _ w.heap.size _ rfl (heap_alloc_last _ _) rfl) rfl ⟨(Below.refl _ _).alloc (Nat.le_refl _) _,Or.inl ⟨413,HR.out,rfl⟩⟩
 ·(have Ba:¬ (2000:Int)<(l.length:Int):=by omega);have Ag:((w.alloc (.cells #[.int .i64 0,.int .i64 0,.int .i64 0,.string ⟨#[]⟩,.string ⟨#[]⟩,.int .i64 0,.bool false,.bool false,.bool false,.slice none 0 0,.bool false,.bool false,.slice none 0 0,.bool false,.int .i64 0,.bool false,.int .i64 0,.bool false,.string ⟨#[]⟩,.int .i64 0,.string ⟨#[]⟩] 130)).alloc (.cells #[.int .i64 0,.int .i64 0,.int .i64 0,.string ⟨#[]⟩,.string ⟨#[]⟩,.int .i64 0,.bool false,.bool false,.bool false,.slice none 0 0,.bool false,.bool false,.slice none 0 0,.bool false,.int .i64 0,.bool false,.int .i64 0,.bool false,.string ⟨#[]⟩,.int .i64 0,.string ⟨#[]⟩] 130)).heap[w.heap.size+1]?=some (.cells #[.int .i64 0,.int .i64 0,.int .i64 0,.string ⟨#[]⟩,.string ⟨#[]⟩,.int .i64 0,.bool false,.bool false,.bool false,.slice none 0 0,.bool false,.bool false,.slice none 0 0,.bool false,.int .i64 0,.bool false,.int .i64 0,.bool false,.string ⟨#[]⟩,.int .i64 0,.string ⟨#[]⟩] 130 (0,0)):=heap_alloc2_new w _ _;have Al:Hid (∀ X,X=(((w.alloc (.cells #[.int .i64 0,.int .i64 0,.int .i64 0,.string ⟨#[]⟩,.string ⟨#[]⟩,.int .i64 0,.bool false,.bool false,.bool false,.slice none 0 0,.bool false,.bool false,.slice none 0 0,.bool false,.int .i64 0,.bool false,.int .i64 0,.bool false,.string ⟨#[]⟩,.int .i64 0,.string ⟨#[]⟩] 130)).alloc (.cells #[.int .i64 0,.int .i64 0,.int .i64 0,.string ⟨#[]⟩,.string ⟨#[]⟩,.int .i64 0,.bool false,.bool false,.bool false,.slice none 0 0,.bool false,.bool false,.slice none 0 0,.bool false,.int .i64 0,.bool false,.int .i64 0,.bool false,.string ⟨#[]⟩,.int .i64 0,.string ⟨#[]⟩] 130)).setRow (w.heap.size+1) #[.int .i64 400,.int .i64 0,.int .i64 0,.string ⟨#[]⟩,.string ⟨#[]⟩,.int .i64 0,.bool false,.bool false,.bool false,.slice none 0 0,.bool false,.bool false,.slice none 0 0,.bool false,.int .i64 0,.bool false,.int .i64 0,.bool false,.string ⟨#[]⟩,.int .i64 0,.string ⟨#[]⟩]).alloc (.cells #[.int .i64 0,.int .i64 0,.int .i64 0,.string ⟨#[]⟩,.string ⟨#[]⟩,.int .i64 0,.bool false,.bool false,.bool false,.slice none 0 0,.bool false,.bool false,.slice none 0 0,.bool false,.int .i64 0,.bool false,.int .i64 0,.bool false,.string ⟨#[]⟩,.int .i64 0,.string ⟨#[]⟩] 130)->Rz w X/\X.heap[w.heap.size+1+1]?=some (.cells (aj (zRq 0)) 130 (0,0))/\X.heap.size=w.heap.size+3):=by
   rintro X rfl;obtain⟨y,hy⟩:∃ y,((w.alloc (.cells #[.int .i64 0,.int .i64 0,.int .i64 0,.string ⟨#[]⟩,.string ⟨#[]⟩,.int .i64 0,.bool false,.bool false,.bool false,.slice none 0 0,.bool false,.bool false,.slice none 0 0,.bool false,.int .i64 0,.bool false,.int .i64 0,.bool false,.string ⟨#[]⟩,.int .i64 0,.string ⟨#[]⟩] 130)).alloc (.cells #[.int .i64 0,.int .i64 0,.int .i64 0,.string ⟨#[]⟩,.string ⟨#[]⟩,.int .i64 0,.bool false,.bool false,.bool false,.slice none 0 0,.bool false,.bool false,.slice none 0 0,.bool false,.int .i64 0,.bool false,.int .i64 0,.bool false,.string ⟨#[]⟩,.int .i64 0,.string ⟨#[]⟩] 130)).setRow (w.heap.size+1) #[.int .i64 400,.int .i64 0,.int .i64 0,.string ⟨#[]⟩,.string ⟨#[]⟩,.int .i64 0,.bool false,.bool false,.bool false,.slice none 0 0,.bool false,.bool false,.slice none 0 0,.bool false,.int .i64 0,.bool false,.int .i64 0,.bool false,.string ⟨#[]⟩,.int .i64 0,.string ⟨#[]⟩]=y:=⟨_,rfl⟩;(have s2:y.heap.size=w.heap.size+2:=by rw[<- hy,setRow_size,World.size_alloc,World.size_alloc]);(have y1:y.heap[w.heap.size+1]?=some (.cells (aj (zRq 400)) 130 (0,0)):=by rw[<- hy,<- BK];exact setRow_heap _ _ _ _ _ _ Ag);(have y0:y.heap[w.heap.size]?=some (.cells (aj (zRq 0)) 130 (0,0)):=by rw[<- hy,setRow_other _ _ _ _ (by omega),heap_alloc_old _ _ (by rw[World.size_alloc];omega),heap_alloc_new,zl0]);(have yb:Below w.heap.size w y:=by rw[<- hy];exact below_setRow (((Below.refl _ _).alloc (Nat.le_refl _) _).alloc (by rw[World.size_alloc];omega) _) (by omega) _);rw[hy];refine⟨⟨yb.alloc (by omega) _,?_,?_⟩,?_,?_⟩
   ·rw[heap_alloc_old _ _ (by omega)];exact y0
   ·rw[heap_alloc_old _ _ (by omega)];exact y1
   ·rw[show w.heap.size+1+1=y.heap.size by omega,heap_alloc_new,zl0]
   ·rw[World.size_alloc,s2]
  go_enter Tryz.func54,Tryz.ntmps54;go_wp2_with (refine wpList_store_row rfl 130 (.tmp 3) (.tmp 14) rfl (w.heap.size+1) #[.int .i64 400,.int .i64 0,.int .i64 0,.string ⟨#[]⟩,.string ⟨#[]⟩,.int .i64 0,.bool false,.bool false,.bool false,.slice none 0 0,.bool false,.bool false,.slice none 0 0,.bool false,.int .i64 0,.bool false,.int .i64 0,.bool false,.string ⟨#[]⟩,.int .i64 0,.string ⟨#[]⟩] rfl rfl 130 #[.int .i64 0,.int .i64 0,.int .i64 0,.string ⟨#[]⟩,.string ⟨#[]⟩,.int .i64 0,.bool false,.bool false,.bool false,.slice none 0 0,.bool false,.bool false,.slice none 0 0,.bool false,.int .i64 0,.bool false,.int .i64 0,.bool false,.string ⟨#[]⟩,.int .i64 0,.string ⟨#[]⟩] Ag du rfl (eJ (zRq 400) rfl rfl) ?_);obtain⟨x,hx⟩:∃ x,(((w.alloc (.cells #[.int .i64 0,.int .i64 0,.int .i64 0,.string ⟨#[]⟩,.string ⟨#[]⟩,.int .i64 0,.bool false,.bool false,.bool false,.slice none 0 0,.bool false,.bool false,.slice none 0 0,.bool false,.int .i64 0,.bool false,.int .i64 0,.bool false,.string ⟨#[]⟩,.int .i64 0,.string ⟨#[]⟩] 130)).alloc (.cells #[.int .i64 0,.int .i64 0,.int .i64 0,.string ⟨#[]⟩,.string ⟨#[]⟩,.int .i64 0,.bool false,.bool false,.bool false,.slice none 0 0,.bool false,.bool false,.slice none 0 0,.bool false,.int .i64 0,.bool false,.int .i64 0,.bool false,.string ⟨#[]⟩,.int .i64 0,.string ⟨#[]⟩] 130)).setRow (w.heap.size+1) #[.int .i64 400,.int .i64 0,.int .i64 0,.string ⟨#[]⟩,.string ⟨#[]⟩,.int .i64 0,.bool false,.bool false,.bool false,.slice none 0 0,.bool false,.bool false,.slice none 0 0,.bool false,.int .i64 0,.bool false,.int .i64 0,.bool false,.string ⟨#[]⟩,.int .i64 0,.string ⟨#[]⟩]).alloc (.cells #[.int .i64 0,.int .i64 0,.int .i64 0,.string ⟨#[]⟩,.string ⟨#[]⟩,.int .i64 0,.bool false,.bool false,.bool false,.slice none 0 0,.bool false,.bool false,.slice none 0 0,.bool false,.int .i64 0,.bool false,.int .i64 0,.bool false,.string ⟨#[]⟩,.int .i64 0,.string ⟨#[]⟩] 130)=x:=⟨_,rfl⟩;have Al:Hid (Rz w x/\x.heap[w.heap.size+1+1]?=some (.cells (aj (zRq 0)) 130 (0,0))/\x.heap.size=w.heap.size+3):=Al.out x hx.symm;rw[hx];clear hx Ag;have A1:Hid _:=kS ⟨l.toArray⟩ 0 x (by rw[Ay];omega) (by omega);(have An:Hid (iT (⟨l.toArray⟩:ByteArray).data.toList 0=match bh l with|none=>.tuple #[.string ⟨#[]⟩,.int .i64 (-1)]|some y=>.tuple #[.string ⟨y.1.toArray⟩,.int .i64 ((l.length-y.2.length:Nat):Int)]):=by show _=_;unfold iT;rw[List.drop_zero];rfl);rw[An.out] at A1;clear An;have hT:Hid _:=hT;cases hla:bh l with
  | none =>
    have HR:Hid _:=rr2 h2 (pr1 hla);rw[hla] at A1;have A0:=Al.out.1;clear hla;refine Calls.mono A1.out ?_;rintro e w1 ⟨rfl,A6⟩;rw[A6];clear A6 A1;go_wp2_with (first
     | (refine wpList_load_row rfl 130 (.tmp 3) rfl (w.heap.size+1) rfl 130 (aj (zRq 400)) (0,0) _ A0.bad Tryz.underlying130 rfl du ?_)
     | (refine wpList_store_row rfl 130 (.tmp 2) (.tmp 22) rfl w.heap.size (aj (zRq 400)) rfl rfl 130 (aj (zRq 0)) A0.res du rfl (eJ _ rfl rfl) ?_))
    exact bodyPost_ret (v:=.agg (aj (zRq 400))) (aL _ _ w.heap.size _ rfl (A0.row _).2 rfl) rfl ⟨(A0.row _).1,Or.inl ⟨400,HR.out,rfl⟩⟩
  | some y =>
    obtain⟨Ab,A2⟩:=y;have A9:=gx l _ hla;rw[hla] at A1;simp only at A1 A9;(have Ai:Ab.length+(2+A2.length)=l.length:=by have:=congrArg List.length A9.1;simp only[List.length_append,List.length_cons,List.length_nil] at this;omega);have Bf:Hid _:=pj (w.heap.size+1+1) (aj (zRq 0)) Ab x Al.out.2.1 rfl rfl rfl rfl (by omega);have Aw:Hid _:=hla;(have Aj:Hid (l.drop (l.length-A2.length)=A2):=by show _=_;(have e:l.length-A2.length=(Ab++[13,10]).length:=by simp;omega);rw[e];(conv=>lhs;rw[A9.1]);rw[List.drop_left]);obtain⟨a0,Bk⟩:∃ a,l.length-A2.length=a:=⟨_,rfl⟩;rw[Bk] at Aj A1;(have Bz:a0<=l.length:=by omega);(have Be:Hid (A2.length+a0=l.length):=by show _=_;omega);clear hla A9 Ai Bk;refine Calls.mono A1.out ?_;rintro e w1 ⟨rfl,A6⟩;rw[A6];clear A6 A1;go_wp2_with fail;refine Calls.mono Bf.out ?_;rintro e w2 ⟨Ak,hk,rfl,Bi⟩;have B6:Hid (Rz w w2):=Al.out.1.off hk.off (λ k hk=>by omega);have At:Hid _:=hk;have Bm:Hid _:=Bi;clear hk Bi Bf;cases hfr:gn Ab with
    | none =>
      have HR:Hid _:=rr2 h2 (pr2 Aw.out hfr);have A0:=B6.out;clear hfr;go_wp2_with (first
       | (refine wpList_load_row rfl 130 (.tmp 3) rfl (w.heap.size+1) rfl 130 (aj (zRq 400)) (0,0) _ A0.bad Tryz.underlying130 rfl du ?_)
       | (refine wpList_store_row rfl 130 (.tmp 2) (.tmp 27) rfl w.heap.size (aj (zRq 400)) rfl rfl 130 (aj (zRq 0)) A0.res du rfl (eJ _ rfl rfl) ?_))
      exact bodyPost_ret (v:=.agg (aj (zRq 400))) (aL _ _ w.heap.size _ rfl (A0.row _).2 rfl) rfl ⟨(A0.row _).1,Or.inl ⟨400,HR.out,rfl⟩⟩
    | some y =>
      obtain⟨m,t⟩:=y;have HC:Hid _:=Bm.out _ hfr;have B8:Hid _:=hfr;clear Bm hfr;obtain⟨O,hO⟩:∃ O,eD (A2.length+1) k0 A2=O:=⟨_,rfl⟩;have HO:Hid _:=hO;clear hO;have Bc:Hid (∀ i,i≠1->i≠2->i≠3->i≠4->i≠5->Ak[i]?=(aj (zRq 0))[i]?):=At.out.same;have B4:w.heap.size+1+1<w2.heap.size:=(gL At.out.blk);have As:Hid (Fa (w2.alloc (.cells #[.bool false,.bool false,.bool false,.bool false] 195)) (w.heap.size+1+1) w2.heap.size Ak z0):=by
       refine⟨?_,?_,BL Ak Bc.out,heap_alloc_new _ _,by omega⟩
       ·rw[heap_alloc_old _ _ B4];exact At.out.blk
       ·rw[At.out.size];rfl
      have Av:Hid (Rz w (w2.alloc (.cells #[.bool false,.bool false,.bool false,.bool false] 195))):=B6.out.off (Off.of_below (S:=λ _=>False) ((Below.refl _ _).alloc (Nat.le_refl _) _)) (λ _ h=>h.elim);have Bl:Hid (Tab (w2.alloc (.cells #[.bool false,.bool false,.bool false,.bool false] 195))):=hT.out.below Av.out.b;go_wp2_with fail;obtain⟨X,hX⟩:∃ X,w2.alloc (.cells #[.bool false,.bool false,.bool false,.bool false] 195)=X:=⟨_,rfl⟩;(have By:w2.heap.size+1=X.heap.size:=by rw[<- hX,World.size_alloc]);rw[hX] at As Av Bl ⊢;clear hX B6 Al;obtain⟨q,hq⟩:∃ q,w2.heap.size=q:=⟨_,rfl⟩;rw[hq] at By As B4 ⊢;clear hq;obtain⟨g,hg⟩:∃ g,w.heap.size+1+1=g:=⟨_,rfl⟩;(have C4:w.heap.size+1<g:=by omega);rw[hg] at As B4 ⊢;clear hg At;go_loopw [5,6,7,9] (λ v5 v6 v7 v9 wr=>∃ (a f:Nat) (k:Cnd) (c:Cst) (RC:Array Value) (mo:Bool),a<=l.length/\v6=.int .i64 a/\v9=.bool mo/\Hid (if mo then (l.length-a<f/\eD f k (l.drop a)=O) else O=some (k,l.drop a))/\Hid (Rz w wr/\Fa wr g q RC c/\Rq wr q c k/\(∀ i,(i<7\/16<i)->RC[i]?=Ak[i]?)/\q+1<=wr.heap.size)) (λ _ v6 _ _ _=>l.length-(intOf v6).toNat);(case atStart=>exact⟨a0,A2.length+1,k0,z0,Ak,true,Bz,rfl,rfl,⟨by have:=Be.out;omega,by rw[Aj.out];exact HO.out⟩,⟨Av.out,As.out,rq0 _ _,λ _ _=>rfl,by omega⟩⟩);case round =>
       obtain⟨a,f,k,c,RC,mo,ha,rfl,rfl,Az,hw⟩:=hrel;clear As Av Bl Aj Be;cases mo with
       | true =>
         obtain⟨Bq,Bb⟩:=Az.out;have A5:Hid _:=Bb;have A1:Hid _:=kS ⟨l.toArray⟩ a wr (by rw[Ay];omega) (by rw[Ay];exact ha);have An:Hid (iT (⟨l.toArray⟩:ByteArray).data.toList a=match bh (l.drop a) with|none=>.tuple #[.string ⟨#[]⟩,.int .i64 (-1)]|some y=>.tuple #[.string ⟨y.1.toArray⟩,.int .i64 ((l.length-y.2.length:Nat):Int)]):=rfl;rw[An.out] at A1;clear An Az Bb;obtain⟨f',B9⟩:∃ f',f=f'+1:=⟨f-1,by omega⟩;rw[B9,eD] at A5;(have Bx:Hid (l.length-a<=f'):=by show _<=_;omega);clear B9 Bq;cases hla:bh (l.drop a) with
         | none =>
           rw[hla] at A1 A5;have HR:Hid _:=rr2 h2 (pr3 Aw.out B8.out (HO.out.trans A5.out.symm));have A0:=hw.out.1;clear hla;go_wp2_with fail;refine Calls.mono A1.out ?_;rintro e w1 ⟨rfl,A6⟩;rw[A6];clear A6 A1;go_wp2_with (first
            | (refine wpList_load_row rfl 130 (.tmp 3) rfl (w.heap.size+1) rfl 130 (aj (zRq 400)) (0,0) _ A0.bad Tryz.underlying130 rfl du ?_)
            | (refine wpList_store_row rfl 130 (.tmp 2) (.tmp 37) rfl w.heap.size (aj (zRq 400)) rfl rfl 130 (aj (zRq 0)) A0.res du rfl (eJ _ rfl rfl) ?_))
           exact bodyPost_ret (v:=.agg (aj (zRq 400))) (aL _ _ w.heap.size _ rfl (A0.row _).2 rfl) rfl ⟨(A0.row _).1,Or.inl ⟨400,HR.out,rfl⟩⟩
         | some y =>
           obtain⟨ln,rs⟩:=y;have A9:=gx _ _ hla;rw[hla] at A1 A5;simp only at A1 A5 A9;(have Ai:ln.length+(2+rs.length)=l.length-a:=by have:=congrArg List.length A9.1;simp only[List.length_append,List.length_cons,List.length_nil,List.length_drop] at this;omega);(have Aj:Hid (l.drop (l.length-rs.length)=rs):=by show _=_;(have e:l.length-rs.length=a+(ln++[13,10]).length:=by simp;omega);rw[e,<- List.drop_drop,A9.1,List.drop_left]);obtain⟨a1,Bj⟩:∃ x,l.length-rs.length=x:=⟨_,rfl⟩;rw[Bj] at Aj A1;have Br:Hid _:=A9.2;(have C3:a<a1:=by omega);(have Ao:a1<=l.length:=by omega);(have C0:Hid (ln.length<=2000):=by show _<=_;omega);clear hla A9 Ai Bj;go_wp2_with fail;refine Calls.mono A1.out ?_;rintro e w1 ⟨rfl,A6⟩;rw[A6];clear A6 A1;by_cases hn:ln=[]
           ·subst hn;rw[if_pos rfl] at A5;go_wp2_with fail;refine⟨⟨a1,0,k,c,RC,false,Ao,rfl,rfl,?_,hw⟩,?_⟩
            ·show O=some (k,l.drop a1);rw[<- A5.out,Aj.out]
            ·simp[intOf];omega
           ·rw[if_neg hn] at A5;(have Bw:ln.isEmpty=false:=by simpa using hn);have Bs:(ln=[])=False:=eq_false hn;(have Bv:(ln==[])=false:=by simpa using hn);have C1:Hid (Tab wr):=hT.out.below hw.out.1.b;have Bp:Hid _:=qF g q q RC c k ln wr hw.out.2.1 hw.out.2.2.1 (by omega) (by omega) hw.out.2.2.2.2 C1.out (by have:=C0.out;omega) Br.out;clear hn;go_wp2_with fail;all_goals first
             | (exfalso;simp_all;done)
             | skip
            refine Calls.mono Bp.out ?_;rintro e w3 ⟨ho,⟨k',c',B7,Aq,rfl,Bg,Bd,Bh⟩|⟨Aq,rfl⟩⟩
            ·rw[Aq] at A5;have B3:Hid (Rz w w3/\Fa w3 g q B7 c'/\Rq w3 q c' k'/\(∀ i,(i<7\/16<i)->B7[i]?=Ak[i]?)/\q+1<=w3.heap.size):=⟨hw.out.1.off ho (λ k hk=>by rcases hk with rfl|rfl<;>omega),Bg,Bd,λ i hi=>(Bh i hi).trans (hw.out.2.2.2.1 i hi),Nat.le_trans hw.out.2.2.2.2 ho.size⟩;clear ho Aq Bg Bd Bh;go_wp2_with fail;refine⟨⟨a1,f',k',c',B7,true,Ao,rfl,rfl,?_,B3⟩,?_⟩
             ·show l.length-a1<f'/\eD f' k' (l.drop a1)=O;rw[Aj.out];exact⟨by have:=Bx.out;omega,A5.out⟩
             ·simp[intOf];omega
            ·rw[Aq] at A5;have HR:Hid _:=rr2 h2 (pr3 Aw.out B8.out (HO.out.trans A5.out.symm));have B3:Hid (Rz w w3):=hw.out.1.off ho (λ k hk=>by rcases hk with rfl|rfl<;>omega);have A0:=B3.out;clear ho Aq;go_wp2_with (first
              | (refine wpList_load_row rfl 130 (.tmp 3) rfl (w.heap.size+1) rfl 130 (aj (zRq 400)) (0,0) _ A0.bad Tryz.underlying130 rfl du ?_)
              | (refine wpList_store_row rfl 130 (.tmp 2) (.tmp 45) rfl w.heap.size (aj (zRq 400)) rfl rfl 130 (aj (zRq 0)) A0.res du rfl (eJ _ rfl rfl) ?_))
             exact bodyPost_ret (v:=.agg (aj (zRq 400))) (aL _ _ w.heap.size _ rfl (A0.row _).2 rfl) rfl ⟨(A0.row _).1,Or.inl ⟨400,HR.out,rfl⟩⟩
       | false =>
         have Bt:Hid (O=some (k,l.drop a)):=Az.out;have HP:Hid (da l=some (m,t,k,l.drop a)):=pr4 Aw.out B8.out (HO.out.trans Bt.out);obtain⟨body,Ax⟩:∃ b,l.drop a=b:=⟨_,rfl⟩;rw[Ax] at HP;obtain⟨n,hn⟩:∃ n,l.length=n:=⟨_,rfl⟩;(have Ca:(⟨l.toArray⟩:ByteArray).extract a n=⟨body.toArray⟩:=by apply ByteArray.ext;apply Array.toList_inj.1;rw[Lib.extract_data];show ((l.drop a).take (n-a))=body;rw[<- Ax,<- hn,List.take_of_length_le (by rw[List.length_drop];exact Nat.le_refl _)]);(have Bu:body.length<=2000:=by rw[<- Ax,List.length_drop];omega);rw[hn] at Ay ha Ba;have Am:Hid _:=h2;have C9:(⟨body.toArray⟩:ByteArray).size=body.length:=Lib.size_eq _;obtain⟨W,hW⟩:∃ W,wr.setCell ⟨g,20,none⟩ (.string ⟨body.toArray⟩)=W:=⟨_,rfl⟩;have Au:=hw.out.2.2.2.1 20 (by omega);have B5:=hw.out.2.1.size;(have Aa:Hid (W.heap[g]?=some (.cells (RC.setIfInBounds 20 (.string ⟨body.toArray⟩)) 130 (0,0))):=by rw[<- hW];exact ah hw.out.2.1.blk);(have Ar:Hid (Rz w W):=by rw[<- hW];exact hw.out.1.off ((Off.refl (λ k=>k=g) wr).set g 20 _ (Or.inl rfl)) (λ k hk=>by omega));(have A4:Hid (Rq W q c k):=by rw[<- hW];exact hw.out.2.2.1.set (by omega));(have B2:Hid (q+1<=W.heap.size):=by show _<=_;rw[<- hW];have:=hw.out.2.2.2.2;simpa using this);(obtain⟨C5,Cc⟩:∃ v,wr.cell? ⟨g,20,none⟩=some v:=by simp only[World.cell?,hw.out.2.1.blk];exact⟨RC[20]'(by omega),Array.getElem?_eq_getElem (by omega)⟩);have Cd:=(hw.out.2.1.fz 20).1;have B0:Hid ((RC.setIfInBounds 20 (.string ⟨body.toArray⟩))[1]?=some (.int .i64 (m:Int))/\(RC.setIfInBounds 20 (.string ⟨body.toArray⟩))[2]?=some (.int .i64 (t.tg:Int))):=⟨by rw[Array.getElem?_setIfInBounds_ne (by omega),hw.out.2.2.2.1 1 (by omega)];exact HC.out.1,by rw[Array.getElem?_setIfInBounds_ne (by omega),hw.out.2.2.2.1 2 (by omega)];exact HC.out.2.1⟩;(have C6:W.cell? ⟨g,20,none⟩=some (.string ⟨body.toArray⟩):=by simp only[World.cell?,Aa.out];exact Array.getElem?_setIfInBounds_self_of_lt (by omega));(have d1:W.cell? ⟨g,1,none⟩=some (.int .i64 (m:Int)):=by simp only[World.cell?,Aa.out];exact B0.out.1);(have d2:W.cell? ⟨g,2,none⟩=some (.int .i64 (t.tg:Int)):=by simp only[World.cell?,Aa.out];exact B0.out.2);(have f6:W.frozen? ⟨g,6,none⟩=false:=by simp[World.frozen?,Aa.out]);(have d6:∃ v,W.cell? ⟨g,6,none⟩=some v:=by simp only[World.cell?,Aa.out];exact⟨(RC.setIfInBounds 20 (.string ⟨body.toArray⟩))[6]'(by rw[Array.size_setIfInBounds];omega),Array.getElem?_eq_getElem (by rw[Array.size_setIfInBounds];omega)⟩);obtain⟨v6,d6⟩:=d6;have Ac:Hid ((RC.setIfInBounds 20 (.string ⟨body.toArray⟩)).setIfInBounds 6 (.bool (m==3||m==4))=aj (cG m t c body)):=yO B5 Bc.out HC.out hw.out.2.2.2.1 hw.out.2.1.ask;have Ad:Hid _:=pV g (RC.setIfInBounds 20 (.string ⟨body.toArray⟩)) m t.tg W Aa.out B0.out.1 B0.out.2;have A0:=Ar.out;clear Az Ax h2 hn Au hl;by_cases hb:body=[]
         ·subst hb;have HK:Hid (¬ (([]:List UInt8)≠[]/\¬ (m=3/\t.tg=2))):=λ h=>h.1 rfl;(have h4:¬ 400<([]:List UInt8).length:=by simp);clear Bu;go_wp2_with fail;refine Calls.mono Ad.out ?_;rintro e w4 ⟨rfl,Ap⟩;rw[Ap];clear Ap;cases hfi:mK m t.tg with
          | false =>have HR:Hid _:=rr5 Am.out HP.out HK.out h4 hfi;clear hfi Ad;go_wp2_with (refine wpList_store_row rfl 130 (.tmp 2) (.tmp 72) rfl w.heap.size (aj (zRq 405)) rfl rfl 130 (aj (zRq 0)) A0.res du rfl (eJ (zRq 405) rfl rfl) ?_);exact bodyPost_ret (v:=.agg (aj (zRq 405))) (aL _ _ w.heap.size _ rfl (A0.row _).2 rfl) rfl ⟨(A0.row _).1,Or.inl ⟨405,HR.out,rfl⟩⟩
          | true =>
            have HR:Hid _:=rr6 Am.out HP.out HK.out h4 hfi;clear hfi A0;by_cases m3:m=3
            ·(have A7:(m==3||m==4)=true:=by rw[m3];rfl);(have B1:(m:Int)=3:=by omega);clear m3;(have Ae:Hid ((W.setCell ⟨g,6,none⟩ (.bool true)).heap[g]?=some (.cells (aj (cG m t c [])) 130 (0,0))):=by show _=_;rw[<- Ac.out,A7];exact ah Aa.out);have A3:Hid (Rz w (W.setCell ⟨g,6,none⟩ (.bool true))):=Ar.out.off ((Off.refl (λ k=>k=g) W).set g 6 _ (Or.inl rfl)) (λ k hk=>by omega);have Ah:Hid (Rq (W.setCell ⟨g,6,none⟩ (.bool true)) q c k):=A4.out.set (by omega);(have Af:Hid (q<(W.setCell ⟨g,6,none⟩ (.bool true)).heap.size):=by show _<_;have:=B2.out;simp;omega);have A8:Hid (c.lm.oneCell'=true/\c.ln.oneCell'=true):=⟨A4.out.m.one,A4.out.n.one⟩;clear A7 Ac Ad;go_wp2_with (first
              | (refine wpList_load_row rfl 130 (.tmp 4) rfl g rfl 130 (aj (cG m t c [])) (0,0) _ Ae.out Tryz.underlying130 rfl du ?_)
              | (refine wpList_store_row rfl 130 (.tmp 2) (.tmp 83) rfl w.heap.size (aj (cG m t c [])) rfl rfl 130 (aj (zRq 0)) A3.out.res du rfl (eJ _ A8.out.1 A8.out.2) ?_))
             exact bodyPost_ret (v:=.agg (aj (cG m t c []))) (aL _ _ w.heap.size _ rfl (A3.out.row _).2 rfl) rfl ⟨(A3.out.row _).1,Or.inr ⟨m,t,k,[],c,q,HR.out,rfl,by omega,by rw[setRow_size];exact Af.out,Ah.out.row (by omega)⟩⟩
            ·by_cases m4:m=4
             ·(have A7:(m==3||m==4)=true:=by rw[m4];rfl);(have B1:¬ (m:Int)=3:=by omega);(have C2:(m:Int)=4:=by omega);clear m3 m4;(have Ae:Hid ((W.setCell ⟨g,6,none⟩ (.bool true)).heap[g]?=some (.cells (aj (cG m t c [])) 130 (0,0))):=by show _=_;rw[<- Ac.out,A7];exact ah Aa.out);have A3:Hid (Rz w (W.setCell ⟨g,6,none⟩ (.bool true))):=Ar.out.off ((Off.refl (λ k=>k=g) W).set g 6 _ (Or.inl rfl)) (λ k hk=>by omega);have Ah:Hid (Rq (W.setCell ⟨g,6,none⟩ (.bool true)) q c k):=A4.out.set (by omega);(have Af:Hid (q<(W.setCell ⟨g,6,none⟩ (.bool true)).heap.size):=by show _<_;have:=B2.out;simp;omega);have A8:Hid (c.lm.oneCell'=true/\c.ln.oneCell'=true):=⟨A4.out.m.one,A4.out.n.one⟩;clear A7 Ac Ad;go_wp2_with (first
               | (refine wpList_load_row rfl 130 (.tmp 4) rfl g rfl 130 (aj (cG m t c [])) (0,0) _ Ae.out Tryz.underlying130 rfl du ?_)
               | (refine wpList_store_row rfl 130 (.tmp 2) (.tmp 83) rfl w.heap.size (aj (cG m t c [])) rfl rfl 130 (aj (zRq 0)) A3.out.res du rfl (eJ _ A8.out.1 A8.out.2) ?_))
              exact bodyPost_ret (v:=.agg (aj (cG m t c []))) (aL _ _ w.heap.size _ rfl (A3.out.row _).2 rfl) rfl ⟨(A3.out.row _).1,Or.inr ⟨m,t,k,[],c,q,HR.out,rfl,by omega,by rw[setRow_size];exact Af.out,Ah.out.row (by omega)⟩⟩
             ·(have A7:(m==3||m==4)=false:=by simp[m3,m4]);(have B1:¬ (m:Int)=3:=by omega);(have C2:¬ (m:Int)=4:=by omega);(have Cb:((m:Int)==3)=false:=by simp;omega);(have C7:((m:Int)==4)=false:=by simp;omega);clear m3 m4;(have Ae:Hid ((W.setCell ⟨g,6,none⟩ (.bool false)).heap[g]?=some (.cells (aj (cG m t c [])) 130 (0,0))):=by show _=_;rw[<- Ac.out,A7];exact ah Aa.out);have A3:Hid (Rz w (W.setCell ⟨g,6,none⟩ (.bool false))):=Ar.out.off ((Off.refl (λ k=>k=g) W).set g 6 _ (Or.inl rfl)) (λ k hk=>by omega);have Ah:Hid (Rq (W.setCell ⟨g,6,none⟩ (.bool false)) q c k):=A4.out.set (by omega);(have Af:Hid (q<(W.setCell ⟨g,6,none⟩ (.bool false)).heap.size):=by show _<_;have:=B2.out;simp;omega);have A8:Hid (c.lm.oneCell'=true/\c.ln.oneCell'=true):=⟨A4.out.m.one,A4.out.n.one⟩;clear A7 Ac Ad;go_wp2_with (first
               | (refine wpList_load_row rfl 130 (.tmp 4) rfl g rfl 130 (aj (cG m t c [])) (0,0) _ Ae.out Tryz.underlying130 rfl du ?_)
               | (refine wpList_store_row rfl 130 (.tmp 2) (.tmp 83) rfl w.heap.size (aj (cG m t c [])) rfl rfl 130 (aj (zRq 0)) A3.out.res du rfl (eJ _ A8.out.1 A8.out.2) ?_))
              exact bodyPost_ret (v:=.agg (aj (cG m t c []))) (aL _ _ w.heap.size _ rfl (A3.out.row _).2 rfl) rfl ⟨(A3.out.row _).1,Or.inr ⟨m,t,k,[],c,q,HR.out,rfl,by omega,by rw[setRow_size];exact Af.out,Ah.out.row (by omega)⟩⟩
         ·(have Bw:body.isEmpty=false:=by simpa using hb);have Bs:(body=[])=False:=eq_false hb;(have Bv:(body==[])=false:=by simpa using hb);by_cases hmt:m=3/\t.tg=2
          ·have HK:Hid (¬ (body≠[]/\¬ (m=3/\t.tg=2))):=λ h=>h.2 hmt;(have Cf:(m:Int)=3:=by omega);(have Ce:(t.tg:Int)=2:=by omega);have Bn:Hid _:=hmt;clear hb hmt;by_cases h4:400<body.length
           ·have HR:Hid _:=rr4 Am.out HP.out HK.out h4;(have Bo:(400:Int)<(body.length:Int):=by omega);go_wp2_with (refine wpList_store_row rfl 130 (.tmp 2) (.tmp 68) rfl w.heap.size (aj (zRq 413)) rfl rfl 130 (aj (zRq 0)) A0.res du rfl (eJ (zRq 413) rfl rfl) ?_);exact bodyPost_ret (v:=.agg (aj (zRq 413))) (aL _ _ w.heap.size _ rfl (A0.row _).2 rfl) rfl ⟨(A0.row _).1,Or.inl ⟨413,HR.out,rfl⟩⟩
           ·(have Bo:¬ (400:Int)<(body.length:Int):=by omega);go_wp2_with fail;refine Calls.mono Ad.out ?_;rintro e w4 ⟨rfl,Ap⟩;rw[Ap];clear Ap;cases hfi:mK m t.tg with
            | false =>have HR:Hid _:=rr5 Am.out HP.out HK.out h4 hfi;clear hfi Ad;go_wp2_with (refine wpList_store_row rfl 130 (.tmp 2) (.tmp 72) rfl w.heap.size (aj (zRq 405)) rfl rfl 130 (aj (zRq 0)) A0.res du rfl (eJ (zRq 405) rfl rfl) ?_);exact bodyPost_ret (v:=.agg (aj (zRq 405))) (aL _ _ w.heap.size _ rfl (A0.row _).2 rfl) rfl ⟨(A0.row _).1,Or.inl ⟨405,HR.out,rfl⟩⟩
            | true =>
              have HR:Hid _:=rr6 Am.out HP.out HK.out h4 hfi;clear hfi A0;(have A7:(m==3||m==4)=true:=by rw[Bn.out.1];rfl);(have Ae:Hid ((W.setCell ⟨g,6,none⟩ (.bool true)).heap[g]?=some (.cells (aj (cG m t c body)) 130 (0,0))):=by show _=_;rw[<- Ac.out,A7];exact ah Aa.out);have A3:Hid (Rz w (W.setCell ⟨g,6,none⟩ (.bool true))):=Ar.out.off ((Off.refl (λ k=>k=g) W).set g 6 _ (Or.inl rfl)) (λ k hk=>by omega);have Ah:Hid (Rq (W.setCell ⟨g,6,none⟩ (.bool true)) q c k):=A4.out.set (by omega);(have Af:Hid (q<(W.setCell ⟨g,6,none⟩ (.bool true)).heap.size):=by show _<_;have:=B2.out;simp;omega);have A8:Hid (c.lm.oneCell'=true/\c.ln.oneCell'=true):=⟨A4.out.m.one,A4.out.n.one⟩;clear A7 Ac Ad;go_wp2_with (first
               | (refine wpList_load_row rfl 130 (.tmp 4) rfl g rfl 130 (aj (cG m t c body)) (0,0) _ Ae.out Tryz.underlying130 rfl du ?_)
               | (refine wpList_store_row rfl 130 (.tmp 2) (.tmp 83) rfl w.heap.size (aj (cG m t c body)) rfl rfl 130 (aj (zRq 0)) A3.out.res du rfl (eJ _ A8.out.1 A8.out.2) ?_))
              exact bodyPost_ret (v:=.agg (aj (cG m t c body))) (aL _ _ w.heap.size _ rfl (A3.out.row _).2 rfl) rfl ⟨(A3.out.row _).1,Or.inr ⟨m,t,k,body,c,q,HR.out,rfl,by omega,by rw[setRow_size];exact Af.out,Ah.out.row (by omega)⟩⟩
          ·have HR:Hid _:=rr3 Am.out HP.out ⟨hb,hmt⟩;by_cases m3:m=3
           ·have t2:¬ t.tg=2:=λ h=>hmt ⟨m3,h⟩;(have B1:(m:Int)=3:=by omega);(have C8:¬ (t.tg:Int)=2:=by omega);clear hb hmt m3 t2;go_wp2_with (first
             | (refine wpList_load_row rfl 130 (.tmp 3) rfl (w.heap.size+1) rfl 130 (aj (zRq 400)) (0,0) _ A0.bad Tryz.underlying130 rfl du ?_)
             | (refine wpList_store_row rfl 130 (.tmp 2) (.tmp 63) rfl w.heap.size (aj (zRq 400)) rfl rfl 130 (aj (zRq 0)) A0.res du rfl (eJ _ rfl rfl) ?_))
            exact bodyPost_ret (v:=.agg (aj (zRq 400))) (aL _ _ w.heap.size _ rfl (A0.row _).2 rfl) rfl ⟨(A0.row _).1,Or.inl ⟨400,HR.out,rfl⟩⟩
           ·(have B1:¬ (m:Int)=3:=by omega);clear hb hmt m3;go_wp2_with (first
             | (refine wpList_load_row rfl 130 (.tmp 3) rfl (w.heap.size+1) rfl 130 (aj (zRq 400)) (0,0) _ A0.bad Tryz.underlying130 rfl du ?_)
             | (refine wpList_store_row rfl 130 (.tmp 2) (.tmp 63) rfl w.heap.size (aj (zRq 400)) rfl rfl 130 (aj (zRq 0)) A0.res du rfl (eJ _ rfl rfl) ?_))
            exact bodyPost_ret (v:=.agg (aj (zRq 400))) (aL _ _ w.heap.size _ rfl (A0.row _).2 rfl) rfl ⟨(A0.row _).1,Or.inl ⟨400,HR.out,rfl⟩⟩
end Go.Proofs.YtmehkneofinmiaaGreatDoor

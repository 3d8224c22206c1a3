/-
 Texts of this proof, part 9.
-/
import Derived.Test.YtmehkneofinmiaaGreatDoorP08
import Derived.Laws.CopyOwn
set_option maxRecDepth 100000
set_option maxHeartbeats 4000000
namespace Go.Proofs.YtmehkneofinmiaaGreatDoor
open Go.RowKit
noncomputable def parseF (l:List UInt8):Option (Nat×Tgt×Cnd×List UInt8) :=
 if (Lib.cut l [13,10]).2.2 then
  (if (Lib.cut (Lib.cut l [13,10]).1 [32]).2.2 then
    (match methF (Lib.cut (Lib.cut l [13,10]).1 [32]).1 with
    | none=>none
    | some m=>match targetF (Lib.cut (Lib.cut l [13,10]).1 [32]).2.1 with
      | none=>none
      | some t=>match fieldsF ((Lib.cut l [13,10]).2.1.length+1) k0 (Lib.cut l [13,10]).2.1 with
        | none=>none
        | some (k,body)=>some (m,t,k,body)) else none) else none
theorem pf1 {l line rest:List UInt8}(h1:Lib.cut l [13,10]=(line,rest,false)):parseF l=none:=by simp[parseF,h1]
theorem pf2 {l line rest mt tt:List UInt8}(h1:Lib.cut l [13,10]=(line,rest,true))(h2:Lib.cut line [32]=(mt,tt,false)):parseF l=none:=by simp[parseF,h1,h2]
theorem pf3 {l line rest mt tt:List UInt8}(h1:Lib.cut l [13,10]=(line,rest,true))(h2:Lib.cut line [32]=(mt,tt,true))(h3:methF mt=none):parseF l=none:=by simp[parseF,h1,h2,h3]
theorem pf4 {l line rest mt tt:List UInt8}{m:Nat}(h1:Lib.cut l [13,10]=(line,rest,true))(h2:Lib.cut line [32]=(mt,tt,true))(h3:methF mt=some m)(h4:targetF tt=none):parseF l=none:=by simp[parseF,h1,h2,h3,h4]
theorem pf5 {l line rest mt tt:List UInt8}{m:Nat}{t:Tgt}(h1:Lib.cut l [13,10]=(line,rest,true))(h2:Lib.cut line [32]=(mt,tt,true))(h3:methF mt=some m)(h4:targetF tt=some t)(h5:fieldsF (rest.length+1) k0 rest=none):parseF l=none:=by simp[parseF,h1,h2,h3,h4,h5]
theorem pf6 {l line rest mt tt body:List UInt8}{m:Nat}{t:Tgt}{k:Cnd}(h1:Lib.cut l [13,10]=(line,rest,true))(h2:Lib.cut line [32]=(mt,tt,true))(h3:methF mt=some m)(h4:targetF tt=some t)(h5:fieldsF (rest.length+1) k0 rest=some (k,body)):parseF l=some (m,t,k,body):=by simp[parseF,h1,h2,h3,h4,h5]
def reqV (m:Nat)(t:Tgt)(wr:Bool)(c:Cst)(body:List UInt8):Value :=
 .agg #[.int .i64 (m:Int),.int .i64 (t.kind:Int),.string ⟨t.key.toArray⟩,.int .i64 (t.num:Int),.bool wr,.bool c.hm,.bool c.am,c.lm,.bool c.hn,.bool c.an,c.ln,.bool c.hs,.int .i64 c.si,.bool c.hu,.int .i64 c.ul,.bool false,.string ⟨#[]⟩,.int .i64 0,.string ⟨body.toArray⟩]
structure Pz (w x:World)(vs:Array Value):Prop where
 b:Below w.heap.size w x
 blk:x.heap[w.heap.size]?=some (.cells vs 95 (0,0))
theorem Pz.lt {w x:World}{vs:Array Value}(h:Pz w x vs):w.heap.size<x.heap.size:=(Array.getElem?_eq_some_iff.1 h.blk).1
theorem Pz.made (w:World):Pz w (w.alloc (.cells #[.int .i64 0,.int .i64 0,.string ⟨#[]⟩,.int .i64 0,.bool false,.bool false,.bool false,.slice none 0 0,.bool false,.bool false,.slice none 0 0,.bool false,.int .i64 0,.bool false,.int .i64 0,.bool false,.string ⟨#[]⟩,.int .i64 0,.string ⟨#[]⟩] 95)) #[.int .i64 0,.int .i64 0,.string ⟨#[]⟩,.int .i64 0,.bool false,.bool false,.bool false,.slice none 0 0,.bool false,.bool false,.slice none 0 0,.bool false,.int .i64 0,.bool false,.int .i64 0,.bool false,.string ⟨#[]⟩,.int .i64 0,.string ⟨#[]⟩]:=⟨(Below.refl _ _).alloc (Nat.le_refl _) _,heap_alloc_last _ _⟩
theorem Pz.below {w x y:World}{vs:Array Value}(h:Pz w x vs)(hb:Below x.heap.size x y):Pz w y vs :=
 ⟨h.b.trans (hb.mono (Nat.le_of_lt h.lt)),(hb.block _ h.lt).trans h.blk⟩
theorem Pz.row {w x:World}{vs:Array Value}(h:Pz w x vs)(us:Array Value):Pz w (x.setRow w.heap.size us) us :=
 ⟨below_setRow h.b (Nat.le_refl _) us,setRow_heap x _ _ us 95 (0,0) h.blk⟩
theorem hi77:(Tryz.prog.info? 95).map (·.size)=some 19:=by kernel_rfl
theorem allZ:(#[.int .i64 0,.int .i64 0,.string ⟨#[]⟩,.int .i64 0,.bool false,.bool false,.bool false,.slice none 0 0,.bool false,.bool false,.slice none 0 0,.bool false,.int .i64 0,.bool false,.int .i64 0,.bool false,.string ⟨#[]⟩,.int .i64 0,.string ⟨#[]⟩]:Array Value).all (·.oneCell')=true:=by simp[Value.oneCell']
theorem results_two (tmps:Array Value)(x:World)(g:Nat)(vs:Array Value)(hp:tmps.getD 2 undef=.pointer (some ⟨g,0,none⟩))(hg:x.heap[g]?=some (.cells vs 95 (0,0)))(hs:vs.size=19) :
 (results Tryz.f70 tmps).run Tryz.prog x=.ok (.tuple #[.agg vs,tmps.getD 3 undef]) x:=by
 have hp':tmps[2]?.getD undef=.pointer (some ⟨g,0,none⟩):=by simpa using hp
 have hr:=run_loadVar_row (P:=Tryz.prog) x g 95 95 vs (0,0) _ hg Tryz.underlying95 rfl (by rw[hs];exact hi77)
 simp[results,Tryz.results70,hp',asAddr,hr]
theorem meth_any (s:List UInt8)(w:World):Calls Tryz.prog 123 #[.string ⟨s.toArray⟩] w fun e w'=>e=.returned (numOut (methF s))/\w'=w:=readMethod_any ⟨s.toArray⟩ w
structure Rq (x:World)(g:Nat)(c:Cst)(k:Cnd):Prop where
 m:Rl x g c.hm c.am c.lm c.s0 k.m
 n:Rl x g c.hn c.an c.ln c.s1 k.n
 s:Rd2 c.hs c.si c.s2 k.s
 u:Rd2 c.hu c.ul c.s3 k.u
theorem Rq.below {x y:World}{g:Nat}{c:Cst}{k:Cnd}(h:Rq x g c k)(hg:g<=x.heap.size)(hb:Below x.heap.size x y):Rq y g c k :=
 ⟨h.m.kept (Kp.of_below hg hb),h.n.kept (Kp.of_below hg hb),h.s,h.u⟩
theorem Rq.set {x:World}{g b i:Nat}{v:Value}{c:Cst}{k:Cnd}(h:Rq x g c k)(hb:b<g+1):Rq (x.setCell ⟨b,i,none⟩ v) g c k:=⟨h.m.set hb,h.n.set hb,h.s,h.u⟩
theorem Rl.mono {x:World}{g g':Nat}{h a:Bool}{l:Value}{s:Bool}{o:Option (Bool×TagL)}(r:Rl x g h a l s o)(hg:g'<=g):Rl x g' h a l s o:=by
 obtain⟨r1,r2,r3⟩:=r
 refine⟨r1,r2,?_⟩
 cases o with
 | none=>exact r3
 | some p=>exact⟨r3.1,owns_mono r3.2 (by omega)⟩
theorem Rl.row {x:World}{g b:Nat}{us:Array Value}{h a:Bool}{l:Value}{s:Bool}{o:Option (Bool×TagL)}(r:Rl x g h a l s o)(hb:b<g+1):Rl (x.setRow b us) g h a l s o:=by
 obtain⟨r1,r2,r3⟩:=r
 refine⟨r1,r2,?_⟩
 cases o with
 | none=>exact r3
 | some p =>
   refine⟨r3.1,r3.2.1,?_⟩
   rcases r3.2.2 with h0|⟨q,cap,cur,hv,hg,hh,rr⟩
   ·exact Or.inl h0
   ·exact Or.inr ⟨q,cap,cur,hv,hg,by rw[setRow_other x b q us (by omega)];exact hh,rr⟩
theorem Rq.row {x:World}{g b:Nat}{us:Array Value}{c:Cst}{k:Cnd}(h:Rq x g c k)(hb:b<g+1):Rq (x.setRow b us) g c k:=⟨h.m.row hb,h.n.row hb,h.s,h.u⟩
def isW (m:Nat):Bool:=m==2||m==3
theorem parse_any (hA:AnyIs)(l:List UInt8)(w:World)(hM:MaxIs w)(hl:l.length<=4000) :
 Calls Tryz.prog 70 #[.string ⟨l.toArray⟩] w fun e w'=>Below w.heap.size w w' /\
  ((∃ m t k body c g,parseF l=some (m,t,k,body)/\e=.returned (.tuple #[reqV m t (isW m) c body,.bool true])/\w.heap.size<g/\g<=w'.heap.size/\Rq w' g c k)\/(parseF l=none/\e=.returned (.tuple #[.agg #[.int .i64 0,.int .i64 0,.string ⟨#[]⟩,.int .i64 0,.bool false,.bool false,.bool false,.slice none 0 0,.bool false,.bool false,.slice none 0 0,.bool false,.int .i64 0,.bool false,.int .i64 0,.bool false,.string ⟨#[]⟩,.int .i64 0,.string ⟨#[]⟩],.bool false]))):=by
 have pz:=Pz.made w
 have hcl:=cut_le l [13,10]
 go_enter Tryz.func70,Tryz.ntmps70
 go_wp2_with fail
 refine (cut_any l [13,10] _ (hM.below pz.b) (by omega)).mono ?_
 rintro e w1 ⟨rfl,hb1⟩
 have pz1:=pz.below hb1
 clear pz hb1
 have pz:=pz1
 clear pz1
 obtain⟨⟨line,rest,ok⟩,hc⟩:∃ t',Lib.cut l [13,10]=t':=⟨_,rfl⟩
 rw[hc] at hcl ⊢
 simp only at hcl ⊢
 have HC1:Hid _:=hc
 clear hc
 cases ok with
 | false =>
   go_wp2_with (refine wpList_store_row rfl 95 (.tmp 2) (.tmp 21) rfl w.heap.size #[.int .i64 0,.int .i64 0,.string ⟨#[]⟩,.int .i64 0,.bool false,.bool false,.bool false,.slice none 0 0,.bool false,.bool false,.slice none 0 0,.bool false,.int .i64 0,.bool false,.int .i64 0,.bool false,.string ⟨#[]⟩,.int .i64 0,.string ⟨#[]⟩] rfl rfl 95 #[.int .i64 0,.int .i64 0,.string ⟨#[]⟩,.int .i64 0,.bool false,.bool false,.bool false,.slice none 0 0,.bool false,.bool false,.slice none 0 0,.bool false,.int .i64 0,.bool false,.int .i64 0,.bool false,.string ⟨#[]⟩,.int .i64 0,.string ⟨#[]⟩] pz.blk hi77 rfl allZ ?_)
   have pz':=pz.row #[.int .i64 0,.int .i64 0,.string ⟨#[]⟩,.int .i64 0,.bool false,.bool false,.bool false,.slice none 0 0,.bool false,.bool false,.slice none 0 0,.bool false,.int .i64 0,.bool false,.int .i64 0,.bool false,.string ⟨#[]⟩,.int .i64 0,.string ⟨#[]⟩]
   obtain⟨x',hx'⟩:∃ x',x'=w1.setRow w.heap.size #[.int .i64 0,.int .i64 0,.string ⟨#[]⟩,.int .i64 0,.bool false,.bool false,.bool false,.slice none 0 0,.bool false,.bool false,.slice none 0 0,.bool false,.int .i64 0,.bool false,.int .i64 0,.bool false,.string ⟨#[]⟩,.int .i64 0,.string ⟨#[]⟩]:=⟨_,rfl⟩
   rw[<- hx'] at pz' ⊢
   clear hx'
   exact bodyPost_ret (v:=.tuple #[.agg #[.int .i64 0,.int .i64 0,.string ⟨#[]⟩,.int .i64 0,.bool false,.bool false,.bool false,.slice none 0 0,.bool false,.bool false,.slice none 0 0,.bool false,.int .i64 0,.bool false,.int .i64 0,.bool false,.string ⟨#[]⟩,.int .i64 0,.string ⟨#[]⟩],.bool false]) (results_two _ x' w.heap.size _ rfl pz'.blk rfl) rfl ⟨pz'.b,Or.inr ⟨pf1 HC1.out,rfl⟩⟩
 | true =>
   have hcl2:=cut_le line [32]
   go_wp2_with fail
   refine (cut_any line [32] _ (hM.below pz.b) (by omega)).mono ?_
   rintro e w2 ⟨rfl,hb2⟩
   have pz1:=pz.below hb2
   clear pz hb2
   have pz:=pz1
   clear pz1
   obtain⟨⟨mt,tt,ok⟩,hc⟩:∃ t',Lib.cut line [32]=t':=⟨_,rfl⟩
   rw[hc] at hcl2 ⊢
   simp only at hcl2 ⊢
   have HC2:Hid _:=hc
   clear hc
   cases ok with
   | false =>
     go_wp2_with (refine wpList_store_row rfl 95 (.tmp 2) (.tmp 30) rfl w.heap.size #[.int .i64 0,.int .i64 0,.string ⟨#[]⟩,.int .i64 0,.bool false,.bool false,.bool false,.slice none 0 0,.bool false,.bool false,.slice none 0 0,.bool false,.int .i64 0,.bool false,.int .i64 0,.bool false,.string ⟨#[]⟩,.int .i64 0,.string ⟨#[]⟩] rfl rfl 95 #[.int .i64 0,.int .i64 0,.string ⟨#[]⟩,.int .i64 0,.bool false,.bool false,.bool false,.slice none 0 0,.bool false,.bool false,.slice none 0 0,.bool false,.int .i64 0,.bool false,.int .i64 0,.bool false,.string ⟨#[]⟩,.int .i64 0,.string ⟨#[]⟩] pz.blk hi77 rfl allZ ?_)
     have pz':=pz.row #[.int .i64 0,.int .i64 0,.string ⟨#[]⟩,.int .i64 0,.bool false,.bool false,.bool false,.slice none 0 0,.bool false,.bool false,.slice none 0 0,.bool false,.int .i64 0,.bool false,.int .i64 0,.bool false,.string ⟨#[]⟩,.int .i64 0,.string ⟨#[]⟩]
     obtain⟨x',hx'⟩:∃ x',x'=w2.setRow w.heap.size #[.int .i64 0,.int .i64 0,.string ⟨#[]⟩,.int .i64 0,.bool false,.bool false,.bool false,.slice none 0 0,.bool false,.bool false,.slice none 0 0,.bool false,.int .i64 0,.bool false,.int .i64 0,.bool false,.string ⟨#[]⟩,.int .i64 0,.string ⟨#[]⟩]:=⟨_,rfl⟩
     rw[<- hx'] at pz' ⊢
     clear hx'
     exact bodyPost_ret (v:=.tuple #[.agg #[.int .i64 0,.int .i64 0,.string ⟨#[]⟩,.int .i64 0,.bool false,.bool false,.bool false,.slice none 0 0,.bool false,.bool false,.slice none 0 0,.bool false,.int .i64 0,.bool false,.int .i64 0,.bool false,.string ⟨#[]⟩,.int .i64 0,.string ⟨#[]⟩],.bool false]) (results_two _ x' w.heap.size _ rfl pz'.blk rfl) rfl ⟨pz'.b,Or.inr ⟨pf2 HC1.out HC2.out,rfl⟩⟩
   | true =>
     go_wp2_with fail
     refine (meth_any mt _).mono ?_
     rintro e w3 ⟨rfl,rfl⟩
     cases hm:methF mt with
     | none =>
       have HC3:Hid _:=hm
       clear hm
       simp only[numOut]
       go_wp2_with (refine wpList_store_row rfl 95 (.tmp 2) (.tmp 38) rfl w.heap.size #[.int .i64 0,.int .i64 0,.string ⟨#[]⟩,.int .i64 0,.bool false,.bool false,.bool false,.slice none 0 0,.bool false,.bool false,.slice none 0 0,.bool false,.int .i64 0,.bool false,.int .i64 0,.bool false,.string ⟨#[]⟩,.int .i64 0,.string ⟨#[]⟩] rfl rfl 95 #[.int .i64 0,.int .i64 0,.string ⟨#[]⟩,.int .i64 0,.bool false,.bool false,.bool false,.slice none 0 0,.bool false,.bool false,.slice none 0 0,.bool false,.int .i64 0,.bool false,.int .i64 0,.bool false,.string ⟨#[]⟩,.int .i64 0,.string ⟨#[]⟩] pz.blk hi77 rfl allZ ?_)
       have pz':=pz.row #[.int .i64 0,.int .i64 0,.string ⟨#[]⟩,.int .i64 0,.bool false,.bool false,.bool false,.slice none 0 0,.bool false,.bool false,.slice none 0 0,.bool false,.int .i64 0,.bool false,.int .i64 0,.bool false,.string ⟨#[]⟩,.int .i64 0,.string ⟨#[]⟩]
       obtain⟨x',hx'⟩:∃ x',x'=w3.setRow w.heap.size #[.int .i64 0,.int .i64 0,.string ⟨#[]⟩,.int .i64 0,.bool false,.bool false,.bool false,.slice none 0 0,.bool false,.bool false,.slice none 0 0,.bool false,.int .i64 0,.bool false,.int .i64 0,.bool false,.string ⟨#[]⟩,.int .i64 0,.string ⟨#[]⟩]:=⟨_,rfl⟩
       rw[<- hx'] at pz' ⊢
       clear hx'
       exact bodyPost_ret (v:=.tuple #[.agg #[.int .i64 0,.int .i64 0,.string ⟨#[]⟩,.int .i64 0,.bool false,.bool false,.bool false,.slice none 0 0,.bool false,.bool false,.slice none 0 0,.bool false,.int .i64 0,.bool false,.int .i64 0,.bool false,.string ⟨#[]⟩,.int .i64 0,.string ⟨#[]⟩],.bool false]) (results_two _ x' w.heap.size _ rfl pz'.blk rfl) rfl ⟨pz'.b,Or.inr ⟨pf3 HC1.out HC2.out HC3.out,rfl⟩⟩
     | some m =>
       have HC3:Hid _:=hm
       clear hm
       simp only[numOut]
       go_wp2_with fail
       refine (readTarget_any tt _ (hM.below pz.b) (by omega)).mono ?_
       rintro e w4 ⟨hb4,⟨t,ht,rfl⟩|⟨hn,k5,n5,s5,rfl⟩⟩
       ·have HC4:Hid _:=ht
        obtain⟨tk,tkey,tn⟩:=t
        simp only[tgV]
        have pz1:=(pz.below hb4).below ((Below.refl _ _).alloc (Nat.le_refl _) (.cells #[.int .i64 (tk:Int),.string ⟨tkey.toArray⟩,.int .i64 (tn:Int)] 88))
        have hlt4:=(pz.below hb4).lt
        clear pz hb4 ht
        have pz:=pz1
        clear pz1
        go_wp2_with fail
        refine (readFields_any hA rest _ (hM.below pz.b) (by omega)).mono ?_
        rintro e w5 ⟨hb5,⟨k,c,body,hf,rfl,rm,rn,rs,ru⟩|⟨hf,rfl⟩⟩
        ·obtain⟨b1,n1,p1,e1⟩:=rm.slice
         obtain⟨b2,n2,p2,e2⟩:=rn.slice
         simp only[askV]
         rw[e1,e2]
         have HC5:Hid _:=hf
         have HE1:Hid _:=e1
         have HE2:Hid _:=e2
         have hz5:=hb5.size
         rw[World.size_alloc] at hz5 rm rn
         have td0:=(hb5.cell (p:=⟨w4.heap.size,0,none⟩) (by simp)).trans (show _=some (.int .i64 (tk:Int)) by simp)
         have td1:=(hb5.cell (p:=⟨w4.heap.size,1,none⟩) (by simp)).trans (show _=some (.string ⟨tkey.toArray⟩) by simp)
         have td2:=(hb5.cell (p:=⟨w4.heap.size,2,none⟩) (by simp)).trans (show _=some (.int .i64 (tn:Int)) by simp)
         have htl:w4.heap.size<w5.heap.size:=by omega
         have pz5:=pz.below hb5
         have rq5:Rq w5 (w4.heap.size+1) c k:=⟨rm.mono (by omega),rn.mono (by omega),rs,ru⟩
         have hal:∀ o,Below w5.heap.size w5 (w5.alloc o):=fun o=>(Below.refl _ _).alloc (Nat.le_refl _) o
         have hgz:w4.heap.size+1<=w5.heap.size:=hz5
         clear hf e1 e2 hb5 pz rm rn rs ru
         by_cases hm2:m=2
         ·subst hm2
          have pzE:=pz5.below (hal (.cells #[.bool true,.bool c.hm,.bool c.am,.slice b1 n1 p1,.bool c.hn,.bool c.an,.slice b2 n2 p2,.bool c.hs,.int .i64 c.si,.bool c.hu,.int .i64 c.ul,.bool false,.string ⟨#[]⟩,.int .i64 0] 93))
          have rqE:=rq5.below hgz (hal (.cells #[.bool true,.bool c.hm,.bool c.am,.slice b1 n1 p1,.bool c.hn,.bool c.an,.slice b2 n2 p2,.bool c.hs,.int .i64 c.si,.bool c.hu,.int .i64 c.ul,.bool false,.string ⟨#[]⟩,.int .i64 0] 93))
          go_wp2_with (refine wpList_store_row rfl 95 (.tmp 2) (.tmp 67) rfl w.heap.size #[.int .i64 2,.int .i64 (tk:Int),.string ⟨tkey.toArray⟩,.int .i64 (tn:Int),.bool true,.bool c.hm,.bool c.am,.slice b1 n1 p1,.bool c.hn,.bool c.an,.slice b2 n2 p2,.bool c.hs,.int .i64 c.si,.bool c.hu,.int .i64 c.ul,.bool false,.string ⟨#[]⟩,.int .i64 0,.string ⟨body.toArray⟩] rfl rfl 95 #[.int .i64 0,.int .i64 0,.string ⟨#[]⟩,.int .i64 0,.bool false,.bool false,.bool false,.slice none 0 0,.bool false,.bool false,.slice none 0 0,.bool false,.int .i64 0,.bool false,.int .i64 0,.bool false,.string ⟨#[]⟩,.int .i64 0,.string ⟨#[]⟩] pzE.blk hi77 rfl (by simp[Value.oneCell']) ?_)
          have pz':=pzE.row #[.int .i64 2,.int .i64 (tk:Int),.string ⟨tkey.toArray⟩,.int .i64 (tn:Int),.bool true,.bool c.hm,.bool c.am,.slice b1 n1 p1,.bool c.hn,.bool c.an,.slice b2 n2 p2,.bool c.hs,.int .i64 c.si,.bool c.hu,.int .i64 c.ul,.bool false,.string ⟨#[]⟩,.int .i64 0,.string ⟨body.toArray⟩]
          obtain⟨x',hx'⟩:∃ x',x'=(w5.alloc (.cells #[.bool true,.bool c.hm,.bool c.am,.slice b1 n1 p1,.bool c.hn,.bool c.an,.slice b2 n2 p2,.bool c.hs,.int .i64 c.si,.bool c.hu,.int .i64 c.ul,.bool false,.string ⟨#[]⟩,.int .i64 0] 93)).setRow w.heap.size #[.int .i64 2,.int .i64 (tk:Int),.string ⟨tkey.toArray⟩,.int .i64 (tn:Int),.bool true,.bool c.hm,.bool c.am,.slice b1 n1 p1,.bool c.hn,.bool c.an,.slice b2 n2 p2,.bool c.hs,.int .i64 c.si,.bool c.hu,.int .i64 c.ul,.bool false,.string ⟨#[]⟩,.int .i64 0,.string ⟨body.toArray⟩]:=⟨_,rfl⟩
          have rq':Rq x' (w4.heap.size+1) c k:=by rw[hx'];exact rqE.row (by omega)
          have hsz:w4.heap.size+1<=x'.heap.size:=by rw[hx',setRow_size,World.size_alloc];omega
          rw[<- hx'] at pz' ⊢
          clear hx'
          refine bodyPost_ret (v:=.tuple #[.agg #[.int .i64 2,.int .i64 (tk:Int),.string ⟨tkey.toArray⟩,.int .i64 (tn:Int),.bool true,.bool c.hm,.bool c.am,.slice b1 n1 p1,.bool c.hn,.bool c.an,.slice b2 n2 p2,.bool c.hs,.int .i64 c.si,.bool c.hu,.int .i64 c.ul,.bool false,.string ⟨#[]⟩,.int .i64 0,.string ⟨body.toArray⟩],.bool true]) (results_two _ x' w.heap.size _ rfl pz'.blk rfl) rfl ⟨pz'.b,Or.inl ⟨2,⟨tk,tkey,tn⟩,k,body,c,w4.heap.size+1,pf6 HC1.out HC2.out HC3.out HC4.out HC5.out,?_,by omega,hsz,rq'⟩⟩
          rw[reqV,HE1.out,HE2.out]
          rfl
         ·by_cases hm3:m=3
          ·subst hm3
           have pzE:=pz5.below (hal (.cells #[.bool true,.bool c.hm,.bool c.am,.slice b1 n1 p1,.bool c.hn,.bool c.an,.slice b2 n2 p2,.bool c.hs,.int .i64 c.si,.bool c.hu,.int .i64 c.ul,.bool false,.string ⟨#[]⟩,.int .i64 0] 93))
           have rqE:=rq5.below hgz (hal (.cells #[.bool true,.bool c.hm,.bool c.am,.slice b1 n1 p1,.bool c.hn,.bool c.an,.slice b2 n2 p2,.bool c.hs,.int .i64 c.si,.bool c.hu,.int .i64 c.ul,.bool false,.string ⟨#[]⟩,.int .i64 0] 93))
           go_wp2_with (refine wpList_store_row rfl 95 (.tmp 2) (.tmp 67) rfl w.heap.size #[.int .i64 3,.int .i64 (tk:Int),.string ⟨tkey.toArray⟩,.int .i64 (tn:Int),.bool true,.bool c.hm,.bool c.am,.slice b1 n1 p1,.bool c.hn,.bool c.an,.slice b2 n2 p2,.bool c.hs,.int .i64 c.si,.bool c.hu,.int .i64 c.ul,.bool false,.string ⟨#[]⟩,.int .i64 0,.string ⟨body.toArray⟩] rfl rfl 95 #[.int .i64 0,.int .i64 0,.string ⟨#[]⟩,.int .i64 0,.bool false,.bool false,.bool false,.slice none 0 0,.bool false,.bool false,.slice none 0 0,.bool false,.int .i64 0,.bool false,.int .i64 0,.bool false,.string ⟨#[]⟩,.int .i64 0,.string ⟨#[]⟩] pzE.blk hi77 rfl (by simp[Value.oneCell']) ?_)
           have pz':=pzE.row #[.int .i64 3,.int .i64 (tk:Int),.string ⟨tkey.toArray⟩,.int .i64 (tn:Int),.bool true,.bool c.hm,.bool c.am,.slice b1 n1 p1,.bool c.hn,.bool c.an,.slice b2 n2 p2,.bool c.hs,.int .i64 c.si,.bool c.hu,.int .i64 c.ul,.bool false,.string ⟨#[]⟩,.int .i64 0,.string ⟨body.toArray⟩]
           obtain⟨x',hx'⟩:∃ x',x'=(w5.alloc (.cells #[.bool true,.bool c.hm,.bool c.am,.slice b1 n1 p1,.bool c.hn,.bool c.an,.slice b2 n2 p2,.bool c.hs,.int .i64 c.si,.bool c.hu,.int .i64 c.ul,.bool false,.string ⟨#[]⟩,.int .i64 0] 93)).setRow w.heap.size #[.int .i64 3,.int .i64 (tk:Int),.string ⟨tkey.toArray⟩,.int .i64 (tn:Int),.bool true,.bool c.hm,.bool c.am,.slice b1 n1 p1,.bool c.hn,.bool c.an,.slice b2 n2 p2,.bool c.hs,.int .i64 c.si,.bool c.hu,.int .i64 c.ul,.bool false,.string ⟨#[]⟩,.int .i64 0,.string ⟨body.toArray⟩]:=⟨_,rfl⟩
           have rq':Rq x' (w4.heap.size+1) c k:=by rw[hx'];exact rqE.row (by omega)
           have hsz:w4.heap.size+1<=x'.heap.size:=by rw[hx',setRow_size,World.size_alloc];omega
           rw[<- hx'] at pz' ⊢
           clear hx'
           refine bodyPost_ret (v:=.tuple #[.agg #[.int .i64 3,.int .i64 (tk:Int),.string ⟨tkey.toArray⟩,.int .i64 (tn:Int),.bool true,.bool c.hm,.bool c.am,.slice b1 n1 p1,.bool c.hn,.bool c.an,.slice b2 n2 p2,.bool c.hs,.int .i64 c.si,.bool c.hu,.int .i64 c.ul,.bool false,.string ⟨#[]⟩,.int .i64 0,.string ⟨body.toArray⟩],.bool true]) (results_two _ x' w.heap.size _ rfl pz'.blk rfl) rfl ⟨pz'.b,Or.inl ⟨3,⟨tk,tkey,tn⟩,k,body,c,w4.heap.size+1,pf6 HC1.out HC2.out HC3.out HC4.out HC5.out,?_,by omega,hsz,rq'⟩⟩
           rw[reqV,HE1.out,HE2.out]
           rfl
          ·have m2:((m:Int)==2)=false:=by simp;omega
           have m3:((m:Int)==3)=false:=by simp;omega
           have HW:Hid (isW m=false):=by show _=_;simp[isW,hm2,hm3]
           have pzE:=pz5.below (hal (.cells #[.bool false,.bool c.hm,.bool c.am,.slice b1 n1 p1,.bool c.hn,.bool c.an,.slice b2 n2 p2,.bool c.hs,.int .i64 c.si,.bool c.hu,.int .i64 c.ul,.bool false,.string ⟨#[]⟩,.int .i64 0] 93))
           have rqE:=rq5.below hgz (hal (.cells #[.bool false,.bool c.hm,.bool c.am,.slice b1 n1 p1,.bool c.hn,.bool c.an,.slice b2 n2 p2,.bool c.hs,.int .i64 c.si,.bool c.hu,.int .i64 c.ul,.bool false,.string ⟨#[]⟩,.int .i64 0] 93))
           go_wp2_with (refine wpList_store_row rfl 95 (.tmp 2) (.tmp 67) rfl w.heap.size #[.int .i64 (m:Int),.int .i64 (tk:Int),.string ⟨tkey.toArray⟩,.int .i64 (tn:Int),.bool false,.bool c.hm,.bool c.am,.slice b1 n1 p1,.bool c.hn,.bool c.an,.slice b2 n2 p2,.bool c.hs,.int .i64 c.si,.bool c.hu,.int .i64 c.ul,.bool false,.string ⟨#[]⟩,.int .i64 0,.string ⟨body.toArray⟩] rfl rfl 95 #[.int .i64 0,.int .i64 0,.string ⟨#[]⟩,.int .i64 0,.bool false,.bool false,.bool false,.slice none 0 0,.bool false,.bool false,.slice none 0 0,.bool false,.int .i64 0,.bool false,.int .i64 0,.bool false,.string ⟨#[]⟩,.int .i64 0,.string ⟨#[]⟩] pzE.blk hi77 rfl (by simp[Value.oneCell']) ?_)
           have pz':=pzE.row #[.int .i64 (m:Int),.int .i64 (tk:Int),.string ⟨tkey.toArray⟩,.int .i64 (tn:Int),.bool false,.bool c.hm,.bool c.am,.slice b1 n1 p1,.bool c.hn,.bool c.an,.slice b2 n2 p2,.bool c.hs,.int .i64 c.si,.bool c.hu,.int .i64 c.ul,.bool false,.string ⟨#[]⟩,.int .i64 0,.string ⟨body.toArray⟩]
           obtain⟨x',hx'⟩:∃ x',x'=(w5.alloc (.cells #[.bool false,.bool c.hm,.bool c.am,.slice b1 n1 p1,.bool c.hn,.bool c.an,.slice b2 n2 p2,.bool c.hs,.int .i64 c.si,.bool c.hu,.int .i64 c.ul,.bool false,.string ⟨#[]⟩,.int .i64 0] 93)).setRow w.heap.size #[.int .i64 (m:Int),.int .i64 (tk:Int),.string ⟨tkey.toArray⟩,.int .i64 (tn:Int),.bool false,.bool c.hm,.bool c.am,.slice b1 n1 p1,.bool c.hn,.bool c.an,.slice b2 n2 p2,.bool c.hs,.int .i64 c.si,.bool c.hu,.int .i64 c.ul,.bool false,.string ⟨#[]⟩,.int .i64 0,.string ⟨body.toArray⟩]:=⟨_,rfl⟩
           have rq':Rq x' (w4.heap.size+1) c k:=by rw[hx'];exact rqE.row (by omega)
           have hsz:w4.heap.size+1<=x'.heap.size:=by rw[hx',setRow_size,World.size_alloc];omega
           rw[<- hx'] at pz' ⊢
           clear hx'
           refine bodyPost_ret (v:=.tuple #[.agg #[.int .i64 (m:Int),.int .i64 (tk:Int),.string ⟨tkey.toArray⟩,.int .i64 (tn:Int),.bool false,.bool c.hm,.bool c.am,.slice b1 n1 p1,.bool c.hn,.bool c.an,.slice b2 n2 p2,.bool c.hs,.int .i64 c.si,.bool c.hu,.int .i64 c.ul,.bool false,.string ⟨#[]⟩,.int .i64 0,.string ⟨body.toArray⟩],.bool true]) (results_two _ x' w.heap.size _ rfl pz'.blk rfl) rfl ⟨pz'.b,Or.inl ⟨m,⟨tk,tkey,tn⟩,k,body,c,w4.heap.size+1,pf6 HC1.out HC2.out HC3.out HC4.out HC5.out,?_,by omega,hsz,rq'⟩⟩
           rw[reqV,HE1.out,HE2.out,HW.out]
        ·have HC5:Hid _:=hf
         simp only[askV,z0]
         have pz1:=(pz.below hb5).below ((Below.refl _ _).alloc (Nat.le_refl _) (.cells #[.bool false,.bool false,.bool false,.slice none 0 0,.bool false,.bool false,.slice none 0 0,.bool false,.int .i64 0,.bool false,.int .i64 0,.bool false,.string ⟨#[]⟩,.int .i64 0] 93))
         clear pz hb5 hf
         have pz:=pz1
         clear pz1
         go_wp2_with (refine wpList_store_row rfl 95 (.tmp 2) (.tmp 55) rfl w.heap.size #[.int .i64 0,.int .i64 0,.string ⟨#[]⟩,.int .i64 0,.bool false,.bool false,.bool false,.slice none 0 0,.bool false,.bool false,.slice none 0 0,.bool false,.int .i64 0,.bool false,.int .i64 0,.bool false,.string ⟨#[]⟩,.int .i64 0,.string ⟨#[]⟩] rfl rfl 95 #[.int .i64 0,.int .i64 0,.string ⟨#[]⟩,.int .i64 0,.bool false,.bool false,.bool false,.slice none 0 0,.bool false,.bool false,.slice none 0 0,.bool false,.int .i64 0,.bool false,.int .i64 0,.bool false,.string ⟨#[]⟩,.int .i64 0,.string ⟨#[]⟩] pz.blk hi77 rfl allZ ?_)
         have pz':=pz.row #[.int .i64 0,.int .i64 0,.string ⟨#[]⟩,.int .i64 0,.bool false,.bool false,.bool false,.slice none 0 0,.bool false,.bool false,.slice none 0 0,.bool false,.int .i64 0,.bool false,.int .i64 0,.bool false,.string ⟨#[]⟩,.int .i64 0,.string ⟨#[]⟩]
         obtain⟨x',hx'⟩:∃ x',x'=(w5.alloc (.cells #[.bool false,.bool false,.bool false,.slice none 0 0,.bool false,.bool false,.slice none 0 0,.bool false,.int .i64 0,.bool false,.int .i64 0,.bool false,.string ⟨#[]⟩,.int .i64 0] 93)).setRow w.heap.size #[.int .i64 0,.int .i64 0,.string ⟨#[]⟩,.int .i64 0,.bool false,.bool false,.bool false,.slice none 0 0,.bool false,.bool false,.slice none 0 0,.bool false,.int .i64 0,.bool false,.int .i64 0,.bool false,.string ⟨#[]⟩,.int .i64 0,.string ⟨#[]⟩]:=⟨_,rfl⟩
         rw[<- hx'] at pz' ⊢
         clear hx'
         exact bodyPost_ret (v:=.tuple #[.agg #[.int .i64 0,.int .i64 0,.string ⟨#[]⟩,.int .i64 0,.bool false,.bool false,.bool false,.slice none 0 0,.bool false,.bool false,.slice none 0 0,.bool false,.int .i64 0,.bool false,.int .i64 0,.bool false,.string ⟨#[]⟩,.int .i64 0,.string ⟨#[]⟩],.bool false]) (results_two _ x' w.heap.size _ rfl pz'.blk rfl) rfl ⟨pz'.b,Or.inr ⟨pf5 HC1.out HC2.out HC3.out HC4.out HC5.out,rfl⟩⟩
       ·have HC4:Hid _:=hn
        have pz1:=(pz.below hb4).below ((Below.refl _ _).alloc (Nat.le_refl _) (.cells #[.int .i64 k5,.string s5,.int .i64 n5] 88))
        clear pz hb4 hn
        have pz:=pz1
        clear pz1
        go_wp2_with (refine wpList_store_row rfl 95 (.tmp 2) (.tmp 46) rfl w.heap.size #[.int .i64 0,.int .i64 0,.string ⟨#[]⟩,.int .i64 0,.bool false,.bool false,.bool false,.slice none 0 0,.bool false,.bool false,.slice none 0 0,.bool false,.int .i64 0,.bool false,.int .i64 0,.bool false,.string ⟨#[]⟩,.int .i64 0,.string ⟨#[]⟩] rfl rfl 95 #[.int .i64 0,.int .i64 0,.string ⟨#[]⟩,.int .i64 0,.bool false,.bool false,.bool false,.slice none 0 0,.bool false,.bool false,.slice none 0 0,.bool false,.int .i64 0,.bool false,.int .i64 0,.bool false,.string ⟨#[]⟩,.int .i64 0,.string ⟨#[]⟩] pz.blk hi77 rfl allZ ?_)
        have pz':=pz.row #[.int .i64 0,.int .i64 0,.string ⟨#[]⟩,.int .i64 0,.bool false,.bool false,.bool false,.slice none 0 0,.bool false,.bool false,.slice none 0 0,.bool false,.int .i64 0,.bool false,.int .i64 0,.bool false,.string ⟨#[]⟩,.int .i64 0,.string ⟨#[]⟩]
        obtain⟨x',hx'⟩:∃ x',x'=(w4.alloc (.cells #[.int .i64 k5,.string s5,.int .i64 n5] 88)).setRow w.heap.size #[.int .i64 0,.int .i64 0,.string ⟨#[]⟩,.int .i64 0,.bool false,.bool false,.bool false,.slice none 0 0,.bool false,.bool false,.slice none 0 0,.bool false,.int .i64 0,.bool false,.int .i64 0,.bool false,.string ⟨#[]⟩,.int .i64 0,.string ⟨#[]⟩]:=⟨_,rfl⟩
        rw[<- hx'] at pz' ⊢
        clear hx'
        exact bodyPost_ret (v:=.tuple #[.agg #[.int .i64 0,.int .i64 0,.string ⟨#[]⟩,.int .i64 0,.bool false,.bool false,.bool false,.slice none 0 0,.bool false,.bool false,.slice none 0 0,.bool false,.int .i64 0,.bool false,.int .i64 0,.bool false,.string ⟨#[]⟩,.int .i64 0,.string ⟨#[]⟩],.bool false]) (results_two _ x' w.heap.size _ rfl pz'.blk rfl) rfl ⟨pz'.b,Or.inr ⟨pf4 HC1.out HC2.out HC3.out HC4.out,rfl⟩⟩
theorem putsKey_any (m tk:Nat)(key:ByteArray)(tn:Nat)(wr hm am:Bool)(b1:Option Addr)(n1 p1:Nat)(hn an:Bool)(b2:Option Addr)(n2 p2:Nat)(hs:Bool)(si:Int)(hu:Bool)(ul:Int)(body:ByteArray)(w:World) :
 Calls Tryz.prog 71 #[.agg #[.int .i64 (m:Int),.int .i64 (tk:Int),.string key,.int .i64 (tn:Int),.bool wr,.bool hm,.bool am,.slice b1 n1 p1,.bool hn,.bool an,.slice b2 n2 p2,.bool hs,.int .i64 si,.bool hu,.int .i64 ul,.bool false,.string ⟨#[]⟩,.int .i64 0,.string body]] w fun e w'=>e=.returned (.bool (m==2&&tk==1))/\Below w.heap.size w w':=by
 have hal:∀ o,Below w.heap.size w (w.alloc o):=fun o=>(Below.refl _ _).alloc (Nat.le_refl _) o
 by_cases h2:m=2
 ·subst h2
  by_cases h1:tk=1
  ·subst h1
   go_enter Tryz.func71,Tryz.ntmps71
   go_wp2_with fail
   go_ret
   exact⟨rfl,hal _⟩
  ·have m1:((tk:Int)==1)=false:=by simp;omega
   have HW:Hid ((tk==1)=false):=by show _=_;simp[h1]
   go_enter Tryz.func71,Tryz.ntmps71
   go_wp2_with fail
   go_ret
   exact⟨by rw[HW.out];rfl,hal _⟩
 ·have m2:((m:Int)==2)=false:=by simp;omega
  have HW:Hid ((m==2)=false):=by show _=_;simp[h2]
  go_enter Tryz.func71,Tryz.ntmps71
  go_wp2_with fail
  go_ret
  exact⟨by rw[HW.out];rfl,hal _⟩
def fitsF (m tk:Nat):Bool:=if m=0 then true else if m=2 then tk==1 else tk==1||tk==2
theorem methodFits_any (m tk:Nat)(key:ByteArray)(tn:Nat)(wr hm am:Bool)(b1:Option Addr)(n1 p1:Nat)(hn an:Bool)(b2:Option Addr)(n2 p2:Nat)(hs:Bool)(si:Int)(hu:Bool)(ul:Int)(body:ByteArray)(w:World) :
 Calls Tryz.prog 72 #[.agg #[.int .i64 (m:Int),.int .i64 (tk:Int),.string key,.int .i64 (tn:Int),.bool wr,.bool hm,.bool am,.slice b1 n1 p1,.bool hn,.bool an,.slice b2 n2 p2,.bool hs,.int .i64 si,.bool hu,.int .i64 ul,.bool false,.string ⟨#[]⟩,.int .i64 0,.string body]] w fun e w'=>e=.returned (.bool (fitsF m tk))/\Below w.heap.size w w':=by
 have hal:∀ o,Below w.heap.size w (w.alloc o):=fun o=>(Below.refl _ _).alloc (Nat.le_refl _) o
 by_cases h0:m=0
 ·subst h0
  go_enter Tryz.func72,Tryz.ntmps72
  go_wp2_with fail
  go_ret
  exact⟨rfl,hal _⟩
 ·have m0:((m:Int)==0)=false:=by simp;omega
  by_cases h2:m=2
  ·have m2:((m:Int)==2)=true:=by simp;omega
   have HF:Hid (fitsF m tk=(m==2&&tk==1)):=by show _=_;simp[fitsF,h2]
   clear h0 h2
   go_enter Tryz.func72,Tryz.ntmps72
   go_wp2_with (refine wpList_load_row rfl 95 (.tmp 1) rfl w.heap.size rfl 95 #[.int .i64 (m:Int),.int .i64 (tk:Int),.string key,.int .i64 (tn:Int),.bool wr,.bool hm,.bool am,.slice b1 n1 p1,.bool hn,.bool an,.slice b2 n2 p2,.bool hs,.int .i64 si,.bool hu,.int .i64 ul,.bool false,.string ⟨#[]⟩,.int .i64 0,.string body] (0,0) _ (heap_alloc_last _ _) Tryz.underlying95 rfl hi77 ?_)
   refine (putsKey_any m tk key tn wr hm am b1 n1 p1 hn an b2 n2 p2 hs si hu ul body _).mono ?_
   rintro e w1 ⟨rfl,hb⟩
   have hb':=(hal _).trans (hb.mono (by rw[World.size_alloc];omega))
   clear hb
   rw[<- HF.out]
   go_wp2_with fail
   go_ret
   exact⟨rfl,hb'⟩
  ·have m2:((m:Int)==2)=false:=by simp;omega
   by_cases h1:tk=1
   ·subst h1
    have HF:Hid (fitsF m 1=true):=by show _=_;simp[fitsF,h0,h2]
    clear h0 h2
    go_enter Tryz.func72,Tryz.ntmps72
    go_wp2_with fail
    go_ret
    exact⟨by rw[HF.out];rfl,hal _⟩
   ·have t1:((tk:Int)==1)=false:=by simp;omega
    by_cases h3:tk=2
    ·subst h3
     have HF:Hid (fitsF m 2=true):=by show _=_;simp[fitsF,h0,h2]
     clear h0 h2
     go_enter Tryz.func72,Tryz.ntmps72
     go_wp2_with fail
     go_ret
     exact⟨by rw[HF.out];rfl,hal _⟩
    ·have t2:((tk:Int)==2)=false:=by simp;omega
     have HF:Hid (fitsF m tk=false):=by show _=_;simp[fitsF,h0,h2,h1,h3]
     clear h0 h2 h1 h3
     go_enter Tryz.func72,Tryz.ntmps72
     go_wp2_with fail
     go_ret
     exact⟨by rw[HF.out];rfl,hal _⟩
end Go.Proofs.YtmehkneofinmiaaGreatDoor

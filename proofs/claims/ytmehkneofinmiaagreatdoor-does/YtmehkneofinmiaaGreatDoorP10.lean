/-
 Texts of this proof, part 10.
-/
import Derived.Test.YtmehkneofinmiaaGreatDoorP09
set_option maxRecDepth 100000
set_option maxHeartbeats 4000000
namespace Go.Proofs.YtmehkneofinmiaaGreatDoor
open Go.RowKit
noncomputable def readF (l:List UInt8):Except Nat (Nat×Tgt×Cnd×List UInt8) :=
 if 2000<l.length then .error 413 else
  match parseF l with
  | none=>.error 400
  | some (m,t,k,body) =>
    if body≠[]/\(m==2&&t.kind==1)=false then .error 400
    else if 400<body.length then .error 413
    else if fitsF m t.kind then .ok (m,t,k,body) else .error 405
theorem rf1 {l:List UInt8}(h:2000<l.length):readF l=.error 413:=by simp[readF,h]
theorem rf2 {l:List UInt8}(h:¬ 2000<l.length)(hp:parseF l=none):readF l=.error 400:=by simp[readF,h,hp]
theorem rf3 {l:List UInt8}{m t k body}(h:¬ 2000<l.length)(hp:parseF l=some (m,t,k,body))(hb:body≠[])(hk:(m==2&&t.kind==1)=false):readF l=.error 400:=by
 unfold readF;rw[if_neg h,hp];simp only;rw[if_pos ⟨hb,hk⟩]
theorem rf4 {l:List UInt8}{m t k body}(h:¬ 2000<l.length)(hp:parseF l=some (m,t,k,body))(hk:¬ (body≠[]/\(m==2&&t.kind==1)=false))(h4:400<body.length):readF l=.error 413:=by
 unfold readF;rw[if_neg h,hp];simp only;rw[if_neg hk,if_pos h4]
theorem rf5 {l:List UInt8}{m t k body}(h:¬ 2000<l.length)(hp:parseF l=some (m,t,k,body))(hk:¬ (body≠[]/\(m==2&&t.kind==1)=false))(h4:¬ 400<body.length)(hf:fitsF m t.kind=false):readF l=.error 405:=by
 unfold readF;rw[if_neg h,hp];simp only;rw[if_neg hk,if_neg h4,if_neg (by rw[hf];exact Bool.false_ne_true)]
theorem rf6 {l:List UInt8}{m t k body}(h:¬ 2000<l.length)(hp:parseF l=some (m,t,k,body))(hk:¬ (body≠[]/\(m==2&&t.kind==1)=false))(h4:¬ 400<body.length)(hf:fitsF m t.kind=true):readF l=.ok (m,t,k,body):=by
 unfold readF;rw[if_neg h,hp];simp only;rw[if_neg hk,if_neg h4,if_pos hf]
theorem results_read (tmps:Array Value)(x:World)(g:Nat)(vs:Array Value)(hp:tmps.getD 2 undef=.pointer (some ⟨g,0,none⟩))(hg:x.heap[g]?=some (.cells vs 95 (0,0)))(hs:vs.size=19) :
 (results Tryz.f40 tmps).run Tryz.prog x=.ok (.tuple #[.agg vs,tmps.getD 3 undef]) x:=by
 have hp':tmps[2]?.getD undef=.pointer (some ⟨g,0,none⟩):=by simpa using hp
 have hr:=run_loadVar_row (P:=Tryz.prog) x g 95 95 vs (0,0) _ hg Tryz.underlying95 rfl (by rw[hs];exact hi77)
 simp[results,Tryz.results40,hp',asAddr,hr]
theorem wpList_load_row_g {P:Program}{ops:Array Oper}{rest:List Oper}{o:Oper}{a:Act}{w:World}{Q:Exit->Act->World->Prop}(hw:Region.wanted o (yielded ops a.tmps)=true)(ty:TypeId)(x:Operand)(ho:o.op=.load ty x)
 (g:Nat)(hx:a.eval x=.pointer (some ⟨g,0,none⟩))(t:TypeId)(cs:Array Value)(fr:Nat×Nat)(d:TypeDesc)(hg:w.heap[g]?=some (.cells cs t fr))
 (hu:P.underlying ty=some d)(hd:(match d with|.struct _|.array _ _=>true|_=>false)=true)(hi:(P.info? ty).map (·.size)=some cs.size)
 (h:wpList P ops Q rest (a.put o.dst (.agg cs)) w):wpList P ops Q (o::rest) a w :=
 wpList_step fun K hK=>by rw[if_pos hw];exact wp_load_row ty x ho g hx t cs fr d hg hu hd hi (hK _ _ h)
theorem read_any (hA:AnyIs)(l:List UInt8)(w:World)(hM:MaxIs w)(hl:l.length<=9223372036854775807) :
 Calls Tryz.prog 40 #[.string ⟨l.toArray⟩] w fun e w'=>Below w.heap.size w w' /\
  ((∃ m t k body c g,readF l=.ok (m,t,k,body)/\e=.returned (.tuple #[reqV m t (isW m) c body,.int .i64 0])/\w.heap.size<g/\g<=w'.heap.size/\Rq w' g c k)\/(∃ n:Nat,readF l=.error n/\e=.returned (.tuple #[.agg #[.int .i64 0,.int .i64 0,.string ⟨#[]⟩,.int .i64 0,.bool false,.bool false,.bool false,.slice none 0 0,.bool false,.bool false,.slice none 0 0,.bool false,.int .i64 0,.bool false,.int .i64 0,.bool false,.string ⟨#[]⟩,.int .i64 0,.string ⟨#[]⟩],.int .i64 (n:Int)]))):=by
 have pz:=Pz.made w
 by_cases h2:2000<l.length
 ·have HR:Hid _:=rf1 h2
  go_enter Tryz.func40,Tryz.ntmps40
  go_wp2_with (refine wpList_store_row rfl 95 (.tmp 2) (.tmp 9) rfl w.heap.size #[.int .i64 0,.int .i64 0,.string ⟨#[]⟩,.int .i64 0,.bool false,.bool false,.bool false,.slice none 0 0,.bool false,.bool false,.slice none 0 0,.bool false,.int .i64 0,.bool false,.int .i64 0,.bool false,.string ⟨#[]⟩,.int .i64 0,.string ⟨#[]⟩] rfl rfl 95 #[.int .i64 0,.int .i64 0,.string ⟨#[]⟩,.int .i64 0,.bool false,.bool false,.bool false,.slice none 0 0,.bool false,.bool false,.slice none 0 0,.bool false,.int .i64 0,.bool false,.int .i64 0,.bool false,.string ⟨#[]⟩,.int .i64 0,.string ⟨#[]⟩] pz.blk hi77 rfl allZ ?_)
  have pz':=pz.row #[.int .i64 0,.int .i64 0,.string ⟨#[]⟩,.int .i64 0,.bool false,.bool false,.bool false,.slice none 0 0,.bool false,.bool false,.slice none 0 0,.bool false,.int .i64 0,.bool false,.int .i64 0,.bool false,.string ⟨#[]⟩,.int .i64 0,.string ⟨#[]⟩]
  exact bodyPost_ret (v:=.tuple #[.agg #[.int .i64 0,.int .i64 0,.string ⟨#[]⟩,.int .i64 0,.bool false,.bool false,.bool false,.slice none 0 0,.bool false,.bool false,.slice none 0 0,.bool false,.int .i64 0,.bool false,.int .i64 0,.bool false,.string ⟨#[]⟩,.int .i64 0,.string ⟨#[]⟩],.int .i64 413]) (results_read _ _ w.heap.size _ rfl pz'.blk rfl) rfl ⟨pz'.b,Or.inr ⟨413,HR.out,rfl⟩⟩
 ·go_enter Tryz.func40,Tryz.ntmps40
  go_wp2_with fail
  refine (parse_any hA l _ (hM.below pz.b) (by omega)).mono ?_
  rintro e w1 ⟨hb1,⟨m,t,k,body,c,g,hp,rfl,hg1,hg2,rq⟩|⟨hp,rfl⟩⟩
  ·obtain⟨b1,n1,p1,e1⟩:=rq.m.slice
   obtain⟨b2,n2,p2,e2⟩:=rq.n.slice
   simp only[reqV]
   rw[e1,e2]
   have HE1:Hid _:=e1
   have HE2:Hid _:=e2
   have HP:Hid _:=hp
   have pz1:=pz.below hb1
   rw[World.size_alloc] at hg1
   clear e1 e2 hp pz hb1
   by_cases hb:body=[]
   ·subst hb
    have kk:¬ (([]:List UInt8)≠[]/\(m==2&&t.kind==1)=false):=fun h=>h.1 rfl
    have HK:Hid _:=kk
    clear kk
    have hal:Below w1.heap.size w1 (w1.alloc (.cells #[.int .i64 (m:Int),.int .i64 (t.kind:Int),.string ⟨t.key.toArray⟩,.int .i64 (t.num:Int),.bool (isW m),.bool c.hm,.bool c.am,.slice b1 n1 p1,.bool c.hn,.bool c.an,.slice b2 n2 p2,.bool c.hs,.int .i64 c.si,.bool c.hu,.int .i64 c.ul,.bool false,.string ⟨#[]⟩,.int .i64 0,.string ⟨#[]⟩] 95)):=(Below.refl _ _).alloc (Nat.le_refl _) _
    have pzx:=pz1.below hal
    have rqx:=rq.below hg2 hal
    have hgx:=Nat.le_trans hg2 hal.size
    have hlt:w1.heap.size<(w1.alloc (.cells #[.int .i64 (m:Int),.int .i64 (t.kind:Int),.string ⟨t.key.toArray⟩,.int .i64 (t.num:Int),.bool (isW m),.bool c.hm,.bool c.am,.slice b1 n1 p1,.bool c.hn,.bool c.an,.slice b2 n2 p2,.bool c.hs,.int .i64 c.si,.bool c.hu,.int .i64 c.ul,.bool false,.string ⟨#[]⟩,.int .i64 0,.string ⟨#[]⟩] 95)).heap.size:=by rw[World.size_alloc];omega
    clear hal rq
    go_wp2_with (first|(refine wpList_store_row rfl 95 (.tmp 4) (.tmp 13) rfl w1.heap.size #[.int .i64 (m:Int),.int .i64 (t.kind:Int),.string ⟨t.key.toArray⟩,.int .i64 (t.num:Int),.bool (isW m),.bool c.hm,.bool c.am,.slice b1 n1 p1,.bool c.hn,.bool c.an,.slice b2 n2 p2,.bool c.hs,.int .i64 c.si,.bool c.hu,.int .i64 c.ul,.bool false,.string ⟨#[]⟩,.int .i64 0,.string ⟨#[]⟩] rfl rfl 95 #[.int .i64 0,.int .i64 0,.string ⟨#[]⟩,.int .i64 0,.bool false,.bool false,.bool false,.slice none 0 0,.bool false,.bool false,.slice none 0 0,.bool false,.int .i64 0,.bool false,.int .i64 0,.bool false,.string ⟨#[]⟩,.int .i64 0,.string ⟨#[]⟩] (heap_alloc_last _ _) hi77 rfl (by simp[Value.oneCell']) ?_;rw[World.setRow_alloc_new])|(refine wpList_load_row rfl 95 (.tmp 4) rfl w1.heap.size rfl 95 #[.int .i64 (m:Int),.int .i64 (t.kind:Int),.string ⟨t.key.toArray⟩,.int .i64 (t.num:Int),.bool (isW m),.bool c.hm,.bool c.am,.slice b1 n1 p1,.bool c.hn,.bool c.an,.slice b2 n2 p2,.bool c.hs,.int .i64 c.si,.bool c.hu,.int .i64 c.ul,.bool false,.string ⟨#[]⟩,.int .i64 0,.string ⟨#[]⟩] (0,0) _ (heap_alloc_last _ _) Tryz.underlying95 rfl hi77 ?_))
    refine (methodFits_any m t.kind ⟨t.key.toArray⟩ t.num (isW m) c.hm c.am b1 n1 p1 c.hn c.an b2 n2 p2 c.hs c.si c.hu c.ul ⟨#[]⟩ _).mono ?_
    rintro e w3 ⟨rfl,hb3⟩
    have pz3:=pzx.below hb3
    have rq3:=rqx.below hgx hb3
    have hg3:=Nat.le_trans hgx hb3.size
    have hx3:w3.heap[w1.heap.size]?=some (.cells #[.int .i64 (m:Int),.int .i64 (t.kind:Int),.string ⟨t.key.toArray⟩,.int .i64 (t.num:Int),.bool (isW m),.bool c.hm,.bool c.am,.slice b1 n1 p1,.bool c.hn,.bool c.an,.slice b2 n2 p2,.bool c.hs,.int .i64 c.si,.bool c.hu,.int .i64 c.ul,.bool false,.string ⟨#[]⟩,.int .i64 0,.string ⟨#[]⟩] 95 (0,0)):=(hb3.block _ hlt).trans (heap_alloc_last _ _)
    clear hb3
    cases hf:fitsF m t.kind with
    | false =>
      have HR:Hid _:=rf5 h2 HP.out HK.out (by simp) hf
      clear hf
      go_wp2_with (refine wpList_store_row rfl 95 (.tmp 2) (.tmp 36) rfl w.heap.size #[.int .i64 0,.int .i64 0,.string ⟨#[]⟩,.int .i64 0,.bool false,.bool false,.bool false,.slice none 0 0,.bool false,.bool false,.slice none 0 0,.bool false,.int .i64 0,.bool false,.int .i64 0,.bool false,.string ⟨#[]⟩,.int .i64 0,.string ⟨#[]⟩] rfl rfl 95 #[.int .i64 0,.int .i64 0,.string ⟨#[]⟩,.int .i64 0,.bool false,.bool false,.bool false,.slice none 0 0,.bool false,.bool false,.slice none 0 0,.bool false,.int .i64 0,.bool false,.int .i64 0,.bool false,.string ⟨#[]⟩,.int .i64 0,.string ⟨#[]⟩] pz3.blk hi77 rfl allZ ?_)
      have pz':=pz3.row #[.int .i64 0,.int .i64 0,.string ⟨#[]⟩,.int .i64 0,.bool false,.bool false,.bool false,.slice none 0 0,.bool false,.bool false,.slice none 0 0,.bool false,.int .i64 0,.bool false,.int .i64 0,.bool false,.string ⟨#[]⟩,.int .i64 0,.string ⟨#[]⟩]
      exact bodyPost_ret (v:=.tuple #[.agg #[.int .i64 0,.int .i64 0,.string ⟨#[]⟩,.int .i64 0,.bool false,.bool false,.bool false,.slice none 0 0,.bool false,.bool false,.slice none 0 0,.bool false,.int .i64 0,.bool false,.int .i64 0,.bool false,.string ⟨#[]⟩,.int .i64 0,.string ⟨#[]⟩],.int .i64 405]) (results_read _ _ w.heap.size _ rfl pz'.blk rfl) rfl ⟨pz'.b,Or.inr ⟨405,HR.out,rfl⟩⟩
    | true =>
      have HR:Hid _:=rf6 h2 HP.out HK.out (by simp) hf
      clear hf
      go_wp2_with (first|(refine wpList_load_row rfl 95 (.tmp 4) rfl w1.heap.size rfl 95 #[.int .i64 (m:Int),.int .i64 (t.kind:Int),.string ⟨t.key.toArray⟩,.int .i64 (t.num:Int),.bool (isW m),.bool c.hm,.bool c.am,.slice b1 n1 p1,.bool c.hn,.bool c.an,.slice b2 n2 p2,.bool c.hs,.int .i64 c.si,.bool c.hu,.int .i64 c.ul,.bool false,.string ⟨#[]⟩,.int .i64 0,.string ⟨#[]⟩] (0,0) _ hx3 Tryz.underlying95 rfl hi77 ?_)|(refine wpList_store_row rfl 95 (.tmp 2) (.tmp 37) rfl w.heap.size #[.int .i64 (m:Int),.int .i64 (t.kind:Int),.string ⟨t.key.toArray⟩,.int .i64 (t.num:Int),.bool (isW m),.bool c.hm,.bool c.am,.slice b1 n1 p1,.bool c.hn,.bool c.an,.slice b2 n2 p2,.bool c.hs,.int .i64 c.si,.bool c.hu,.int .i64 c.ul,.bool false,.string ⟨#[]⟩,.int .i64 0,.string ⟨#[]⟩] rfl rfl 95 #[.int .i64 0,.int .i64 0,.string ⟨#[]⟩,.int .i64 0,.bool false,.bool false,.bool false,.slice none 0 0,.bool false,.bool false,.slice none 0 0,.bool false,.int .i64 0,.bool false,.int .i64 0,.bool false,.string ⟨#[]⟩,.int .i64 0,.string ⟨#[]⟩] pz3.blk hi77 rfl (by simp[Value.oneCell']) ?_))
      have pz':=pz3.row #[.int .i64 (m:Int),.int .i64 (t.kind:Int),.string ⟨t.key.toArray⟩,.int .i64 (t.num:Int),.bool (isW m),.bool c.hm,.bool c.am,.slice b1 n1 p1,.bool c.hn,.bool c.an,.slice b2 n2 p2,.bool c.hs,.int .i64 c.si,.bool c.hu,.int .i64 c.ul,.bool false,.string ⟨#[]⟩,.int .i64 0,.string ⟨#[]⟩]
      have rq':=rq3.row (b:=w.heap.size) (us:=#[.int .i64 (m:Int),.int .i64 (t.kind:Int),.string ⟨t.key.toArray⟩,.int .i64 (t.num:Int),.bool (isW m),.bool c.hm,.bool c.am,.slice b1 n1 p1,.bool c.hn,.bool c.an,.slice b2 n2 p2,.bool c.hs,.int .i64 c.si,.bool c.hu,.int .i64 c.ul,.bool false,.string ⟨#[]⟩,.int .i64 0,.string ⟨#[]⟩]) (by omega)
      refine bodyPost_ret (v:=.tuple #[.agg #[.int .i64 (m:Int),.int .i64 (t.kind:Int),.string ⟨t.key.toArray⟩,.int .i64 (t.num:Int),.bool (isW m),.bool c.hm,.bool c.am,.slice b1 n1 p1,.bool c.hn,.bool c.an,.slice b2 n2 p2,.bool c.hs,.int .i64 c.si,.bool c.hu,.int .i64 c.ul,.bool false,.string ⟨#[]⟩,.int .i64 0,.string ⟨#[]⟩],.int .i64 0]) (results_read _ _ w.heap.size _ rfl pz'.blk rfl) rfl ⟨pz'.b,Or.inl ⟨m,t,k,[],c,g,HR.out,?_,by omega,by rw[setRow_size];exact hg3,rq'⟩⟩
      rw[reqV,HE1.out,HE2.out]
   ·obtain⟨hne,hne2⟩:(body==[])=false/\body.isEmpty=false:=by cases body with
     | nil=>exact absurd rfl hb
     | cons a r=>exact⟨rfl,rfl⟩
    have hal:Below w1.heap.size w1 (w1.alloc (.cells #[.int .i64 (m:Int),.int .i64 (t.kind:Int),.string ⟨t.key.toArray⟩,.int .i64 (t.num:Int),.bool (isW m),.bool c.hm,.bool c.am,.slice b1 n1 p1,.bool c.hn,.bool c.an,.slice b2 n2 p2,.bool c.hs,.int .i64 c.si,.bool c.hu,.int .i64 c.ul,.bool false,.string ⟨#[]⟩,.int .i64 0,.string ⟨body.toArray⟩] 95)):=(Below.refl _ _).alloc (Nat.le_refl _) _
    have pz2:=pz1.below hal
    have rq2:=rq.below hg2 hal
    have hgx2:=Nat.le_trans hg2 hal.size
    have hlt2:w1.heap.size<(w1.alloc (.cells #[.int .i64 (m:Int),.int .i64 (t.kind:Int),.string ⟨t.key.toArray⟩,.int .i64 (t.num:Int),.bool (isW m),.bool c.hm,.bool c.am,.slice b1 n1 p1,.bool c.hn,.bool c.an,.slice b2 n2 p2,.bool c.hs,.int .i64 c.si,.bool c.hu,.int .i64 c.ul,.bool false,.string ⟨#[]⟩,.int .i64 0,.string ⟨body.toArray⟩] 95)).heap.size:=by rw[World.size_alloc];omega
    have HB:Hid (body≠[]):=hb
    clear hal rq hb
    go_wp2_with (first|(refine wpList_store_row rfl 95 (.tmp 4) (.tmp 13) rfl w1.heap.size #[.int .i64 (m:Int),.int .i64 (t.kind:Int),.string ⟨t.key.toArray⟩,.int .i64 (t.num:Int),.bool (isW m),.bool c.hm,.bool c.am,.slice b1 n1 p1,.bool c.hn,.bool c.an,.slice b2 n2 p2,.bool c.hs,.int .i64 c.si,.bool c.hu,.int .i64 c.ul,.bool false,.string ⟨#[]⟩,.int .i64 0,.string ⟨body.toArray⟩] rfl rfl 95 #[.int .i64 0,.int .i64 0,.string ⟨#[]⟩,.int .i64 0,.bool false,.bool false,.bool false,.slice none 0 0,.bool false,.bool false,.slice none 0 0,.bool false,.int .i64 0,.bool false,.int .i64 0,.bool false,.string ⟨#[]⟩,.int .i64 0,.string ⟨#[]⟩] (heap_alloc_last _ _) hi77 rfl (by simp[Value.oneCell']) ?_;rw[World.setRow_alloc_new])|(refine wpList_load_row_g rfl 95 (.tmp 4) rfl w1.heap.size rfl 95 #[.int .i64 (m:Int),.int .i64 (t.kind:Int),.string ⟨t.key.toArray⟩,.int .i64 (t.num:Int),.bool (isW m),.bool c.hm,.bool c.am,.slice b1 n1 p1,.bool c.hn,.bool c.an,.slice b2 n2 p2,.bool c.hs,.int .i64 c.si,.bool c.hu,.int .i64 c.ul,.bool false,.string ⟨#[]⟩,.int .i64 0,.string ⟨body.toArray⟩] (0,0) _ (heap_alloc_last _ _) Tryz.underlying95 rfl hi77 ?_))
    refine (putsKey_any m t.kind ⟨t.key.toArray⟩ t.num (isW m) c.hm c.am b1 n1 p1 c.hn c.an b2 n2 p2 c.hs c.si c.hu c.ul ⟨body.toArray⟩ _).mono ?_
    rintro e x ⟨rfl,hbx⟩
    have pzx:=pz2.below hbx
    have rqx:=rq2.below hgx2 hbx
    have hgx:=Nat.le_trans hgx2 hbx.size
    have hx4:x.heap[w1.heap.size]?=some (.cells #[.int .i64 (m:Int),.int .i64 (t.kind:Int),.string ⟨t.key.toArray⟩,.int .i64 (t.num:Int),.bool (isW m),.bool c.hm,.bool c.am,.slice b1 n1 p1,.bool c.hn,.bool c.an,.slice b2 n2 p2,.bool c.hs,.int .i64 c.si,.bool c.hu,.int .i64 c.ul,.bool false,.string ⟨#[]⟩,.int .i64 0,.string ⟨body.toArray⟩] 95 (0,0)):=(hbx.block _ hlt2).trans (heap_alloc_last _ _)
    have hlt:=Nat.lt_of_lt_of_le hlt2 hbx.size
    have hx18:x.cell? ⟨w1.heap.size,18,none⟩=some (.string ⟨body.toArray⟩):=by simp[World.cell?,hx4]
    clear hbx pz2 rq2 hgx2 hlt2 hne hne2
    cases hk:(m==2&&t.kind==1) with
    | false =>
      have HR:Hid _:=rf3 h2 HP.out HB.out hk
      clear hk
      go_wp2_with (refine wpList_store_row rfl 95 (.tmp 2) (.tmp 27) rfl w.heap.size #[.int .i64 0,.int .i64 0,.string ⟨#[]⟩,.int .i64 0,.bool false,.bool false,.bool false,.slice none 0 0,.bool false,.bool false,.slice none 0 0,.bool false,.int .i64 0,.bool false,.int .i64 0,.bool false,.string ⟨#[]⟩,.int .i64 0,.string ⟨#[]⟩] rfl rfl 95 #[.int .i64 0,.int .i64 0,.string ⟨#[]⟩,.int .i64 0,.bool false,.bool false,.bool false,.slice none 0 0,.bool false,.bool false,.slice none 0 0,.bool false,.int .i64 0,.bool false,.int .i64 0,.bool false,.string ⟨#[]⟩,.int .i64 0,.string ⟨#[]⟩] pzx.blk hi77 rfl allZ ?_)
      have pz':=pzx.row #[.int .i64 0,.int .i64 0,.string ⟨#[]⟩,.int .i64 0,.bool false,.bool false,.bool false,.slice none 0 0,.bool false,.bool false,.slice none 0 0,.bool false,.int .i64 0,.bool false,.int .i64 0,.bool false,.string ⟨#[]⟩,.int .i64 0,.string ⟨#[]⟩]
      exact bodyPost_ret (v:=.tuple #[.agg #[.int .i64 0,.int .i64 0,.string ⟨#[]⟩,.int .i64 0,.bool false,.bool false,.bool false,.slice none 0 0,.bool false,.bool false,.slice none 0 0,.bool false,.int .i64 0,.bool false,.int .i64 0,.bool false,.string ⟨#[]⟩,.int .i64 0,.string ⟨#[]⟩],.int .i64 400]) (results_read _ _ w.heap.size _ rfl pz'.blk rfl) rfl ⟨pz'.b,Or.inr ⟨400,HR.out,rfl⟩⟩
    | true =>
      have HK:Hid (¬ (body≠[]/\(m==2&&t.kind==1)=false)):=fun h=>by rw[hk] at h;exact absurd h.2 (by decide)
      clear hk
      by_cases h4:400<body.length
      ·have HR:Hid _:=rf4 h2 HP.out HK.out h4
       go_wp2_with (refine wpList_store_row rfl 95 (.tmp 2) (.tmp 32) rfl w.heap.size #[.int .i64 0,.int .i64 0,.string ⟨#[]⟩,.int .i64 0,.bool false,.bool false,.bool false,.slice none 0 0,.bool false,.bool false,.slice none 0 0,.bool false,.int .i64 0,.bool false,.int .i64 0,.bool false,.string ⟨#[]⟩,.int .i64 0,.string ⟨#[]⟩] rfl rfl 95 #[.int .i64 0,.int .i64 0,.string ⟨#[]⟩,.int .i64 0,.bool false,.bool false,.bool false,.slice none 0 0,.bool false,.bool false,.slice none 0 0,.bool false,.int .i64 0,.bool false,.int .i64 0,.bool false,.string ⟨#[]⟩,.int .i64 0,.string ⟨#[]⟩] pzx.blk hi77 rfl allZ ?_)
       have pz':=pzx.row #[.int .i64 0,.int .i64 0,.string ⟨#[]⟩,.int .i64 0,.bool false,.bool false,.bool false,.slice none 0 0,.bool false,.bool false,.slice none 0 0,.bool false,.int .i64 0,.bool false,.int .i64 0,.bool false,.string ⟨#[]⟩,.int .i64 0,.string ⟨#[]⟩]
       exact bodyPost_ret (v:=.tuple #[.agg #[.int .i64 0,.int .i64 0,.string ⟨#[]⟩,.int .i64 0,.bool false,.bool false,.bool false,.slice none 0 0,.bool false,.bool false,.slice none 0 0,.bool false,.int .i64 0,.bool false,.int .i64 0,.bool false,.string ⟨#[]⟩,.int .i64 0,.string ⟨#[]⟩],.int .i64 413]) (results_read _ _ w.heap.size _ rfl pz'.blk rfl) rfl ⟨pz'.b,Or.inr ⟨413,HR.out,rfl⟩⟩
      ·skip
       go_wp2_with (first|fail|(refine wpList_load_row rfl 95 (.tmp 4) rfl w1.heap.size rfl 95 #[.int .i64 (m:Int),.int .i64 (t.kind:Int),.string ⟨t.key.toArray⟩,.int .i64 (t.num:Int),.bool (isW m),.bool c.hm,.bool c.am,.slice b1 n1 p1,.bool c.hn,.bool c.an,.slice b2 n2 p2,.bool c.hs,.int .i64 c.si,.bool c.hu,.int .i64 c.ul,.bool false,.string ⟨#[]⟩,.int .i64 0,.string ⟨body.toArray⟩] (0,0) _ hx4 Tryz.underlying95 rfl hi77 ?_))
       refine (methodFits_any m t.kind ⟨t.key.toArray⟩ t.num (isW m) c.hm c.am b1 n1 p1 c.hn c.an b2 n2 p2 c.hs c.si c.hu c.ul ⟨body.toArray⟩ _).mono ?_
       rintro e w3 ⟨rfl,hb3⟩
       have pz3:=pzx.below hb3
       have rq3:=rqx.below hgx hb3
       have hg3:=Nat.le_trans hgx hb3.size
       have hx3:w3.heap[w1.heap.size]?=some (.cells #[.int .i64 (m:Int),.int .i64 (t.kind:Int),.string ⟨t.key.toArray⟩,.int .i64 (t.num:Int),.bool (isW m),.bool c.hm,.bool c.am,.slice b1 n1 p1,.bool c.hn,.bool c.an,.slice b2 n2 p2,.bool c.hs,.int .i64 c.si,.bool c.hu,.int .i64 c.ul,.bool false,.string ⟨#[]⟩,.int .i64 0,.string ⟨body.toArray⟩] 95 (0,0)):=(hb3.block _ hlt).trans hx4
       clear hb3
       cases hf:fitsF m t.kind with
       | false =>
         have HR:Hid _:=rf5 h2 HP.out HK.out h4 hf
         clear hf
         go_wp2_with (refine wpList_store_row rfl 95 (.tmp 2) (.tmp 36) rfl w.heap.size #[.int .i64 0,.int .i64 0,.string ⟨#[]⟩,.int .i64 0,.bool false,.bool false,.bool false,.slice none 0 0,.bool false,.bool false,.slice none 0 0,.bool false,.int .i64 0,.bool false,.int .i64 0,.bool false,.string ⟨#[]⟩,.int .i64 0,.string ⟨#[]⟩] rfl rfl 95 #[.int .i64 0,.int .i64 0,.string ⟨#[]⟩,.int .i64 0,.bool false,.bool false,.bool false,.slice none 0 0,.bool false,.bool false,.slice none 0 0,.bool false,.int .i64 0,.bool false,.int .i64 0,.bool false,.string ⟨#[]⟩,.int .i64 0,.string ⟨#[]⟩] pz3.blk hi77 rfl allZ ?_)
         have pz':=pz3.row #[.int .i64 0,.int .i64 0,.string ⟨#[]⟩,.int .i64 0,.bool false,.bool false,.bool false,.slice none 0 0,.bool false,.bool false,.slice none 0 0,.bool false,.int .i64 0,.bool false,.int .i64 0,.bool false,.string ⟨#[]⟩,.int .i64 0,.string ⟨#[]⟩]
         exact bodyPost_ret (v:=.tuple #[.agg #[.int .i64 0,.int .i64 0,.string ⟨#[]⟩,.int .i64 0,.bool false,.bool false,.bool false,.slice none 0 0,.bool false,.bool false,.slice none 0 0,.bool false,.int .i64 0,.bool false,.int .i64 0,.bool false,.string ⟨#[]⟩,.int .i64 0,.string ⟨#[]⟩],.int .i64 405]) (results_read _ _ w.heap.size _ rfl pz'.blk rfl) rfl ⟨pz'.b,Or.inr ⟨405,HR.out,rfl⟩⟩
       | true =>
         have HR:Hid _:=rf6 h2 HP.out HK.out h4 hf
         clear hf
         go_wp2_with (first|(refine wpList_load_row rfl 95 (.tmp 4) rfl w1.heap.size rfl 95 #[.int .i64 (m:Int),.int .i64 (t.kind:Int),.string ⟨t.key.toArray⟩,.int .i64 (t.num:Int),.bool (isW m),.bool c.hm,.bool c.am,.slice b1 n1 p1,.bool c.hn,.bool c.an,.slice b2 n2 p2,.bool c.hs,.int .i64 c.si,.bool c.hu,.int .i64 c.ul,.bool false,.string ⟨#[]⟩,.int .i64 0,.string ⟨body.toArray⟩] (0,0) _ hx3 Tryz.underlying95 rfl hi77 ?_)|(refine wpList_store_row rfl 95 (.tmp 2) (.tmp 37) rfl w.heap.size #[.int .i64 (m:Int),.int .i64 (t.kind:Int),.string ⟨t.key.toArray⟩,.int .i64 (t.num:Int),.bool (isW m),.bool c.hm,.bool c.am,.slice b1 n1 p1,.bool c.hn,.bool c.an,.slice b2 n2 p2,.bool c.hs,.int .i64 c.si,.bool c.hu,.int .i64 c.ul,.bool false,.string ⟨#[]⟩,.int .i64 0,.string ⟨body.toArray⟩] rfl rfl 95 #[.int .i64 0,.int .i64 0,.string ⟨#[]⟩,.int .i64 0,.bool false,.bool false,.bool false,.slice none 0 0,.bool false,.bool false,.slice none 0 0,.bool false,.int .i64 0,.bool false,.int .i64 0,.bool false,.string ⟨#[]⟩,.int .i64 0,.string ⟨#[]⟩] pz3.blk hi77 rfl (by simp[Value.oneCell']) ?_))
         have pz':=pz3.row #[.int .i64 (m:Int),.int .i64 (t.kind:Int),.string ⟨t.key.toArray⟩,.int .i64 (t.num:Int),.bool (isW m),.bool c.hm,.bool c.am,.slice b1 n1 p1,.bool c.hn,.bool c.an,.slice b2 n2 p2,.bool c.hs,.int .i64 c.si,.bool c.hu,.int .i64 c.ul,.bool false,.string ⟨#[]⟩,.int .i64 0,.string ⟨body.toArray⟩]
         have rq':=rq3.row (b:=w.heap.size) (us:=#[.int .i64 (m:Int),.int .i64 (t.kind:Int),.string ⟨t.key.toArray⟩,.int .i64 (t.num:Int),.bool (isW m),.bool c.hm,.bool c.am,.slice b1 n1 p1,.bool c.hn,.bool c.an,.slice b2 n2 p2,.bool c.hs,.int .i64 c.si,.bool c.hu,.int .i64 c.ul,.bool false,.string ⟨#[]⟩,.int .i64 0,.string ⟨body.toArray⟩]) (by omega)
         refine bodyPost_ret (v:=.tuple #[.agg #[.int .i64 (m:Int),.int .i64 (t.kind:Int),.string ⟨t.key.toArray⟩,.int .i64 (t.num:Int),.bool (isW m),.bool c.hm,.bool c.am,.slice b1 n1 p1,.bool c.hn,.bool c.an,.slice b2 n2 p2,.bool c.hs,.int .i64 c.si,.bool c.hu,.int .i64 c.ul,.bool false,.string ⟨#[]⟩,.int .i64 0,.string ⟨body.toArray⟩],.int .i64 0]) (results_read _ _ w.heap.size _ rfl pz'.blk rfl) rfl ⟨pz'.b,Or.inl ⟨m,t,k,body,c,g,HR.out,?_,by omega,by rw[setRow_size];exact hg3,rq'⟩⟩
         rw[reqV,HE1.out,HE2.out]
  ·have pz1:=(pz.below hb1).below ((Below.refl _ _).alloc (Nat.le_refl _) (.cells #[.int .i64 0,.int .i64 0,.string ⟨#[]⟩,.int .i64 0,.bool false,.bool false,.bool false,.slice none 0 0,.bool false,.bool false,.slice none 0 0,.bool false,.int .i64 0,.bool false,.int .i64 0,.bool false,.string ⟨#[]⟩,.int .i64 0,.string ⟨#[]⟩] 95))
   have HR:Hid _:=rf2 h2 hp
   clear pz hb1 hp
   go_wp2_with (first
    | (refine wpList_store_row rfl 95 (.tmp 4) (.tmp 13) rfl w1.heap.size #[.int .i64 0,.int .i64 0,.string ⟨#[]⟩,.int .i64 0,.bool false,.bool false,.bool false,.slice none 0 0,.bool false,.bool false,.slice none 0 0,.bool false,.int .i64 0,.bool false,.int .i64 0,.bool false,.string ⟨#[]⟩,.int .i64 0,.string ⟨#[]⟩] rfl rfl 95 #[.int .i64 0,.int .i64 0,.string ⟨#[]⟩,.int .i64 0,.bool false,.bool false,.bool false,.slice none 0 0,.bool false,.bool false,.slice none 0 0,.bool false,.int .i64 0,.bool false,.int .i64 0,.bool false,.string ⟨#[]⟩,.int .i64 0,.string ⟨#[]⟩] (heap_alloc_last _ _) hi77 rfl allZ ?_;rw[World.setRow_alloc_new])
    | (refine wpList_store_row rfl 95 (.tmp 2) (.tmp 27) rfl w.heap.size #[.int .i64 0,.int .i64 0,.string ⟨#[]⟩,.int .i64 0,.bool false,.bool false,.bool false,.slice none 0 0,.bool false,.bool false,.slice none 0 0,.bool false,.int .i64 0,.bool false,.int .i64 0,.bool false,.string ⟨#[]⟩,.int .i64 0,.string ⟨#[]⟩] rfl rfl 95 #[.int .i64 0,.int .i64 0,.string ⟨#[]⟩,.int .i64 0,.bool false,.bool false,.bool false,.slice none 0 0,.bool false,.bool false,.slice none 0 0,.bool false,.int .i64 0,.bool false,.int .i64 0,.bool false,.string ⟨#[]⟩,.int .i64 0,.string ⟨#[]⟩] pz1.blk hi77 rfl allZ ?_))
   have pz':=pz1.row #[.int .i64 0,.int .i64 0,.string ⟨#[]⟩,.int .i64 0,.bool false,.bool false,.bool false,.slice none 0 0,.bool false,.bool false,.slice none 0 0,.bool false,.int .i64 0,.bool false,.int .i64 0,.bool false,.string ⟨#[]⟩,.int .i64 0,.string ⟨#[]⟩]
   exact bodyPost_ret (v:=.tuple #[.agg #[.int .i64 0,.int .i64 0,.string ⟨#[]⟩,.int .i64 0,.bool false,.bool false,.bool false,.slice none 0 0,.bool false,.bool false,.slice none 0 0,.bool false,.int .i64 0,.bool false,.int .i64 0,.bool false,.string ⟨#[]⟩,.int .i64 0,.string ⟨#[]⟩],.int .i64 400]) (results_read _ _ w.heap.size _ rfl pz'.blk rfl) rfl ⟨pz'.b,Or.inr ⟨400,HR.out,rfl⟩⟩
end Go.Proofs.YtmehkneofinmiaaGreatDoor
namespace Go.Proofs.YtmehkneofinmiaaGreatDoor
theorem numF_lt {l:List UInt8}{n:Nat}(h:numF l=some n):n<1000000000:=by
 unfold numF at h
 split at h
 ·cases h
 ·rename_i hc
  cases h
  simp only[Bool.or_eq_true,not_or,decide_eq_true_eq,Bool.not_eq_true',Bool.not_eq_true] at hc
  obtain⟨_,h9,_,hd⟩:=hc
  have hd':l.all digB=true:=by simpa using hd
  have h1:=numV_lt l hd'
  have h2:10 ^ l.length<=10 ^ 9:=Nat.pow_le_pow_right (by omega) (by omega)
  omega
theorem target_ok {l:List UInt8}{t:Tgt}(h:targetF l=some t):(t.kind≠0->keyOK t.key=true)/\t.key.length<=40/\t.num<1000000000:=by
 have kl:∀ {k:List UInt8},keyOK k=true->k.length<=40:=by
  intro k hk
  unfold keyOK at hk
  simp at hk
  exact hk.2.1
 unfold targetF at h
 split at h
 ·unfold pathF at h
  split at h
  ·cases h
   simp
  ·split at h
   ·split at h
    ·rename_i hk
     cases h
     exact⟨fun h=>absurd rfl h,kl hk,by simp⟩
    ·cases h
   ·split at h
    ·rename_i hk
     split at h
     ·unfold queryF at h
      split at h
      ·cases h
       exact⟨fun _=>hk,kl hk,by simp⟩
      ·split at h
       ·obtain⟨n,hn,rfl⟩:=Option.map_eq_some_iff.1 h
        exact⟨fun _=>hk,kl hk,numF_lt hn⟩
       ·cases h
     ·cases h
      exact⟨fun _=>hk,kl hk,by simp⟩
    ·cases h
 ·cases h
theorem fieldsM {l:List UInt8}{m:Nat}{t:Tgt}{k:Cnd}{body:List UInt8}(h:parseF l=some (m,t,k,body)):∃ mt tt,methF mt=some m/\targetF tt=some t:=by
 unfold parseF at h
 split at h
 ·split at h
  ·split at h
   ·cases h
   ·rename_i m' hm
    split at h
    ·cases h
    ·rename_i t' ht
     split at h
     ·cases h
     ·cases h
      exact⟨_,_,hm,ht⟩
  ·cases h
 ·cases h
theorem read_ok {l:List UInt8}{m:Nat}{t:Tgt}{k:Cnd}{body:List UInt8}(h:readF l=.ok (m,t,k,body)):(t.kind≠0->keyOK t.key=true)/\t.key.length<=40/\t.num<1000000000/\body.length<=400:=by
 unfold readF at h
 split at h
 ·cases h
 ·split at h
  ·cases h
  ·rename_i m' t' k' b' hp
   split at h
   ·cases h
   ·split at h
    ·cases h
    ·rename_i hb
     split at h
     ·injection h with h
      injection h with h1 h2
      injection h2 with h2 h3
      injection h3 with h3 h4
      subst h2
      subst h4
      obtain⟨mt,tt,_,ht⟩:=fieldsM hp
      have:=target_ok ht
      exact⟨this.1,this.2.1,this.2.2,by omega⟩
     ·cases h
theorem read_no {l:List UInt8}{n:Nat}(h:readF l=.error n):n<1000:=by
 unfold readF at h
 repeat' split at h
 all_goals (cases h)
 all_goals omega
theorem read_no0 {l:List UInt8}{n:Nat}(h:readF l=.error n):n≠0:=by
 unfold readF at h
 repeat' split at h
 all_goals (cases h)
 all_goals omega
def blank (c:UInt8):Bool:=[32,9].contains c
def mk (wk:Bool)(t:List UInt8):List UInt8:=(if wk then [87,47] else [])++[34]++t++[34]
theorem strip_gap (g x:List UInt8)(h:g.all blank=true):strip (g++x)=strip x:=by
 unfold strip Lib.trimLeftS
 induction g with
 | nil=>rfl
 | cons c g ih =>
   simp only[List.all_cons,Bool.and_eq_true] at h
   rw[List.cons_append,List.dropWhile_cons,if_pos (show [32,9].contains c=true from h.1)]
   exact ih h.2
theorem strip_head (c:UInt8)(x:List UInt8)(h:blank c=false):strip (c::x)=c::x:=by
 unfold strip Lib.trimLeftS
 rw[List.dropWhile_cons,if_neg (show ¬ [32,9].contains c=true from by rw[show [32,9].contains c=blank c from rfl,h];decide)]
def body:List (Bool×List UInt8×List UInt8)->List UInt8->List UInt8
 | [],fin=>fin
 | [(wk,t,_)],fin=>mk wk t++fin
 | (wk,t,g)::(wk',t',g')::r,fin=>mk wk t++(g++(44::(g'++body ((wk',t',g')::r) fin)))
theorem index_clean (t rest p:List UInt8)(b:UInt8)(h:∀ c∈t,c≠b):Lib.index (t++(b::p)++rest) (b::p)=t.length:=by
 induction t with
 | nil=>simp[Lib.index]
 | cons c t ih =>
   have hc:c≠b:=h c (by simp)
   have ih':=ih (fun x hx=>h x (by simp[hx]))
   have hne:(b==c)=false:=by simp;exact fun e=>hc e.symm
   simp only[List.cons_append,Lib.index,List.isPrefixOf,hne,Bool.false_and]
   rw[List.append_assoc,List.cons_append] at ih'
   rw[List.append_assoc,List.cons_append]
   simp only[ih']
   simp
theorem cut_clean (t rest p:List UInt8)(b:UInt8)(h:∀ c∈t,c≠b):Lib.cut (t++(b::p)++rest) (b::p)=(t,rest,true):=by
 unfold Lib.cut
 rw[index_clean t rest p b h,if_pos (by omega)]
 simp
theorem index_out (t p:List UInt8)(b:UInt8)(h:∀ c∈t,c≠b):Lib.index t (b::p) = -1:=by
 induction t with
 | nil=>rfl
 | cons c t ih =>
   have hne:(b==c)=false:=by simp;exact fun e=>h c (by simp) e.symm
   simp only[Lib.index,List.isPrefixOf,hne,Bool.false_and]
   rw[ih (fun x hx=>h x (by simp[hx]))]
   simp
theorem cut_out (t p:List UInt8)(b:UInt8)(h:∀ c∈t,c≠b):Lib.cut t (b::p)=(t,[],false):=by
 unfold Lib.cut
 rw[index_out t p b h,if_neg (by omega)]
theorem dec_len10 {n k:Nat}(h:n<10 ^ k)(hk:0<k):(Lib.decDigits n).length<=k:=by
 induction k generalizing n with
 | zero=>omega
 | succ k ih =>
   rw[Lib.decDigits]
   split
   ·simp
   ·rename_i h10
    rw[Nat.pow_succ] at h
    cases k with
    | zero=>simp at h;omega
    | succ k =>
      have:=ih (n:=n/10) (by omega) (by omega)
      simp
      omega
end Go.Proofs.YtmehkneofinmiaaGreatDoor

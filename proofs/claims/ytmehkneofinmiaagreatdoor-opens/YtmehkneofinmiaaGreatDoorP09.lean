/-part 9-/
import Derived.Test.YtmehkneofinmiaaGreatDoorP08
import Derived.Conc.RwLib
set_option maxRecDepth 100000
set_option maxHeartbeats 4000000
namespace Go.Proofs.YtmehkneofinmiaaGreatDoor
open Go.RowKit
noncomputable def bM (l:List UInt8):Except Nat (Nat×Tgt×Cnd×List UInt8) :=
 if 2000<l.length then .error 413 else
  match bF l with
  | none=>.error 400
  | some (m,t,k,body) =>
    if body≠[]/\(m==2&&t.kind==1)=false then .error 400
    else if 400<body.length then .error 413
    else if dX m t.kind then .ok (m,t,k,body) else .error 405
theorem rf1 {l:List UInt8}(h:2000<l.length):bM l=.error 413:=by simp[bM,h]
theorem rf2 {l:List UInt8}(h:¬ 2000<l.length)(hp:bF l=none):bM l=.error 400:=by simp[bM,h,hp]
theorem rf3 {l:List UInt8}{m t k body}(h:¬ 2000<l.length)(hp:bF l=some (m,t,k,body))(hb:body≠[])(hk:(m==2&&t.kind==1)=false):bM l=.error 400:=by
 unfold bM;rw[if_neg h,hp];simp only;rw[if_pos ⟨hb,hk⟩]
theorem rf4 {l:List UInt8}{m t k body}(h:¬ 2000<l.length)(hp:bF l=some (m,t,k,body))(hk:¬ (body≠[]/\(m==2&&t.kind==1)=false))(h4:400<body.length):bM l=.error 413:=by
 unfold bM;rw[if_neg h,hp];simp only;rw[if_neg hk,if_pos h4]
theorem rf5 {l:List UInt8}{m t k body}(h:¬ 2000<l.length)(hp:bF l=some (m,t,k,body))(hk:¬ (body≠[]/\(m==2&&t.kind==1)=false))(h4:¬ 400<body.length)(hf:dX m t.kind=false):bM l=.error 405:=by
 unfold bM;rw[if_neg h,hp];simp only;rw[if_neg hk,if_neg h4,if_neg (by rw[hf];exact Bool.false_ne_true)]
theorem rf6 {l:List UInt8}{m t k body}(h:¬ 2000<l.length)(hp:bF l=some (m,t,k,body))(hk:¬ (body≠[]/\(m==2&&t.kind==1)=false))(h4:¬ 400<body.length)(hf:dX m t.kind=true):bM l=.ok (m,t,k,body):=by
 unfold bM;rw[if_neg h,hp];simp only;rw[if_neg hk,if_neg h4,if_pos hf]
theorem cl (tmps:Array Value)(x:World)(g:Nat)(vs:Array Value)(hp:tmps.getD 2 undef=.pointer (some ⟨g,0,none⟩))(hg:x.heap[g]?=some (.cells vs 95 (0,0)))(hs:vs.size=19) :
 (results Tryz.f40 tmps).run Tryz.prog x=.ok (.tuple #[.agg vs,tmps.getD 3 undef]) x:=by
 have A0:tmps[2]?.getD undef=.pointer (some ⟨g,0,none⟩):=by simpa using hp
 have hr:=run_loadVar_row (P:=Tryz.prog) x g 95 95 vs (0,0) _ hg Tryz.underlying95 rfl (by rw[hs];exact dL);simp[results,Tryz.results40,A0,asAddr,hr]
theorem jO {P:Program}{ops:Array Oper}{rest:List Oper}{o:Oper}{a:Act}{w:World}{Q:Exit->Act->World->Prop}(hw:Region.wanted o (yielded ops a.tmps)=true)(ty:TypeId)(x:Operand)(ho:o.op=.load ty x)
 (g:Nat)(hx:a.eval x=.pointer (some ⟨g,0,none⟩))(t:TypeId)(cs:Array Value)(fr:Nat×Nat)(d:TypeDesc)(hg:w.heap[g]?=some (.cells cs t fr))
 (hu:P.underlying ty=some d)(hd:(match d with|.struct _|.array _ _=>true|_=>false)=true)(hi:(P.info? ty).map (·.size)=some cs.size)
 (h:wpList P ops Q rest (a.put o.dst (.agg cs)) w):wpList P ops Q (o::rest) a w :=
 wpList_step λ K hK=>by rw[if_pos hw];exact wp_load_row ty x ho g hx t cs fr d hg hu hd hi (hK _ _ h)
theorem wG (hA:rA)(l:List UInt8)(w:World)(hM:bP w)(hl:l.length<=9223372036854775807) :
 Calls Tryz.prog 40 #[.string ⟨l.toArray⟩] w λ e w'=>Below w.heap.size w w' /\
  ((∃ m t k body c g,bM l=.ok (m,t,k,body)/\e=.returned (.tuple #[gb m t (isW m) c body,.int .i64 0])/\w.heap.size<g/\g<=w'.heap.size/\Rq w' g c k)\/(∃ n:Nat,bM l=.error n/\e=.returned (.tuple #[.agg #[.int .i64 0,.int .i64 0,.string ⟨#[]⟩,.int .i64 0,.bool false,.bool false,.bool false,.slice none 0 0,.bool false,.bool false,.slice none 0 0,.bool false,.int .i64 0,.bool false,.int .i64 0,.bool false,.string ⟨#[]⟩,.int .i64 0,.string ⟨#[]⟩],.int .i64 (n:Int)]))):=by
 have pz:=Pz.made w;by_cases h2:2000<l.length
 ·have HR:Hid _:=rf1 h2;go_enter Tryz.func40,Tryz.ntmps40;go_wp2_with (refine wpList_store_row rfl 95 (.tmp 2) (.tmp 9) rfl w.heap.size #[.int .i64 0,.int .i64 0,.string ⟨#[]⟩,.int .i64 0,.bool false,.bool false,.bool false,.slice none 0 0,.bool false,.bool false,.slice none 0 0,.bool false,.int .i64 0,.bool false,.int .i64 0,.bool false,.string ⟨#[]⟩,.int .i64 0,.string ⟨#[]⟩] rfl rfl 95 #[.int .i64 0,.int .i64 0,.string ⟨#[]⟩,.int .i64 0,.bool false,.bool false,.bool false,.slice none 0 0,.bool false,.bool false,.slice none 0 0,.bool false,.int .i64 0,.bool false,.int .i64 0,.bool false,.string ⟨#[]⟩,.int .i64 0,.string ⟨#[]⟩] pz.blk dL rfl kh ?_);have A0:=pz.row #[.int .i64 0,.int .i64 0,.string ⟨#[]⟩,.int .i64 0,.bool false,.bool false,.bool false,.slice none 0 0,.bool false,.bool false,.slice none 0 0,.bool false,.int .i64 0,.bool false,.int .i64 0,.bool false,.string ⟨#[]⟩,.int .i64 0,.string ⟨#[]⟩];exact bodyPost_ret (v:=.tuple #[.agg #[.int .i64 0,.int .i64 0,.string ⟨#[]⟩,.int .i64 0,.bool false,.bool false,.bool false,.slice none 0 0,.bool false,.bool false,.slice none 0 0,.bool false,.int .i64 0,.bool false,.int .i64 0,.bool false,.string ⟨#[]⟩,.int .i64 0,.string ⟨#[]⟩],.int .i64 413]) (cl _ _ w.heap.size _ rfl A0.blk rfl) rfl ⟨A0.b,Or.inr ⟨413,HR.out,rfl⟩⟩
 ·go_enter Tryz.func40,Tryz.ntmps40;go_wp2_with fail;refine (vo hA l _ (hM.below pz.b) (by omega)).mono ?_;rintro e w1 ⟨Ab,⟨m,t,k,body,c,g,hp,rfl,Ap,Aa,rq⟩|⟨hp,rfl⟩⟩
  ·obtain⟨b1,n1,p1,e1⟩:=rq.m.slice;obtain⟨b2,n2,p2,e2⟩:=rq.n.slice;simp only[gb];rw[e1,e2];have Al:Hid _:=e1;have Am:Hid _:=e2;have HP:Hid _:=hp;have A8:=pz.below Ab;rw[World.size_alloc] at Ap;clear e1 e2 hp pz Ab;by_cases hb:body=[]
   ·subst hb;have kk:¬ (([]:List UInt8)≠[]/\(m==2&&t.kind==1)=false):=λ h=>h.1 rfl;have HK:Hid _:=kk;clear kk;have A3:Below w1.heap.size w1 (w1.alloc (.cells #[.int .i64 (m:Int),.int .i64 (t.kind:Int),.string ⟨t.key.toArray⟩,.int .i64 (t.num:Int),.bool (isW m),.bool c.hm,.bool c.am,.slice b1 n1 p1,.bool c.hn,.bool c.an,.slice b2 n2 p2,.bool c.hs,.int .i64 c.si,.bool c.hu,.int .i64 c.ul,.bool false,.string ⟨#[]⟩,.int .i64 0,.string ⟨#[]⟩] 95)):=(Below.refl _ _).alloc (Nat.le_refl _) _;have A5:=A8.below A3;have Ae:=rq.below Aa A3;have A9:=Nat.le_trans Aa A3.size;(have Ah:w1.heap.size<(w1.alloc (.cells #[.int .i64 (m:Int),.int .i64 (t.kind:Int),.string ⟨t.key.toArray⟩,.int .i64 (t.num:Int),.bool (isW m),.bool c.hm,.bool c.am,.slice b1 n1 p1,.bool c.hn,.bool c.an,.slice b2 n2 p2,.bool c.hs,.int .i64 c.si,.bool c.hu,.int .i64 c.ul,.bool false,.string ⟨#[]⟩,.int .i64 0,.string ⟨#[]⟩] 95)).heap.size:=by rw[World.size_alloc];omega);clear A3 rq;go_wp2_with (first|(refine wpList_store_row rfl 95 (.tmp 4) (.tmp 13) rfl w1.heap.size #[.int .i64 (m:Int),.int .i64 (t.kind:Int),.string ⟨t.key.toArray⟩,.int .i64 (t.num:Int),.bool (isW m),.bool c.hm,.bool c.am,.slice b1 n1 p1,.bool c.hn,.bool c.an,.slice b2 n2 p2,.bool c.hs,.int .i64 c.si,.bool c.hu,.int .i64 c.ul,.bool false,.string ⟨#[]⟩,.int .i64 0,.string ⟨#[]⟩] rfl rfl 95 #[.int .i64 0,.int .i64 0,.string ⟨#[]⟩,.int .i64 0,.bool false,.bool false,.bool false,.slice none 0 0,.bool false,.bool false,.slice none 0 0,.bool false,.int .i64 0,.bool false,.int .i64 0,.bool false,.string ⟨#[]⟩,.int .i64 0,.string ⟨#[]⟩] (heap_alloc_last _ _) dL rfl (by simp[Value.oneCell']) ?_;rw[World.setRow_alloc_new])|(refine wpList_load_row rfl 95 (.tmp 4) rfl w1.heap.size rfl 95 #[.int .i64 (m:Int),.int .i64 (t.kind:Int),.string ⟨t.key.toArray⟩,.int .i64 (t.num:Int),.bool (isW m),.bool c.hm,.bool c.am,.slice b1 n1 p1,.bool c.hn,.bool c.an,.slice b2 n2 p2,.bool c.hs,.int .i64 c.si,.bool c.hu,.int .i64 c.ul,.bool false,.string ⟨#[]⟩,.int .i64 0,.string ⟨#[]⟩] (0,0) _ (heap_alloc_last _ _) Tryz.underlying95 rfl dL ?_));refine (ic m t.kind ⟨t.key.toArray⟩ t.num (isW m) c.hm c.am b1 n1 p1 c.hn c.an b2 n2 p2 c.hs c.si c.hu c.ul ⟨#[]⟩ _).mono ?_;rintro e w3 ⟨rfl,A1⟩;have A2:=A5.below A1;have Ag:=Ae.below A9 A1;have Ad:=Nat.le_trans A9 A1.size;have Ai:w3.heap[w1.heap.size]?=some (.cells #[.int .i64 (m:Int),.int .i64 (t.kind:Int),.string ⟨t.key.toArray⟩,.int .i64 (t.num:Int),.bool (isW m),.bool c.hm,.bool c.am,.slice b1 n1 p1,.bool c.hn,.bool c.an,.slice b2 n2 p2,.bool c.hs,.int .i64 c.si,.bool c.hu,.int .i64 c.ul,.bool false,.string ⟨#[]⟩,.int .i64 0,.string ⟨#[]⟩] 95 (0,0)):=(A1.block _ Ah).trans (heap_alloc_last _ _);clear A1;cases hf:dX m t.kind with
    | false =>have HR:Hid _:=rf5 h2 HP.out HK.out (by simp) hf;clear hf;go_wp2_with (refine wpList_store_row rfl 95 (.tmp 2) (.tmp 36) rfl w.heap.size #[.int .i64 0,.int .i64 0,.string ⟨#[]⟩,.int .i64 0,.bool false,.bool false,.bool false,.slice none 0 0,.bool false,.bool false,.slice none 0 0,.bool false,.int .i64 0,.bool false,.int .i64 0,.bool false,.string ⟨#[]⟩,.int .i64 0,.string ⟨#[]⟩] rfl rfl 95 #[.int .i64 0,.int .i64 0,.string ⟨#[]⟩,.int .i64 0,.bool false,.bool false,.bool false,.slice none 0 0,.bool false,.bool false,.slice none 0 0,.bool false,.int .i64 0,.bool false,.int .i64 0,.bool false,.string ⟨#[]⟩,.int .i64 0,.string ⟨#[]⟩] A2.blk dL rfl kh ?_);have A0:=A2.row #[.int .i64 0,.int .i64 0,.string ⟨#[]⟩,.int .i64 0,.bool false,.bool false,.bool false,.slice none 0 0,.bool false,.bool false,.slice none 0 0,.bool false,.int .i64 0,.bool false,.int .i64 0,.bool false,.string ⟨#[]⟩,.int .i64 0,.string ⟨#[]⟩];exact bodyPost_ret (v:=.tuple #[.agg #[.int .i64 0,.int .i64 0,.string ⟨#[]⟩,.int .i64 0,.bool false,.bool false,.bool false,.slice none 0 0,.bool false,.bool false,.slice none 0 0,.bool false,.int .i64 0,.bool false,.int .i64 0,.bool false,.string ⟨#[]⟩,.int .i64 0,.string ⟨#[]⟩],.int .i64 405]) (cl _ _ w.heap.size _ rfl A0.blk rfl) rfl ⟨A0.b,Or.inr ⟨405,HR.out,rfl⟩⟩
    | true =>have HR:Hid _:=rf6 h2 HP.out HK.out (by simp) hf;clear hf;go_wp2_with (first|(refine wpList_load_row rfl 95 (.tmp 4) rfl w1.heap.size rfl 95 #[.int .i64 (m:Int),.int .i64 (t.kind:Int),.string ⟨t.key.toArray⟩,.int .i64 (t.num:Int),.bool (isW m),.bool c.hm,.bool c.am,.slice b1 n1 p1,.bool c.hn,.bool c.an,.slice b2 n2 p2,.bool c.hs,.int .i64 c.si,.bool c.hu,.int .i64 c.ul,.bool false,.string ⟨#[]⟩,.int .i64 0,.string ⟨#[]⟩] (0,0) _ Ai Tryz.underlying95 rfl dL ?_)|(refine wpList_store_row rfl 95 (.tmp 2) (.tmp 37) rfl w.heap.size #[.int .i64 (m:Int),.int .i64 (t.kind:Int),.string ⟨t.key.toArray⟩,.int .i64 (t.num:Int),.bool (isW m),.bool c.hm,.bool c.am,.slice b1 n1 p1,.bool c.hn,.bool c.an,.slice b2 n2 p2,.bool c.hs,.int .i64 c.si,.bool c.hu,.int .i64 c.ul,.bool false,.string ⟨#[]⟩,.int .i64 0,.string ⟨#[]⟩] rfl rfl 95 #[.int .i64 0,.int .i64 0,.string ⟨#[]⟩,.int .i64 0,.bool false,.bool false,.bool false,.slice none 0 0,.bool false,.bool false,.slice none 0 0,.bool false,.int .i64 0,.bool false,.int .i64 0,.bool false,.string ⟨#[]⟩,.int .i64 0,.string ⟨#[]⟩] A2.blk dL rfl (by simp[Value.oneCell']) ?_));have A0:=A2.row #[.int .i64 (m:Int),.int .i64 (t.kind:Int),.string ⟨t.key.toArray⟩,.int .i64 (t.num:Int),.bool (isW m),.bool c.hm,.bool c.am,.slice b1 n1 p1,.bool c.hn,.bool c.an,.slice b2 n2 p2,.bool c.hs,.int .i64 c.si,.bool c.hu,.int .i64 c.ul,.bool false,.string ⟨#[]⟩,.int .i64 0,.string ⟨#[]⟩];have Af:=Ag.row (b:=w.heap.size) (us:=#[.int .i64 (m:Int),.int .i64 (t.kind:Int),.string ⟨t.key.toArray⟩,.int .i64 (t.num:Int),.bool (isW m),.bool c.hm,.bool c.am,.slice b1 n1 p1,.bool c.hn,.bool c.an,.slice b2 n2 p2,.bool c.hs,.int .i64 c.si,.bool c.hu,.int .i64 c.ul,.bool false,.string ⟨#[]⟩,.int .i64 0,.string ⟨#[]⟩]) (by omega);refine bodyPost_ret (v:=.tuple #[.agg #[.int .i64 (m:Int),.int .i64 (t.kind:Int),.string ⟨t.key.toArray⟩,.int .i64 (t.num:Int),.bool (isW m),.bool c.hm,.bool c.am,.slice b1 n1 p1,.bool c.hn,.bool c.an,.slice b2 n2 p2,.bool c.hs,.int .i64 c.si,.bool c.hu,.int .i64 c.ul,.bool false,.string ⟨#[]⟩,.int .i64 0,.string ⟨#[]⟩],.int .i64 0]) (cl _ _ w.heap.size _ rfl A0.blk rfl) rfl ⟨A0.b,Or.inl ⟨m,t,k,[],c,g,HR.out,?_,by omega,by rw[setRow_size];exact Ad,Af⟩⟩;rw[gb,Al.out,Am.out]
   ·obtain⟨Aq,Ac⟩:(body==[])=false/\body.isEmpty=false:=by cases body with
     | nil=>exact absurd rfl hb
     | cons a r=>exact⟨rfl,rfl⟩
    have A3:Below w1.heap.size w1 (w1.alloc (.cells #[.int .i64 (m:Int),.int .i64 (t.kind:Int),.string ⟨t.key.toArray⟩,.int .i64 (t.num:Int),.bool (isW m),.bool c.hm,.bool c.am,.slice b1 n1 p1,.bool c.hn,.bool c.an,.slice b2 n2 p2,.bool c.hs,.int .i64 c.si,.bool c.hu,.int .i64 c.ul,.bool false,.string ⟨#[]⟩,.int .i64 0,.string ⟨body.toArray⟩] 95)):=(Below.refl _ _).alloc (Nat.le_refl _) _;have An:=A8.below A3;have Ak:=rq.below Aa A3;have A6:=Nat.le_trans Aa A3.size;(have A4:w1.heap.size<(w1.alloc (.cells #[.int .i64 (m:Int),.int .i64 (t.kind:Int),.string ⟨t.key.toArray⟩,.int .i64 (t.num:Int),.bool (isW m),.bool c.hm,.bool c.am,.slice b1 n1 p1,.bool c.hn,.bool c.an,.slice b2 n2 p2,.bool c.hs,.int .i64 c.si,.bool c.hu,.int .i64 c.ul,.bool false,.string ⟨#[]⟩,.int .i64 0,.string ⟨body.toArray⟩] 95)).heap.size:=by rw[World.size_alloc];omega);have HB:Hid (body≠[]):=hb;clear A3 rq hb;go_wp2_with (first|(refine wpList_store_row rfl 95 (.tmp 4) (.tmp 13) rfl w1.heap.size #[.int .i64 (m:Int),.int .i64 (t.kind:Int),.string ⟨t.key.toArray⟩,.int .i64 (t.num:Int),.bool (isW m),.bool c.hm,.bool c.am,.slice b1 n1 p1,.bool c.hn,.bool c.an,.slice b2 n2 p2,.bool c.hs,.int .i64 c.si,.bool c.hu,.int .i64 c.ul,.bool false,.string ⟨#[]⟩,.int .i64 0,.string ⟨body.toArray⟩] rfl rfl 95 #[.int .i64 0,.int .i64 0,.string ⟨#[]⟩,.int .i64 0,.bool false,.bool false,.bool false,.slice none 0 0,.bool false,.bool false,.slice none 0 0,.bool false,.int .i64 0,.bool false,.int .i64 0,.bool false,.string ⟨#[]⟩,.int .i64 0,.string ⟨#[]⟩] (heap_alloc_last _ _) dL rfl (by simp[Value.oneCell']) ?_;rw[World.setRow_alloc_new])|(refine jO rfl 95 (.tmp 4) rfl w1.heap.size rfl 95 #[.int .i64 (m:Int),.int .i64 (t.kind:Int),.string ⟨t.key.toArray⟩,.int .i64 (t.num:Int),.bool (isW m),.bool c.hm,.bool c.am,.slice b1 n1 p1,.bool c.hn,.bool c.an,.slice b2 n2 p2,.bool c.hs,.int .i64 c.si,.bool c.hu,.int .i64 c.ul,.bool false,.string ⟨#[]⟩,.int .i64 0,.string ⟨body.toArray⟩] (0,0) _ (heap_alloc_last _ _) Tryz.underlying95 rfl dL ?_));refine (ll m t.kind ⟨t.key.toArray⟩ t.num (isW m) c.hm c.am b1 n1 p1 c.hn c.an b2 n2 p2 c.hs c.si c.hu c.ul ⟨body.toArray⟩ _).mono ?_;rintro e x ⟨rfl,A7⟩;have A5:=An.below A7;have Ae:=Ak.below A6 A7;have A9:=Nat.le_trans A6 A7.size;have Aj:x.heap[w1.heap.size]?=some (.cells #[.int .i64 (m:Int),.int .i64 (t.kind:Int),.string ⟨t.key.toArray⟩,.int .i64 (t.num:Int),.bool (isW m),.bool c.hm,.bool c.am,.slice b1 n1 p1,.bool c.hn,.bool c.an,.slice b2 n2 p2,.bool c.hs,.int .i64 c.si,.bool c.hu,.int .i64 c.ul,.bool false,.string ⟨#[]⟩,.int .i64 0,.string ⟨body.toArray⟩] 95 (0,0)):=(A7.block _ A4).trans (heap_alloc_last _ _);have Ah:=Nat.lt_of_lt_of_le A4 A7.size;(have Ao:x.cell? ⟨w1.heap.size,18,none⟩=some (.string ⟨body.toArray⟩):=by simp[World.cell?,Aj]);clear A7 An Ak A6 A4 Aq Ac;cases hk:(m==2&&t.kind==1) with
    | false =>have HR:Hid _:=rf3 h2 HP.out HB.out hk;clear hk;go_wp2_with (refine wpList_store_row rfl 95 (.tmp 2) (.tmp 27) rfl w.heap.size #[.int .i64 0,.int .i64 0,.string ⟨#[]⟩,.int .i64 0,.bool false,.bool false,.bool false,.slice none 0 0,.bool false,.bool false,.slice none 0 0,.bool false,.int .i64 0,.bool false,.int .i64 0,.bool false,.string ⟨#[]⟩,.int .i64 0,.string ⟨#[]⟩] rfl rfl 95 #[.int .i64 0,.int .i64 0,.string ⟨#[]⟩,.int .i64 0,.bool false,.bool false,.bool false,.slice none 0 0,.bool false,.bool false,.slice none 0 0,.bool false,.int .i64 0,.bool false,.int .i64 0,.bool false,.string ⟨#[]⟩,.int .i64 0,.string ⟨#[]⟩] A5.blk dL rfl kh ?_);have A0:=A5.row #[.int .i64 0,.int .i64 0,.string ⟨#[]⟩,.int .i64 0,.bool false,.bool false,.bool false,.slice none 0 0,.bool false,.bool false,.slice none 0 0,.bool false,.int .i64 0,.bool false,.int .i64 0,.bool false,.string ⟨#[]⟩,.int .i64 0,.string ⟨#[]⟩];exact bodyPost_ret (v:=.tuple #[.agg #[.int .i64 0,.int .i64 0,.string ⟨#[]⟩,.int .i64 0,.bool false,.bool false,.bool false,.slice none 0 0,.bool false,.bool false,.slice none 0 0,.bool false,.int .i64 0,.bool false,.int .i64 0,.bool false,.string ⟨#[]⟩,.int .i64 0,.string ⟨#[]⟩],.int .i64 400]) (cl _ _ w.heap.size _ rfl A0.blk rfl) rfl ⟨A0.b,Or.inr ⟨400,HR.out,rfl⟩⟩
    | true =>
      (have HK:Hid (¬ (body≠[]/\(m==2&&t.kind==1)=false)):=λ h=>by rw[hk] at h;exact absurd h.2 (by decide));clear hk;by_cases h4:400<body.length
      ·have HR:Hid _:=rf4 h2 HP.out HK.out h4;go_wp2_with (refine wpList_store_row rfl 95 (.tmp 2) (.tmp 32) rfl w.heap.size #[.int .i64 0,.int .i64 0,.string ⟨#[]⟩,.int .i64 0,.bool false,.bool false,.bool false,.slice none 0 0,.bool false,.bool false,.slice none 0 0,.bool false,.int .i64 0,.bool false,.int .i64 0,.bool false,.string ⟨#[]⟩,.int .i64 0,.string ⟨#[]⟩] rfl rfl 95 #[.int .i64 0,.int .i64 0,.string ⟨#[]⟩,.int .i64 0,.bool false,.bool false,.bool false,.slice none 0 0,.bool false,.bool false,.slice none 0 0,.bool false,.int .i64 0,.bool false,.int .i64 0,.bool false,.string ⟨#[]⟩,.int .i64 0,.string ⟨#[]⟩] A5.blk dL rfl kh ?_);have A0:=A5.row #[.int .i64 0,.int .i64 0,.string ⟨#[]⟩,.int .i64 0,.bool false,.bool false,.bool false,.slice none 0 0,.bool false,.bool false,.slice none 0 0,.bool false,.int .i64 0,.bool false,.int .i64 0,.bool false,.string ⟨#[]⟩,.int .i64 0,.string ⟨#[]⟩];exact bodyPost_ret (v:=.tuple #[.agg #[.int .i64 0,.int .i64 0,.string ⟨#[]⟩,.int .i64 0,.bool false,.bool false,.bool false,.slice none 0 0,.bool false,.bool false,.slice none 0 0,.bool false,.int .i64 0,.bool false,.int .i64 0,.bool false,.string ⟨#[]⟩,.int .i64 0,.string ⟨#[]⟩],.int .i64 413]) (cl _ _ w.heap.size _ rfl A0.blk rfl) rfl ⟨A0.b,Or.inr ⟨413,HR.out,rfl⟩⟩
      ·skip;go_wp2_with (first|fail|(refine wpList_load_row rfl 95 (.tmp 4) rfl w1.heap.size rfl 95 #[.int .i64 (m:Int),.int .i64 (t.kind:Int),.string ⟨t.key.toArray⟩,.int .i64 (t.num:Int),.bool (isW m),.bool c.hm,.bool c.am,.slice b1 n1 p1,.bool c.hn,.bool c.an,.slice b2 n2 p2,.bool c.hs,.int .i64 c.si,.bool c.hu,.int .i64 c.ul,.bool false,.string ⟨#[]⟩,.int .i64 0,.string ⟨body.toArray⟩] (0,0) _ Aj Tryz.underlying95 rfl dL ?_));refine (ic m t.kind ⟨t.key.toArray⟩ t.num (isW m) c.hm c.am b1 n1 p1 c.hn c.an b2 n2 p2 c.hs c.si c.hu c.ul ⟨body.toArray⟩ _).mono ?_;rintro e w3 ⟨rfl,A1⟩;have A2:=A5.below A1;have Ag:=Ae.below A9 A1;have Ad:=Nat.le_trans A9 A1.size;have Ai:w3.heap[w1.heap.size]?=some (.cells #[.int .i64 (m:Int),.int .i64 (t.kind:Int),.string ⟨t.key.toArray⟩,.int .i64 (t.num:Int),.bool (isW m),.bool c.hm,.bool c.am,.slice b1 n1 p1,.bool c.hn,.bool c.an,.slice b2 n2 p2,.bool c.hs,.int .i64 c.si,.bool c.hu,.int .i64 c.ul,.bool false,.string ⟨#[]⟩,.int .i64 0,.string ⟨body.toArray⟩] 95 (0,0)):=(A1.block _ Ah).trans Aj;clear A1;cases hf:dX m t.kind with
       | false =>have HR:Hid _:=rf5 h2 HP.out HK.out h4 hf;clear hf;go_wp2_with (refine wpList_store_row rfl 95 (.tmp 2) (.tmp 36) rfl w.heap.size #[.int .i64 0,.int .i64 0,.string ⟨#[]⟩,.int .i64 0,.bool false,.bool false,.bool false,.slice none 0 0,.bool false,.bool false,.slice none 0 0,.bool false,.int .i64 0,.bool false,.int .i64 0,.bool false,.string ⟨#[]⟩,.int .i64 0,.string ⟨#[]⟩] rfl rfl 95 #[.int .i64 0,.int .i64 0,.string ⟨#[]⟩,.int .i64 0,.bool false,.bool false,.bool false,.slice none 0 0,.bool false,.bool false,.slice none 0 0,.bool false,.int .i64 0,.bool false,.int .i64 0,.bool false,.string ⟨#[]⟩,.int .i64 0,.string ⟨#[]⟩] A2.blk dL rfl kh ?_);have A0:=A2.row #[.int .i64 0,.int .i64 0,.string ⟨#[]⟩,.int .i64 0,.bool false,.bool false,.bool false,.slice none 0 0,.bool false,.bool false,.slice none 0 0,.bool false,.int .i64 0,.bool false,.int .i64 0,.bool false,.string ⟨#[]⟩,.int .i64 0,.string ⟨#[]⟩];exact bodyPost_ret (v:=.tuple #[.agg #[.int .i64 0,.int .i64 0,.string ⟨#[]⟩,.int .i64 0,.bool false,.bool false,.bool false,.slice none 0 0,.bool false,.bool false,.slice none 0 0,.bool false,.int .i64 0,.bool false,.int .i64 0,.bool false,.string ⟨#[]⟩,.int .i64 0,.string ⟨#[]⟩],.int .i64 405]) (cl _ _ w.heap.size _ rfl A0.blk rfl) rfl ⟨A0.b,Or.inr ⟨405,HR.out,rfl⟩⟩
       | true =>have HR:Hid _:=rf6 h2 HP.out HK.out h4 hf;clear hf;go_wp2_with (first|(refine wpList_load_row rfl 95 (.tmp 4) rfl w1.heap.size rfl 95 #[.int .i64 (m:Int),.int .i64 (t.kind:Int),.string ⟨t.key.toArray⟩,.int .i64 (t.num:Int),.bool (isW m),.bool c.hm,.bool c.am,.slice b1 n1 p1,.bool c.hn,.bool c.an,.slice b2 n2 p2,.bool c.hs,.int .i64 c.si,.bool c.hu,.int .i64 c.ul,.bool false,.string ⟨#[]⟩,.int .i64 0,.string ⟨body.toArray⟩] (0,0) _ Ai Tryz.underlying95 rfl dL ?_)|(refine wpList_store_row rfl 95 (.tmp 2) (.tmp 37) rfl w.heap.size #[.int .i64 (m:Int),.int .i64 (t.kind:Int),.string ⟨t.key.toArray⟩,.int .i64 (t.num:Int),.bool (isW m),.bool c.hm,.bool c.am,.slice b1 n1 p1,.bool c.hn,.bool c.an,.slice b2 n2 p2,.bool c.hs,.int .i64 c.si,.bool c.hu,.int .i64 c.ul,.bool false,.string ⟨#[]⟩,.int .i64 0,.string ⟨body.toArray⟩] rfl rfl 95 #[.int .i64 0,.int .i64 0,.string ⟨#[]⟩,.int .i64 0,.bool false,.bool false,.bool false,.slice none 0 0,.bool false,.bool false,.slice none 0 0,.bool false,.int .i64 0,.bool false,.int .i64 0,.bool false,.string ⟨#[]⟩,.int .i64 0,.string ⟨#[]⟩] A2.blk dL rfl (by simp[Value.oneCell']) ?_));have A0:=A2.row #[.int .i64 (m:Int),.int .i64 (t.kind:Int),.string ⟨t.key.toArray⟩,.int .i64 (t.num:Int),.bool (isW m),.bool c.hm,.bool c.am,.slice b1 n1 p1,.bool c.hn,.bool c.an,.slice b2 n2 p2,.bool c.hs,.int .i64 c.si,.bool c.hu,.int .i64 c.ul,.bool false,.string ⟨#[]⟩,.int .i64 0,.string ⟨body.toArray⟩];have Af:=Ag.row (b:=w.heap.size) (us:=#[.int .i64 (m:Int),.int .i64 (t.kind:Int),.string ⟨t.key.toArray⟩,.int .i64 (t.num:Int),.bool (isW m),.bool c.hm,.bool c.am,.slice b1 n1 p1,.bool c.hn,.bool c.an,.slice b2 n2 p2,.bool c.hs,.int .i64 c.si,.bool c.hu,.int .i64 c.ul,.bool false,.string ⟨#[]⟩,.int .i64 0,.string ⟨body.toArray⟩]) (by omega);refine bodyPost_ret (v:=.tuple #[.agg #[.int .i64 (m:Int),.int .i64 (t.kind:Int),.string ⟨t.key.toArray⟩,.int .i64 (t.num:Int),.bool (isW m),.bool c.hm,.bool c.am,.slice b1 n1 p1,.bool c.hn,.bool c.an,.slice b2 n2 p2,.bool c.hs,.int .i64 c.si,.bool c.hu,.int .i64 c.ul,.bool false,.string ⟨#[]⟩,.int .i64 0,.string ⟨body.toArray⟩],.int .i64 0]) (cl _ _ w.heap.size _ rfl A0.blk rfl) rfl ⟨A0.b,Or.inl ⟨m,t,k,body,c,g,HR.out,?_,by omega,by rw[setRow_size];exact Ad,Af⟩⟩;rw[gb,Al.out,Am.out]
  ·have A8:=(pz.below Ab).below ((Below.refl _ _).alloc (Nat.le_refl _) (.cells #[.int .i64 0,.int .i64 0,.string ⟨#[]⟩,.int .i64 0,.bool false,.bool false,.bool false,.slice none 0 0,.bool false,.bool false,.slice none 0 0,.bool false,.int .i64 0,.bool false,.int .i64 0,.bool false,.string ⟨#[]⟩,.int .i64 0,.string ⟨#[]⟩] 95));have HR:Hid _:=rf2 h2 hp;clear pz Ab hp;go_wp2_with (first
    | (refine wpList_store_row rfl 95 (.tmp 4) (.tmp 13) rfl w1.heap.size #[.int .i64 0,.int .i64 0,.string ⟨#[]⟩,.int .i64 0,.bool false,.bool false,.bool false,.slice none 0 0,.bool false,.bool false,.slice none 0 0,.bool false,.int .i64 0,.bool false,.int .i64 0,.bool false,.string ⟨#[]⟩,.int .i64 0,.string ⟨#[]⟩] rfl rfl 95 #[.int .i64 0,.int .i64 0,.string ⟨#[]⟩,.int .i64 0,.bool false,.bool false,.bool false,.slice none 0 0,.bool false,.bool false,.slice none 0 0,.bool false,.int .i64 0,.bool false,.int .i64 0,.bool false,.string ⟨#[]⟩,.int .i64 0,.string ⟨#[]⟩] (heap_alloc_last _ _) dL rfl kh ?_;rw[World.setRow_alloc_new])
    | (refine wpList_store_row rfl 95 (.tmp 2) (.tmp 27) rfl w.heap.size #[.int .i64 0,.int .i64 0,.string ⟨#[]⟩,.int .i64 0,.bool false,.bool false,.bool false,.slice none 0 0,.bool false,.bool false,.slice none 0 0,.bool false,.int .i64 0,.bool false,.int .i64 0,.bool false,.string ⟨#[]⟩,.int .i64 0,.string ⟨#[]⟩] rfl rfl 95 #[.int .i64 0,.int .i64 0,.string ⟨#[]⟩,.int .i64 0,.bool false,.bool false,.bool false,.slice none 0 0,.bool false,.bool false,.slice none 0 0,.bool false,.int .i64 0,.bool false,.int .i64 0,.bool false,.string ⟨#[]⟩,.int .i64 0,.string ⟨#[]⟩] A8.blk dL rfl kh ?_))
   have A0:=A8.row #[.int .i64 0,.int .i64 0,.string ⟨#[]⟩,.int .i64 0,.bool false,.bool false,.bool false,.slice none 0 0,.bool false,.bool false,.slice none 0 0,.bool false,.int .i64 0,.bool false,.int .i64 0,.bool false,.string ⟨#[]⟩,.int .i64 0,.string ⟨#[]⟩];exact bodyPost_ret (v:=.tuple #[.agg #[.int .i64 0,.int .i64 0,.string ⟨#[]⟩,.int .i64 0,.bool false,.bool false,.bool false,.slice none 0 0,.bool false,.bool false,.slice none 0 0,.bool false,.int .i64 0,.bool false,.int .i64 0,.bool false,.string ⟨#[]⟩,.int .i64 0,.string ⟨#[]⟩],.int .i64 400]) (cl _ _ w.heap.size _ rfl A0.blk rfl) rfl ⟨A0.b,Or.inr ⟨400,HR.out,rfl⟩⟩
theorem zE {l:List UInt8}{n:Nat}(h:gj l=some n):n<1000000000:=by
 unfold gj at h;split at h
 ·cases h
 ·rename_i hc;cases h;simp only[Bool.or_eq_true,not_or,decide_eq_true_eq,Bool.not_eq_true',Bool.not_eq_true] at hc;obtain⟨_,h9,_,hd⟩:=hc;(have A0:l.all iQ=true:=by simpa using hd);have h1:=uQ l A0;have h2:10 ^ l.length<=10 ^ 9:=Nat.pow_le_pow_right (by omega) (by omega);omega
theorem vg {l:List UInt8}{t:Tgt}(h:bi l=some t):(t.kind≠0->aA t.key=true)/\t.key.length<=40/\t.num<1000000000:=by
 have kl:∀ {k:List UInt8},aA k=true->k.length<=40:=by intro k hk;unfold aA at hk;simp at hk;exact hk.2.1
 unfold bi at h;split at h
 ·unfold kQ at h;split at h
  ·cases h;simp
  ·split at h
   ·split at h
    ·rename_i hk;cases h;exact⟨λ h=>absurd rfl h,kl hk,by simp⟩
    ·cases h
   ·split at h
    ·rename_i hk;split at h
     ·unfold dY at h;split at h
      ·cases h;exact⟨λ _=>hk,kl hk,by simp⟩
      ·split at h
       ·obtain⟨n,hn,rfl⟩:=Option.map_eq_some_iff.1 h;exact⟨λ _=>hk,kl hk,zE hn⟩
       ·cases h
     ·cases h;exact⟨λ _=>hk,kl hk,by simp⟩
    ·cases h
 ·cases h
theorem zj {l:List UInt8}{m:Nat}{t:Tgt}{k:Cnd}{body:List UInt8}(h:bF l=some (m,t,k,body)):∃ mt tt,dD mt=some m/\bi tt=some t:=by
 unfold bF at h;split at h
 ·split at h
  ·split at h
   ·cases h
   ·rename_i m' hm;split at h
    ·cases h
    ·rename_i t' ht;split at h
     ·cases h
     ·cases h;exact⟨_,_,hm,ht⟩
  ·cases h
 ·cases h
theorem jP {l:List UInt8}{m:Nat}{t:Tgt}{k:Cnd}{body:List UInt8}(h:bM l=.ok (m,t,k,body)):(t.kind≠0->aA t.key=true)/\t.key.length<=40/\t.num<1000000000/\body.length<=400:=by
 unfold bM at h;split at h
 ·cases h
 ·split at h
  ·cases h
  ·rename_i m' t' k' b' hp;split at h
   ·cases h
   ·split at h
    ·cases h
    ·rename_i hb;split at h
     ·injection h with h;injection h with h1 h2;injection h2 with h2 h3;injection h3 with h3 h4;subst h2;subst h4;obtain⟨mt,tt,_,ht⟩:=zj hp;have:=vg ht;exact⟨this.1,this.2.1,this.2.2,by omega⟩
     ·cases h
theorem oP {l:List UInt8}{n:Nat}(h:bM l=.error n):n<1000:=by
 unfold bM at h;(repeat' split at h);all_goals (cases h)
 all_goals omega
theorem qN {l:List UInt8}{n:Nat}(h:bM l=.error n):n≠0:=by
 unfold bM at h;(repeat' split at h);all_goals (cases h)
 all_goals omega
def bY (c:UInt8):Bool:=[32,9].contains c
def mk (wk:Bool)(t:List UInt8):List UInt8:=(if wk then [87,47] else [])++[34]++t++[34]
theorem ks (g x:List UInt8)(h:g.all bY=true):bL (g++x)=bL x:=by
 unfold bL Lib.trimLeftS;induction g with
 | nil=>rfl
 | cons c g ih =>simp only[List.all_cons,Bool.and_eq_true] at h;rw[List.cons_append,List.dropWhile_cons,if_pos (show [32,9].contains c=true from h.1)];exact ih h.2
theorem jk (c:UInt8)(x:List UInt8)(h:bY c=false):bL (c::x)=c::x:=by
 unfold bL Lib.trimLeftS;rw[List.dropWhile_cons,if_neg (show ¬ [32,9].contains c=true from by rw[show [32,9].contains c=bY c from rfl,h];decide)]
def body:List (Bool×List UInt8×List UInt8)->List UInt8->List UInt8
 | [],fin=>fin
 | [(wk,t,_)],fin=>mk wk t++fin
 | (wk,t,g)::(wk',t',g')::r,fin=>mk wk t++(g++(44::(g'++body ((wk',t',g')::r) fin)))
theorem rG (t rest p:List UInt8)(b:UInt8)(h:∀ c∈t,c≠b):Lib.index (t++(b::p)++rest) (b::p)=t.length:=by
 induction t with
 | nil=>simp[Lib.index]
 | cons c t ih =>have hc:c≠b:=h c (by simp);have A0:=ih (λ x hx=>h x (by simp[hx]));(have A1:(b==c)=false:=by simp;exact λ e=>hc e.symm);simp only[List.cons_append,Lib.index,List.isPrefixOf,A1,Bool.false_and];rw[List.append_assoc,List.cons_append] at A0;rw[List.append_assoc,List.cons_append];simp only[A0];simp
theorem eB (t rest p:List UInt8)(b:UInt8)(h:∀ c∈t,c≠b):Lib.cut (t++(b::p)++rest) (b::p)=(t,rest,true):=by
 unfold Lib.cut;rw[rG t rest p b h,if_pos (by omega)];simp
theorem vy (t p:List UInt8)(b:UInt8)(h:∀ c∈t,c≠b):Lib.index t (b::p) = -1:=by
 induction t with
 | nil=>rfl
 | cons c t ih =>(have A0:(b==c)=false:=by simp;exact λ e=>h c (by simp) e.symm);simp only[Lib.index,List.isPrefixOf,A0,Bool.false_and];rw[ih (λ x hx=>h x (by simp[hx]))];simp
theorem lE (t p:List UInt8)(b:UInt8)(h:∀ c∈t,c≠b):Lib.cut t (b::p)=(t,[],false):=by
 unfold Lib.cut;rw[vy t p b h,if_neg (by omega)]
theorem ez {n k:Nat}(h:n<10 ^ k)(hk:0<k):(Lib.decDigits n).length<=k:=by
 induction k generalizing n with
 | zero=>omega
 | succ k ih =>
   rw[Lib.decDigits];split
   ·simp
   ·rename_i h10;rw[Nat.pow_succ] at h;cases k with
    | zero=>simp at h;omega
    | succ k =>have:=ih (n:=n/10) (by omega) (by omega);simp;omega
end Go.Proofs.YtmehkneofinmiaaGreatDoor
namespace Go.Proofs
open Go.Shelf
def Tryz.lays166_ren:Go.Shelf.Ren:=⟨fun|166=>73|240=>126|276=>189|n=>n,fun|70=>143|72=>145|0=>0|3=>3|4=>4|5=>5|9=>9|20=>20|37=>115|75=>147|80=>80|164=>154|n=>n,fun|n=>n⟩
theorem Tryz.lays166:Go.Proofs.Lays.n166 Tryz.prog Tryz.lays166_ren:={
 mixed:=by kernel_rfl
 f166:=Tryz.func73.trans (congrArg some (by kernel_rfl))
 f240:=Tryz.func126.trans (congrArg some (by kernel_rfl))
 f276:=Tryz.func189.trans (congrArg some (by kernel_rfl))
 t0:=Tryz.underlying0
 a0:=Tryz.isAgg0
 z0:=Tryz.sizeOf0
 v0:=Tryz.zeroValue0
 t3:=Tryz.underlying3
 a3:=Tryz.isAgg3
 z3:=Tryz.sizeOf3
 v3:=Tryz.zeroValue3
 t4:=Tryz.underlying4
 a4:=Tryz.isAgg4
 z4:=Tryz.sizeOf4
 v4:=Tryz.zeroValue4
 t9:=Tryz.underlying9
 a9:=Tryz.isAgg9
 z9:=Tryz.sizeOf9
 v9:=Tryz.zeroValue9
 t20:=Tryz.underlying20
 a20:=Tryz.isAgg20
 z20:=Tryz.sizeOf20
 v20:=Tryz.zeroValue20
 t37:=Tryz.underlying115
 a37:=Tryz.isAgg115
 z37:=Tryz.sizeOf115
 v37:=Tryz.zeroValue115
 t70:=Tryz.underlying143
 a70:=Tryz.isAgg143
 z70:=Tryz.sizeOf143
 v70:=Tryz.zeroValue143
 t72:=Tryz.underlying145
 a72:=Tryz.isAgg145
 z72:=Tryz.sizeOf145
 v72:=Tryz.zeroValue145
 t75:=Tryz.underlying147
 a75:=Tryz.isAgg147
 z75:=Tryz.sizeOf147
 v75:=Tryz.zeroValue147
 t164:=Tryz.underlying154
 a164:=Tryz.isAgg154
 z164:=Tryz.sizeOf154
 v164:=Tryz.zeroValue154 }
theorem Tryz.Builder_Extra_166:Builder.Extra Tryz.prog Tryz.lays166_ren:={
 sizeBuilder:=by kernel_rfl
 liesBuilder:=by kernel_rfl
 t5:=Tryz.underlying5
 a5:=Tryz.isAgg5
 z5:=Tryz.sizeOf5
 v5:=Tryz.zeroValue5
 infoByte:=by kernel_rfl
 cellsByte:=by kernel_rfl
 sizeByte:=by kernel_rfl
 neB5:=by decide }
open Go.RowKit in
theorem Tryz.Builder_WriteString (B b:Nat)(bs:List Value)(s:ByteArray)(w:World)(h:Lib.IsBuilder 145 5 B b bs w)(hlen:bs.length+s.size<=140737488355328)(hBw:B<=w.heap.size) :
 Calls Tryz.prog 73 #[.pointer (some ⟨b,0,none⟩),.string s] w λ e w'=>e=.returned (.tuple #[.int .i64 s.size,.nilIface])/\(Lib.BuilderAt 145 5 B b (.pointer (some ⟨b,0,none⟩)) (bs++Lib.strCells s) w'/\Below B w w'):=Any.Builder_WriteString Tryz.lays166 Tryz.Builder_Extra_166 B b bs s w h hlen hBw
open Go.RowKit in
theorem Tryz.Builder_WriteString_k (B b:Nat)(bs:List Value)(s:ByteArray)(w:World)(h:Lib.IsBuilderF 145 5 B b bs w)(hlen:bs.length+s.size<=140737488355328)(hBw:B<=w.heap.size) :
 Calls Tryz.prog 73 #[.pointer (some ⟨b,0,none⟩),.string s] w λ e w'=>e=.returned (.tuple #[.int .i64 s.size,.nilIface])/\(Lib.BuilderAtF 145 5 B b (.pointer (some ⟨b,0,none⟩)) (bs++Lib.strCells s) w'/\Below B w w'/\Lib.OthersKept 5 (some b) w w'):=Any.Builder_WriteString_k Tryz.lays166 Tryz.Builder_Extra_166 B b bs s w h hlen hBw
end Go.Proofs
namespace Go.Proofs
abbrev Tryz.muLink:Go.Conc.Locks.MuLink:={ lock:=83,unlock:=84,ilock:=130,iunlock:=131,lockSlow:=191,unlockSlow:=192,disable:=76,enable:=79,acquire:=80,relMerge:=81,cas32:=190,add32:=127,tMutex:=108,tIMutex:=106,tPMutex:=155,tPIMutex:=275,tPI32:=219,tUP:=154,tNoCopy:=103,tU32:=104 }
theorem Tryz.muLib:Go.Conc.Locks.MuLib Tryz.prog Tryz.muLink :=
 ⟨Tryz.func83,Tryz.func84,Tryz.func130,Tryz.func131,Tryz.func76,Tryz.func79,Tryz.func80,Tryz.func81,Tryz.func190,Tryz.func127,Tryz.underlying106,Tryz.runUnderlying106,Tryz.sizeOf106,Tryz.isAgg106,Tryz.zeroValue106,Tryz.underlying108,Tryz.runUnderlying108,Tryz.sizeOf108,Tryz.isAgg108,Tryz.zeroValue108,Tryz.underlying155,Tryz.runUnderlying155,Tryz.sizeOf155,Tryz.isAgg155,Tryz.zeroValue155,Tryz.underlying275,Tryz.runUnderlying275,Tryz.sizeOf275,Tryz.isAgg275,Tryz.zeroValue275,Tryz.underlying219,Tryz.runUnderlying219,Tryz.sizeOf219,Tryz.isAgg219,Tryz.zeroValue219,Tryz.underlying154,Tryz.runUnderlying154,Tryz.sizeOf154,Tryz.isAgg154,Tryz.zeroValue154,Tryz.underlying103,Tryz.runUnderlying103,Tryz.sizeOf103,Tryz.isAgg103,Tryz.zeroValue103,Tryz.underlying21,Tryz.runUnderlying21,Tryz.sizeOf21,Tryz.isAgg21,Tryz.zeroValue21,(by kernel_rfl)⟩
abbrev Tryz.rwLink:Go.Conc.Locks.RwLink:={ lock:=83,unlock:=84,ilock:=130,iunlock:=131,lockSlow:=191,unlockSlow:=192,disable:=76,enable:=79,acquire:=80,relMerge:=81,cas32:=190,add32:=127,tMutex:=108,tIMutex:=106,tPMutex:=155,tPIMutex:=275,tPI32:=219,tUP:=154,tNoCopy:=103,tU32:=104,rlock:=43,runlock:=44,wlock:=178,wunlock:=179,i32add:=77,raceRead:=75,release:=224,rUnlockSlow:=82,semacqR:=78,semacqW:=223,semrel:=129,sfatal:=128,tRW:=113,tPRW:=152,tAI32:=111,tPAI32:=217,tPU32:=158,tANoCopy:=109 }
theorem Tryz.rwCore:Go.Conc.Locks.RwCore Tryz.prog Tryz.rwLink :=
 ⟨Tryz.func77,Tryz.func75,Tryz.func76,Tryz.func79,Tryz.func80,Tryz.func81,Tryz.func127,Tryz.underlying113,Tryz.runUnderlying113,Tryz.sizeOf113,Tryz.isAgg113,Tryz.zeroValue113,Tryz.underlying111,Tryz.runUnderlying111,Tryz.sizeOf111,Tryz.isAgg111,Tryz.zeroValue111,Tryz.underlying152,Tryz.runUnderlying152,Tryz.sizeOf152,Tryz.isAgg152,Tryz.zeroValue152,Tryz.underlying217,Tryz.runUnderlying217,Tryz.sizeOf217,Tryz.isAgg217,Tryz.zeroValue217,Tryz.underlying158,Tryz.runUnderlying158,Tryz.sizeOf158,Tryz.isAgg158,Tryz.zeroValue158,Tryz.underlying109,Tryz.runUnderlying109,Tryz.sizeOf109,Tryz.isAgg109,Tryz.zeroValue109,Tryz.underlying104,Tryz.runUnderlying104,Tryz.sizeOf104,Tryz.isAgg104,Tryz.zeroValue104,Tryz.underlying108,Tryz.runUnderlying108,Tryz.sizeOf108,Tryz.isAgg108,Tryz.zeroValue108,Tryz.underlying155,Tryz.runUnderlying155,Tryz.sizeOf155,Tryz.isAgg155,Tryz.zeroValue155,Tryz.underlying219,Tryz.runUnderlying219,Tryz.sizeOf219,Tryz.isAgg219,Tryz.zeroValue219,Tryz.underlying154,Tryz.runUnderlying154,Tryz.sizeOf154,Tryz.isAgg154,Tryz.zeroValue154,Tryz.underlying21,Tryz.runUnderlying21,Tryz.sizeOf21,Tryz.isAgg21,Tryz.zeroValue21,(by kernel_rfl),(by kernel_rfl)⟩
theorem Tryz.rwRLib:Go.Conc.Locks.RwRLib Tryz.prog Tryz.rwLink:=⟨Tryz.rwCore,Tryz.func43,Tryz.func44⟩
end Go.Proofs

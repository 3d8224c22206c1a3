/-part 50-/
import Derived.Test.YtmehkneofinmiaaGreatDoorP41
set_option maxRecDepth 100000
set_option maxHeartbeats 4000000
namespace Go.Proofs.YtmehkneofinmiaaGreatDoor
open Go.RowKit
theorem ww (k:Nat)(b:List UInt8)(w:World)(hb:b.length<=9223372036854775807):Calls Tryz.prog 217 #[.int .u8 k,.string ⟨b.toArray⟩] w λ e w'=>e=.returned (.bool (eo k b))/\w'=w:=by
 have A1:(⟨b.toArray⟩:ByteArray).size=b.length:=by rw[Lib.size_eq]
 go_enter Tryz.func217,Tryz.ntmps217;by_cases h1:k=1
 ·subst h1;(have HF:Hid (eo 1 b=decide ((b.length:Int)<=400)):=by show _=_;unfold eo;rw[if_pos rfl];apply decide_eq_decide.2;omega);go_wp2;go_ret;exact⟨by rw[HF.out];rfl,rfl⟩
 ·by_cases h2:k=2\/k=3
  ·(have HF:Hid (eo k b=b.isEmpty):=by show _=_;unfold eo;rw[if_neg h1,if_pos h2]);(have A0:¬ (k:Int)=1:=by omega);rcases h2 with rfl|rfl
   ·go_wp2;go_ret;exact⟨by rw[HF.out];rfl,rfl⟩
   ·go_wp2;go_ret;exact⟨by rw[HF.out];rfl,rfl⟩
  ·(have HF:Hid (eo k b=false):=by show _=_;unfold eo;rw[if_neg h1,if_neg h2]);(have A0:¬ (k:Int)=1:=by omega);(have A3:¬ (k:Int)=2:=by omega);(have A2:¬ (k:Int)=3:=by omega);go_wp2;go_ret;exact⟨by rw[HF.out];rfl,rfl⟩
theorem fo (s:Rdr)(n:Nat):(s.go n).rest.length<=s.rest.length:=by
 unfold Rdr.go;split
 ·simp
 ·simp
theorem mL (s:Rdr)(n:Nat):(s.text n).length<=n:=by
 unfold Rdr.text;split
 ·simp
 ·rw[List.length_take];omega
theorem gD (s:Rdr)(n:Nat):aI (s.text n)<256 ^ n:=Nat.lt_of_lt_of_le (gy _) (Nat.pow_le_pow_right (by omega) (mL s n))
def kG (p:List UInt8):Value:=if dU p then bt (aP p).kind (aP p).time (aP p).key (aP p).num (aP p).body else bt 0 0 [] 0 []
theorem fR {p:List UInt8}(h:dU p=false):kG p=bt 0 0 [] 0 []:=by unfold kG;rw[if_neg (by rw[h];decide)]
theorem mV {p:List UInt8}(h:dU p=true):kG p=bt (aP p).kind (aP p).time (aP p).key (aP p).num (aP p).body:=by unfold kG;rw[if_pos h]
structure Rp (w x:World)(s:Rdr):Prop where
 low:Below w.heap.size w x
 rcd:x.heap[w.heap.size]?=some (.cells #[.int .u8 0,.int .i64 0,.string ⟨#[]⟩,.int .i64 0,.string ⟨#[]⟩] 181 (0,0))
 rdr:iS x (w.heap.size+1) s
theorem Rp.next {w x y:World}{s s':Rdr}(h:Rp w x s)(o:Off (λ k=>k=w.heap.size+1) x y)(r:iS y (w.heap.size+1) s'):Rp w y s' :=
 ⟨⟨o.os.trans h.low.os,o.tape.trans h.low.tape,o.output.trans h.low.output,Nat.le_trans h.low.size o.size,λ k hk=>(o.block k (Nat.lt_of_lt_of_le hk h.low.size) (by omega)).trans (h.low.block k hk)⟩,
  (o.block _ (gL h.rcd) (by omega)).trans h.rcd,r⟩
theorem ls (p:List UInt8)(w:World)(hp:p.length<65536) :
 Calls Tryz.prog 161 #[.string ⟨p.toArray⟩] w λ e w'=>e=.returned (.tuple #[kG p,.bool (dU p)])/\Below w.heap.size w w':=by
 have R0:Rp w ((w.alloc (.cells #[.int .u8 0,.int .i64 0,.string ⟨#[]⟩,.int .i64 0,.string ⟨#[]⟩] 181)).alloc (.cells #[.string ⟨p.toArray⟩,.bool false] 251)) ⟨p,false⟩ :=
  ⟨((Below.refl _ _).alloc (Nat.le_refl _) _).alloc (by simp) _,(heap_alloc_old _ _ (by simp)).trans (heap_alloc_new _ _),by have:=heap_alloc_new (w.alloc (.cells #[.int .u8 0,.int .i64 0,.string ⟨#[]⟩,.int .i64 0,.string ⟨#[]⟩] 181)) (.cells #[.string ⟨p.toArray⟩,.bool false] 251);simpa [iS] using this⟩
 have l1:=gD ⟨p,false⟩ 1;have l2:=gD (iB p) 8;have l3:=gD (fA p) 1;have l4:=gD (gN p) 4;have Ab:Hid _:=R0;clear R0;go_enter Tryz.func161,Tryz.ntmps161;go_wp2_with fail;refine Calls.mono (dQ _ 1 _ _ Ab.out.rdr (by omega)) ?_;rintro e x1 ⟨rfl,r1,o1,z1⟩;have Ae:Hid (Rp w x1 (iB p)):=Ab.out.next o1 r1;clear r1 o1 z1 Ab;go_wp2_with fail;refine Calls.mono (dQ _ 8 _ _ Ae.out.rdr (by omega)) ?_;rintro e x2 ⟨rfl,r2,o2,z2⟩;have A7:Hid (Rp w x2 (fA p)):=Ae.out.next o2 r2;clear r2 o2 z2 Ae;go_wp2_with fail;refine Calls.mono (dQ _ 1 _ _ A7.out.rdr (by omega)) ?_;rintro e x3 ⟨rfl,r3,o3,z3⟩;have A8:Hid (Rp w x3 (iP p)):=A7.out.next o3 r3;clear r3 o3 z3 A7;go_wp2_with fail;refine Calls.mono (kF _ _ _ _ A8.out.rdr (by omega)) ?_;rintro e x4 ⟨rfl,r4,o4,z4⟩;have Ag:Hid (Rp w x4 (gN p)):=A8.out.next o4 r4;clear r4 o4 z4 A8;go_wp2_with fail;refine Calls.mono (dQ _ 4 _ _ Ag.out.rdr (by omega)) ?_;rintro e x5 ⟨rfl,r5,o5,z5⟩;have A2:Hid (Rp w x5 (ki p)):=Ag.out.next o5 r5;clear r5 o5 z5 Ag;have Aj:((iP p).text (aI ((fA p).text 1))).length<=255:=Nat.le_trans (mL _ _) (by omega);have Ah:(ki p).rest.length<65536:=by have h1:(iB p).rest.length<=p.length:=fo ⟨p,false⟩ 1;have h2:(fA p).rest.length<=(iB p).rest.length:=fo _ _;have h3:(iP p).rest.length<=(fA p).rest.length:=fo _ _;have h4:(gN p).rest.length<=(iP p).rest.length:=fo _ _;have h5:(ki p).rest.length<=(gN p).rest.length:=fo _ _;omega
 have A0:Hid (dU p=(!(ki p).short&&(decide (aI ((iB p).text 8)<=253402300799)&&(aA ((iP p).text (aI ((fA p).text 1)))&&eo (aI ((Rdr.mk p false).text 1)) (ki p).rest)))):=rfl;have A3:Hid (bt (aP p).kind (aP p).time (aP p).key (aP p).num (aP p).body=bt (aI ((Rdr.mk p false).text 1)) (aI ((iB p).text 8)) ((iP p).text (aI ((fA p).text 1))) (aI ((gN p).text 4)) (ki p).rest):=rfl;obtain⟨kd,Ad⟩:∃ x,aI ((Rdr.mk p false).text 1)=x:=⟨_,rfl⟩;obtain⟨tm,A4⟩:∃ x,aI ((iB p).text 8)=x:=⟨_,rfl⟩;obtain⟨ln,Ac⟩:∃ x,aI ((fA p).text 1)=x:=⟨_,rfl⟩;rw[Ac] at Aj A0 A3 l3;obtain⟨ky,Af⟩:∃ x,(iP p).text ln=x:=⟨_,rfl⟩;obtain⟨nm,Aa⟩:∃ x,aI ((gN p).text 4)=x:=⟨_,rfl⟩;obtain⟨s5,Al⟩:∃ x,ki p=x:=⟨_,rfl⟩;obtain⟨bd,sh⟩:=s5;rw[Al] at A2 Ah A0 A3;rw[Ad] at l1 A0 A3;rw[A4] at l2 A0 A3;rw[Af] at Aj A0 A3;rw[Aa] at l4 A3;rw[Ad,A4,Ac,Af,Aa];have q5:=kH A2.out.rdr;have A1:Hid _:=A2.out.rcd;have Ao:w.heap.size+1<x5.heap.size:=(gL A2.out.rdr);clear Ad A4 Ac Af Aa Al;dsimp only at Ah A0 A3 q5;obtain⟨An,Ap⟩:=q5;have A6:Hid (∀ y,Calls Tryz.prog 186 #[.string ⟨ky.toArray⟩] y λ e w'=>e=.returned (.bool (aA ky))/\w'=y):=λ y=>pJ ky y (by omega);have A5:Hid (∀ y,Calls Tryz.prog 217 #[.int .u8 kd,.string ⟨bd.toArray⟩] y λ e w'=>e=.returned (.bool (eo kd bd))/\w'=y):=λ y=>ww kd bd y (by omega);obtain⟨kb,Ak⟩:∃ x,aA ky=x:=⟨_,rfl⟩;obtain⟨fb,Ai⟩:∃ x,eo kd bd=x:=⟨_,rfl⟩;rw[Ak] at A6 A0;rw[Ai] at A5 A0;clear Ak Ai;cases sh with
 | true =>
   (have HN:Hid (dU p=false):=by show _=_;rw[A0.out];rfl);go_wp2_with (first
    | (go_at_call 186;refine Calls.mono (A6.out _) ?_;rintro e w9 ⟨rfl,rfl⟩)
    | (go_at_call 217;refine Calls.mono (A5.out _) ?_;rintro e w9 ⟨rfl,rfl⟩)
    | refine wpList_store_row rfl 181 (.tmp 2) (.tmp 38) rfl w.heap.size #[.int .u8 0,.int .i64 0,.string ⟨#[]⟩,.int .i64 0,.string ⟨#[]⟩] rfl rfl 181 #[.int .u8 0,.int .i64 0,.string ⟨#[]⟩,.int .i64 0,.string ⟨#[]⟩] A1.out dm rfl (by simp[Value.oneCell']) ?_)
   refine bodyPost_ret (v:=.tuple #[bt 0 0 [] 0 [],.bool false]) (aN Tryz.results161 _ _ w.heap.size _ _ _ _ rfl (setRow_heap _ _ _ _ _ _ A1.out) Tryz.underlying181 rfl dm) rfl ⟨?_,below_setRow A2.out.low (Nat.le_refl _) _⟩;rw[HN.out,fR HN.out]
 | false =>
   by_cases A4:tm<=253402300799
   ·(have Am:¬ (253402300799:Int)<(tm:Int):=by omega);(have A9:Hid (dU p=(kb&&fb)):=by show _=_;rw[A0.out];simp[A4]);cases kb with
    | false =>
      (have HN:Hid (dU p=false):=by show _=_;rw[A9.out];rfl);go_wp2_with (first
       | (go_at_call 186;refine Calls.mono (A6.out _) ?_;rintro e w9 ⟨rfl,rfl⟩)
       | (go_at_call 217;refine Calls.mono (A5.out _) ?_;rintro e w9 ⟨rfl,rfl⟩)
       | refine wpList_store_row rfl 181 (.tmp 2) (.tmp 38) rfl w.heap.size #[.int .u8 0,.int .i64 0,.string ⟨#[]⟩,.int .i64 0,.string ⟨#[]⟩] rfl rfl 181 #[.int .u8 0,.int .i64 0,.string ⟨#[]⟩,.int .i64 0,.string ⟨#[]⟩] A1.out dm rfl (by simp[Value.oneCell']) ?_)
      refine bodyPost_ret (v:=.tuple #[bt 0 0 [] 0 [],.bool false]) (aN Tryz.results161 _ _ w.heap.size _ _ _ _ rfl (setRow_heap _ _ _ _ _ _ A1.out) Tryz.underlying181 rfl dm) rfl ⟨?_,below_setRow A2.out.low (Nat.le_refl _) _⟩;rw[HN.out,fR HN.out]
    | true =>
      cases fb with
      | false =>
        (have HN:Hid (dU p=false):=by show _=_;rw[A9.out];rfl);go_wp2_with (first
         | (go_at_call 186;refine Calls.mono (A6.out _) ?_;rintro e w9 ⟨rfl,rfl⟩)
         | (go_at_call 217;refine Calls.mono (A5.out _) ?_;rintro e w9 ⟨rfl,rfl⟩)
         | refine wpList_store_row rfl 181 (.tmp 2) (.tmp 38) rfl w.heap.size #[.int .u8 0,.int .i64 0,.string ⟨#[]⟩,.int .i64 0,.string ⟨#[]⟩] rfl rfl 181 #[.int .u8 0,.int .i64 0,.string ⟨#[]⟩,.int .i64 0,.string ⟨#[]⟩] A1.out dm rfl (by simp[Value.oneCell']) ?_)
        refine bodyPost_ret (v:=.tuple #[bt 0 0 [] 0 [],.bool false]) (aN Tryz.results161 _ _ w.heap.size _ _ _ _ rfl (setRow_heap _ _ _ _ _ _ A1.out) Tryz.underlying181 rfl dm) rfl ⟨?_,below_setRow A2.out.low (Nat.le_refl _) _⟩;rw[HN.out,fR HN.out]
      | true =>
        (have HN:Hid (dU p=true):=by show _=_;rw[A9.out];rfl);go_wp2_with (first
         | (go_at_call 186;refine Calls.mono (A6.out _) ?_;rintro e w9 ⟨rfl,rfl⟩)
         | (go_at_call 217;refine Calls.mono (A5.out _) ?_;rintro e w9 ⟨rfl,rfl⟩)
         | refine wpList_store_row rfl 181 (.tmp 2) (.tmp 46) rfl w.heap.size #[.int .u8 kd,.int .i64 tm,.string ⟨ky.toArray⟩,.int .i64 nm,.string ⟨bd.toArray⟩] rfl rfl 181 #[.int .u8 0,.int .i64 0,.string ⟨#[]⟩,.int .i64 0,.string ⟨#[]⟩] A1.out dm rfl (by simp[Value.oneCell']) ?_)
        refine bodyPost_ret (v:=.tuple #[bt kd tm ky nm bd,.bool true]) (aN Tryz.results161 _ _ w.heap.size _ _ _ _ rfl (setRow_heap _ _ _ _ _ _ A1.out) Tryz.underlying181 rfl dm) rfl ⟨?_,below_setRow A2.out.low (Nat.le_refl _) _⟩;rw[HN.out,mV HN.out,A3.out]
   ·(have Am:(253402300799:Int)<(tm:Int):=by omega);(have HN:Hid (dU p=false):=by show _=_;rw[A0.out];simp[A4]);go_wp2_with (first
     | (go_at_call 186;refine Calls.mono (A6.out _) ?_;rintro e w9 ⟨rfl,rfl⟩)
     | (go_at_call 217;refine Calls.mono (A5.out _) ?_;rintro e w9 ⟨rfl,rfl⟩)
     | refine wpList_store_row rfl 181 (.tmp 2) (.tmp 38) rfl w.heap.size #[.int .u8 0,.int .i64 0,.string ⟨#[]⟩,.int .i64 0,.string ⟨#[]⟩] rfl rfl 181 #[.int .u8 0,.int .i64 0,.string ⟨#[]⟩,.int .i64 0,.string ⟨#[]⟩] A1.out dm rfl (by simp[Value.oneCell']) ?_)
    refine bodyPost_ret (v:=.tuple #[bt 0 0 [] 0 [],.bool false]) (aN Tryz.results161 _ _ w.heap.size _ _ _ _ rfl (setRow_heap _ _ _ _ _ _ A1.out) Tryz.underlying181 rfl dm) rfl ⟨?_,below_setRow A2.out.low (Nat.le_refl _) _⟩;rw[HN.out,fR HN.out]
def ko (t:List UInt8):Value:=match eM t with
 | none=>.tuple #[bt 0 0 [] 0 [],.string ⟨#[]⟩,.bool false]
 | some (r,rest)=>.tuple #[bt r.kind r.time r.key r.num r.body,.string ⟨rest.toArray⟩,.bool true]
theorem iD {t:List UInt8}(h:eM t=none):ko t=.tuple #[bt 0 0 [] 0 [],.string ⟨#[]⟩,.bool false]:=by unfold ko;rw[h]
theorem mf {t rest:List UInt8}{r:Rec}(h:eM t=some (r,rest)):ko t=.tuple #[bt r.kind r.time r.key r.num r.body,.string ⟨rest.toArray⟩,.bool true]:=by unfold ko;rw[h]
theorem yq (t:List UInt8):(fp t).length<65536:=by
 have:=gD (Rdr.mk t false) 2;have h2:(fp t).length<=aI ((Rdr.mk t false).text 2):=mL _ _;omega
theorem dM {y:World}{g kd tm nm:Nat}{ky bd:List UInt8}{f:Nat×Nat}(hv:y.heap[g]?=some (.cells #[.int .u8 kd,.int .i64 tm,.string ⟨ky.toArray⟩,.int .i64 nm,.string ⟨bd.toArray⟩] 181 f)) :
 y.cell? ⟨g,0,none⟩=some (.int .u8 kd)/\y.cell? ⟨g,1,none⟩=some (.int .i64 tm)/\y.cell? ⟨g,2,none⟩=some (.string ⟨ky.toArray⟩)/\y.cell? ⟨g,3,none⟩=some (.int .i64 nm)/\y.cell? ⟨g,4,none⟩=some (.string ⟨bd.toArray⟩):=by
 simp[World.cell?,hv]
theorem di {P:Program}{fn:Func}{p u v:Tmp}{ty:TypeId}(h:fn.results=#[.cell p ty,.tmp u,.tmp v])(tmps:Array Value)(w:World)(g:Nat)(t:TypeId)(cs:Array Value)(fr:Nat×Nat)(d:TypeDesc)
 (hp:tmps.getD p undef=.pointer (some ⟨g,0,none⟩))(hg:w.heap[g]?=some (.cells cs t fr))
 (hu:P.underlying ty=some d)(hd:(match d with|.struct _|.array _ _=>true|_=>false)=true)(hi:(P.info? ty).map (·.size)=some cs.size) :
 (results fn tmps).run P w=.ok (.tuple #[.agg cs,tmps.getD u undef,tmps.getD v undef]) w:=by
 have A0:tmps[p]?.getD undef=.pointer (some ⟨g,0,none⟩):=by simpa using hp
 simp[results,h,A0,asAddr,run_loadVar_row w g t ty cs fr d hg hu hd hi]
theorem qV (t:List UInt8)(w:World) :
 Calls Tryz.prog 99 #[.string ⟨t.toArray⟩] w λ e w'=>e=.returned (ko t)/\Below w.heap.size w w':=by
 have R0:Rp w ((w.alloc (.cells #[.int .u8 0,.int .i64 0,.string ⟨#[]⟩,.int .i64 0,.string ⟨#[]⟩] 181)).alloc (.cells #[.string ⟨t.toArray⟩,.bool false] 251)) ⟨t,false⟩ :=
  ⟨((Below.refl _ _).alloc (Nat.le_refl _) _).alloc (by simp) _,(heap_alloc_old _ _ (by simp)).trans (heap_alloc_new _ _),by have:=heap_alloc_new (w.alloc (.cells #[.int .u8 0,.int .i64 0,.string ⟨#[]⟩,.int .i64 0,.string ⟨#[]⟩] 181)) (.cells #[.string ⟨t.toArray⟩,.bool false] 251);simpa [iS] using this⟩
 have l1:=gD ⟨t,false⟩ 2;have l2:=gD (j4 t) 4;have lp:=yq t;have Ac:Hid _:=R0;clear R0;go_enter Tryz.func99,Tryz.ntmps99;go_wp2_with fail;refine Calls.mono (dQ _ 2 _ _ Ac.out.rdr (by omega)) ?_;rintro e x1 ⟨rfl,r1,o1,z1⟩;have Aa:Hid (Rp w x1 (qz t)):=Ac.out.next o1 r1;clear r1 o1 z1 Ac;go_wp2_with fail;refine Calls.mono (kF _ _ _ _ Aa.out.rdr (by omega)) ?_;rintro e x2 ⟨rfl,r2,o2,z2⟩;have A8:Hid (Rp w x2 (j4 t)):=Aa.out.next o2 r2;clear r2 o2 z2 Aa;go_wp2_with fail;refine Calls.mono (dQ _ 4 _ _ A8.out.rdr (by omega)) ?_;rintro e x3 ⟨rfl,r3,o3,z3⟩;have A2:Hid (Rp w x3 (nJ t)):=A8.out.next o3 r3;clear r3 o3 z3 A8;have A1:Hid (eM t=if (nJ t).short=true\/aI ((j4 t).text 4)≠cB (fp t) then none else if dU (fp t)=true then some (aP (fp t),(nJ t).rest) else none):=rfl;have Af:=oO (fp t);have A4:Hid (∀ y,Calls Tryz.prog 160 #[.string ⟨(fp t).toArray⟩] y λ e w'=>e=.returned (.int .u32 ((cB (fp t):Nat):Int))/\w'=y):=λ y=>oa (fp t) y (by omega);have A3:Hid (∀ y,Calls Tryz.prog 161 #[.string ⟨(fp t).toArray⟩] y λ e w'=>e=.returned (.tuple #[kG (fp t),.bool (dU (fp t))])/\Below y.heap.size y w'):=λ y=>ls (fp t) y lp;rw[show (qz t).text (aI ((Rdr.mk t false).text 2))=fp t from rfl];obtain⟨sz,A9⟩:∃ x,aI ((Rdr.mk t false).text 2)=x:=⟨_,rfl⟩;rw[A9] at l1;obtain⟨P,hP⟩:∃ x,fp t=x:=⟨_,rfl⟩;obtain⟨sm,Ab⟩:∃ x,aI ((j4 t).text 4)=x:=⟨_,rfl⟩;obtain⟨s3,Ah⟩:∃ x,nJ t=x:=⟨_,rfl⟩;obtain⟨rs,sh⟩:=s3;rw[hP] at A1 Af A4 A3 lp;rw[Ab] at A1 l2;rw[Ah] at A1 A2;rw[A9,hP,Ab];obtain⟨ck,A6⟩:∃ x,cB P=x:=⟨_,rfl⟩;rw[A6] at A1 A4 Af;obtain⟨q0,q1⟩:=kH A2.out.rdr;have A5:Hid _:=A2.out.rcd;have At:w.heap.size+1<x3.heap.size:=(gL A2.out.rdr);dsimp only at A1 q0 q1;clear A9 hP Ab Ah A6;cases sh with
 | true =>(have HN:Hid (eM t=none):=by show _=_;rw[A1.out,if_pos (Or.inl rfl)]);go_wp2_with (first|(go_at_call 160;refine Calls.mono (A4.out _) ?_;rintro e w9 ⟨rfl,rfl⟩)|refine wpList_store_row rfl 181 (.tmp 2) (.tmp 23) rfl w.heap.size #[.int .u8 0,.int .i64 0,.string ⟨#[]⟩,.int .i64 0,.string ⟨#[]⟩] rfl rfl 181 #[.int .u8 0,.int .i64 0,.string ⟨#[]⟩,.int .i64 0,.string ⟨#[]⟩] A5.out dm rfl (by simp[Value.oneCell']) ?_);refine bodyPost_ret (v:=.tuple #[bt 0 0 [] 0 [],.string ⟨#[]⟩,.bool false]) (di Tryz.results99 _ _ w.heap.size _ _ _ _ rfl (setRow_heap _ _ _ _ _ _ A5.out) Tryz.underlying181 rfl dm) rfl ⟨?_,below_setRow A2.out.low (Nat.le_refl _) _⟩;rw[iD HN.out]
 | false =>
   by_cases hc:sm=ck
   ·(have Ap:(sm:Int)=(ck:Int):=by omega);subst hc;cases hpk:dU P with
    | true =>
      have HY:Hid (ko t=.tuple #[bt (aP P).kind (aP P).time (aP P).key (aP P).num (aP P).body,.string ⟨rs.toArray⟩,.bool true]):=mf (by rw[A1.out,if_neg (by simp),if_pos hpk]);rw[hpk,mV hpk] at A3;generalize aP P=rr at HY A3;obtain⟨kd,tm,ky,nm,bd⟩:=rr;dsimp only at HY A3;clear hpk A1;go_wp2_with (go_at_call 160;refine Calls.mono (A4.out _) ?_;rintro e w9 ⟨rfl,rfl⟩);refine Calls.mono (A3.out _) ?_;rintro e x4 ⟨rfl,b4⟩;have A0:Hid _:=(b4.block _ (by omega)).trans A5.out;have Ag:Hid _:=(b4.block _ At).trans A2.out.rdr;have A7:Hid _:=A2.out.low.trans (b4.mono (by omega));clear b4 A5 A2 A4 A3 q0 q1
      go_wp2_with (refine wpList_store_row rfl 181 (.tmp 2) (.tmp 27) rfl w.heap.size #[.int .u8 kd,.int .i64 tm,.string ⟨ky.toArray⟩,.int .i64 nm,.string ⟨bd.toArray⟩] rfl rfl 181 #[.int .u8 0,.int .i64 0,.string ⟨#[]⟩,.int .i64 0,.string ⟨#[]⟩] A0.out dm rfl (by simp[Value.oneCell']) ?_
                   obtain⟨X,hX⟩:∃ X,x4.setRow w.heap.size #[.int .u8 kd,.int .i64 tm,.string ⟨ky.toArray⟩,.int .i64 nm,.string ⟨bd.toArray⟩]=X:=⟨_,rfl⟩;rw[hX];(have HX:Hid (X.heap[w.heap.size]?=some (.cells #[.int .u8 kd,.int .i64 tm,.string ⟨ky.toArray⟩,.int .i64 nm,.string ⟨bd.toArray⟩] 181 (0,0))):=by show _=_;rw[<- hX];exact setRow_heap _ _ _ _ _ _ A0.out);(have Ad:X.heap[w.heap.size+1]?=some (.cells #[.string ⟨rs.toArray⟩,.bool false] 251 (0,0)):=by rw[<- hX];exact (setRow_other _ _ _ _ (by omega)).trans Ag.out);(have Ae:Hid (Below w.heap.size w X):=by show Below _ _ _;rw[<- hX];exact below_setRow A7.out (Nat.le_refl _) _);(have y0:X.cell? ⟨w.heap.size+1,0,none⟩=some (.string ⟨rs.toArray⟩):=by simp[World.cell?,Ad]);have c5:=dM HX.out;obtain⟨Ai,Ak,Al,Am,An⟩:=c5;have lX:w.heap.size+1<X.heap.size:=(gL Ad)
                   clear hX Ad A0 Ag A7)
      (have fz:∀ j,X.frozen? ⟨w.heap.size,j,none⟩=false:=λ j=>by simp[World.frozen?,show X.heap[w.heap.size]?=_ from HX.out]);have Ao:=fz 0;have Au:=fz 1;have Aj:=fz 2;have Aq:=fz 3;have As:=fz 4;clear fz;go_region;have HZ:Hid _:=ah (i:=4) (v:=.string ⟨bd.toArray⟩) (ah (i:=3) (v:=.int .i64 nm) (ah (i:=2) (v:=.string ⟨ky.toArray⟩) (ah (i:=1) (v:=.int .i64 tm) (ah (i:=0) (v:=.int .u8 kd) HX.out))));have Ar:Hid _:=(((((Ae.out.setCell (p:=⟨w.heap.size,0,none⟩) (Nat.le_refl _) (.int .u8 kd)).setCell (p:=⟨w.heap.size,1,none⟩) (Nat.le_refl _) (.int .i64 tm)).setCell (p:=⟨w.heap.size,2,none⟩) (Nat.le_refl _) (.string ⟨ky.toArray⟩)).setCell (p:=⟨w.heap.size,3,none⟩) (Nat.le_refl _) (.int .i64 nm)).setCell (p:=⟨w.heap.size,4,none⟩) (Nat.le_refl _) (.string ⟨bd.toArray⟩)).drew;clear Ai Ak Al Am An Ao Au Aj Aq As HX Ae y0;go_wp2_with fail;refine bodyPost_ret (v:=.tuple #[bt kd tm ky nm bd,.string ⟨rs.toArray⟩,.bool true]) (di Tryz.results99 _ _ w.heap.size 181 #[.int .u8 kd,.int .i64 tm,.string ⟨ky.toArray⟩,.int .i64 nm,.string ⟨bd.toArray⟩] (0,0) _ rfl HZ.out Tryz.underlying181 rfl dm) rfl ⟨?_,Ar.out⟩;rw[HY.out]
    | false =>
      (have HN:Hid (eM t=none):=by show _=_;rw[A1.out,if_neg (by simp),if_neg (by rw[hpk];simp)]);rw[hpk,fR hpk] at A3;clear hpk A1;go_wp2_with (go_at_call 160;refine Calls.mono (A4.out _) ?_;rintro e w9 ⟨rfl,rfl⟩);refine Calls.mono (A3.out _) ?_;rintro e x4 ⟨rfl,b4⟩;have A0:Hid _:=(b4.block _ (by omega)).trans A5.out;have A7:Hid _:=A2.out.low.trans (b4.mono (by omega));clear b4 A5 A2 A4 A3 q0 q1;go_wp2_with (first
       | refine wpList_store_row rfl 181 (.tmp 2) (.tmp 27) rfl w.heap.size #[.int .u8 0,.int .i64 0,.string ⟨#[]⟩,.int .i64 0,.string ⟨#[]⟩] rfl rfl 181 #[.int .u8 0,.int .i64 0,.string ⟨#[]⟩,.int .i64 0,.string ⟨#[]⟩] A0.out dm rfl (by simp[Value.oneCell']) ?_
       | refine wpList_store_row rfl 181 (.tmp 2) (.tmp 31) rfl w.heap.size #[.int .u8 0,.int .i64 0,.string ⟨#[]⟩,.int .i64 0,.string ⟨#[]⟩] rfl rfl 181 #[.int .u8 0,.int .i64 0,.string ⟨#[]⟩,.int .i64 0,.string ⟨#[]⟩] (setRow_heap _ _ _ _ _ _ A0.out) dm rfl (by simp[Value.oneCell']) ?_)
      refine bodyPost_ret (v:=.tuple #[bt 0 0 [] 0 [],.string ⟨#[]⟩,.bool false]) (di Tryz.results99 _ _ w.heap.size _ _ _ _ rfl (setRow_heap _ _ _ _ _ _ (setRow_heap _ _ _ _ _ _ A0.out)) Tryz.underlying181 rfl dm) rfl ⟨?_,below_setRow (below_setRow A7.out (Nat.le_refl _) _) (Nat.le_refl _) _⟩;rw[iD HN.out]
   ·(have Ap:¬ (sm:Int)=(ck:Int):=by omega);(have HN:Hid (eM t=none):=by show _=_;rw[A1.out,if_pos (Or.inr hc)]);go_wp2_with (first|(go_at_call 160;refine Calls.mono (A4.out _) ?_;rintro e w9 ⟨rfl,rfl⟩)|refine wpList_store_row rfl 181 (.tmp 2) (.tmp 23) rfl w.heap.size #[.int .u8 0,.int .i64 0,.string ⟨#[]⟩,.int .i64 0,.string ⟨#[]⟩] rfl rfl 181 #[.int .u8 0,.int .i64 0,.string ⟨#[]⟩,.int .i64 0,.string ⟨#[]⟩] A5.out dm rfl (by simp[Value.oneCell']) ?_);refine bodyPost_ret (v:=.tuple #[bt 0 0 [] 0 [],.string ⟨#[]⟩,.bool false]) (di Tryz.results99 _ _ w.heap.size _ _ _ _ rfl (setRow_heap _ _ _ _ _ _ A5.out) Tryz.underlying181 rfl dm) rfl ⟨?_,below_setRow A2.out.low (Nat.le_refl _) _⟩;rw[iD HN.out]
end Go.Proofs.YtmehkneofinmiaaGreatDoor

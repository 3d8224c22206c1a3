/-
 Texts of this proof, part 53.
-/
import Derived.Test.YtmehkneofinmiaaGreatDoorP52
import Derived.Deep.Slices
set_option maxRecDepth 100000
set_option maxHeartbeats 40000000
namespace Go.Proofs.YtmehkneofinmiaaGreatDoor
open Go.RowKit
theorem twin0 (N:Nat):Twin N st0 ⟨[],[]⟩:=by
 refine⟨⟨rfl,fun _=>rfl,fun _=>rfl,rfl,fun _=>List.Pairwise.nil⟩,?_,?_,?_,?_,?_,?_,rfl,by simp⟩
 ·intro it h;cases h
 ·intro it h;cases h
 ·intro it h;cases h
 ·intro it h;cases h
 ·intro it h;cases h
 ·intro key n _ h0 hn
  have:n<=0:=hn
  omega
theorem results_side {fn:Func}(h:fn.results=#[.cell 2 30,.tmp 3])(tmps:Array Value)(x:World)(g:Nat)(p q:Value)(hp:tmps.getD 2 undef=.pointer (some ⟨g,0,none⟩))(hg:x.heap[g]?=some (.cells #[p,q] 30 (0,0))) :
 (results fn tmps).run Tryz.prog x=.ok (.tuple #[.agg #[p,q],tmps.getD 3 undef]) x:=by
 have hp':tmps[2]?.getD undef=.pointer (some ⟨g,0,none⟩):=by simpa using hp
 have hr:=run_loadVar_row (P:=Tryz.prog) x g 30 30 #[p,q] (0,0) _ hg Tryz.underlying30 rfl (by kernel_rfl)
 simp[results,h,hp',asAddr,hr]
theorem fresh_no (x:Int)(w:World)(hx:x<1\/8<x) :
 Calls Tryz.prog 11 #[.int .i64 x] w fun e w'=>e=.returned (.tuple #[.agg #[.pointer none,.pointer none],.bool true])/\Below w.heap.size w w':=by
 have HX:Hid _:=hx
 clear hx
 go_enter Tryz.func11,Tryz.ntmps11
 go_wp2_with (first
  | (go_at_call 28;refine Calls.mono (new_no x _ HX.out) ?_;rintro e w1 ⟨rfl,hw1⟩;rw[hw1];clear hw1)
  | (go_at_call 29;refine Calls.mono (refNew_no x _ HX.out) ?_;rintro e w2 ⟨rfl,hw2⟩;rw[hw2];clear hw2))
 exact bodyPost_ret (v:=.tuple #[.agg #[.pointer none,.pointer none],.bool true]) (results_side Tryz.results11 _ _ w.heap.size _ _ rfl (heap_alloc_new _ _)) rfl ⟨rfl,(Below.refl _ _).alloc (Nat.le_refl _) _⟩
theorem fresh_yes (N:Nat)(B:Nat->Prop)(n:Nat)(w:World)(h1:1<=n)(h8:n<=8)(hB:∀ k,w.heap.size<=k->B k) :
 Calls Tryz.prog 11 #[.int .i64 (n:Int)] w fun e w'=>∃ a:SideP,e=.returned (.tuple #[.agg #[.pointer (some ⟨a.s,0,none⟩),.pointer (some ⟨a.p,0,none⟩)],.bool true])/\a.At N B w'/\Below w.heap.size w w'/\∀ k,a.own k->w.heap.size<=k:=by
 have HN1:Hid _:=fun y=>new_yes n y h1 h8
 have HR1:Hid _:=fun y=>refNew_yes (n:Int) y (by omega) (by omega)
 have HBB:Hid _:=hB
 clear h1 h8 hB
 go_enter Tryz.func11,Tryz.ntmps11
 go_wp2_with fail
 refine Calls.mono (HN1.out _) ?_
 rintro e w1 ⟨s,M,rfl,hS1,hb1,hO1⟩
 have HS1:Hid _:=hS1
 have HB1:Hid _:=hb1
 have HO1:Hid _:=hO1
 clear hS1 hb1 hO1
 go_wp2_with fail
 refine Calls.mono (HR1.out _) ?_
 rintro e w2 ⟨p,rfl,hR2,hp2,hb2⟩
 have h21:w.heap.size<w1.heap.size:=by have:=HB1.out.size;rw[World.size_alloc] at this;omega
 have h22:w1.heap.size<=w2.heap.size:=hb2.size
 have r0:w2.cell? ⟨w.heap.size,0,none⟩=some (.pointer none):=(hb2.cell (p:=⟨w.heap.size,0,none⟩) h21).trans ((HB1.out.cell (p:=⟨w.heap.size,0,none⟩) (by rw[World.size_alloc];exact Nat.lt_succ_self _)).trans (by simp))
 have r1:w2.cell? ⟨w.heap.size,1,none⟩=some (.pointer none):=(hb2.cell (p:=⟨w.heap.size,1,none⟩) h21).trans ((HB1.out.cell (p:=⟨w.heap.size,1,none⟩) (by rw[World.size_alloc];exact Nat.lt_succ_self _)).trans (by simp))
 have rb:w2.heap[w.heap.size]?=some (.cells #[.pointer none,.pointer none] 30 (0,0)):=(hb2.block _ h21).trans ((HB1.out.block _ (by rw[World.size_alloc];exact Nat.lt_succ_self _)).trans (heap_alloc_new _ _))
 have f0:w2.frozen? ⟨w.heap.size,0,none⟩=false:=by simp[World.frozen?,rb]
 have f1:w2.frozen? ⟨w.heap.size,1,none⟩=false:=by simp[World.frozen?,rb]
 have HW:Hid (Below w.heap.size w w2):=(((Below.refl w.heap.size w).alloc (Nat.le_refl _) _).trans (HB1.out.mono (by rw[World.size_alloc];omega))).trans (hb2.mono (by omega))
 have HR2:Hid _:=hR2
 have HP2:Hid _:=hp2
 have HB2:Hid _:=hb2
 have HRB:Hid _:=rb
 clear hR2 hp2 hb2 rb
 go_wp2_with fail
 refine bodyPost_ret (v:=.tuple #[.agg #[.pointer (some ⟨s,0,none⟩),.pointer (some ⟨p,0,none⟩)],.bool true]) (results_side Tryz.results11 _ _ w.heap.size _ _ rfl (heap_set (heap_set HRB.out))) rfl ⟨⟨s,n,st0,M,p,[],[],.slice none 0 0⟩,rfl,?_,?_,?_⟩
 ·have hs2:=HS1.out.below HB2.out
  have hO1:=HO1.out
  rw[World.size_alloc] at hO1
  have hoff:Off (fun k=>k=w.heap.size) w2 ((w2.setCell ⟨w.heap.size,0,none⟩ (.pointer (some ⟨s,0,none⟩))).setCell ⟨w.heap.size,1,none⟩ (.pointer (some ⟨p,0,none⟩))):=((Off.refl (fun k=>k=w.heap.size) w2).set w.heap.size 0 _ (Or.inl rfl)).set w.heap.size 1 _ (Or.inl rfl)
  refine⟨hs2.off hoff (fun k hk=>by have:=hO1 k hk;omega),ref_off HR2.out hoff (by have:=HP2.out;show ¬ p=w.heap.size;omega) (fun k hk=>by cases hk),twin0 N,fun k hk hh=>?_,fun k hk=>?_⟩
  ·rcases hh with hh|hh
   ·have h3:=own_lt HS1.out hk
    have h4:=HP2.out
    have hh':k=p:=hh
    omega
   ·cases hh
  ·refine HBB.out k ?_
   rcases hk with hk|hk|hk
   ·have:=hO1 k hk
    omega
   ·have h4:=HP2.out
    have hk':k=p:=hk
    omega
   ·cases hk
 ·exact (HW.out.setCell (Nat.le_refl _) _).setCell (Nat.le_refl _) _
 ·intro k hk
  rcases hk with hk|hk|hk
  ·have:=HO1.out k hk
   rw[World.size_alloc] at this
   omega
  ·have h4:=HP2.out
   have hk':k=p:=hk
   omega
  ·cases hk
theorem begun_any (N:Nat)(B:Nat->Prop)(x:Int)(w:World)(hx0 : -9223372036854775808<=x)(hx1:x<=9223372036854775807)(hB:∀ k,w.heap.size<=k->B k) :
 Calls Tryz.prog 26 #[.int .i64 x] w fun e w'=>∃ a:SideP,e=.returned (.tuple #[.agg #[.pointer (some ⟨a.s,0,none⟩),.pointer (some ⟨a.p,0,none⟩)],.bool true])/\a.At N B w'/\Below w.heap.size w w'/\∀ k,a.own k->w.heap.size<=k:=by
 by_cases hin:1<=x/\x<=8
 ·obtain⟨n,rfl⟩:∃ n:Nat,x=(n:Int):=⟨x.toNat,by omega⟩
  have HFR:Hid _:=fun y (hy:w.heap.size<=y.heap.size)=>fresh_yes N B n y (by omega) (by omega) (fun k hk=>hB k (by omega))
  clear hin hB hx0 hx1
  go_enter Tryz.func26,Tryz.ntmps26
  go_wp2_with fail
  refine Calls.mono (HFR.out _ (by rw[World.size_alloc];omega)) ?_
  rintro e w1 ⟨a,rfl,hA,hb,hO⟩
  have h21:w.heap.size<w1.heap.size:=by have:=hb.size;rw[World.size_alloc] at this;omega
  have rb:w1.heap[w.heap.size]?=some (.cells #[.pointer none,.pointer none] 30 (0,0)):=(hb.block _ (by rw[World.size_alloc];exact Nat.lt_succ_self _)).trans (heap_alloc_new _ _)
  have HW:Hid (Below w.heap.size w w1):=((Below.refl w.heap.size w).alloc (Nat.le_refl _) _).trans (hb.mono (by rw[World.size_alloc];omega))
  have HA:Hid _:=hA
  have HO:Hid (∀ k,a.own k->w.heap.size<k):=fun k hk=>by have:=hO k hk;rw[World.size_alloc] at this;omega
  obtain⟨Y,hY⟩:∃ Y,w1.alloc (.cells #[.pointer (some ⟨a.s,0,none⟩),.pointer (some ⟨a.p,0,none⟩)] 30)=Y:=⟨_,rfl⟩
  have HRB:Hid (Y.heap[w.heap.size]?=some (.cells #[.pointer none,.pointer none] 30 (0,0))):=by rw[<- hY];exact (heap_alloc_old _ _ h21).trans rb
  have r0:Y.cell? ⟨w.heap.size,0,none⟩=some (.pointer none):=by simp[World.cell?,HRB.out]
  have r1:Y.cell? ⟨w.heap.size,1,none⟩=some (.pointer none):=by simp[World.cell?,HRB.out]
  have f0:Y.frozen? ⟨w.heap.size,0,none⟩=false:=by simp[World.frozen?,HRB.out]
  have f1:Y.frozen? ⟨w.heap.size,1,none⟩=false:=by simp[World.frozen?,HRB.out]
  have s0:Y.cell? ⟨w1.heap.size,0,none⟩=some (.pointer (some ⟨a.s,0,none⟩)):=by rw[<- hY];simp
  have s1:Y.cell? ⟨w1.heap.size,1,none⟩=some (.pointer (some ⟨a.p,0,none⟩)):=by rw[<- hY];simp
  have HY:Hid (Below w1.heap.size w1 Y):=by rw[<- hY];exact (Below.refl _ _).alloc (Nat.le_refl _) _
  clear hA hb hO rb
  go_wp2_with fail
  refine bodyPost_ret (v:=.tuple #[.agg #[.pointer (some ⟨a.s,0,none⟩),.pointer (some ⟨a.p,0,none⟩)],.bool true]) (results_side Tryz.results26 _ _ w.heap.size _ _ rfl (heap_set (heap_set HRB.out))) rfl ⟨a,rfl,?_,?_,fun k hk=>Nat.le_of_lt (HO.out k hk)⟩
  ·exact (HA.out.below HY.out).off (((Off.refl (fun k=>k=w.heap.size) Y).set w.heap.size 0 _ (Or.inl rfl)).set w.heap.size 1 _ (Or.inl rfl)) (fun k hk=>by have:=HO.out k hk;omega)
  ·exact ((HW.out.trans (HY.out.mono (by omega))).setCell (Nat.le_refl _) _).setCell (Nat.le_refl _) _
 ·have HNO:Hid _:=fun y=>fresh_no x y (by omega)
  have ht : -8<x.tmod 8/\x.tmod 8<8:=by
   have h1:=Int.tmod_lt_of_pos x (show (0:Int)<8 by decide)
   have h2:=Int.lt_tmod_of_pos x (show (0:Int)<8 by decide)
   exact⟨h2,h1⟩
  obtain⟨r,hr⟩:∃ r,x.tmod 8=r:=⟨_,rfl⟩
  rw[hr] at ht
  obtain⟨m,hm⟩:∃ m:Nat,1+(if r<0 then -r else r)=(m:Int):=⟨(1+(if r<0 then -r else r)).toNat,by split<;>omega⟩
  have hm8:1<=m/\m<=8:=by split at hm<;>omega
  have HFR:Hid _:=fun y (hy:w.heap.size<=y.heap.size)=>fresh_yes N B m y hm8.1 hm8.2 (fun k hk=>hB k (by omega))
  have hrw:IntKind.i64.wrap r=r:=by rw[IntKind.wrap_i64];omega
  clear hin hB hm8
  by_cases h0:r<0
  ·rw[if_pos h0] at hm
   have hn:IntKind.i64.wrap (-r) = -r:=by rw[IntKind.wrap_i64];omega
   have hw1:IntKind.i64.wrap (1 + -r)=(m:Int):=by rw[IntKind.wrap_i64];omega
   go_enter Tryz.func26,Tryz.ntmps26
   go_wp2_with fail
   refine Calls.mono (HNO.out _) ?_
   rintro e w1 ⟨rfl,hb⟩
   have h21:w.heap.size<w1.heap.size:=by have:=hb.size;rw[World.size_alloc] at this;omega
   have rb:w1.heap[w.heap.size]?=some (.cells #[.pointer none,.pointer none] 30 (0,0)):=(hb.block _ (by rw[World.size_alloc];exact Nat.lt_succ_self _)).trans (heap_alloc_new _ _)
   have HBB:Hid _:=hb
   have HRR:Hid _:=rb
   clear hb rb
   go_wp2_with fail
   obtain⟨Y,hY⟩:∃ Y,w1.alloc (.cells #[.pointer none,.pointer none] 30)=Y:=⟨_,rfl⟩
   have HW:Hid (Below w.heap.size w Y):=by rw[<- hY];exact (((Below.refl w.heap.size w).alloc (Nat.le_refl _) _).trans (HBB.out.mono (by rw[World.size_alloc];omega))).alloc (by omega) _
   have HRB:Hid (Y.heap[w.heap.size]?=some (.cells #[.pointer none,.pointer none] 30 (0,0))):=by rw[<- hY];exact (heap_alloc_old _ _ h21).trans HRR.out
   have hYs:w.heap.size<Y.heap.size:=by rw[<- hY,World.size_alloc];omega
   rw[hY]
   clear hY
   refine Calls.mono (HFR.out Y (by omega)) ?_
   rintro e w2 ⟨a,rfl,hA,hb,hO⟩
   have rb:w2.heap[w.heap.size]?=some (.cells #[.pointer none,.pointer none] 30 (0,0)):=(hb.block _ hYs).trans HRB.out
   have r0:w2.cell? ⟨w.heap.size,0,none⟩=some (.pointer none):=by simp[World.cell?,rb]
   have r1:w2.cell? ⟨w.heap.size,1,none⟩=some (.pointer none):=by simp[World.cell?,rb]
   have f0:w2.frozen? ⟨w.heap.size,0,none⟩=false:=by simp[World.frozen?,rb]
   have f1:w2.frozen? ⟨w.heap.size,1,none⟩=false:=by simp[World.frozen?,rb]
   have HW2:Hid (Below w.heap.size w w2):=HW.out.trans (hb.mono (by omega))
   have HA:Hid _:=hA
   have HO:Hid (∀ k,a.own k->w.heap.size<k):=fun k hk=>by have:=hO k hk;omega
   have HRB2:Hid _:=rb
   clear hA hb hO rb
   go_wp2_with fail
   refine bodyPost_ret (v:=.tuple #[.agg #[.pointer (some ⟨a.s,0,none⟩),.pointer (some ⟨a.p,0,none⟩)],.bool true]) (results_side Tryz.results26 _ _ w.heap.size _ _ rfl (heap_set (heap_set HRB2.out))) rfl ⟨a,rfl,?_,?_,fun k hk=>Nat.le_of_lt (HO.out k hk)⟩
   ·exact HA.out.off (((Off.refl (fun k=>k=w.heap.size) w2).set w.heap.size 0 _ (Or.inl rfl)).set w.heap.size 1 _ (Or.inl rfl)) (fun k hk=>by have:=HO.out k hk;omega)
   ·exact (HW2.out.setCell (Nat.le_refl _) _).setCell (Nat.le_refl _) _
  ·rw[if_neg h0] at hm
   have hw1:IntKind.i64.wrap (1+r)=(m:Int):=by rw[IntKind.wrap_i64];omega
   go_enter Tryz.func26,Tryz.ntmps26
   go_wp2_with fail
   refine Calls.mono (HNO.out _) ?_
   rintro e w1 ⟨rfl,hb⟩
   have h21:w.heap.size<w1.heap.size:=by have:=hb.size;rw[World.size_alloc] at this;omega
   have rb:w1.heap[w.heap.size]?=some (.cells #[.pointer none,.pointer none] 30 (0,0)):=(hb.block _ (by rw[World.size_alloc];exact Nat.lt_succ_self _)).trans (heap_alloc_new _ _)
   have HBB:Hid _:=hb
   have HRR:Hid _:=rb
   clear hb rb
   go_wp2_with fail
   obtain⟨Y,hY⟩:∃ Y,w1.alloc (.cells #[.pointer none,.pointer none] 30)=Y:=⟨_,rfl⟩
   have HW:Hid (Below w.heap.size w Y):=by rw[<- hY];exact (((Below.refl w.heap.size w).alloc (Nat.le_refl _) _).trans (HBB.out.mono (by rw[World.size_alloc];omega))).alloc (by omega) _
   have HRB:Hid (Y.heap[w.heap.size]?=some (.cells #[.pointer none,.pointer none] 30 (0,0))):=by rw[<- hY];exact (heap_alloc_old _ _ h21).trans HRR.out
   have hYs:w.heap.size<Y.heap.size:=by rw[<- hY,World.size_alloc];omega
   rw[hY]
   clear hY
   refine Calls.mono (HFR.out Y (by omega)) ?_
   rintro e w2 ⟨a,rfl,hA,hb,hO⟩
   have rb:w2.heap[w.heap.size]?=some (.cells #[.pointer none,.pointer none] 30 (0,0)):=(hb.block _ hYs).trans HRB.out
   have r0:w2.cell? ⟨w.heap.size,0,none⟩=some (.pointer none):=by simp[World.cell?,rb]
   have r1:w2.cell? ⟨w.heap.size,1,none⟩=some (.pointer none):=by simp[World.cell?,rb]
   have f0:w2.frozen? ⟨w.heap.size,0,none⟩=false:=by simp[World.frozen?,rb]
   have f1:w2.frozen? ⟨w.heap.size,1,none⟩=false:=by simp[World.frozen?,rb]
   have HW2:Hid (Below w.heap.size w w2):=HW.out.trans (hb.mono (by omega))
   have HA:Hid _:=hA
   have HO:Hid (∀ k,a.own k->w.heap.size<k):=fun k hk=>by have:=hO k hk;omega
   have HRB2:Hid _:=rb
   clear hA hb hO rb
   go_wp2_with fail
   refine bodyPost_ret (v:=.tuple #[.agg #[.pointer (some ⟨a.s,0,none⟩),.pointer (some ⟨a.p,0,none⟩)],.bool true]) (results_side Tryz.results26 _ _ w.heap.size _ _ rfl (heap_set (heap_set HRB2.out))) rfl ⟨a,rfl,?_,?_,fun k hk=>Nat.le_of_lt (HO.out k hk)⟩
   ·exact HA.out.off (((Off.refl (fun k=>k=w.heap.size) w2).set w.heap.size 0 _ (Or.inl rfl)).set w.heap.size 1 _ (Or.inl rfl)) (fun k hk=>by have:=HO.out k hk;omega)
   ·exact (HW2.out.setCell (Nat.le_refl _) _).setCell (Nat.le_refl _) _
structure OpsAt (w:World)(v:Value)(l:List OpV):Prop where
 lie:∃ o cap,v=.slice o l.length cap/\(0<l.length->∃ g off,o=some ⟨g,off,none⟩/\g<w.heap.size/\∀ j x,l[j]?=some x->w.cell? ⟨g,off+j*6,none⟩=some (.int .i64 x.k)/\w.cell? ⟨g,off+j*6+1,none⟩=some (.bool x.o)/\w.cell? ⟨g,off+j*6+2,none⟩=some (.int .i64 x.a)/\w.cell? ⟨g,off+j*6+3,none⟩=some (.int .i64 x.b)/\w.cell? ⟨g,off+j*6+4,none⟩=some (.string ⟨x.s.toArray⟩)/\w.cell? ⟨g,off+j*6+5,none⟩=some x.t)
 str:∀ x∈l,x.s.length<=9223372036854775807
 len:l.length<=9223372036854775807
theorem plays_any (x y:Int)(v:Value)(l:List OpV)(w:World)(hM:MaxIs w)(hT:Tbl w)(ix0 : -9223372036854775808<=x)(ix1:x<=9223372036854775807)(iy0 : -9223372036854775808<=y)(iy1:y<=9223372036854775807)(hv:OpsAt w v l) :
 Calls Tryz.prog 10 #[.int .i64 x,.int .i64 y,v,.int .i64 3] w fun e w'=>e=.returned (.bool true)/\Off (fun k=>w.heap.size<=k) w w':=by
 obtain⟨o,cap,rfl,hlie⟩:=hv.lie
 have HV:Hid _:=hv
 have hlen:=hv.len
 have HE:Hid _:=Env.made hM hT
 clear hv
 have HB1:Hid _:=fun z (hz:w.heap.size<=z.heap.size)=>begun_any 1000000000 (fun k=>w.heap.size<=k) x z ix0 ix1 (fun k hk=>by omega)
 have HB2:Hid _:=fun z (hz:w.heap.size<=z.heap.size)=>begun_any 1000000000 (fun k=>w.heap.size<=k) y z iy0 iy1 (fun k hk=>by omega)
 clear hM hT ix0 ix1 iy0 iy1
 go_enter Tryz.func10,Tryz.ntmps10
 go_wp2_with fail
 refine Calls.mono (HB1.out _ (Nat.le_refl _)) ?_
 rintro e w1 ⟨a,rfl,hA,hb1,hO1⟩
 have HA:Hid _:=hA
 have HW1:Hid _:=hb1
 have HO1:Hid _:=hO1
 have hs1:=hb1.size
 clear hA hb1 hO1
 go_wp2_with fail
 refine Calls.mono (HB2.out _ (by rw[World.size_alloc];omega)) ?_
 rintro e w2 ⟨b,rfl,hB,hb2,hO2⟩
 have hs2:w1.heap.size<w2.heap.size:=by have:=hb2.size;rw[World.size_alloc] at this;omega
 have t9:w2.heap[w1.heap.size]?=some (.cells #[.pointer (some ⟨a.s,0,none⟩),.pointer (some ⟨a.p,0,none⟩)] 30 (0,0)):=(hb2.block _ (by rw[World.size_alloc];exact Nat.lt_succ_self _)).trans (heap_alloc_new _ _)
 have u0:w2.cell? ⟨w1.heap.size,0,none⟩=some (.pointer (some ⟨a.s,0,none⟩)):=by simp[World.cell?,t9]
 have u1:w2.cell? ⟨w1.heap.size,1,none⟩=some (.pointer (some ⟨a.p,0,none⟩)):=by simp[World.cell?,t9]
 have HB:Hid _:=hB
 have HA2:Hid (a.At 1000000000 (fun k=>w.heap.size<=k) w2):=(HA.out.below ((Below.refl _ _).alloc (Nat.le_refl _) _)).below hb2
 have HW2:Hid (Below w.heap.size w w2):=(HW1.out.alloc hs1 _).trans (hb2.mono (by rw[World.size_alloc];omega))
 have HO2:Hid (∀ k,b.own k->w1.heap.size<k):=fun k hk=>by have:=hO2 k hk;rw[World.size_alloc] at this;omega
 have HD:Hid (∀ k,a.own k->¬ b.own k):=fun k hk hk2=>by have h1:=HA.out.lt hk;have h2:=HO2.out k hk2;omega
 clear hB hb2 hO2 t9 HA
 go_wp2_with fail
 obtain⟨X,hX⟩:∃ X,(w2.alloc (.cells #[.pointer (some ⟨b.s,0,none⟩),.pointer (some ⟨b.p,0,none⟩)] 30)).alloc (.cells #[.pointer none,.pointer none,.pointer none,.pointer none,.slice none 0 0,.slice none 0 0] 34)=X:=⟨_,rfl⟩
 have HXB:Hid (Below w2.heap.size w2 X):=by rw[<- hX];exact ((Below.refl _ _).alloc (Nat.le_refl _) _).alloc (by rw[World.size_alloc];omega) _
 have hXs:X.heap.size=w2.heap.size+2:=by rw[<- hX,World.size_alloc,World.size_alloc]
 have HXG:Hid (X.heap[w2.heap.size+1]?=some (.cells #[.pointer none,.pointer none,.pointer none,.pointer none,.slice none 0 0,.slice none 0 0] 34 (0,0))):=by rw[<- hX];exact heap_alloc2_new _ _ _
 have HXT:Hid (X.heap[w2.heap.size]?=some (.cells #[.pointer (some ⟨b.s,0,none⟩),.pointer (some ⟨b.p,0,none⟩)] 30 (0,0))):=by rw[<- hX];exact (heap_alloc_old _ _ (by rw[World.size_alloc];exact Nat.lt_succ_self _)).trans (heap_alloc_new _ _)
 rw[hX]
 clear hX
 have X0:X.cell? ⟨w1.heap.size,0,none⟩=some (.pointer (some ⟨a.s,0,none⟩)):=(HXB.out.cell (p:=⟨w1.heap.size,0,none⟩) hs2).trans u0
 have X1:X.cell? ⟨w1.heap.size,1,none⟩=some (.pointer (some ⟨a.p,0,none⟩)):=(HXB.out.cell (p:=⟨w1.heap.size,1,none⟩) hs2).trans u1
 have Y0:X.cell? ⟨w2.heap.size,0,none⟩=some (.pointer (some ⟨b.s,0,none⟩)):=by simp[World.cell?,HXT.out]
 have Y1:X.cell? ⟨w2.heap.size,1,none⟩=some (.pointer (some ⟨b.p,0,none⟩)):=by simp[World.cell?,HXT.out]
 obtain⟨g,hg⟩:∃ g,w2.heap.size+1=g:=⟨_,rfl⟩
 rw[hg] at HXG ⊢
 have hg1:w1.heap.size≠g:=by omega
 have hg2:w2.heap.size≠g:=by omega
 have G0:X.cell? ⟨g,0,none⟩=some (.pointer none):=by simp[World.cell?,HXG.out]
 have G1:X.cell? ⟨g,1,none⟩=some (.pointer none):=by simp[World.cell?,HXG.out]
 have G2:X.cell? ⟨g,2,none⟩=some (.pointer none):=by simp[World.cell?,HXG.out]
 have G3:X.cell? ⟨g,3,none⟩=some (.pointer none):=by simp[World.cell?,HXG.out]
 have Z0:X.frozen? ⟨g,0,none⟩=false:=by simp[World.frozen?,HXG.out]
 have Z1:X.frozen? ⟨g,1,none⟩=false:=by simp[World.frozen?,HXG.out]
 have Z2:X.frozen? ⟨g,2,none⟩=false:=by simp[World.frozen?,HXG.out]
 have Z3:X.frozen? ⟨g,3,none⟩=false:=by simp[World.frozen?,HXG.out]
 have HG:Hid _:=hg
 clear u0 u1 hg
 go_region
 go_wp2_with fail
 go_region
 go_wp2_with fail
 obtain⟨Y,hY⟩:∃ Y,((((X.setCell ⟨g,0,none⟩ (.pointer (some ⟨a.s,0,none⟩))).setCell ⟨g,1,none⟩ (.pointer (some ⟨a.p,0,none⟩))).setCell ⟨g,2,none⟩ (.pointer (some ⟨b.s,0,none⟩))).setCell ⟨g,3,none⟩ (.pointer (some ⟨b.p,0,none⟩))).drew.drew=Y:=⟨_,rfl⟩
 have HYO:Hid (Off (fun k=>k=g) X Y):=by
  rw[<- hY]
  exact (((((Off.refl (fun k=>k=g) X).set g 0 _ (Or.inl rfl)).set g 1 _ (Or.inl rfl)).set g 2 _ (Or.inl rfl)).set g 3 _ (Or.inl rfl)).drew.drew
 have HYG:Hid (Y.heap[g]?=some (.cells #[.pointer (some ⟨a.s,0,none⟩),.pointer (some ⟨a.p,0,none⟩),.pointer (some ⟨b.s,0,none⟩),.pointer (some ⟨b.p,0,none⟩),.slice none 0 0,.slice none 0 0] 34 (0,0))):=by
  rw[<- hY]
  exact heap_set (i:=3) (v:=.pointer (some ⟨b.p,0,none⟩)) (heap_set (i:=2) (v:=.pointer (some ⟨b.s,0,none⟩)) (heap_set (i:=1) (v:=.pointer (some ⟨a.p,0,none⟩)) (heap_set (i:=0) (v:=.pointer (some ⟨a.s,0,none⟩)) HXG.out)))
 rw[hY]
 clear hY X0 X1 Y0 Y1 G0 G1 G2 G3 Z0 Z1 Z2 Z3
 have HOY:Hid (Off (fun k=>w.heap.size<=k) w Y):=(Off.of_below (HW2.out.trans (HXB.out.mono HW2.out.size))).trans (HYO.out.mono (fun k hk=>by have:=HG.out;omega))
 have HDU:Hid (Duo 1000000000 (fun k=>w.heap.size<=k) Y g a b):=by
  have hga:∀ k,a.own k->¬ k=g:=fun k hk=>by have h1:=HA2.out.lt hk;have:=HG.out;omega
  have hgb:∀ k,b.own k->¬ k=g:=fun k hk=>by have h1:=HB.out.lt hk;have:=HG.out;omega
  exact⟨HE.out.off HOY.out,(HA2.out.below HXB.out).off HYO.out hga,(HB.out.below HXB.out).off HYO.out hgb,HD.out,HYG.out,fun hk=>hga g hk rfl,fun hk=>hgb g hk rfl⟩
 obtain⟨ln,hln⟩:∃ x,l.length=x:=⟨_,rfl⟩
 rw[hln] at hlen hlie ⊢
 clear HXG HXT HXB HYO HYG HA2 HB HD HW1 HW2 HO1 HO2 HE HB1 HB2
 go_loopw [14,15,16] (fun iv _ _ wr=>∃ (i:Nat) (a b:SideP),i<=ln/\iv=.int .i64 i/\Hid (Duo 1000000000 (fun k=>w.heap.size<=k) wr g a b)/\Hid (Off (fun k=>w.heap.size<=k) w wr)) (fun iv _ _ _=>ln-(intOf iv).toNat)
 case atStart=>exact⟨0,a,b,Nat.zero_le _,rfl,HDU,HOY⟩
 case round =>
  obtain⟨i,a',b',hi,rfl,hD,hO⟩:=hrel
  clear HDU HOY
  by_cases hil:i<ln
  ·obtain⟨z,hz⟩:∃ z,l[i]?=some z:=⟨_,List.getElem?_eq_getElem (by omega)⟩
   obtain⟨q,off,rfl,hq,hcc⟩:=hlie (by omega)
   have hzl:=HV.out.str z (List.mem_of_getElem? hz)
   have hc:=hcc i z hz
   have hblk:=hO.out.block q hq (by omega)
   have s0:wr.cell? ⟨q,off+i*6,none⟩=some (.int .i64 z.k):=by rw[<- hc.1];simp only[World.cell?];rw[hblk]
   have s1:wr.cell? ⟨q,off+i*6+1,none⟩=some (.bool z.o):=by rw[<- hc.2.1];simp only[World.cell?];rw[hblk]
   have s2:wr.cell? ⟨q,off+i*6+2,none⟩=some (.int .i64 z.a):=by rw[<- hc.2.2.1];simp only[World.cell?];rw[hblk]
   have s3:wr.cell? ⟨q,off+i*6+3,none⟩=some (.int .i64 z.b):=by rw[<- hc.2.2.2.1];simp only[World.cell?];rw[hblk]
   have s4:wr.cell? ⟨q,off+i*6+4,none⟩=some (.string ⟨z.s.toArray⟩):=by rw[<- hc.2.2.2.2.1];simp only[World.cell?];rw[hblk]
   have s5:wr.cell? ⟨q,off+i*6+5,none⟩=some z.t:=by rw[<- hc.2.2.2.2.2];simp only[World.cell?];rw[hblk]
   have hiI:(i:Int)<(ln:Int):=by omega
   clear hc hcc hz hblk hlie
   by_cases hk:z.k<=3
   ·have hkI:¬ (3:Int)<z.k:=by omega
    have HST:Hid (Calls Tryz.prog 13 #[.pointer (some ⟨g,0,none⟩),.agg #[.int .i64 z.k,.bool z.o,.int .i64 z.a,.int .i64 z.b,.string ⟨z.s.toArray⟩,z.t]] wr (OpPost 1000000000 (fun k=>w.heap.size<=k) g wr)):=opStep_any 1000000000 _ g a' b' z wr (by omega) (Nat.le_refl _) hD.out hk hzl
    clear hk hzl
    go_wp2_with fail
    refine Calls.mono HST.out ?_
    rintro e w5 ⟨rfl,a5,b5,hD5,hO5⟩
    have HLK:Hid _:=looks_any _ _ g a5 b5 w5 hD5
    have HD5:Hid _:=hD5
    have HO5:Hid _:=hO5
    clear hD5 hO5
    go_wp2_with (go_at_call 27;refine Calls.mono HLK.out ?_;rintro e w6 ⟨rfl,hw6⟩;rw[hw6];clear hw6)
    exact⟨⟨i+1,a5,b5,by omega,by go_num,HD5,hO.out.trans HO5.out⟩,by simp[intOf];omega⟩
   ·have hkI:(3:Int)<z.k:=by omega
    clear hk
    go_wp2
    exact⟨⟨i+1,a',b',by omega,by go_num,hD,hO⟩,by simp[intOf];omega⟩
  ·obtain rfl:i=ln:=by omega
   clear hlie
   go_wp2
   go_ret
   exact⟨rfl,hO.out⟩
theorem does_all (x y:Int)(v:Value)(l:List OpV)(w:World)(hM:MaxIs w)(hT:Tbl w)(ix0 : -9223372036854775808<=x)(ix1:x<=9223372036854775807)(iy0 : -9223372036854775808<=y)(iy1:y<=9223372036854775807)(hv:OpsAt w v l) :
 Calls Tryz.prog 3 #[.int .i64 x,.int .i64 y,v] w fun e w'=>e=.returned (.bool true)/\Off (fun k=>w.heap.size<=k) w w':=by
 have HP:Hid _:=plays_any x y v l w hM hT ix0 ix1 iy0 iy1 hv
 clear hM hT hv
 go_enter Tryz.func3,Tryz.ntmps3
 go_wp2_with (go_at_call 10;refine Calls.mono HP.out ?_;rintro e w1 ⟨rfl,ho⟩)
 go_ret
 exact⟨rfl,ho⟩
end Go.Proofs.YtmehkneofinmiaaGreatDoor
namespace Go.Proofs.YtmehkneofinmiaaGreatDoor
open Go.ChangeShapes Go.WideShapes Go.ChangeAt Go.RowKit
instance:Inhabited OpV:=⟨⟨0,false,0,0,[],.bool false⟩⟩
theorem cellsOp:Tryz.prog.cellsOf 40=6:=by kernel_rfl
theorem cellsInt:Tryz.prog.cellsOf 3=1:=by kernel_rfl
theorem cellsBool:Tryz.prog.cellsOf 4=1:=by kernel_rfl
theorem cellsStr:Tryz.prog.cellsOf 9=1:=by kernel_rfl
theorem open_ops {H:Type}{enc:TypeId×Value->H}{W:World}{r:Reach}{b0:Nat}{v:Value}{d:DataW H}{p:List MemPlace}(hv:Value.okWide Tryz.prog W r b0 22 v)(h:DataW.Trod enc Tryz.prog W 0 (fun _=>true) true 22 v d p):∃ l:List OpV,OpsAt W v l:=by
 obtain⟨o,N,cap,rfl⟩:∃ o N cap,v=.slice o N cap:=okWide_slice Tryz.underlying22 hv
 obtain⟨fuel,hf⟩:=h
 rcases Deep.open_slice Tryz.underlying22 hf with ⟨e,hx⟩|⟨a,len,cp,m,n,D,Pl,e,_,hl,hml,hm,hx,hc⟩
 ·simp[Value.cells] at e
  obtain⟨rfl,rfl,rfl⟩:=e
  exact⟨[],⟨none,0,rfl,fun h=>absurd h (by simp)⟩,by simp,by simp⟩
 ·simp[Value.cells] at e hm
  obtain⟨rfl,rfl,rfl⟩:=e
  subst hm
  have each:∀ i,i<m->∃ q:OpV,(W.cell? (a.add (i*6))=some (.int .i64 q.k)/\W.cell? (a.add (i*6+1))=some (.bool q.o)/\W.cell? (a.add (i*6+2))=some (.int .i64 q.a)/\W.cell? (a.add (i*6+3))=some (.int .i64 q.b)/\W.cell? (a.add (i*6+4))=some (.string ⟨q.s.toArray⟩)/\W.cell? (a.add (i*6+5))=some q.t)/\q.s.length<=9223372036854775807:=by
   intro i hi
   obtain⟨cs',h1,h2⟩:=hc i hi
   rw[cellsOp] at h1
   obtain⟨_,hlen,hcell⟩:=World.cells?_some h1
   obtain⟨xs,k,hk,hxy,_,hxl,hf⟩:=DataW.trod_struct Tryz.underlying40 h2
   have e0:=hcell 0 (by omega)
   have e1:=hcell 1 (by omega)
   have e2:=hcell 2 (by omega)
   have e3:=hcell 3 (by omega)
   have e4:=hcell 4 (by omega)
   have e5:=hcell 5 (by omega)
   rw[Deep.add_add] at e0 e1 e2 e3 e4 e5
   match xs,hxl,cs',hlen with
   | [y0,y1,y2,y3,y4,y5],_,[v0,v1,v2,v3,v4,v5],_ =>
     have g0:=hf 0 _ rfl
     have g1:=hf 1 _ rfl
     have g2:=hf 2 _ rfl
     have g3:=hf 3 _ rfl
     have g4:=hf 4 _ rfl
     simp[cellsInt,cellsBool,cellsStr] at g0 g1 g2 g3 g4
     obtain⟨n0,q0,_,w0⟩:=DataW.trod_int Tryz.underlying3 g0
     obtain⟨b1,q1,_⟩:=DataW.trod_bool Tryz.underlying4 g1
     obtain⟨n2,q2,_,w2⟩:=DataW.trod_int Tryz.underlying3 g2
     obtain⟨n3,q3,_,w3⟩:=DataW.trod_int Tryz.underlying3 g3
     obtain⟨s4,q4,_,w4⟩:=DataW.trod_string Tryz.underlying9 g4
     simp only[List.cons.injEq,and_true] at q0 q1 q2 q3 q4
     subst q0 q1 q2 q3 q4
     refine⟨⟨n0,b1,n2,n3,s4.data.toList,v5⟩,⟨by simpa using e0,by simpa using e1,by simpa using e2,by simpa using e3,by simpa using e4,by simpa using e5⟩,?_⟩
     show s4.data.toList.length<=_
     unfold maxLen at w4
     rw[Array.length_toList]
     exact w4
  obtain⟨q,hq⟩:=Deep.choose_lt each
  refine⟨(List.range N).map q,⟨some a,m,by simp,fun h0=>?_⟩,fun x hx=>?_,?_⟩
  ·have h0':0<N:=by simpa using h0
   obtain⟨b,off,spot⟩:=a
   have hspot:spot=none:=by simpa [Addr.add] using World.cell?_spot (hq 0 (by omega)).1.1
   subst hspot
   have hlt:b<W.heap.size:=by
    have:=(hq 0 (by omega)).1.1
    rw[add_plain] at this
    exact cell_lt this
   refine⟨b,off,rfl,hlt,fun j x hx=>?_⟩
   have hjN:j<N:=by
    have:=(List.getElem?_eq_some_iff.1 hx).1
    simpa using this
   rw[List.getElem?_map,List.getElem?_range hjN] at hx
   cases hx
   have:=(hq j (by omega)).1
   simp only[add_plain] at this
   exact this
  ·obtain⟨i,hi,rfl⟩:=List.mem_map.1 hx
   exact (hq i (by have:=List.mem_range.1 hi;omega)).2
  ·simp
   unfold maxLen at hml
   omega
end Go.Proofs.YtmehkneofinmiaaGreatDoor
namespace Go.Proofs.YtmehkneofinmiaaGreatDoor
open Go.ChangeShapes Go.WideShapes Go.ChangeAt Go.RowKit Go.Conc Go.ConcM
theorem and_mk {a b:Bool}(ha:a=true)(hb:b=true):(a&&b)=true:=by rw[ha,hb];rfl
theorem closedD:joinedFacts Tryz.prog 3 Tryz.f3 Rows.doesSpec Rows.doesRow=true:=by
 unfold joinedFacts
 refine (and_mk (and_mk (and_mk (and_mk (and_mk (and_mk (and_mk (and_mk (and_mk (and_mk (and_mk (and_mk (and_mk (and_mk (and_mk (and_mk (and_mk (and_mk (and_mk (and_mk (and_mk (and_mk (and_mk (and_mk (and_mk (and_mk (and_mk (and_mk (and_mk (and_mk (and_mk ?_ ?_) ?_) ?_) ?_) ?_) ?_) ?_) ?_) ?_) ?_) ?_) ?_) ?_) ?_) ?_) ?_) ?_) ?_) ?_) ?_) ?_) ?_) ?_) ?_) ?_) ?_) ?_) ?_) ?_) ?_) ?_)
 all_goals as_aux_lemma=>kernel_rfl
end Go.Proofs.YtmehkneofinmiaaGreatDoor

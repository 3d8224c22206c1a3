/-
 Texts of this proof, part 37.
-/
import Derived.Test.YtmehkneofinmiaaGreatDoorP36
set_option maxRecDepth 100000
set_option maxHeartbeats 4000000
namespace Go.Proofs.YtmehkneofinmiaaGreatDoor
open Go.RowKit
attribute [local go_sem ↓] appS_is
attribute [local go_sem] app_run
theorem infoItm:(Tryz.prog.info? 199).map (fun i=>(i.zero,i.size,i.bytes))=some (some (.agg #[.string ⟨#[]⟩,.int .i64 0,.int .i64 0,.bool false,.string ⟨#[]⟩,.bool false]),6,64):=by kernel_rfl
theorem irow_app (Y:World)(v:Value)(l:List Itm)(key body:List UInt8)(nn t:Nat)(mark:Bool)(hr:Y.ownsRow 0 199 6 v l.length (itmRow l))(hl:l.length<1000000000000) :
 ∃ gg cap w2,AppOk Tryz.prog 76 76 (Y.alloc (.cells #[.string ⟨key.toArray⟩,.int .i64 ((nn:Nat):Int),.int .i64 (t:Int),.bool mark,.string ⟨body.toArray⟩,.bool false] 199)) v (.slice (some ⟨Y.heap.size,0,none⟩) 1 1) /\
  (appR Tryz.prog 76 76 (Y.alloc (.cells #[.string ⟨key.toArray⟩,.int .i64 ((nn:Nat):Int),.int .i64 (t:Int),.bool mark,.string ⟨body.toArray⟩,.bool false] 199)) v (.slice (some ⟨Y.heap.size,0,none⟩) 1 1)).1=.slice (some ⟨gg,0,none⟩) (l.length+1) cap /\
  (appR Tryz.prog 76 76 (Y.alloc (.cells #[.string ⟨key.toArray⟩,.int .i64 ((nn:Nat):Int),.int .i64 (t:Int),.bool mark,.string ⟨body.toArray⟩,.bool false] 199)) v (.slice (some ⟨Y.heap.size,0,none⟩) 1 1)).2=w2 /\
  w2.ownsRow 0 199 6 (.slice (some ⟨gg,0,none⟩) (l.length+1) cap) (l.length+1) (itmRow (l++[⟨key,nn,t,mark,body,false⟩]))/\(v.ownBlock=some gg\/Y.heap.size<=gg)/\Off (fun k=>v.ownBlock=some k) Y w2:=by
 obtain⟨i0,hi0,hz0,hz1,hz2⟩:=info_parts infoItm
 obtain⟨gg,cap,w2,hrun,hown1,hgrow,hat,hlt2⟩:=run_append_lies (P:=Tryz.prog) (Y.alloc (.cells #[.string ⟨key.toArray⟩,.int .i64 ((nn:Nat):Int),.int .i64 (t:Int),.bool mark,.string ⟨body.toArray⟩,.bool false] 199)) 76 76 0 199 i0 _ 6 64 Tryz.underlying76 hi0 hz0 hz1 hz2 rfl (by omega) v l.length (itmRow l) (World.ownsRow.alloc hr _)
  ⟨Y.heap.size,0,none⟩ 1 1 [.string ⟨key.toArray⟩,.int .i64 ((nn:Nat):Int),.int .i64 (t:Int),.bool mark,.string ⟨body.toArray⟩,.bool false] (by rfl) (World.news_of_block (cs:=#[.string ⟨key.toArray⟩,.int .i64 ((nn:Nat):Int),.int .i64 (t:Int),.bool mark,.string ⟨body.toArray⟩,.bool false]) (t:=199) (fr:=(0,0)) (heap_alloc_new Y _)) (by simp[Value.oneCell'])
  (by omega) (by simp only[maxLen];omega) (by omega) (by simp) _ rfl
 obtain⟨hok,hr1,hr2⟩:=app_is hrun
 refine⟨gg,cap,w2,hok,hr1,hr2,?_,?_,((Off.refl _ _).alloc _).grown hgrow (fun k hk=>Or.inl hk)⟩
 ·have e1:itmRow l++[.string ⟨key.toArray⟩,.int .i64 ((nn:Nat):Int),.int .i64 (t:Int),.bool mark,.string ⟨body.toArray⟩,.bool false]=itmRow (l++[⟨key,nn,t,mark,body,false⟩]):=by simp[itmRow,itmCells]
  rw[<- e1]
  exact hown1
 ·rcases hat with h1|h1
  ·exact Or.inl h1
  ·right
   have h2:gg=Y.heap.size+1:=by rw[h1];simp
   omega
theorem refCome_any (p t:Nat)(l:List Itm)(J:List UInt8)(vs:Value)(key:List UInt8)(mark:Bool)(body:List UInt8)(w:World)(h:RefAt w p t l J vs)(hl:l.length+1<1000000000000)(hJ:J.length<=900000000000000)(ht:t<4611686018427387904)(hn:lastF key l<1000000000000)(hk:key.length<=1000)(hb:body.length<=1000) :
 Calls Tryz.prog 165 #[.pointer (some ⟨p,0,none⟩),.string ⟨key.toArray⟩,.bool mark,.string ⟨body.toArray⟩] w fun e w'=>e=.returned (.int .i64 ((lastF key l+1:Nat):Int))/\∃ vs',RefAt w' p t (l++[⟨key,lastF key l+1,t,mark,body,false⟩]) (J++recF (if mark then 2 else 1) t key (lastF key l+1) body) vs'/\(∀ g,vs'.ownBlock=some g->vs.ownBlock=some g\/w.heap.size<=g)/\Off (fun k=>k=p\/vs.ownBlock=some k) w w':=by
 have HA:Hid _:=h.apart
 have HR:Hid _:=h
 have HLA:Hid _:=refLast_any p t l J vs key w h
 have hrD:=row_below h.row (Below.refl w.heap.size w).drew
 obtain⟨nn,hnn⟩:∃ n,lastF key l+1=n:=⟨_,rfl⟩
 have hnI:((lastF key l:Nat):Int)+1=(nn:Int):=by omega
 have hla:lastF key l<1000000000000:=hn
 rw[hnn] at ⊢
 obtain⟨gg,cap,w2,hok,hr1,hr2,hown,hgs,hO2⟩:=irow_app w.drew vs l key body nn t mark hrD (by omega)
 rw[show w.drew.heap.size=w.heap.size from rfl,show w.drew.alloc (.cells #[.string ⟨key.toArray⟩,.int .i64 ((nn:Nat):Int),.int .i64 (t:Int),.bool mark,.string ⟨body.toArray⟩,.bool false] 199)=(w.alloc (.cells #[.string ⟨key.toArray⟩,.int .i64 ((nn:Nat):Int),.int .i64 (t:Int),.bool mark,.string ⟨body.toArray⟩,.bool false] 199)).drew from rfl] at hok hr1 hr2
 have hpl:=h.lt
 have d0:=h.c0
 have d1:=h.c1
 have hgp:gg≠p:=fun e=>by
  rcases hgs with h1|h1
  ·exact HA.out (by rw[<- e];exact h1)
  ·have:w.heap.size<=gg:=h1
   omega
 have hp2:w2.heap[p]?=_:=(hO2.block p hpl HA.out).trans h.blk
 have e0:w2.cell? ⟨p,0,none⟩=some (.int .i64 t):=by simp[World.cell?,hp2]
 have e1:w2.cell? ⟨p,1,none⟩=some vs:=by simp[World.cell?,hp2]
 have ef:w2.frozen? ⟨p,1,none⟩=false:=by simp[World.frozen?,hp2]
 have aD:(w.drew.alloc (.cells #[.string ⟨key.toArray⟩,.int .i64 ((nn:Nat):Int),.int .i64 (t:Int),.bool mark,.string ⟨body.toArray⟩,.bool false] 199)).cell? ⟨p,0,none⟩=some (.int .i64 t):=((((Below.refl w.heap.size w).drew).alloc (Nat.le_refl _) (.cells #[.string ⟨key.toArray⟩,.int .i64 ((nn:Nat):Int),.int .i64 (t:Int),.bool mark,.string ⟨body.toArray⟩,.bool false] 199)).cell (p:=⟨p,0,none⟩) hpl).trans d0
 have aD1:(w.drew.alloc (.cells #[.string ⟨key.toArray⟩,.int .i64 ((nn:Nat):Int),.int .i64 (t:Int),.bool mark,.string ⟨body.toArray⟩,.bool false] 199)).cell? ⟨p,1,none⟩=some vs:=((((Below.refl w.heap.size w).drew).alloc (Nat.le_refl _) (.cells #[.string ⟨key.toArray⟩,.int .i64 ((nn:Nat):Int),.int .i64 (t:Int),.bool mark,.string ⟨body.toArray⟩,.bool false] 199)).cell (p:=⟨p,1,none⟩) hpl).trans d1
 have HX:Hid (RefAt (w2.setCell ⟨p,1,none⟩ (.slice (some ⟨gg,0,none⟩) (l.length+1) cap)) p t (l++[⟨key,nn,t,mark,body,false⟩]) J (.slice (some ⟨gg,0,none⟩) (l.length+1) cap)):=by
  refine⟨heap_set hp2,?_,by simp;omega⟩
  rw[List.length_append]
  refine⟨hown.1,?_⟩
  rcases hown.2 with ⟨h0,_⟩|⟨g',cap',cur,hv,h1,hgg,h2⟩
  ·cases h0
  ·refine Or.inr ⟨g',cap',cur,hv,h1,?_,h2⟩
   cases hv
   rw[<- hgg]
   simp[World.setCell,Array.getElem?_modify,hgp.symm]
 have HO:Hid (Off (fun k=>k=p\/vs.ownBlock=some k) w (w2.setCell ⟨p,1,none⟩ (.slice (some ⟨gg,0,none⟩) (l.length+1) cap))) :=
  (((Off.refl (fun k=>k=p\/vs.ownBlock=some k) w).drew).trans (hO2.mono (fun k hk=>Or.inr hk))).set p _ _ (Or.inl (Or.inl rfl))
 have HGS:Hid (vs.ownBlock=some gg\/w.heap.size<=gg):=hgs
 have hS3:(w2.setCell ⟨p,1,none⟩ (.slice (some ⟨gg,0,none⟩) (l.length+1) cap)).cell? ⟨p,0,none⟩=some (.int .i64 t):=HX.out.c0
 obtain⟨kd,hkd⟩:∃ k:Nat,(if mark then 2 else 1)=k:=⟨_,rfl⟩
 have hkl:kd<=2:=by rw[<- hkd];split<;>omega
 have HKD:Hid _:=hkd
 have HRC:Hid _:=fun y=>refRecord_any kd t nn key body y (by omega) ht (by omega) hk hb
 have hrl:=recF_len kd t key nn body
 rw[hkd]
 obtain⟨R,hR⟩:∃ R,recF kd t key nn body=R:=⟨_,rfl⟩
 rw[hR] at hrl HRC ⊢
 have ha:=addR J R (by rw[hrl];omega)
 clear h hR hrl hJ hk hb hown hgs hO2 hrD hn hkd hkl
 go_enter Tryz.func165,Tryz.ntmps165
 go_wp2_with fail
 refine Calls.mono HLA.out ?_
 rintro e w' ⟨rfl,hw'⟩
 rw[hw']
 clear hw'
 go_wp2_with fail
 rename_i K2 hK2
 have HK2:Hid _:=hK2
 clear hK2
 refine wp_region_held_drew (S:=fun y=>y.cell? ⟨p,0,none⟩=some (.int .i64 t)) (by kernel_rfl) d0 (fun hHeld=>?_)
 refine tkH 0 rfl (by kernel_rfl) (fun _ _ _ h=>h) (Or.inl ⟨by rfl,fun y hSw=>by go_simp;try with_reducible rfl⟩) hHeld ?_
 try simp only[Act.put]
 refine tkH 1 rfl (by kernel_rfl) (fun _ _ _ h=>h) (Or.inl ⟨by rfl,fun y hSw=>by go_simp;try with_reducible rfl⟩) hHeld ?_
 try simp only[Act.put]
 refine tkH 2 rfl (by kernel_rfl) (fun _ _ _ h=>h) (Or.inl ⟨by rfl,fun y hSw=>by go_simp;try with_reducible rfl⟩) hHeld ?_
 try simp only[Act.put]
 refine tkH 3 rfl (by kernel_rfl) (fun _ _ _ h=>h) (Or.inl ⟨by rfl,fun y hSw=>by go_simp;try with_reducible rfl⟩) hHeld ?_
 try simp only[Act.put]
 refine tkH 5 rfl (by kernel_rfl) (fun _ _ _ h=>h) (Or.inl ⟨by rfl,fun y hSw=>by go_simp;try with_reducible rfl⟩) hHeld ?_
 try simp only[Act.put]
 refine tkH 6 rfl (by kernel_rfl) (fun _ _ _ h=>h) (Or.inl ⟨by rfl,fun y hSw=>by go_simp;try with_reducible rfl⟩) hHeld ?_
 try simp only[Act.put]
 refine tkH 7 rfl (by kernel_rfl) (fun _ _ _ h=>h) (Or.inl ⟨by rfl,fun y hSw=>by go_simp;try with_reducible rfl⟩) hHeld ?_
 try simp only[Act.put]
 refine tkH 8 rfl (by kernel_rfl) (fun _ _ _ h=>h) (Or.inl ⟨by rfl,fun y hSw=>by go_simp;try with_reducible rfl⟩) hHeld ?_
 try simp only[Act.put]
 refine tkH 9 rfl (by kernel_rfl) (fun _ _ _ h=>h) (Or.inl ⟨by rfl,fun y hSw=>by go_simp;try with_reducible rfl⟩) hHeld ?_
 try simp only[Act.put]
 refine tkH 10 rfl (by kernel_rfl) (fun _ _ _ h=>h) (Or.inl ⟨by rfl,fun y hSw=>by go_simp;try with_reducible rfl⟩) hHeld ?_
 try simp only[Act.put]
 refine tkH 11 rfl (by kernel_rfl) (fun _ _ _ h=>h) (Or.inl ⟨by rfl,fun y hSw=>by go_simp;try with_reducible rfl⟩) hHeld ?_
 try simp only[Act.put]
 refine tkH 12 rfl (by kernel_rfl) (fun _ _ _ h=>h) (Or.inl ⟨by rfl,fun y hSw=>by go_simp;try with_reducible rfl⟩) hHeld ?_
 try simp only[Act.put]
 refine tkH 13 rfl (by kernel_rfl) (fun _ _ _ h=>h) (Or.inl ⟨by rfl,fun y hSw=>by go_simp;try with_reducible rfl⟩) hHeld ?_
 try simp only[Act.put]
 refine wpAnyH_ready (rs:=[4,14]) (by kernel_rfl) (by simp) ?_
 refine AllReadyH.cons rfl (fun K hK=>?_) (AllReadyH.cons rfl (fun K hK=>?_) AllReadyH.nil)
 go_simp
 refine hK.out _ _ hHeld (fun _=>?_)
 clear hK K
 try simp only[Act.put]
 refine wpAnyH_ready (rs:=[14]) (by kernel_rfl) (by simp) ?_
 refine AllReadyH.cons rfl (fun K hK=>?_) AllReadyH.nil
 go_simp
 refine hK.out _ _ aD (fun hH1=>?_)
 clear hK K
 try simp only[Act.put]
 refine wpAnyH_ready (rs:=[15]) (by kernel_rfl) (by simp) ?_
 refine AllReadyH.cons rfl (fun K hK=>?_) AllReadyH.nil
 go_simp
 refine hK.out _ _ e0 (fun hH2=>?_)
 clear hK K
 try simp only[Act.put]
 refine tkH 16 rfl (by kernel_rfl) (fun _ _ _ h=>h) (Or.inl ⟨by rfl,fun y hSw=>by go_simp;try with_reducible rfl⟩) hH2 ?_
 try simp only[Act.put]
 refine tkH 17 rfl (by kernel_rfl) (fun _ _ _ h=>h) (Or.inl ⟨by rfl,fun y hSw=>by go_simp;try with_reducible rfl⟩) hH2 ?_
 try simp only[Act.put]
 refine wpAnyH_ready (rs:=[18]) (by kernel_rfl) (by simp) ?_
 refine AllReadyH.cons rfl (fun K hK=>?_) AllReadyH.nil
 go_simp
 refine hK.out _ _ hS3 (fun _=>?_)
 clear hK K
 try simp only[Act.put]
 refine wpAnyH_done (by kernel_rfl) ?_ _
 refine HK2.out _ _ ?_
 rotate_left
 go_simp
 refine hK.out _ _ aD (fun hH1=>?_)
 clear hK K
 try simp only[Act.put]
 refine wpAnyH_ready (rs:=[4]) (by kernel_rfl) (by simp) ?_
 refine AllReadyH.cons rfl (fun K hK=>?_) AllReadyH.nil
 go_simp
 refine hK.out _ _ aD (fun _=>?_)
 clear hK K
 try simp only[Act.put]
 refine wpAnyH_ready (rs:=[15]) (by kernel_rfl) (by simp) ?_
 refine AllReadyH.cons rfl (fun K hK=>?_) AllReadyH.nil
 go_simp
 refine hK.out _ _ e0 (fun hH2=>?_)
 clear hK K
 try simp only[Act.put]
 refine tkH 16 rfl (by kernel_rfl) (fun _ _ _ h=>h) (Or.inl ⟨by rfl,fun y hSw=>by go_simp;try with_reducible rfl⟩) hH2 ?_
 try simp only[Act.put]
 refine tkH 17 rfl (by kernel_rfl) (fun _ _ _ h=>h) (Or.inl ⟨by rfl,fun y hSw=>by go_simp;try with_reducible rfl⟩) hH2 ?_
 try simp only[Act.put]
 refine wpAnyH_ready (rs:=[18]) (by kernel_rfl) (by simp) ?_
 refine AllReadyH.cons rfl (fun K hK=>?_) AllReadyH.nil
 go_simp
 refine hK.out _ _ hS3 (fun _=>?_)
 clear hK K
 try simp only[Act.put]
 refine wpAnyH_done (by kernel_rfl) ?_ _
 refine HK2.out _ _ ?_
 all_goals
  obtain⟨x,hx⟩:∃ x,w2.setCell ⟨p,1,none⟩ (.slice (some ⟨gg,0,none⟩) (l.length+1) cap)=x:=⟨_,rfl⟩
  rw[hx] at HX HO ⊢
  have y0:=HX.out.c0
  have y2:=HX.out.c2
  have hxl:=HX.out.lt
  have HFIN:Hid (∀ y,Below x.heap.size x y->RefAt (y.setCell ⟨p,2,none⟩ (.string ⟨(J++R).toArray⟩)) p t (l++[⟨key,nn,t,mark,body,false⟩]) (J++R) (.slice (some ⟨gg,0,none⟩) (l.length+1) cap)/\Off (fun k=>k=p\/vs.ownBlock=some k) w (y.setCell ⟨p,2,none⟩ (.string ⟨(J++R).toArray⟩))/\y.cell? ⟨p,2,none⟩=some (.string ⟨J.toArray⟩)/\y.frozen? ⟨p,2,none⟩=false):=fun y hy=>by
   have hr:=HX.out.below hy
   refine⟨⟨heap_set hr.blk,?_,hr.few⟩,(HO.out.trans (Off.of_below hy)).set p _ _ (Or.inl (Or.inl rfl)),hr.c2,by simp[World.frozen?,hr.blk]⟩
   have hrow:=hr.row
   refine⟨hrow.1,?_⟩
   rcases hrow.2 with h0|⟨g',cap',cur,hv,h1,hgg,h2⟩
   ·exact Or.inl h0
   ·refine Or.inr ⟨g',cap',cur,hv,h1,?_,h2⟩
    have e:g'=gg:=by
     injection hv with q1
     injection q1 with q2
     injection q2 with q3
     exact q3.symm
    rw[<- hgg,e]
    simp[World.setCell,Array.getElem?_modify,hgp.symm]
  clear hx HX HO hr1 hr2 hok e0 e1 ef aD aD1 hS3 d0 d1 hp2 HK2 hnI
  cases mark
  all_goals
   have hkk:=HKD.out
   simp only[Bool.false_eq_true,if_false,if_true] at hkk
   subst hkk
   go_wp2_with fail
   rename_i K6 hK6
   have HK6:Hid _:=hK6
   clear hK6
   refine wp_region_held_drew (S:=fun y=>y.cell? ⟨p,0,none⟩=some (.int .i64 t)) (by kernel_rfl) y0 (fun hHeld=>?_)
   refine tkH 0 rfl (by kernel_rfl) (fun _ _ _ h=>h) (Or.inl ⟨by rfl,fun y hSw=>by go_simp;try with_reducible rfl⟩) hHeld ?_
   try simp only[Act.put]
   refine tkH 1 rfl (by kernel_rfl) (fun _ _ _ h=>h) (Or.inl ⟨by rfl,fun y hSw=>by go_simp;try with_reducible rfl⟩) hHeld ?_
   try simp only[Act.put]
   refine tkH 2 rfl (by kernel_rfl) (fun _ _ _ h=>h) (Or.inl ⟨by rfl,fun y hSw=>by go_simp;try with_reducible rfl⟩) hHeld ?_
   try simp only[Act.put]
   refine tkH 3 rfl (by kernel_rfl) (fun _ _ _ h=>h) (Or.inl ⟨by rfl,fun y hSw=>by go_simp;try with_reducible rfl⟩) hHeld ?_
   try simp only[Act.put]
   refine tkH 5 rfl (by kernel_rfl) (fun _ _ _ h=>h) (Or.inl ⟨by rfl,fun y hSw=>by go_simp;try with_reducible rfl⟩) hHeld ?_
   try simp only[Act.put]
   refine tkH 6 rfl (by kernel_rfl) (fun _ _ _ h=>h) (Or.inl ⟨by rfl,fun y hSw=>by go_simp;try with_reducible rfl⟩) hHeld ?_
   try simp only[Act.put]
   refine tkH 7 rfl (by kernel_rfl) (fun _ _ _ h=>h) (Or.inl ⟨by rfl,fun y hSw=>by go_simp;try with_reducible rfl⟩) hHeld ?_
   try simp only[Act.put]
   refine tkH 8 rfl (by kernel_rfl) (fun _ _ _ h=>h) (Or.inl ⟨by rfl,fun y hSw=>by go_simp;try with_reducible rfl⟩) hHeld ?_
   try simp only[Act.put]
   refine tkH 9 rfl (by kernel_rfl) (fun _ _ _ h=>h) (Or.inl ⟨by rfl,fun y hSw=>by go_simp;try with_reducible rfl⟩) hHeld ?_
   try simp only[Act.put]
   refine tkH 10 rfl (by kernel_rfl) (fun _ _ _ h=>h) (Or.inl ⟨by rfl,fun y hSw=>by go_simp;try with_reducible rfl⟩) hHeld ?_
   try simp only[Act.put]
   refine tkH 11 rfl (by kernel_rfl) (fun _ _ _ h=>h) (Or.inl ⟨by rfl,fun y hSw=>by go_simp;try with_reducible rfl⟩) hHeld ?_
   try simp only[Act.put]
   refine tkH 12 rfl (by kernel_rfl) (fun _ _ _ h=>h) (Or.inl ⟨by rfl,fun y hSw=>by go_simp;try with_reducible rfl⟩) hHeld ?_
   try simp only[Act.put]
   refine wpAnyH_ready (rs:=[4,13]) (by kernel_rfl) (by simp) ?_
   refine AllReadyH.cons rfl (fun K hK=>?_) (AllReadyH.cons rfl (fun K hK=>?_) AllReadyH.nil)
   ·go_simp
    refine hK.out _ _ hHeld (fun _=>?_)
    clear hK K
    try simp only[Act.put]
    refine wpAnyH_ready (rs:=[13]) (by kernel_rfl) (by simp) ?_
    refine AllReadyH.cons rfl (fun K hK=>?_) AllReadyH.nil
    go_simp
    refine Calls.mono (HRC.out _) ?_
    rintro e w1 ⟨rfl,hb1⟩
    have hB1:Below x.heap.size x w1:=(Below.refl _ _).drew.trans hb1
    have hS1:w1.cell? ⟨p,0,none⟩=some (.int .i64 t):=(hB1.cell (p:=⟨p,0,none⟩) hxl).trans y0
    have HF:Hid _:=HFIN.out w1 hB1
    have z2:=HF.out.2.2.1
    have zf:=HF.out.2.2.2
    try go_wp2_with fail
    refine hK.out _ _ hS1 (fun hH1=>?_)
    clear hK K
    try simp only[Act.put]
    refine wpAnyH_ready (rs:=[14]) (by kernel_rfl) (by simp) ?_
    refine AllReadyH.cons rfl (fun K hK=>?_) AllReadyH.nil
    go_simp
    refine hK.out _ _ hH1 (fun _=>?_)
    clear hK K
    try simp only[Act.put]
    refine tkH 15 rfl (by kernel_rfl) (fun _ _ _ h=>h) (Or.inl ⟨by rfl,fun y hSw=>by go_simp;try with_reducible rfl⟩) hH1 ?_
    try simp only[Act.put]
    refine tkH 16 rfl (by kernel_rfl) (fun _ _ _ h=>h) (Or.inl ⟨by rfl,fun y hSw=>by go_simp;try with_reducible rfl⟩) hH1 ?_
    try simp only[Act.put]
    refine wpAnyH_ready (rs:=[17]) (by kernel_rfl) (by simp) ?_
    refine AllReadyH.cons rfl (fun K hK=>?_) AllReadyH.nil
    go_simp
    refine hK.out _ _ HF.out.1.c0 (fun _=>?_)
    clear hK K
    refine wpAnyH_done (by kernel_rfl) ?_ _
    refine HK6.out _ _ ?_
    go_wp2
    go_ret
    exact⟨rfl,_,HF.out.1,fun g hg=>by cases hg;exact HGS.out,HF.out.2.1⟩
   ·go_simp
    refine Calls.mono (HRC.out _) ?_
    rintro e w1 ⟨rfl,hb1⟩
    have hB1:Below x.heap.size x w1:=(Below.refl _ _).drew.trans hb1
    have hS1:w1.cell? ⟨p,0,none⟩=some (.int .i64 t):=(hB1.cell (p:=⟨p,0,none⟩) hxl).trans y0
    have HF:Hid _:=HFIN.out w1 hB1
    have z2:=HF.out.2.2.1
    have zf:=HF.out.2.2.2
    try go_wp2_with fail
    refine hK.out _ _ hS1 (fun hH1=>?_)
    clear hK K
    try simp only[Act.put]
    refine wpAnyH_ready (rs:=[4]) (by kernel_rfl) (by simp) ?_
    refine AllReadyH.cons rfl (fun K hK=>?_) AllReadyH.nil
    go_simp
    refine hK.out _ _ hH1 (fun _=>?_)
    clear hK K
    try simp only[Act.put]
    refine wpAnyH_ready (rs:=[14]) (by kernel_rfl) (by simp) ?_
    refine AllReadyH.cons rfl (fun K hK=>?_) AllReadyH.nil
    go_simp
    refine hK.out _ _ hH1 (fun _=>?_)
    clear hK K
    try simp only[Act.put]
    refine tkH 15 rfl (by kernel_rfl) (fun _ _ _ h=>h) (Or.inl ⟨by rfl,fun y hSw=>by go_simp;try with_reducible rfl⟩) hH1 ?_
    try simp only[Act.put]
    refine tkH 16 rfl (by kernel_rfl) (fun _ _ _ h=>h) (Or.inl ⟨by rfl,fun y hSw=>by go_simp;try with_reducible rfl⟩) hH1 ?_
    try simp only[Act.put]
    refine wpAnyH_ready (rs:=[17]) (by kernel_rfl) (by simp) ?_
    refine AllReadyH.cons rfl (fun K hK=>?_) AllReadyH.nil
    go_simp
    refine hK.out _ _ HF.out.1.c0 (fun _=>?_)
    clear hK K
    refine wpAnyH_done (by kernel_rfl) ?_ _
    refine HK6.out _ _ ?_
    go_wp2
    go_ret
    exact⟨rfl,_,HF.out.1,fun g hg=>by cases hg;exact HGS.out,HF.out.2.1⟩
end Go.Proofs.YtmehkneofinmiaaGreatDoor
namespace Go.Proofs.YtmehkneofinmiaaGreatDoor
open Go.RowKit
structure RReq where
 tells:Nat
 method:Nat
 target:Nat
 key:List UInt8
 after:List UInt8
 v:Int
 wr:Bool
 hm:Bool
 am:Bool
 lm:Value
 hn:Bool
 an:Bool
 ln:Value
 hs:Bool
 si:Int
 hu:Bool
 ul:Int
 body:List UInt8
def rqCells (r:RReq):Array Value:=#[.int .i64 r.tells,.int .i64 r.method,.int .i64 r.target,.string ⟨r.key.toArray⟩,.string ⟨r.after.toArray⟩,.int .i64 r.v,.bool r.wr,.bool r.hm,.bool r.am,r.lm,.bool r.hn,.bool r.an,r.ln,.bool r.hs,.int .i64 r.si,.bool r.hu,.int .i64 r.ul,.bool false,.string ⟨#[]⟩,.int .i64 0,.string ⟨r.body.toArray⟩]
structure Rst where
 l:List Itm
 J:List UInt8
def putsF (t:Nat)(s:Rst)(key body:List UInt8)(at_:Bool):List UInt8×Rst :=
 if roomF key s.l then (textF (if at_ then 200 else 201) [⟨[69,84,97,103],qTag body⟩,⟨[86,101,114,115,105,111,110],Lib.decDigits (lastF key s.l+1)⟩] [],⟨s.l++[⟨key,lastF key s.l+1,t,false,body,false⟩],s.J++recF 1 t key (lastF key s.l+1) body⟩)
 else (textF 507 [] [],s)
theorem refPuts_any (p t:Nat)(l:List Itm)(J:List UInt8)(vs:Value)(r:RReq)(at_:Int)(w:World)(h:RefAt w p t l J vs)(hT:Tbl w)(hH:∀ k,(k=p\/vs.ownBlock=some k)->High k)(hl:l.length+1<1000000000000)(hJ:J.length<=900000000000000)(ht:t<4611686018427387904)(hn:lastF r.key l<1000000000000)(hk:r.key.length<=1000)(hb:r.body.length<=1000) :
 Calls Tryz.prog 117 #[.pointer (some ⟨p,0,none⟩),.agg (rqCells r),.int .i64 at_] w fun e w'=>e=.returned (.string ⟨(putsF t ⟨l,J⟩ r.key r.body (decide (0<=at_))).1.toArray⟩)/\∃ vs',RefAt w' p t (putsF t ⟨l,J⟩ r.key r.body (decide (0<=at_))).2.l (putsF t ⟨l,J⟩ r.key r.body (decide (0<=at_))).2.J vs'/\(∀ g,vs'.ownBlock=some g->vs.ownBlock=some g\/w.heap.size<=g)/\Off (fun k=>k=p\/vs.ownBlock=some k) w w':=by
 have HR:Hid _:=h
 have HA:Hid _:=h.apart
 have HTT:Hid _:=hT
 have HHH:Hid _:=hH
 have hpl:=h.lt
 have HVL:Hid (∀ g,vs.ownBlock=some g->g<w.heap.size):=fun g hg=>by
  rcases h.row.2 with ⟨h0,_⟩|⟨g',cap,cur,hv,_,hgg,_⟩
  ·rw[h0] at hg
   cases hg
  ·rw[hv] at hg
   cases hg
   exact (Array.getElem?_eq_some_iff.1 hgg).1
 obtain⟨key,hkey⟩:∃ k,r.key=k:=⟨_,rfl⟩
 obtain⟨body,hbody⟩:∃ k,r.body=k:=⟨_,rfl⟩
 have HRC:Hid ((rqCells r).size=21/\(rqCells r)[3]?=some (.string ⟨key.toArray⟩)/\(rqCells r)[20]?=some (.string ⟨body.toArray⟩)):=by rw[<- hkey,<- hbody];exact⟨rfl,rfl,rfl⟩
 rw[hkey] at hn hk ⊢
 rw[hbody] at hb ⊢
 obtain⟨RC,hRC⟩:∃ c,rqCells r=c:=⟨_,rfl⟩
 rw[hRC] at HRC ⊢
 have hRS:=HRC.out.1
 have q3:=HRC.out.2.1
 have q20:=HRC.out.2.2
 have k3:RC[3]'(by omega)=.string ⟨key.toArray⟩:=(Array.getElem?_eq_some_iff.1 q3).2
 have HN:Hid _:=hn
 have HK:Hid _:=hk
 have HBB:Hid _:=hb
 have HL:Hid _:=hl
 have HJJ:Hid _:=hJ
 have HTB:Hid _:=ht
 clear h hT hH hkey hbody hRC hn hk hb hl hJ ht HRC
 go_enter Tryz.func117,Tryz.ntmps117
 go_wp2_with fail
 obtain⟨x,hx⟩:∃ x,w.alloc (.cells RC 130)=x:=⟨_,rfl⟩
 have hbx:Below w.heap.size w x:=by rw[<- hx];exact (Below.refl _ _).alloc (Nat.le_refl _) _
 have HXB:Hid (x.heap[w.heap.size]?=some (.cells RC 130 (0,0))):=by rw[<- hx];exact heap_alloc_new w _
 have hxs:w.heap.size<x.heap.size:=by rw[<- hx];simp
 have HRX:Hid (RefAt x p t l J vs):=HR.out.below hbx
 have HBX:Hid _:=hbx
 rw[hx]
 clear hx hbx HR
 refine Calls.mono (refRoom_any p t l J vs key x HRX.out) ?_
 rintro e w' ⟨rfl,hw'⟩
 rw[hw']
 clear hw'
 cases hro:roomF key l with
 | false =>
   have HP:Hid (putsF t ⟨l,J⟩ key body (decide (0<=at_))=(textF 507 [] [],⟨l,J⟩)):=by
    show _=_
    unfold putsF
    rw[hro]
    rfl
   have HRP:Hid _:=refReply_any 507 [] [] x (HTT.out.below HBX.out).b (by omega) (by simp) (by simp)
   clear hro
   go_wp2_with fail
   refine Calls.mono HRP.out ?_
   rintro e w2 ⟨rfl,hb2⟩
   have HB2:Hid _:=HBX.out.trans (hb2.mono HBX.out.size)
   have HR2:Hid _:=HRX.out.below hb2
   clear hb2
   go_wp2
   go_ret
   rw[HP.out]
   exact⟨ret_str (by simp[textF]),vs,HR2.out,fun g hg=>Or.inl hg,Off.of_below HB2.out⟩
 | true =>
   have HCM:Hid _:=refCome_any p t l J vs key false body x HRX.out HL.out HJJ.out HTB.out HN.out HK.out HBB.out
   obtain⟨nn,hnn⟩:∃ n,lastF key l+1=n:=⟨_,rfl⟩
   have hn1:nn<2000000000000:=by have:=HN.out;omega
   rw[hnn] at HCM
   have HP:Hid (putsF t ⟨l,J⟩ key body (decide (0<=at_))=(textF (if decide (0<=at_) then 200 else 201) [⟨[69,84,97,103],qTag body⟩,⟨[86,101,114,115,105,111,110],Lib.decDigits nn⟩] [],⟨l++[⟨key,nn,t,false,body,false⟩],J++recF 1 t key nn body⟩)):=by
    show _=_
    unfold putsF
    rw[hro,<- hnn]
    rfl
   clear hro hnn
   have x3:x.cell? ⟨w.heap.size,3,none⟩=some (.string ⟨key.toArray⟩):=by simp only[World.cell?,HXB.out];exact q3
   have x20:x.cell? ⟨w.heap.size,20,none⟩=some (.string ⟨body.toArray⟩):=by simp only[World.cell?,HXB.out];exact q20
   clear k3
   go_wp2_with fail
   refine Calls.mono HCM.out ?_
   rintro e w2 ⟨rfl,vs',hR2,hg2,hO2⟩
   have HXB2:Hid (w2.heap[w.heap.size]?=some (.cells RC 130 (0,0))):=by
    show _=_
    rw[<- HXB.out]
    refine hO2.block _ hxs (fun e=>?_)
    rcases e with e|e
    ·omega
    ·have:=HVL.out _ e
     omega
   have y20:w2.cell? ⟨w.heap.size,20,none⟩=some (.string ⟨body.toArray⟩):=by simp only[World.cell?,HXB2.out];exact q20
   have hw2:w.heap.size<w2.heap.size:=Nat.lt_of_lt_of_le hxs hO2.size
   have HT2:Hid (Tbl w2):=(HTT.out.below HBX.out).off hO2 HHH.out
   have hqt:=qTag_len body
   have HQ:Hid _:=fun y=>refQuoted_any body y (by have:=HBB.out;omega)
   have HI:Hid _:=fun y (hy:Below w2.heap.size w2 y)=>itoaN nn y (by omega) (HT2.out.below hy).b
   have hd:=dec_len10 (n:=nn) (k:=13) (by omega) (by omega)
   obtain⟨q,hq⟩:∃ q,qTag body=q:=⟨_,rfl⟩
   obtain⟨D,hD⟩:∃ q,Lib.decDigits nn=q:=⟨_,rfl⟩
   rw[hq] at hqt HQ HP
   rw[hD] at hd HI HP
   have HF1:Hid _:=fun y=>refField_any [69,84,97,103] q y (by simp) (by omega)
   have HF2:Hid _:=fun y=>refField_any [86,101,114,115,105,111,110] D y (by simp) (by omega)
   have l1:(fldText ⟨[69,84,97,103],q⟩).length<=100:=by simp[fldText];omega
   have l2:(fldText ⟨[86,101,114,115,105,111,110],D⟩).length<=100:=by simp[fldText];omega
   have HFL:Hid ([(⟨[69,84,97,103],q⟩:Fld),⟨[86,101,114,115,105,111,110],D⟩].flatMap fldText=fldText ⟨[69,84,97,103],q⟩++fldText ⟨[86,101,114,115,105,111,110],D⟩):=by show _=_;simp
   obtain⟨f1,hf1⟩:∃ f,fldText ⟨[69,84,97,103],q⟩=f:=⟨_,rfl⟩
   obtain⟨f2,hf2⟩:∃ f,fldText ⟨[86,101,114,115,105,111,110],D⟩=f:=⟨_,rfl⟩
   rw[hf1] at HF1 l1 HFL
   rw[hf2] at HF2 l2 HFL
   have ha:=addR f1 f2 (by omega)
   obtain⟨fs,hfs⟩:∃ f,f1++f2=f:=⟨_,rfl⟩
   have l3:fs.length<=200:=by rw[<- hfs,List.length_append];omega
   rw[hfs] at ha HFL
   have HR2:Hid _:=hR2
   have HG2:Hid _:=hg2
   have HO2:Hid _:=hO2
   clear hfs hf1 hf2 hq hD l1 l2 hqt hd hR2 hg2 hO2 x3 x20 HXB HXB2 HCM HRX
   have RPL:Hid (∀ (cd:Nat) (y:World),cd<1000->Below w2.heap.size w2 y->Calls Tryz.prog 55 #[.int .i64 cd,.string ⟨fs.toArray⟩,.string ⟨#[]⟩] y fun e w'=>e=.returned (.string ⟨(Lib.decDigits cd++[13,10]++fs++[13,10]++[]).toArray⟩)/\Below y.heap.size y w'):=fun cd y hc hy=>refReply_any cd fs [] y (HT2.out.below hy).b (by omega) (by omega) (by simp)
   by_cases hat:(0:Int)<=at_
   ·go_wp2_with (first
     | (go_at_call 111;refine Calls.mono (HQ.out _) ?_;rintro e w3 ⟨rfl,hb3⟩)
     | (go_at_call_of 112 (Value.string ⟨q.toArray⟩);refine Calls.mono (HF1.out _) ?_;rintro e w4 ⟨rfl,rfl⟩)
     | (go_at_call 17;refine Calls.mono (HI.out _ hb3) ?_;rintro e w5 ⟨rfl,hb5⟩)
     | (go_at_call_of 112 (Value.string ⟨D.toArray⟩);refine Calls.mono (HF2.out _) ?_;rintro e w6 ⟨rfl,rfl⟩)
     | (go_at_call 55;refine Calls.mono (RPL.out 200 _ (by omega) (hb3.trans (hb5.mono hb3.size))) ?_;rintro e w7 ⟨rfl,hb7⟩))
    have hb37:=(hb3.trans (hb5.mono hb3.size)).trans (hb7.mono (hb3.trans (hb5.mono hb3.size)).size)
    go_ret
    rw[HP.out]
    refine⟨ret_str (by simp[textF,HFL.out,decide_eq_true hat]),vs',HR2.out.below hb37,fun g hg=>(HG2.out g hg).imp id (fun h=>Nat.le_trans HBX.out.size h),?_⟩
    exact ((Off.of_below HBX.out).trans HO2.out).trans (Off.of_below hb37)
   ·go_wp2_with (first
     | (go_at_call 111;refine Calls.mono (HQ.out _) ?_;rintro e w3 ⟨rfl,hb3⟩)
     | (go_at_call_of 112 (Value.string ⟨q.toArray⟩);refine Calls.mono (HF1.out _) ?_;rintro e w4 ⟨rfl,rfl⟩)
     | (go_at_call 17;refine Calls.mono (HI.out _ hb3) ?_;rintro e w5 ⟨rfl,hb5⟩)
     | (go_at_call_of 112 (Value.string ⟨D.toArray⟩);refine Calls.mono (HF2.out _) ?_;rintro e w6 ⟨rfl,rfl⟩)
     | (go_at_call 55;refine Calls.mono (RPL.out 201 _ (by omega) (hb3.trans (hb5.mono hb3.size))) ?_;rintro e w7 ⟨rfl,hb7⟩))
    have hb37:=(hb3.trans (hb5.mono hb3.size)).trans (hb7.mono (hb3.trans (hb5.mono hb3.size)).size)
    go_ret
    rw[HP.out]
    refine⟨ret_str (by simp[textF,HFL.out,decide_eq_false (p:=(0:Int)<=at_) (by omega)]),vs',HR2.out.below hb37,fun g hg=>(HG2.out g hg).imp id (fun h=>Nat.le_trans HBX.out.size h),?_⟩
    exact ((Off.of_below HBX.out).trans HO2.out).trans (Off.of_below hb37)
def fitR (m tg:Nat):Bool:=m==1||(if m=3 then tg==2 else (tg==2||tg==4))
theorem refFits_any (g:Nat)(RC:Array Value)(m tg:Nat)(w:World)(h:w.heap[g]?=some (.cells RC 130 (0,0)))(h1:RC[1]?=some (.int .i64 (m:Int)))(h2:RC[2]?=some (.int .i64 (tg:Int))) :
 Calls Tryz.prog 108 #[.pointer (some ⟨g,0,none⟩)] w fun e w'=>e=.returned (.bool (fitR m tg))/\w'=w:=by
 have c1:w.cell? ⟨g,1,none⟩=some (.int .i64 (m:Int)):=by simp only[World.cell?,h];exact h1
 have c2:w.cell? ⟨g,2,none⟩=some (.int .i64 (tg:Int)):=by simp only[World.cell?,h];exact h2
 have hg:=(Array.getElem?_eq_some_iff.1 h).1
 clear h h1 h2
 obtain⟨V,hV⟩:∃ V,fitR m tg=V:=⟨_,rfl⟩
 have HV:Hid _:=hV
 rw[hV]
 clear hV
 by_cases m1:m=1
 ·have m1I:(m:Int)=1:=by omega
  have HX:Hid (V=true):=by rw[<- HV.out,m1];rfl
  go_enter Tryz.func108,Tryz.ntmps108
  go_wp2
  all_goals go_ret
  all_goals exact⟨ret_bool HX.out.symm,rfl⟩
 ·have m1I:¬ (m:Int)=1:=by omega
  by_cases m3:m=3
  ·have m3I:(m:Int)=3:=by omega
   have HX:Hid (V=(tg==2)):=by show _=_;rw[<- HV.out];simp[fitR,m3]
   go_enter Tryz.func108,Tryz.ntmps108
   go_wp2
   all_goals go_ret
   all_goals refine⟨ret_bool ?_,rfl⟩
   all_goals (rw[HX.out,Bool.eq_iff_iff];simp_all)
   all_goals omega
  ·have m3I:¬ (m:Int)=3:=by omega
   have HX:Hid (V=(tg==2||tg==4)):=by show _=_;rw[<- HV.out];simp[fitR,m1,m3]
   go_enter Tryz.func108,Tryz.ntmps108
   go_wp2
   all_goals go_ret
   all_goals refine⟨ret_bool ?_,rfl⟩
   all_goals (rw[HX.out,Bool.eq_iff_iff];simp_all)
   all_goals omega
theorem refNew_no (x:Int)(w:World)(hx:x<1\/8<x) :
 Calls Tryz.prog 29 #[.int .i64 x] w fun e w'=>e=.returned (.tuple #[.pointer none,.int .i64 1])/\w'=w:=by
 by_cases h1:x<1
 ·clear hx
  go_enter Tryz.func29,Tryz.ntmps29
  go_wp2
  all_goals exact bodyPost_ret (results_tmp2 Tryz.results29 _ _ _) rfl ⟨rfl,rfl⟩
 ·have h8:8<x:=hx.resolve_left h1
  clear hx
  go_enter Tryz.func29,Tryz.ntmps29
  go_wp2
  all_goals exact bodyPost_ret (results_tmp2 Tryz.results29 _ _ _) rfl ⟨rfl,rfl⟩
theorem refNew_yes (x:Int)(w:World)(h1:1<=x)(h8:x<=8) :
 Calls Tryz.prog 29 #[.int .i64 x] w fun e w'=>∃ p,e=.returned (.tuple #[.pointer (some ⟨p,0,none⟩),.int .i64 0])/\RefAt w' p 0 [] [] (.slice none 0 0)/\w.heap.size<=p/\Below w.heap.size w w':=by
 have a1:¬ x<1:=by omega
 have a8:¬ 8<x:=by omega
 go_enter Tryz.func29,Tryz.ntmps29
 go_wp2
 exact bodyPost_ret (results_tmp2 Tryz.results29 _ _ _) rfl ⟨w.heap.size,rfl,⟨heap_alloc_new w _,⟨rfl,Or.inl ⟨rfl,rfl⟩⟩,by simp⟩,Nat.le_refl _,(Below.refl _ _).alloc (Nat.le_refl _) _⟩
theorem refInKey_any (c:Int)(w:World):Calls Tryz.prog 162 #[.int .u8 c] w fun e w'=>e=.returned (.bool (keyI c))/\w'=w:=by
 go_enter Tryz.func162,Tryz.ntmps162
 go_wp2
 all_goals go_ret
 all_goals refine⟨ret_bool ?_,rfl⟩
 all_goals (rw[Bool.eq_iff_iff];simp_all [keyI,nameI,digI])
 all_goals omega
theorem refKey_any (s:ByteArray)(w:World)(hs:s.size<=9223372036854775807) :
 Calls Tryz.prog 102 #[.string s] w fun e w'=>e=.returned (.bool (keyOK s.data.toList))/\w'=w:=by
 have HZ:Hid (s.size=s.data.toList.length):=Lib.size_eq s
 go_enter Tryz.func102,Tryz.ntmps102
 go_wp2
 go_loop [3] (fun i=>∃ k:Nat,k<=s.size/\i=.int .i64 k/\Hid ((s.data.toList.take k).all keyB=true)) (fun i=>s.size-(intOf i).toNat)
 case atStart=>exact⟨0,Nat.zero_le _,rfl,rfl⟩
 case round =>
  obtain⟨k,hk,rfl,ha⟩:=hrel
  by_cases hlt:k<s.size
  ·have HA:Hid ((s.data.toList.take (k+1)).all keyB=keyB s[k]):=by
    have:=ha.out
    show _=_
    rw[take_snoc s k hlt,List.all_append,this];simp
   cases hb:keyB s[k] with
   | false =>
     have HN:Hid (keyOK s.data.toList=false):=by
      show _=_
      unfold keyOK
      have:s.data.toList.all keyB=false:=by
       rw[List.all_eq_false]
       exact⟨s[k],List.getElem_mem (l:=s.data.toList) (by simpa using hlt),by simp[hb]⟩
      rw[this,Bool.and_false,Bool.and_false]
     have hbI:keyI (s[k].toNat:Int)=false:=hb
     clear hb
     go_wp2_with (go_at_call 162;refine (refInKey_any _ _).mono ?_;rintro e w' ⟨rfl,rfl⟩;rw[hbI])
     go_ret
     exact⟨ret_bool HN.out.symm,rfl⟩
   | true =>
     have hbI:keyI (s[k].toNat:Int)=true:=hb
     have HA2:Hid ((s.data.toList.take (k+1)).all keyB=true):=HA.out.trans hb
     clear hb HA
     go_wp2_with (go_at_call 162;refine (refInKey_any _ _).mono ?_;rintro e w' ⟨rfl,rfl⟩;rw[hbI])
     exact⟨⟨k+1,by omega,by go_num,HA2⟩,by simp[intOf];omega⟩
  ·have HF:Hid (keyOK s.data.toList=(decide (1<=(s.size:Int))&&decide ((s.size:Int)<=40))):=by
    have h1:=ha.out
    rw[List.take_of_length_le (by rw[<- HZ.out];omega)] at h1
    show _=_
    unfold keyOK
    rw[h1,Bool.and_true,<- HZ.out]
    have h2:s.data.toList.isEmpty=decide (s.size=0):=by
     rw[HZ.out]
     cases s.data.toList<;>simp
    rw[h2]
    by_cases h0:s.size=0
    ·simp[h0]
    ·have:decide (1<=(s.size:Int))=true:=decide_eq_true (by omega)
     rw[this,decide_eq_false h0]
     simp only[Bool.not_false,Bool.true_and]
     exact decide_eq_decide.mpr (by omega)
   go_wp2
   all_goals go_ret
   all_goals refine⟨ret_bool ?_,rfl⟩
   all_goals (rw[HF.out];simp_all)
   all_goals omega
end Go.Proofs.YtmehkneofinmiaaGreatDoor

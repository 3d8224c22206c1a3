/-
 Texts of this proof, part 47.
-/
import Derived.Test.YtmehkneofinmiaaGreatDoorP46
set_option maxRecDepth 100000
set_option maxHeartbeats 4000000
namespace Go.Proofs.YtmehkneofinmiaaGreatDoor
open Go.RowKit
theorem allAsk (wt:Bool)(c:Cst)(h1:c.lm.oneCell'=true)(h2:c.ln.oneCell'=true):(askA wt c).all (·.oneCell')=true:=by
 rw[Array.all_eq_true]
 intro i hi
 have hs:(askA wt c).size=14:=rfl
 rcases (by omega:i=3\/i=6\/i=0\/i=1\/i=2\/i=4\/i=5\/i=7\/i=8\/i=9\/i=10\/i=11\/i=12\/i=13) with h|h|h|h|h|h|h|h|h|h|h|h|h|h<;>subst h
 ·exact h1
 ·exact h2
 all_goals rfl
theorem kf0 {t:Nat}{s:Rst}{m:Nat}{tg:TgR}{k:Cnd}{body:List UInt8}{wt:Bool}{o:Option Ver}{F:List UInt8×Rst}(hw:(m==3||m==4)=wt)(ho:atV s.l tg.tg tg.key tg.v=o)(hF:keyedF t s m tg k body=F)(h:condF wt k o≠0):F=(textF (condF wt k o) [] [],s):=by
 rw[<- hF]
 unfold keyedF
 rw[hw,ho,if_pos h]
theorem kf3 {t:Nat}{s:Rst}{m:Nat}{tg:TgR}{k:Cnd}{body:List UInt8}{wt:Bool}{o:Option Ver}{F:List UInt8×Rst}{A W:Option Nat}(hw:(m==3||m==4)=wt)(ho:atV s.l tg.tg tg.key tg.v=o)(ha:atR s.l tg.tg tg.key tg.v=(A,W))(hF:keyedF t s m tg k body=F)(h:condF wt k o=0)(hm:m=3):F=putsF t s tg.key body A.isSome:=by
 rw[<- hF]
 unfold keyedF
 rw[hw,ho,if_neg (by rw[h];simp),if_pos hm,ha]
theorem kf4 {t:Nat}{s:Rst}{m:Nat}{tg:TgR}{k:Cnd}{body:List UInt8}{wt:Bool}{o:Option Ver}{F:List UInt8×Rst}{A W:Option Nat}(hw:(m==3||m==4)=wt)(ho:atV s.l tg.tg tg.key tg.v=o)(ha:atR s.l tg.tg tg.key tg.v=(A,W))(hF:keyedF t s m tg k body=F)(h:condF wt k o=0)(hm:m=4):F=delsF t s (decide (tg.tg=4)) tg.key tg.v.toNat A.isSome W:=by
 rw[<- hF]
 unfold keyedF
 rw[hw,ho,if_neg (by rw[h];simp),if_neg (by omega),if_pos hm,ha]
theorem kfn {t:Nat}{s:Rst}{m:Nat}{tg:TgR}{k:Cnd}{body:List UInt8}{wt:Bool}{F:List UInt8×Rst}(hw:(m==3||m==4)=wt)(ho:atV s.l tg.tg tg.key tg.v=none)(hF:keyedF t s m tg k body=F)(h:condF wt k none=0)(h3:¬ m=3)(h4:¬ m=4):F=(textF 404 [] [],s):=by
 rw[<- hF]
 unfold keyedF
 rw[hw,ho,if_neg (by rw[h];simp),if_neg h3,if_neg h4]
theorem kfs {t:Nat}{s:Rst}{m:Nat}{tg:TgR}{k:Cnd}{body:List UInt8}{wt:Bool}{v:Ver}{F:List UInt8×Rst}(hw:(m==3||m==4)=wt)(ho:atV s.l tg.tg tg.key tg.v=some v)(hF:keyedF t s m tg k body=F)(h:condF wt k (some v)=0)(h3:¬ m=3)(h4:¬ m=4):F=(textF 200 (verFlds v (stampL v.time)) (if m=2 then [] else v.body),s):=by
 rw[<- hF]
 unfold keyedF
 rw[hw,ho,if_neg (by rw[h];simp),if_neg h3,if_neg h4]
theorem keyed_A (p t:Nat)(l:List Itm)(J:List UInt8)(vs:Value)(m:Nat)(tg:TgR)(c:Cst)(k:Cnd)(body:List UInt8)(g v:Nat)(w:World)(h:KeyH w p t l J vs tg c k body g v)(h4:¬ tg.tg=4)(hs:someF tg.key l=none) :
 Calls Tryz.prog 58 #[.pointer (some ⟨p,0,none⟩),.agg (rqCells (okRq m tg c body))] w (RPost w p t vs (keyedF t ⟨l,J⟩ m tg k body)):=by
 have hat:atR l tg.tg tg.key tg.v=(none,none):=by unfold atR;rw[if_neg h4,hs]
 have HAV:Hid (atV l tg.tg tg.key tg.v=none):=by show _=_;unfold atV;rw[hat];rfl
 have HAT:Hid _:=hat
 clear hat
 have HH:Hid _:=h
 have hpl:=h.ref.lt
 have HC:Hid _:=okRq_cells m tg c body
 obtain⟨F,hF⟩:∃ F,keyedF t ⟨l,J⟩ m tg k body=F:=⟨_,rfl⟩
 have HF:Hid _:=hF
 rw[hF]
 clear hF
 obtain⟨wt,hwt⟩:∃ b,(m==3||m==4)=b:=⟨_,rfl⟩
 rw[hwt] at HC
 have HWT:Hid _:=hwt
 obtain⟨r,hr⟩:∃ r,okRq m tg c body=r:=⟨_,rfl⟩
 have HRR:Hid _:=hr
 rw[hr] at HC ⊢
 obtain⟨RC,hRC⟩:∃ r',rqCells r=r':=⟨_,rfl⟩
 have HRC:Hid _:=hRC
 rw[hRC] at HC ⊢
 obtain⟨key,hkey⟩:∃ x,tg.key=x:=⟨_,rfl⟩
 have HKEY:Hid _:=hkey
 obtain⟨tn,htn⟩:∃ x,tg.tg=x:=⟨_,rfl⟩
 have HTN:Hid _:=htn
 obtain⟨tv,htv⟩:∃ x,tg.v=x:=⟨_,rfl⟩
 have HTV:Hid _:=htv
 have hv0:=h.v0
 rw[htv] at hv0
 have HV0:Hid _:=hv0
 rw[hkey,htn,htv] at HC
 rw[hkey] at hs
 rw[htn] at h4
 have hRS:=HC.out.1
 have q1:=HC.out.2.1
 have q2:=HC.out.2.2.1
 have q3:=HC.out.2.2.2.1
 have q5:=HC.out.2.2.2.2.1
 have HC6:Hid _:=HC.out.2.2.2.2.2
 have k3:RC[3]'(by omega)=.string ⟨key.toArray⟩:=(Array.getElem?_eq_some_iff.1 q3).2
 have HA1:Hid (c.lm.oneCell'=true/\c.ln.oneCell'=true):=⟨h.rq.m.one,h.rq.n.one⟩
 clear h hwt hr hRC hkey htn htv hv0 HC
 have h4I:¬ (tn:Int)=4:=by omega
 have HSO:Hid _:=hs
 clear hs h4
 go_enter Tryz.func58,Tryz.ntmps58
 go_wp2_with fail
 obtain⟨x,hx⟩:∃ x,w.alloc (.cells RC 130)=x:=⟨_,rfl⟩
 have hbx:Below w.heap.size w x:=by rw[<- hx];exact (Below.refl _ _).alloc (Nat.le_refl _) _
 have HXB:Hid (x.heap[w.heap.size]?=some (.cells RC 130 (0,0))):=by rw[<- hx];exact heap_alloc_new w _
 have hxs:w.heap.size<x.heap.size:=by rw[<- hx];simp
 have HX:Hid _:=HH.out.below hbx
 have HBX:Hid _:=hbx
 rw[hx]
 clear hx hbx k3
 have d1:x.cell? ⟨w.heap.size,1,none⟩=some (.int .i64 (m:Int)):=by simp only[World.cell?,HXB.out];exact q1
 have d2:x.cell? ⟨w.heap.size,2,none⟩=some (.int .i64 (tn:Int)):=by simp only[World.cell?,HXB.out];exact q2
 have d3:x.cell? ⟨w.heap.size,3,none⟩=some (.string ⟨key.toArray⟩):=by simp only[World.cell?,HXB.out];exact q3
 have d5:x.cell? ⟨w.heap.size,5,none⟩=some (.int .i64 tv):=by simp only[World.cell?,HXB.out];exact q5
 refine Calls.mono (refSomething_any p t l J vs key x HX.out.ref) ?_
 rintro e w' ⟨rfl,hw'⟩
 rw[hw']
 clear hw'
 rw[HSO.out]
 simp only[idxI]
 have HJ:Hid _:=rjudge_no wt c k g (x.alloc (.cells (askA wt c) 93)) ((HX.out.below ((Below.refl _ _).alloc (Nat.le_refl _) _)).rq)
 go_wp2_with (first
  | (refine wpList_load_part rfl 93 (.tmp 38) rfl w.heap.size 6 rfl 130 RC (askA wt c) (0,0) _ HXB.out HC6.out Tryz.underlying93 rfl hiAsk ?_)
  | (refine wpList_store_row rfl 93 (.tmp 7) (.tmp 39) rfl x.heap.size (askA wt c) rfl rfl 93 #[.bool false,.bool false,.bool false,.slice none 0 0,.bool false,.bool false,.slice none 0 0,.bool false,.int .i64 0,.bool false,.int .i64 0,.bool false,.string ⟨#[]⟩,.int .i64 0] (heap_alloc_last _ _) hiAsk rfl (allAsk wt c HA1.out.1 HA1.out.2) ?_;rw[World.setRow_alloc_new])
  | (refine wpList_load_row rfl 93 (.tmp 7) rfl x.heap.size rfl 93 (askA wt c) (0,0) _ (heap_alloc_last _ _) Tryz.underlying93 rfl hiAsk ?_))
 refine Calls.mono HJ.out ?_
 rintro e y2 ⟨rfl,hby⟩
 have HXY:Hid (Below x.heap.size x y2):=((Below.refl x.heap.size x).alloc (Nat.le_refl _) _).trans (hby.mono (by simp))
 have HBY:Hid (Below w.heap.size w y2):=HBX.out.trans (HXY.out.mono HBX.out.size)
 clear hby
 obtain⟨cd,hcd⟩:∃ n,condF wt k none=n:=⟨_,rfl⟩
 have hclt:cd<1000:=by rw[<- hcd];exact condF_lt _ _ _
 have HCD:Hid _:=hcd
 rw[hcd]
 clear hcd
 have HY:Hid _:=HH.out.below HBY.out
 have HYB:Hid (y2.heap[w.heap.size]?=some (.cells RC 130 (0,0))):=(HXY.out.block _ hxs).trans HXB.out
 have m1:y2.cell? ⟨w.heap.size,1,none⟩=some (.int .i64 (m:Int)):=by simp only[World.cell?,HYB.out];exact q1
 have hys:w.heap.size<y2.heap.size:=Nat.lt_of_lt_of_le hxs HXY.out.size
 have hrk:r.key=key:=by rw[<- HRR.out];exact HKEY.out
 have hrb:r.body=body:=by rw[<- HRR.out];rfl
 have hrt:r.target=tn:=by rw[<- HRR.out];exact HTN.out
 have hrv:r.v=(v:Int):=by rw[<- HRR.out];exact HTV.out.trans HV0.out
 have HRK:Hid _:=hrk
 have HRB:Hid _:=hrb
 have HRT:Hid _:=hrt
 have HRV:Hid _:=hrv
 clear d1 d2 d3 d5 hrk hrb hrt hrv HX HXB HBX
 by_cases h0:cd=0
 ·have h0I:(cd:Int)=0:=by omega
  have HC0:Hid (condF wt k none=0):=HCD.out.trans h0
  clear h0
  have hiR:(Tryz.prog.info? 130).map (·.size)=some RC.size:=by rw[hRS];exact hiRq
  by_cases m3:m=3
  ·have m3I:(m:Int)=3:=by omega
   have HFF:Hid (F=putsF t ⟨l,J⟩ tg.key body none.isSome):=kf3 HWT.out HAV.out HAT.out HF.out HC0.out m3
   have HPU:Hid _:=refPuts_any p t l J vs r (-1) y2 HY.out.ref HY.out.tbl HY.out.high HY.out.few HY.out.log HY.out.time (by rw[<- HRR.out];exact HY.out.last) (by rw[<- HRR.out];exact HY.out.klen) (by rw[<- HRR.out];exact HY.out.blen)
   rw[HRC.out] at HPU
   clear m3
   go_wp2_with (refine wpList_load_row rfl 130 (.tmp 3) rfl w.heap.size rfl 130 RC (0,0) _ HYB.out Tryz.underlying130 rfl hiR ?_)
   refine Calls.mono HPU.out ?_
   rintro e w5 ⟨rfl,hrest⟩
   have HRS:Hid _:=hrest
   clear hrest
   go_wp2
   go_ret
   have hd:decide ((0:Int)<=(-1))=(none:Option Nat).isSome:=by decide
   rw[HFF.out,<- hd,HKEY.out,<- HRK.out,<- HRB.out]
   exact rpost_later HBY.out ⟨rfl,HRS.out⟩
  ·have m3I:¬ (m:Int)=3:=by omega
   by_cases m4:m=4
   ·have m4I:(m:Int)=4:=by omega
    have HFF:Hid (F=delsF t ⟨l,J⟩ (decide (tg.tg=4)) tg.key tg.v.toNat none.isSome none):=kf4 HWT.out HAV.out HAT.out HF.out HC0.out m4
    have HDL:Hid _:=refDeletes_any p t l J vs r v (-1) none y2 HY.out.ref HY.out.tbl HY.out.high HY.out.few HY.out.log HY.out.time (by rw[<- HRR.out];exact HY.out.last) (by rw[<- HRR.out];exact HY.out.klen) HRV.out HY.out.v1 (by intro i hi;cases hi)
    rw[HRC.out] at HDL
    simp only[idxI] at HDL
    clear m3 m4
    go_wp2_with (refine wpList_load_row rfl 130 (.tmp 3) rfl w.heap.size rfl 130 RC (0,0) _ HYB.out Tryz.underlying130 rfl hiR ?_)
    refine Calls.mono HDL.out ?_
    rintro e w5 ⟨rfl,hrest⟩
    have HRS:Hid _:=hrest
    clear hrest
    go_wp2
    go_ret
    have hd:decide ((0:Int)<=(-1))=(none:Option Nat).isSome:=by decide
    have hvn:tg.v.toNat=v:=by rw[HTV.out,HV0.out];rfl
    have e4:decide (tg.tg=4)=decide (r.target=4):=by rw[HTN.out,HRT.out]
    rw[HFF.out,<- hd,hvn,e4,HKEY.out,<- HRK.out]
    exact rpost_later HBY.out ⟨rfl,HRS.out⟩
   ·have m4I:¬ (m:Int)=4:=by omega
    have HFF:Hid (F=(textF 404 [] [],⟨l,J⟩)):=kfn HWT.out HAV.out HF.out HC0.out m3 m4
    have HRP:Hid _:=refReply_any 404 [] [] y2 HY.out.tbl.b (by omega) (by simp) (by simp)
    clear m3 m4
    go_wp2_with fail
    refine Calls.mono HRP.out ?_
    rintro e w5 ⟨rfl,hb5⟩
    have HB5:Hid _:=hb5
    clear hb5
    go_wp2
    go_ret
    exact rpost_kept (by rw[HFF.out];simp[textF]) HH.out.ref (HBY.out.trans (HB5.out.mono HBY.out.size))
 ·have h0I:¬ (cd:Int)=0:=by omega
  have HFF:Hid (F=(textF cd [] [],⟨l,J⟩)):=by
   show _=_
   rw[<- HCD.out]
   exact kf0 HWT.out HAV.out HF.out (by rw[HCD.out];exact h0)
  have HRP:Hid _:=refReply_any cd [] [] y2 HY.out.tbl.b (by omega) (by simp) (by simp)
  clear h0
  go_wp2_with fail
  refine Calls.mono HRP.out ?_
  rintro e w5 ⟨rfl,hb5⟩
  have HB5:Hid _:=hb5
  clear hb5
  go_wp2
  go_ret
  exact rpost_kept (by rw[HFF.out];simp[textF]) HH.out.ref (HBY.out.trans (HB5.out.mono HBY.out.size))
theorem keyed_C (p t:Nat)(l:List Itm)(J:List UInt8)(vs:Value)(m:Nat)(tg:TgR)(c:Cst)(k:Cnd)(body:List UInt8)(g v:Nat)(w:World)(h:KeyH w p t l J vs tg c k body g v)(h4:tg.tg=4)(hf:findF tg.key tg.v l=none) :
 Calls Tryz.prog 58 #[.pointer (some ⟨p,0,none⟩),.agg (rqCells (okRq m tg c body))] w (RPost w p t vs (keyedF t ⟨l,J⟩ m tg k body)):=by
 have hat:atR l tg.tg tg.key tg.v=(none,none):=by unfold atR;rw[if_pos h4,hf]
 have HAV:Hid (atV l tg.tg tg.key tg.v=none):=by show _=_;unfold atV;rw[hat];rfl
 have HAT:Hid _:=hat
 clear hat
 have HH:Hid _:=h
 have hpl:=h.ref.lt
 have HC:Hid _:=okRq_cells m tg c body
 obtain⟨F,hF⟩:∃ F,keyedF t ⟨l,J⟩ m tg k body=F:=⟨_,rfl⟩
 have HF:Hid _:=hF
 rw[hF]
 clear hF
 obtain⟨wt,hwt⟩:∃ b,(m==3||m==4)=b:=⟨_,rfl⟩
 rw[hwt] at HC
 have HWT:Hid _:=hwt
 obtain⟨r,hr⟩:∃ r,okRq m tg c body=r:=⟨_,rfl⟩
 have HRR:Hid _:=hr
 rw[hr] at HC ⊢
 obtain⟨RC,hRC⟩:∃ r',rqCells r=r':=⟨_,rfl⟩
 have HRC:Hid _:=hRC
 rw[hRC] at HC ⊢
 obtain⟨key,hkey⟩:∃ x,tg.key=x:=⟨_,rfl⟩
 have HKEY:Hid _:=hkey
 obtain⟨tn,htn⟩:∃ x,tg.tg=x:=⟨_,rfl⟩
 have HTN:Hid _:=htn
 obtain⟨tv,htv⟩:∃ x,tg.v=x:=⟨_,rfl⟩
 have HTV:Hid _:=htv
 have hv0:=h.v0
 rw[htv] at hv0
 have HV0:Hid _:=hv0
 rw[hkey,htn,htv] at HC
 rw[hkey] at hf
 rw[htv] at hf
 rw[htn] at h4
 have hRS:=HC.out.1
 have q1:=HC.out.2.1
 have q2:=HC.out.2.2.1
 have q3:=HC.out.2.2.2.1
 have q5:=HC.out.2.2.2.2.1
 have HC6:Hid _:=HC.out.2.2.2.2.2
 have k3:RC[3]'(by omega)=.string ⟨key.toArray⟩:=(Array.getElem?_eq_some_iff.1 q3).2
 have HA1:Hid (c.lm.oneCell'=true/\c.ln.oneCell'=true):=⟨h.rq.m.one,h.rq.n.one⟩
 clear h hwt hr hRC hkey htn htv hv0 HC
 have h4I:(tn:Int)=4:=by omega
 have HSO:Hid _:=hf
 clear hf h4
 go_enter Tryz.func58,Tryz.ntmps58
 go_wp2_with fail
 obtain⟨x,hx⟩:∃ x,w.alloc (.cells RC 130)=x:=⟨_,rfl⟩
 have hbx:Below w.heap.size w x:=by rw[<- hx];exact (Below.refl _ _).alloc (Nat.le_refl _) _
 have HXB:Hid (x.heap[w.heap.size]?=some (.cells RC 130 (0,0))):=by rw[<- hx];exact heap_alloc_new w _
 have hxs:w.heap.size<x.heap.size:=by rw[<- hx];simp
 have HX:Hid _:=HH.out.below hbx
 have HBX:Hid _:=hbx
 rw[hx]
 clear hx hbx k3
 have d1:x.cell? ⟨w.heap.size,1,none⟩=some (.int .i64 (m:Int)):=by simp only[World.cell?,HXB.out];exact q1
 have d2:x.cell? ⟨w.heap.size,2,none⟩=some (.int .i64 (tn:Int)):=by simp only[World.cell?,HXB.out];exact q2
 have d3:x.cell? ⟨w.heap.size,3,none⟩=some (.string ⟨key.toArray⟩):=by simp only[World.cell?,HXB.out];exact q3
 have d5:x.cell? ⟨w.heap.size,5,none⟩=some (.int .i64 tv):=by simp only[World.cell?,HXB.out];exact q5
 refine Calls.mono (refSomething_any p t l J vs key x HX.out.ref) ?_
 rintro e w' ⟨rfl,hw'⟩
 rw[hw']
 clear hw'
 obtain⟨z0,hz0⟩:∃ z,idxI (someF key l)=z:=⟨_,rfl⟩
 rw[hz0]
 clear hz0
 go_wp2_with fail
 refine Calls.mono (refFind_any p t l J vs key tv x HX.out.ref) ?_
 rintro e w' ⟨rfl,hw'⟩
 rw[hw']
 clear hw'
 rw[HSO.out]
 simp only[idxI]
 have HJ:Hid _:=rjudge_no wt c k g (x.alloc (.cells (askA wt c) 93)) ((HX.out.below ((Below.refl _ _).alloc (Nat.le_refl _) _)).rq)
 go_wp2_with (first
  | (refine wpList_load_part rfl 93 (.tmp 38) rfl w.heap.size 6 rfl 130 RC (askA wt c) (0,0) _ HXB.out HC6.out Tryz.underlying93 rfl hiAsk ?_)
  | (refine wpList_store_row rfl 93 (.tmp 7) (.tmp 39) rfl x.heap.size (askA wt c) rfl rfl 93 #[.bool false,.bool false,.bool false,.slice none 0 0,.bool false,.bool false,.slice none 0 0,.bool false,.int .i64 0,.bool false,.int .i64 0,.bool false,.string ⟨#[]⟩,.int .i64 0] (heap_alloc_last _ _) hiAsk rfl (allAsk wt c HA1.out.1 HA1.out.2) ?_;rw[World.setRow_alloc_new])
  | (refine wpList_load_row rfl 93 (.tmp 7) rfl x.heap.size rfl 93 (askA wt c) (0,0) _ (heap_alloc_last _ _) Tryz.underlying93 rfl hiAsk ?_))
 refine Calls.mono HJ.out ?_
 rintro e y2 ⟨rfl,hby⟩
 have HXY:Hid (Below x.heap.size x y2):=((Below.refl x.heap.size x).alloc (Nat.le_refl _) _).trans (hby.mono (by simp))
 have HBY:Hid (Below w.heap.size w y2):=HBX.out.trans (HXY.out.mono HBX.out.size)
 clear hby
 obtain⟨cd,hcd⟩:∃ n,condF wt k none=n:=⟨_,rfl⟩
 have hclt:cd<1000:=by rw[<- hcd];exact condF_lt _ _ _
 have HCD:Hid _:=hcd
 rw[hcd]
 clear hcd
 have HY:Hid _:=HH.out.below HBY.out
 have HYB:Hid (y2.heap[w.heap.size]?=some (.cells RC 130 (0,0))):=(HXY.out.block _ hxs).trans HXB.out
 have m1:y2.cell? ⟨w.heap.size,1,none⟩=some (.int .i64 (m:Int)):=by simp only[World.cell?,HYB.out];exact q1
 have hys:w.heap.size<y2.heap.size:=Nat.lt_of_lt_of_le hxs HXY.out.size
 have hrk:r.key=key:=by rw[<- HRR.out];exact HKEY.out
 have hrb:r.body=body:=by rw[<- HRR.out];rfl
 have hrt:r.target=tn:=by rw[<- HRR.out];exact HTN.out
 have hrv:r.v=(v:Int):=by rw[<- HRR.out];exact HTV.out.trans HV0.out
 have HRK:Hid _:=hrk
 have HRB:Hid _:=hrb
 have HRT:Hid _:=hrt
 have HRV:Hid _:=hrv
 clear d1 d2 d3 d5 hrk hrb hrt hrv HX HXB HBX
 by_cases h0:cd=0
 ·have h0I:(cd:Int)=0:=by omega
  have HC0:Hid (condF wt k none=0):=HCD.out.trans h0
  clear h0
  have hiR:(Tryz.prog.info? 130).map (·.size)=some RC.size:=by rw[hRS];exact hiRq
  by_cases m3:m=3
  ·have m3I:(m:Int)=3:=by omega
   have HFF:Hid (F=putsF t ⟨l,J⟩ tg.key body none.isSome):=kf3 HWT.out HAV.out HAT.out HF.out HC0.out m3
   have HPU:Hid _:=refPuts_any p t l J vs r (-1) y2 HY.out.ref HY.out.tbl HY.out.high HY.out.few HY.out.log HY.out.time (by rw[<- HRR.out];exact HY.out.last) (by rw[<- HRR.out];exact HY.out.klen) (by rw[<- HRR.out];exact HY.out.blen)
   rw[HRC.out] at HPU
   clear m3
   go_wp2_with (refine wpList_load_row rfl 130 (.tmp 3) rfl w.heap.size rfl 130 RC (0,0) _ HYB.out Tryz.underlying130 rfl hiR ?_)
   refine Calls.mono HPU.out ?_
   rintro e w5 ⟨rfl,hrest⟩
   have HRS:Hid _:=hrest
   clear hrest
   go_wp2
   go_ret
   have hd:decide ((0:Int)<=(-1))=(none:Option Nat).isSome:=by decide
   rw[HFF.out,<- hd,HKEY.out,<- HRK.out,<- HRB.out]
   exact rpost_later HBY.out ⟨rfl,HRS.out⟩
  ·have m3I:¬ (m:Int)=3:=by omega
   by_cases m4:m=4
   ·have m4I:(m:Int)=4:=by omega
    have HFF:Hid (F=delsF t ⟨l,J⟩ (decide (tg.tg=4)) tg.key tg.v.toNat none.isSome none):=kf4 HWT.out HAV.out HAT.out HF.out HC0.out m4
    have HDL:Hid _:=refDeletes_any p t l J vs r v (-1) none y2 HY.out.ref HY.out.tbl HY.out.high HY.out.few HY.out.log HY.out.time (by rw[<- HRR.out];exact HY.out.last) (by rw[<- HRR.out];exact HY.out.klen) HRV.out HY.out.v1 (by intro i hi;cases hi)
    rw[HRC.out] at HDL
    simp only[idxI] at HDL
    clear m3 m4
    go_wp2_with (refine wpList_load_row rfl 130 (.tmp 3) rfl w.heap.size rfl 130 RC (0,0) _ HYB.out Tryz.underlying130 rfl hiR ?_)
    refine Calls.mono HDL.out ?_
    rintro e w5 ⟨rfl,hrest⟩
    have HRS:Hid _:=hrest
    clear hrest
    go_wp2
    go_ret
    have hd:decide ((0:Int)<=(-1))=(none:Option Nat).isSome:=by decide
    have hvn:tg.v.toNat=v:=by rw[HTV.out,HV0.out];rfl
    have e4:decide (tg.tg=4)=decide (r.target=4):=by rw[HTN.out,HRT.out]
    rw[HFF.out,<- hd,hvn,e4,HKEY.out,<- HRK.out]
    exact rpost_later HBY.out ⟨rfl,HRS.out⟩
   ·have m4I:¬ (m:Int)=4:=by omega
    have HFF:Hid (F=(textF 404 [] [],⟨l,J⟩)):=kfn HWT.out HAV.out HF.out HC0.out m3 m4
    have HRP:Hid _:=refReply_any 404 [] [] y2 HY.out.tbl.b (by omega) (by simp) (by simp)
    clear m3 m4
    go_wp2_with fail
    refine Calls.mono HRP.out ?_
    rintro e w5 ⟨rfl,hb5⟩
    have HB5:Hid _:=hb5
    clear hb5
    go_wp2
    go_ret
    exact rpost_kept (by rw[HFF.out];simp[textF]) HH.out.ref (HBY.out.trans (HB5.out.mono HBY.out.size))
 ·have h0I:¬ (cd:Int)=0:=by omega
  have HFF:Hid (F=(textF cd [] [],⟨l,J⟩)):=by
   show _=_
   rw[<- HCD.out]
   exact kf0 HWT.out HAV.out HF.out (by rw[HCD.out];exact h0)
  have HRP:Hid _:=refReply_any cd [] [] y2 HY.out.tbl.b (by omega) (by simp) (by simp)
  clear h0
  go_wp2_with fail
  refine Calls.mono HRP.out ?_
  rintro e w5 ⟨rfl,hb5⟩
  have HB5:Hid _:=hb5
  clear hb5
  go_wp2
  go_ret
  exact rpost_kept (by rw[HFF.out];simp[textF]) HH.out.ref (HBY.out.trans (HB5.out.mono HBY.out.size))
theorem keyed_D (p t:Nat)(l:List Itm)(J:List UInt8)(vs:Value)(m:Nat)(tg:TgR)(c:Cst)(k:Cnd)(body:List UInt8)(g v:Nat)(w:World)(h:KeyH w p t l J vs tg c k body g v)(h4:tg.tg=4)(i:Nat)(it:Itm)(hf:findF tg.key tg.v l=some i)(hi:l[i]?=some it)(hm:it.mark=true) :
 Calls Tryz.prog 58 #[.pointer (some ⟨p,0,none⟩),.agg (rqCells (okRq m tg c body))] w (RPost w p t vs (keyedF t ⟨l,J⟩ m tg k body)):=by
 have hat:atR l tg.tg tg.key tg.v=(none,some i):=by unfold atR;rw[if_pos h4,hf];simp only[hi,hm,if_true]
 have HAV:Hid (atV l tg.tg tg.key tg.v=none):=by show _=_;unfold atV;rw[hat];rfl
 have HAT:Hid _:=hat
 clear hat
 have HH:Hid _:=h
 have hpl:=h.ref.lt
 have HC:Hid _:=okRq_cells m tg c body
 obtain⟨F,hF⟩:∃ F,keyedF t ⟨l,J⟩ m tg k body=F:=⟨_,rfl⟩
 have HF:Hid _:=hF
 rw[hF]
 clear hF
 obtain⟨wt,hwt⟩:∃ b,(m==3||m==4)=b:=⟨_,rfl⟩
 rw[hwt] at HC
 have HWT:Hid _:=hwt
 obtain⟨r,hr⟩:∃ r,okRq m tg c body=r:=⟨_,rfl⟩
 have HRR:Hid _:=hr
 rw[hr] at HC ⊢
 obtain⟨RC,hRC⟩:∃ r',rqCells r=r':=⟨_,rfl⟩
 have HRC:Hid _:=hRC
 rw[hRC] at HC ⊢
 obtain⟨key,hkey⟩:∃ x,tg.key=x:=⟨_,rfl⟩
 have HKEY:Hid _:=hkey
 obtain⟨tn,htn⟩:∃ x,tg.tg=x:=⟨_,rfl⟩
 have HTN:Hid _:=htn
 obtain⟨tv,htv⟩:∃ x,tg.v=x:=⟨_,rfl⟩
 have HTV:Hid _:=htv
 have hv0:=h.v0
 rw[htv] at hv0
 have HV0:Hid _:=hv0
 rw[hkey,htn,htv] at HC
 rw[hkey] at hf
 rw[htv] at hf
 rw[htn] at h4
 have hRS:=HC.out.1
 have q1:=HC.out.2.1
 have q2:=HC.out.2.2.1
 have q3:=HC.out.2.2.2.1
 have q5:=HC.out.2.2.2.2.1
 have HC6:Hid _:=HC.out.2.2.2.2.2
 have k3:RC[3]'(by omega)=.string ⟨key.toArray⟩:=(Array.getElem?_eq_some_iff.1 q3).2
 have HA1:Hid (c.lm.oneCell'=true/\c.ln.oneCell'=true):=⟨h.rq.m.one,h.rq.n.one⟩
 clear h hwt hr hRC hkey htn htv hv0 HC
 have h4I:(tn:Int)=4:=by omega
 have HSO:Hid _:=hf
 clear hf h4
 go_enter Tryz.func58,Tryz.ntmps58
 go_wp2_with fail
 obtain⟨x,hx⟩:∃ x,w.alloc (.cells RC 130)=x:=⟨_,rfl⟩
 have hbx:Below w.heap.size w x:=by rw[<- hx];exact (Below.refl _ _).alloc (Nat.le_refl _) _
 have HXB:Hid (x.heap[w.heap.size]?=some (.cells RC 130 (0,0))):=by rw[<- hx];exact heap_alloc_new w _
 have hxs:w.heap.size<x.heap.size:=by rw[<- hx];simp
 have HX:Hid _:=HH.out.below hbx
 have HBX:Hid _:=hbx
 rw[hx]
 clear hx hbx k3
 have d1:x.cell? ⟨w.heap.size,1,none⟩=some (.int .i64 (m:Int)):=by simp only[World.cell?,HXB.out];exact q1
 have d2:x.cell? ⟨w.heap.size,2,none⟩=some (.int .i64 (tn:Int)):=by simp only[World.cell?,HXB.out];exact q2
 have d3:x.cell? ⟨w.heap.size,3,none⟩=some (.string ⟨key.toArray⟩):=by simp only[World.cell?,HXB.out];exact q3
 have d5:x.cell? ⟨w.heap.size,5,none⟩=some (.int .i64 tv):=by simp only[World.cell?,HXB.out];exact q5
 refine Calls.mono (refSomething_any p t l J vs key x HX.out.ref) ?_
 rintro e w' ⟨rfl,hw'⟩
 rw[hw']
 clear hw'
 obtain⟨z0,hz0⟩:∃ z,idxI (someF key l)=z:=⟨_,rfl⟩
 rw[hz0]
 clear hz0
 go_wp2_with fail
 refine Calls.mono (refFind_any p t l J vs key tv x HX.out.ref) ?_
 rintro e w' ⟨rfl,hw'⟩
 rw[hw']
 clear hw'
 rw[HSO.out]
 simp only[idxI]
 have c1:=HX.out.ref.c1
 obtain⟨av,cv,hvs,hI⟩:=HX.out.ref.itms
 have hfew:=HX.out.ref.few
 have hlt:i<l.length:=(List.getElem?_eq_some_iff.1 hi).1
 have hok:=HX.out.its it (List.mem_of_getElem? hi)
 obtain⟨gv,hav,hgv,i0,i1,i2,i3,i4,i5⟩:=hI i it hi
 have hiI:(i:Int)<(l.length:Int):=by omega
 have HI:Hid _:=hi
 clear hI hi
 rw[hvs,hav] at c1
 have HVS:Hid (vs=.slice (some ⟨gv,0,none⟩) l.length cv):=by show _=_;rw[hvs,hav]
 clear hvs hav
 rw[hm] at i3
 have HJ:Hid _:=rjudge_no wt c k g (x.alloc (.cells (askA wt c) 93)) ((HX.out.below ((Below.refl _ _).alloc (Nat.le_refl _) _)).rq)
 go_wp2_with (first
  | (refine wpList_load_part rfl 93 (.tmp 38) rfl w.heap.size 6 rfl 130 RC (askA wt c) (0,0) _ HXB.out HC6.out Tryz.underlying93 rfl hiAsk ?_)
  | (refine wpList_store_row rfl 93 (.tmp 7) (.tmp 39) rfl x.heap.size (askA wt c) rfl rfl 93 #[.bool false,.bool false,.bool false,.slice none 0 0,.bool false,.bool false,.slice none 0 0,.bool false,.int .i64 0,.bool false,.int .i64 0,.bool false,.string ⟨#[]⟩,.int .i64 0] (heap_alloc_last _ _) hiAsk rfl (allAsk wt c HA1.out.1 HA1.out.2) ?_;rw[World.setRow_alloc_new])
  | (refine wpList_load_row rfl 93 (.tmp 7) rfl x.heap.size rfl 93 (askA wt c) (0,0) _ (heap_alloc_last _ _) Tryz.underlying93 rfl hiAsk ?_))
 refine Calls.mono HJ.out ?_
 rintro e y2 ⟨rfl,hby⟩
 have HXY:Hid (Below x.heap.size x y2):=((Below.refl x.heap.size x).alloc (Nat.le_refl _) _).trans (hby.mono (by simp))
 have HBY:Hid (Below w.heap.size w y2):=HBX.out.trans (HXY.out.mono HBX.out.size)
 clear hby
 obtain⟨cd,hcd⟩:∃ n,condF wt k none=n:=⟨_,rfl⟩
 have hclt:cd<1000:=by rw[<- hcd];exact condF_lt _ _ _
 have HCD:Hid _:=hcd
 rw[hcd]
 clear hcd
 have HY:Hid _:=HH.out.below HBY.out
 have HYB:Hid (y2.heap[w.heap.size]?=some (.cells RC 130 (0,0))):=(HXY.out.block _ hxs).trans HXB.out
 have m1:y2.cell? ⟨w.heap.size,1,none⟩=some (.int .i64 (m:Int)):=by simp only[World.cell?,HYB.out];exact q1
 have hys:w.heap.size<y2.heap.size:=Nat.lt_of_lt_of_le hxs HXY.out.size
 have hrk:r.key=key:=by rw[<- HRR.out];exact HKEY.out
 have hrb:r.body=body:=by rw[<- HRR.out];rfl
 have hrt:r.target=tn:=by rw[<- HRR.out];exact HTN.out
 have hrv:r.v=(v:Int):=by rw[<- HRR.out];exact HTV.out.trans HV0.out
 have HRK:Hid _:=hrk
 have HRB:Hid _:=hrb
 have HRT:Hid _:=hrt
 have HRV:Hid _:=hrv
 clear d1 d2 d3 d5 hrk hrb hrt hrv HX HXB HBX
 by_cases h0:cd=0
 ·have h0I:(cd:Int)=0:=by omega
  have HC0:Hid (condF wt k none=0):=HCD.out.trans h0
  clear h0
  have hiR:(Tryz.prog.info? 130).map (·.size)=some RC.size:=by rw[hRS];exact hiRq
  by_cases m3:m=3
  ·have m3I:(m:Int)=3:=by omega
   have HFF:Hid (F=putsF t ⟨l,J⟩ tg.key body none.isSome):=kf3 HWT.out HAV.out HAT.out HF.out HC0.out m3
   have HPU:Hid _:=refPuts_any p t l J vs r (-1) y2 HY.out.ref HY.out.tbl HY.out.high HY.out.few HY.out.log HY.out.time (by rw[<- HRR.out];exact HY.out.last) (by rw[<- HRR.out];exact HY.out.klen) (by rw[<- HRR.out];exact HY.out.blen)
   rw[HRC.out] at HPU
   clear m3
   go_wp2_with (refine wpList_load_row rfl 130 (.tmp 3) rfl w.heap.size rfl 130 RC (0,0) _ HYB.out Tryz.underlying130 rfl hiR ?_)
   refine Calls.mono HPU.out ?_
   rintro e w5 ⟨rfl,hrest⟩
   have HRS:Hid _:=hrest
   clear hrest
   go_wp2
   go_ret
   have hd:decide ((0:Int)<=(-1))=(none:Option Nat).isSome:=by decide
   rw[HFF.out,<- hd,HKEY.out,<- HRK.out,<- HRB.out]
   exact rpost_later HBY.out ⟨rfl,HRS.out⟩
  ·have m3I:¬ (m:Int)=3:=by omega
   by_cases m4:m=4
   ·have m4I:(m:Int)=4:=by omega
    have HFF:Hid (F=delsF t ⟨l,J⟩ (decide (tg.tg=4)) tg.key tg.v.toNat none.isSome (some i)):=kf4 HWT.out HAV.out HAT.out HF.out HC0.out m4
    have HDL:Hid _:=refDeletes_any p t l J vs r v (-1) (some i) y2 HY.out.ref HY.out.tbl HY.out.high HY.out.few HY.out.log HY.out.time (by rw[<- HRR.out];exact HY.out.last) (by rw[<- HRR.out];exact HY.out.klen) HRV.out HY.out.v1 (by intro i' hi';cases hi';exact⟨it,HI.out,by omega,by omega⟩)
    rw[HRC.out] at HDL
    simp only[idxI] at HDL
    clear m3 m4
    go_wp2_with (refine wpList_load_row rfl 130 (.tmp 3) rfl w.heap.size rfl 130 RC (0,0) _ HYB.out Tryz.underlying130 rfl hiR ?_)
    refine Calls.mono HDL.out ?_
    rintro e w5 ⟨rfl,hrest⟩
    have HRS:Hid _:=hrest
    clear hrest
    go_wp2
    go_ret
    have hd:decide ((0:Int)<=(-1))=(none:Option Nat).isSome:=by decide
    have hvn:tg.v.toNat=v:=by rw[HTV.out,HV0.out];rfl
    have e4:decide (tg.tg=4)=decide (r.target=4):=by rw[HTN.out,HRT.out]
    rw[HFF.out,<- hd,hvn,e4,HKEY.out,<- HRK.out]
    exact rpost_later HBY.out ⟨rfl,HRS.out⟩
   ·have m4I:¬ (m:Int)=4:=by omega
    have HFF:Hid (F=(textF 404 [] [],⟨l,J⟩)):=kfn HWT.out HAV.out HF.out HC0.out m3 m4
    have HRP:Hid _:=refReply_any 404 [] [] y2 HY.out.tbl.b (by omega) (by simp) (by simp)
    clear m3 m4
    go_wp2_with fail
    refine Calls.mono HRP.out ?_
    rintro e w5 ⟨rfl,hb5⟩
    have HB5:Hid _:=hb5
    clear hb5
    go_wp2
    go_ret
    exact rpost_kept (by rw[HFF.out];simp[textF]) HH.out.ref (HBY.out.trans (HB5.out.mono HBY.out.size))
 ·have h0I:¬ (cd:Int)=0:=by omega
  have HFF:Hid (F=(textF cd [] [],⟨l,J⟩)):=by
   show _=_
   rw[<- HCD.out]
   exact kf0 HWT.out HAV.out HF.out (by rw[HCD.out];exact h0)
  have HRP:Hid _:=refReply_any cd [] [] y2 HY.out.tbl.b (by omega) (by simp) (by simp)
  clear h0
  go_wp2_with fail
  refine Calls.mono HRP.out ?_
  rintro e w5 ⟨rfl,hb5⟩
  have HB5:Hid _:=hb5
  clear hb5
  go_wp2
  go_ret
  exact rpost_kept (by rw[HFF.out];simp[textF]) HH.out.ref (HBY.out.trans (HB5.out.mono HBY.out.size))
end Go.Proofs.YtmehkneofinmiaaGreatDoor

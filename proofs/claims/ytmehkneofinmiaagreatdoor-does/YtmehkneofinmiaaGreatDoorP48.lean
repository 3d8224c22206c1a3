/-
 Texts of this proof, part 48.
-/
import Derived.Test.YtmehkneofinmiaaGreatDoorP47
set_option maxRecDepth 100000
set_option maxHeartbeats 4000000
namespace Go.Proofs.YtmehkneofinmiaaGreatDoor
open Go.RowKit
theorem keyed_B (p t:Nat)(l:List Itm)(J:List UInt8)(vs:Value)(m:Nat)(tg:TgR)(c:Cst)(k:Cnd)(body:List UInt8)(g v:Nat)(w:World)(h:KeyH w p t l J vs tg c k body g v)(h4:¬ tg.tg=4)(i:Nat)(it:Itm)(hs:someF tg.key l=some i)(hi:l[i]?=some it) :
 Calls Tryz.prog 58 #[.pointer (some ⟨p,0,none⟩),.agg (rqCells (okRq m tg c body))] w (RPost w p t vs (keyedF t ⟨l,J⟩ m tg k body)):=by
 have hat:atR l tg.tg tg.key tg.v=(some i,some i):=by unfold atR;rw[if_neg h4,hs]
 have HAV:Hid (atV l tg.tg tg.key tg.v=(some (toVer it))):=by show _=_;unfold atV;rw[hat];rw[Option.bind_some,hi];rfl
 have HAT:Hid _:=hat
 clear hat
 have HH:Hid _:=h
 have hpl:=h.ref.lt
 have HC:Hid _:=okRq_cells m tg c body
 obtain⟨F,hF⟩:∃ F,keyedF t ⟨l,J⟩ m tg k body=F:=⟨_,rfl⟩
 have HF:Hid _:=hF
 rw[hF]
 clear hF
 obtain⟨wt,hwt⟩:∃ b,(m==3||m==4)=b:=⟨_,rfl⟩
 rw[hwt] at HC
 have HWT:Hid _:=hwt
 obtain⟨r,hr⟩:∃ r,okRq m tg c body=r:=⟨_,rfl⟩
 have HRR:Hid _:=hr
 rw[hr] at HC ⊢
 obtain⟨RC,hRC⟩:∃ r',rqCells r=r':=⟨_,rfl⟩
 have HRC:Hid _:=hRC
 rw[hRC] at HC ⊢
 obtain⟨key,hkey⟩:∃ x,tg.key=x:=⟨_,rfl⟩
 have HKEY:Hid _:=hkey
 obtain⟨tn,htn⟩:∃ x,tg.tg=x:=⟨_,rfl⟩
 have HTN:Hid _:=htn
 obtain⟨tv,htv⟩:∃ x,tg.v=x:=⟨_,rfl⟩
 have HTV:Hid _:=htv
 have hv0:=h.v0
 rw[htv] at hv0
 have HV0:Hid _:=hv0
 rw[hkey,htn,htv] at HC
 rw[hkey] at hs
 rw[htn] at h4
 have hRS:=HC.out.1
 have q1:=HC.out.2.1
 have q2:=HC.out.2.2.1
 have q3:=HC.out.2.2.2.1
 have q5:=HC.out.2.2.2.2.1
 have HC6:Hid _:=HC.out.2.2.2.2.2
 have k3:RC[3]'(by omega)=.string ⟨key.toArray⟩:=(Array.getElem?_eq_some_iff.1 q3).2
 have HA1:Hid (c.lm.oneCell'=true/\c.ln.oneCell'=true):=⟨h.rq.m.one,h.rq.n.one⟩
 clear h hwt hr hRC hkey htn htv hv0 HC
 have h4I:¬ (tn:Int)=4:=by omega
 have HSO:Hid _:=hs
 clear hs h4
 go_enter Tryz.func58,Tryz.ntmps58
 go_wp2_with fail
 obtain⟨x,hx⟩:∃ x,w.alloc (.cells RC 130)=x:=⟨_,rfl⟩
 have hbx:Below w.heap.size w x:=by rw[<- hx];exact (Below.refl _ _).alloc (Nat.le_refl _) _
 have HXB:Hid (x.heap[w.heap.size]?=some (.cells RC 130 (0,0))):=by rw[<- hx];exact heap_alloc_new w _
 have hxs:w.heap.size<x.heap.size:=by rw[<- hx];simp
 have HX:Hid _:=HH.out.below hbx
 have HBX:Hid _:=hbx
 rw[hx]
 clear hx hbx k3
 have d1:x.cell? ⟨w.heap.size,1,none⟩=some (.int .i64 (m:Int)):=by simp only[World.cell?,HXB.out];exact q1
 have d2:x.cell? ⟨w.heap.size,2,none⟩=some (.int .i64 (tn:Int)):=by simp only[World.cell?,HXB.out];exact q2
 have d3:x.cell? ⟨w.heap.size,3,none⟩=some (.string ⟨key.toArray⟩):=by simp only[World.cell?,HXB.out];exact q3
 have d5:x.cell? ⟨w.heap.size,5,none⟩=some (.int .i64 tv):=by simp only[World.cell?,HXB.out];exact q5
 refine Calls.mono (refSomething_any p t l J vs key x HX.out.ref) ?_
 rintro e w' ⟨rfl,hw'⟩
 rw[hw']
 clear hw'
 rw[HSO.out]
 simp only[idxI]
 have c1:=HX.out.ref.c1
 obtain⟨av,cv,hvs,hI⟩:=HX.out.ref.itms
 have hfew:=HX.out.ref.few
 have hlt:i<l.length:=(List.getElem?_eq_some_iff.1 hi).1
 have hok:=HX.out.its it (List.mem_of_getElem? hi)
 obtain⟨gv,hav,hgv,i0,i1,i2,i3,i4,i5⟩:=hI i it hi
 have hiI:(i:Int)<(l.length:Int):=by omega
 have HI:Hid _:=hi
 clear hI hi
 rw[hvs,hav] at c1
 have HVS:Hid (vs=.slice (some ⟨gv,0,none⟩) l.length cv):=by show _=_;rw[hvs,hav]
 clear hvs hav
 have hpx:p<x.heap.size:=by omega
 have e1:∀ o,(x.alloc o).cell? ⟨p,1,none⟩=some (.slice (some ⟨gv,0,none⟩) l.length cv):=fun o=>(((Below.refl _ _).alloc (Nat.le_refl _) o:Below x.heap.size x (x.alloc o)).cell (p:=⟨p,1,none⟩) hpx).trans c1
 have e4:∀ o,(x.alloc o).cell? ⟨gv,i*6+4,none⟩=some (.string ⟨it.body.toArray⟩):=fun o=>(((Below.refl _ _).alloc (Nat.le_refl _) o:Below x.heap.size x (x.alloc o)).cell (p:=⟨gv,i*6+4,none⟩) hgv).trans i4
 obtain⟨tgv,htgv⟩:∃ x,hexN 16 (fnv it.body)=x:=⟨_,rfl⟩
 have HTAG:Hid _:=htgv
 have HTG:Hid (∀ y,Calls Tryz.prog 115 #[.string ⟨it.body.toArray⟩] y fun e w'=>e=.returned (.string ⟨tgv.toArray⟩)/\Below y.heap.size y w'):=by
  intro y
  have:=refTag ⟨it.body.toArray⟩ y (by rw[Lib.size_eq];show it.body.length<=_;omega)
  rwa [show (ByteArray.mk it.body.toArray).data.toList=it.body from rfl,htgv] at this
 clear htgv
 go_wp2_with (first
  | (refine wpList_load_part rfl 93 (.tmp 38) rfl w.heap.size 6 rfl 130 RC (askA wt c) (0,0) _ HXB.out HC6.out Tryz.underlying93 rfl hiAsk ?_)
  | (refine wpList_store_row rfl 93 (.tmp 7) (.tmp 39) rfl x.heap.size (askA wt c) rfl rfl 93 #[.bool false,.bool false,.bool false,.slice none 0 0,.bool false,.bool false,.slice none 0 0,.bool false,.int .i64 0,.bool false,.int .i64 0,.bool false,.string ⟨#[]⟩,.int .i64 0] (heap_alloc_last _ _) hiAsk rfl (allAsk wt c HA1.out.1 HA1.out.2) ?_;rw[World.setRow_alloc_new]))
 refine Calls.mono (HTG.out _) ?_
 rintro e y ⟨rfl,hby⟩
 have HBY:Hid (Below x.heap.size x y):=((Below.refl x.heap.size x).alloc (Nat.le_refl _) _).trans (hby.mono (by simp))
 have HQB:Hid (y.heap[x.heap.size]?=some (.cells #[.bool wt,.bool c.hm,.bool c.am,c.lm,.bool c.hn,.bool c.an,c.ln,.bool c.hs,.int .i64 c.si,.bool c.hu,.int .i64 c.ul,.bool true,.string ⟨#[]⟩,.int .i64 0] 93 (0,0))):=(hby.block _ (by simp)).trans (heap_alloc_new _ _)
 clear hby e1 e4
 have b1:=(HBY.out.cell (p:=⟨p,1,none⟩) hpx).trans c1
 have b2:=(HBY.out.cell (p:=⟨gv,i*6+2,none⟩) hgv).trans i2
 have hpq:p≠x.heap.size:=by omega
 have hgq:gv≠x.heap.size:=by omega
 have n12:∃ u,y.cell? ⟨x.heap.size,12,none⟩=some u:=⟨_,by simp only[World.cell?,HQB.out];rfl⟩
 have n13:∃ u,y.cell? ⟨x.heap.size,13,none⟩=some u:=⟨_,by simp only[World.cell?,HQB.out];rfl⟩
 obtain⟨u12,n12⟩:=n12
 obtain⟨u13,n13⟩:=n13
 have z12:y.frozen? ⟨x.heap.size,12,none⟩=false:=by simp[World.frozen?,HQB.out]
 have z13:y.frozen? ⟨x.heap.size,13,none⟩=false:=by simp[World.frozen?,HQB.out]
 have HQ2:Hid (((y.setCell ⟨x.heap.size,12,none⟩ (.string ⟨tgv.toArray⟩)).setCell ⟨x.heap.size,13,none⟩ (.int .i64 (it.time:Nat))).heap[x.heap.size]?=some (.cells #[.bool wt,.bool c.hm,.bool c.am,c.lm,.bool c.hn,.bool c.an,c.ln,.bool c.hs,.int .i64 c.si,.bool c.hu,.int .i64 c.ul,.bool true,.string ⟨tgv.toArray⟩,.int .i64 (it.time:Nat)] 93 (0,0))):=by
  have:=heap_set (i:=13) (v:=.int .i64 (it.time:Nat)) (heap_set (i:=12) (v:=.string ⟨tgv.toArray⟩) HQB.out)
  exact this
 have HBZ:Hid (Below x.heap.size x ((y.setCell ⟨x.heap.size,12,none⟩ (.string ⟨tgv.toArray⟩)).setCell ⟨x.heap.size,13,none⟩ (.int .i64 (it.time:Nat)))):=(HBY.out.setCell (Nat.le_refl _) _).setCell (Nat.le_refl _) _
 have HJ:Hid _:=rjudge_yes wt c k g (toVer it) tgv ((y.setCell ⟨x.heap.size,12,none⟩ (.string ⟨tgv.toArray⟩)).setCell ⟨x.heap.size,13,none⟩ (.int .i64 (it.time:Nat))) ((HX.out.below HBZ.out).rq) HTAG.out
 clear i0 i1 i2 i3 i4 i5 c1
 go_wp2_with (refine wpList_load_row rfl 93 (.tmp 7) rfl x.heap.size rfl 93 #[.bool wt,.bool c.hm,.bool c.am,c.lm,.bool c.hn,.bool c.an,c.ln,.bool c.hs,.int .i64 c.si,.bool c.hu,.int .i64 c.ul,.bool true,.string ⟨tgv.toArray⟩,.int .i64 (it.time:Nat)] (0,0) _ HQ2.out Tryz.underlying93 rfl hiAsk ?_)
 refine Calls.mono HJ.out ?_
 rintro e y2 ⟨rfl,hby2⟩
 have HXY:Hid (Below x.heap.size x y2):=HBZ.out.trans (hby2.mono HBZ.out.size)
 have HBY:Hid (Below w.heap.size w y2):=HBX.out.trans (HXY.out.mono HBX.out.size)
 clear hby2 b1 b2 n12 n13 z12 z13 HQB HQ2 HBZ HJ HTG
 obtain⟨cd,hcd⟩:∃ n,condF wt k (some (toVer it))=n:=⟨_,rfl⟩
 have hclt:cd<1000:=by rw[<- hcd];exact condF_lt _ _ _
 have HCD:Hid _:=hcd
 rw[hcd]
 clear hcd
 have HY:Hid _:=HH.out.below HBY.out
 have HYB:Hid (y2.heap[w.heap.size]?=some (.cells RC 130 (0,0))):=(HXY.out.block _ hxs).trans HXB.out
 have m1:y2.cell? ⟨w.heap.size,1,none⟩=some (.int .i64 (m:Int)):=by simp only[World.cell?,HYB.out];exact q1
 have hys:w.heap.size<y2.heap.size:=Nat.lt_of_lt_of_le hxs HXY.out.size
 have hrk:r.key=key:=by rw[<- HRR.out];exact HKEY.out
 have hrb:r.body=body:=by rw[<- HRR.out];rfl
 have hrt:r.target=tn:=by rw[<- HRR.out];exact HTN.out
 have hrv:r.v=(v:Int):=by rw[<- HRR.out];exact HTV.out.trans HV0.out
 have HRK:Hid _:=hrk
 have HRB:Hid _:=hrb
 have HRT:Hid _:=hrt
 have HRV:Hid _:=hrv
 clear d1 d2 d3 d5 hrk hrb hrt hrv HX HXB HBX
 by_cases h0:cd=0
 ·have h0I:(cd:Int)=0:=by omega
  have HC0:Hid (condF wt k (some (toVer it))=0):=HCD.out.trans h0
  clear h0
  have hiR:(Tryz.prog.info? 130).map (·.size)=some RC.size:=by rw[hRS];exact hiRq
  by_cases m3:m=3
  ·have m3I:(m:Int)=3:=by omega
   have HFF:Hid (F=putsF t ⟨l,J⟩ tg.key body (some i).isSome):=kf3 HWT.out HAV.out HAT.out HF.out HC0.out m3
   have HPU:Hid _:=refPuts_any p t l J vs r (i:Int) y2 HY.out.ref HY.out.tbl HY.out.high HY.out.few HY.out.log HY.out.time (by rw[<- HRR.out];exact HY.out.last) (by rw[<- HRR.out];exact HY.out.klen) (by rw[<- HRR.out];exact HY.out.blen)
   rw[HRC.out] at HPU
   clear m3
   go_wp2_with (refine wpList_load_row rfl 130 (.tmp 3) rfl w.heap.size rfl 130 RC (0,0) _ HYB.out Tryz.underlying130 rfl hiR ?_)
   refine Calls.mono HPU.out ?_
   rintro e w5 ⟨rfl,hrest⟩
   have HRS:Hid _:=hrest
   clear hrest
   go_wp2
   go_ret
   have hd:decide ((0:Int)<=(i:Int))=((some i):Option Nat).isSome:=by rw[decide_eq_true (by omega)];rfl
   rw[HFF.out,<- hd,HKEY.out,<- HRK.out,<- HRB.out]
   exact rpost_later HBY.out ⟨rfl,HRS.out⟩
  ·have m3I:¬ (m:Int)=3:=by omega
   by_cases m4:m=4
   ·have m4I:(m:Int)=4:=by omega
    have HFF:Hid (F=delsF t ⟨l,J⟩ (decide (tg.tg=4)) tg.key tg.v.toNat (some i).isSome (some i)):=kf4 HWT.out HAV.out HAT.out HF.out HC0.out m4
    have HDL:Hid _:=refDeletes_any p t l J vs r v (i:Int) (some i) y2 HY.out.ref HY.out.tbl HY.out.high HY.out.few HY.out.log HY.out.time (by rw[<- HRR.out];exact HY.out.last) (by rw[<- HRR.out];exact HY.out.klen) HRV.out HY.out.v1 (by intro i' hi';cases hi';exact⟨it,HI.out,by omega,by omega⟩)
    rw[HRC.out] at HDL
    simp only[idxI] at HDL
    clear m3 m4
    go_wp2_with (refine wpList_load_row rfl 130 (.tmp 3) rfl w.heap.size rfl 130 RC (0,0) _ HYB.out Tryz.underlying130 rfl hiR ?_)
    refine Calls.mono HDL.out ?_
    rintro e w5 ⟨rfl,hrest⟩
    have HRS:Hid _:=hrest
    clear hrest
    go_wp2
    go_ret
    have hd:decide ((0:Int)<=(i:Int))=((some i):Option Nat).isSome:=by rw[decide_eq_true (by omega)];rfl
    have hvn:tg.v.toNat=v:=by rw[HTV.out,HV0.out];rfl
    have e4:decide (tg.tg=4)=decide (r.target=4):=by rw[HTN.out,HRT.out]
    rw[HFF.out,<- hd,hvn,e4,HKEY.out,<- HRK.out]
    exact rpost_later HBY.out ⟨rfl,HRS.out⟩
   ·have m4I:¬ (m:Int)=4:=by omega
    have HFF0:Hid (F=(textF 200 (verFlds (toVer it) (stampL it.time)) (if m=2 then [] else it.body),⟨l,J⟩)):=kfs HWT.out HAV.out HF.out HC0.out m3 m4
    have c1:=HY.out.ref.c1
    obtain⟨a2,c2,hvs2,hI2⟩:=HY.out.ref.itms
    obtain⟨gw,ha2,hgw,i0,i1,i2,i3,i4,i5⟩:=hI2 i it HI.out
    rw[hvs2,ha2] at c1
    clear hvs2 ha2 hI2 HVS
    have hqt:=qTag_len it.body
    have hdl:=dec_len10 (n:=it.num) (k:=13) (by omega) (by omega)
    have hsl:(stampL it.time).length<=40:=by unfold stampL;rw[List.length_take];omega
    obtain⟨vn,hvn⟩:∃ x,it.num=x:=⟨_,rfl⟩
    obtain⟨vt,hvt⟩:∃ x,it.time=x:=⟨_,rfl⟩
    obtain⟨ib,hib⟩:∃ x,it.body=x:=⟨_,rfl⟩
    have HVF:Hid (verFlds (toVer it) (stampL it.time)=[⟨[69,84,97,103],qTag ib⟩,⟨[76,97,115,116,45,77,111,100,105,102,105,101,100],stampL vt⟩,⟨[86,101,114,115,105,111,110],Lib.decDigits vn⟩]):=by rw[<- hvn,<- hvt,<- hib];rfl
    rw[HVF.out,hib] at HFF0
    rw[hvn] at i1 hdl hok
    rw[hvt] at i2 hsl hok
    rw[hib] at i4 hqt hok
    clear hvn hvt hib HVF
    obtain⟨q,hq⟩:∃ q,qTag ib=q:=⟨_,rfl⟩
    obtain⟨D,hD⟩:∃ q,Lib.decDigits vn=q:=⟨_,rfl⟩
    obtain⟨st,hst⟩:∃ q,stampL vt=q:=⟨_,rfl⟩
    have HQT:Hid (∀ y,Calls Tryz.prog 111 #[.string ⟨ib.toArray⟩] y fun e w'=>e=.returned (.string ⟨q.toArray⟩)/\Below y.heap.size y w'):=by rw[<- hq];exact fun y=>refQuoted_any ib y (by omega)
    have HIT:Hid (∀ y,Tab y->Calls Tryz.prog 17 #[.int .i64 (vn:Nat)] y fun e w'=>e=.returned (.string ⟨D.toArray⟩)/\Below y.heap.size y w'):=by rw[<- hD];exact fun y hy=>itoaN vn y (by omega) hy
    have HST:Hid (∀ y,Tab y->Calls Tryz.prog 119 #[.int .i64 (vt:Nat)] y fun e w'=>e=.returned (.string ⟨st.toArray⟩)/\Below y.heap.size y w'):=by rw[<- hst];exact fun y hy=>rstamp_L vt y (by omega) hy
    rw[hq] at hqt HFF0
    rw[hD] at hdl HFF0
    rw[hst] at hsl HFF0
    clear hq hD hst
    obtain⟨f1,hf1⟩:∃ f,fldText ⟨[69,84,97,103],q⟩=f:=⟨_,rfl⟩
    obtain⟨f2,hf2⟩:∃ f,fldText ⟨[76,97,115,116,45,77,111,100,105,102,105,101,100],st⟩=f:=⟨_,rfl⟩
    obtain⟨f3,hf3⟩:∃ f,fldText ⟨[86,101,114,115,105,111,110],D⟩=f:=⟨_,rfl⟩
    have HG1:Hid (∀ y,Calls Tryz.prog 112 #[.string ⟨#[69,84,97,103]⟩,.string ⟨q.toArray⟩] y fun e w'=>e=.returned (.string ⟨f1.toArray⟩)/\Below y.heap.size y w'):=by rw[<- hf1];exact fun y=>(refField_any [69,84,97,103] q y (by simp) (by omega)).mono (fun e w' h=>⟨h.1,by rw[h.2];exact Below.refl _ _⟩)
    have HG2:Hid (∀ y,Calls Tryz.prog 112 #[.string ⟨#[76,97,115,116,45,77,111,100,105,102,105,101,100]⟩,.string ⟨st.toArray⟩] y fun e w'=>e=.returned (.string ⟨f2.toArray⟩)/\Below y.heap.size y w'):=by rw[<- hf2];exact fun y=>(refField_any [76,97,115,116,45,77,111,100,105,102,105,101,100] st y (by simp) (by omega)).mono (fun e w' h=>⟨h.1,by rw[h.2];exact Below.refl _ _⟩)
    have HG3:Hid (∀ y,Calls Tryz.prog 112 #[.string ⟨#[86,101,114,115,105,111,110]⟩,.string ⟨D.toArray⟩] y fun e w'=>e=.returned (.string ⟨f3.toArray⟩)/\Below y.heap.size y w'):=by rw[<- hf3];exact fun y=>(refField_any [86,101,114,115,105,111,110] D y (by simp) (by omega)).mono (fun e w' h=>⟨h.1,by rw[h.2];exact Below.refl _ _⟩)
    have l1:f1.length<=100:=by rw[<- hf1];simp[fldText];omega
    have l2:f2.length<=100:=by rw[<- hf2];simp[fldText];omega
    have l3:f3.length<=100:=by rw[<- hf3];simp[fldText];omega
    have HFL:Hid ([(⟨[69,84,97,103],q⟩:Fld),⟨[76,97,115,116,45,77,111,100,105,102,105,101,100],st⟩,⟨[86,101,114,115,105,111,110],D⟩].flatMap fldText=f1++f2++f3):=by show _=_;simp[hf1,hf2,hf3]
    clear hf1 hf2 hf3
    have a1:=addR f1 f2 (by omega)
    obtain⟨f12,h12⟩:∃ f,f1++f2=f:=⟨_,rfl⟩
    have l12:f12.length<=200:=by rw[<- h12,List.length_append];omega
    rw[h12] at a1 HFL
    have a2:=addR f12 f3 (by omega)
    obtain⟨fs,hfs⟩:∃ f,f12++f3=f:=⟨_,rfl⟩
    have l13:fs.length<=300:=by rw[<- hfs,List.length_append];omega
    rw[hfs] at a2 HFL
    clear h12 hfs l1 l2 l3 hqt hdl hsl
    have HFS:Hid (∀ b,textF 200 [⟨[69,84,97,103],q⟩,⟨[76,97,115,116,45,77,111,100,105,102,105,101,100],st⟩,⟨[86,101,114,115,105,111,110],D⟩] b=Lib.decDigits 200++[13,10]++fs++[13,10]++b):=fun b=>by unfold textF;rw[HFL.out]
    by_cases m2:m=2
    ·have m2I:(m:Int)=2:=by omega
     have HFF:Hid (F=(textF 200 [⟨[69,84,97,103],q⟩,⟨[76,97,115,116,45,77,111,100,105,102,105,101,100],st⟩,⟨[86,101,114,115,105,111,110],D⟩] [],⟨l,J⟩)):=by
      have:=HFF0.out
      rw[if_pos m2] at this
      exact this
     clear m2 m3 m4 m3I m4I
     clear HFF0
     go_wp2_with fail
     obtain⟨W,hW⟩:∃ W,y2.alloc (.cells #[.string ⟨it.key.toArray⟩,.int .i64 (vn:Nat),.int .i64 (vt:Nat),.bool it.mark,.string ⟨ib.toArray⟩,.bool it.gone] 199)=W:=⟨_,rfl⟩
     have B1:W.cell? ⟨y2.heap.size,1,none⟩=some (.int .i64 (vn:Nat)):=by rw[<- hW];simp
     have B2:W.cell? ⟨y2.heap.size,2,none⟩=some (.int .i64 (vt:Nat)):=by rw[<- hW];simp
     have B4:W.cell? ⟨y2.heap.size,4,none⟩=some (.string ⟨ib.toArray⟩):=by rw[<- hW];simp
     have HWB:Hid (Below w.heap.size w W):=by rw[<- hW];exact HBY.out.alloc HBY.out.size _
     rw[hW]
     clear hW i0 i1 i2 i3 i4 i5 c1 m1
     have b1:∀ d os,(Sort.grow (redrawn W d) os).cell? ⟨y2.heap.size,1,none⟩=some (.int .i64 (vn:Nat)):=fun d os=>cell_regrown B1 d os
     have b2:∀ d os,(Sort.grow (redrawn W d) os).cell? ⟨y2.heap.size,2,none⟩=some (.int .i64 (vt:Nat)):=fun d os=>cell_regrown B2 d os
     have b4:∀ d os,(Sort.grow (redrawn W d) os).cell? ⟨y2.heap.size,4,none⟩=some (.string ⟨ib.toArray⟩):=fun d os=>cell_regrown B4 d os
     have HTW:Hid (Tbl W):=HH.out.tbl.below HWB.out
     have HQ:Hid (∀ (d:Nat) (os:Array Obj),_):=fun d os=>Calls.regrown_of (w:=W) (HQT.out (Sort.grow (redrawn W d) os))
     have HS:Hid (∀ (d:Nat) (os:Array Obj),_):=fun d os=>Calls.regrown_of (w:=W) (HST.out (Sort.grow (redrawn W d) os) (HTW.out.b.below (below_regrown W d os)))
     have HI2:Hid (∀ (d:Nat) (os:Array Obj),_):=fun d os=>Calls.regrown_of (w:=W) (HIT.out (Sort.grow (redrawn W d) os) (HTW.out.b.below (below_regrown W d os)))
     have HF1:Hid (∀ (d:Nat) (os:Array Obj),_):=fun d os=>Calls.regrown_of (w:=W) (HG1.out (Sort.grow (redrawn W d) os))
     have HF2:Hid (∀ (d:Nat) (os:Array Obj),_):=fun d os=>Calls.regrown_of (w:=W) (HG2.out (Sort.grow (redrawn W d) os))
     have HF3:Hid (∀ (d:Nat) (os:Array Obj),_):=fun d os=>Calls.regrown_of (w:=W) (HG3.out (Sort.grow (redrawn W d) os))
     have HRE:Hid (∀ (d:Nat) (os:Array Obj),_):=fun d os=>Calls.regrown_of (w:=W) (refReply_any 200 fs [] (Sort.grow (redrawn W d) os) (HTW.out.b.below (below_regrown W d os)) (by omega) (by omega) (by first|omega|simp))
     clear B1 B2 B4
     refine wp_region_quiet_below (by kernel_rfl) (by kernel_rfl) ?_
     repeat (first|go_big_quiet_step (first|(go_at_call 111;exact HQ.out _ _)|(go_at_call_of 112 (Value.string ⟨q.toArray⟩);exact HF1.out _ _)|(go_at_call 119;exact HS.out _ _)|(go_at_call_of 112 (Value.string ⟨st.toArray⟩);exact HF2.out _ _)|(go_at_call 17;exact HI2.out _ _)|(go_at_call_of 112 (Value.string ⟨D.toArray⟩);exact HF3.out _ _)|(go_at_call 55;exact HRE.out _ _))|quiet_step (first|(go_at_call 111;exact HQ.out _ _)|(go_at_call_of 112 (Value.string ⟨q.toArray⟩);exact HF1.out _ _)|(go_at_call 119;exact HS.out _ _)|(go_at_call_of 112 (Value.string ⟨st.toArray⟩);exact HF2.out _ _)|(go_at_call 17;exact HI2.out _ _)|(go_at_call_of 112 (Value.string ⟨D.toArray⟩);exact HF3.out _ _)|(go_at_call 55;exact HRE.out _ _)))
     refine wpQuiet_nil ?_
     intro w2 hw'
     have hB2:Below W.heap.size W w2:=by
      obtain⟨⟨dq,osq⟩,hw''⟩:=hw'
      rw[hw'']
      exact below_regrown W dq osq
     clear hw'
     go_wp2
     go_ret
     exact rpost_kept (by rw[HFF.out,HFS.out]) HH.out.ref (HWB.out.trans (hB2.mono HWB.out.size))
    ·have m2I:¬ (m:Int)=2:=by omega
     have HFF:Hid (F=(textF 200 [⟨[69,84,97,103],q⟩,⟨[76,97,115,116,45,77,111,100,105,102,105,101,100],st⟩,⟨[86,101,114,115,105,111,110],D⟩] ib,⟨l,J⟩)):=by
      have:=HFF0.out
      rw[if_neg m2] at this
      exact this
     clear m2 m3 m4
     clear HFF0
     go_wp2_with fail
     obtain⟨W,hW⟩:∃ W,y2.alloc (.cells #[.string ⟨it.key.toArray⟩,.int .i64 (vn:Nat),.int .i64 (vt:Nat),.bool it.mark,.string ⟨ib.toArray⟩,.bool it.gone] 199)=W:=⟨_,rfl⟩
     have B1:W.cell? ⟨y2.heap.size,1,none⟩=some (.int .i64 (vn:Nat)):=by rw[<- hW];simp
     have B2:W.cell? ⟨y2.heap.size,2,none⟩=some (.int .i64 (vt:Nat)):=by rw[<- hW];simp
     have B4:W.cell? ⟨y2.heap.size,4,none⟩=some (.string ⟨ib.toArray⟩):=by rw[<- hW];simp
     have HWB:Hid (Below w.heap.size w W):=by rw[<- hW];exact HBY.out.alloc HBY.out.size _
     rw[hW]
     clear hW i0 i1 i2 i3 i4 i5 c1 m1
     have b1:∀ d os,(Sort.grow (redrawn W d) os).cell? ⟨y2.heap.size,1,none⟩=some (.int .i64 (vn:Nat)):=fun d os=>cell_regrown B1 d os
     have b2:∀ d os,(Sort.grow (redrawn W d) os).cell? ⟨y2.heap.size,2,none⟩=some (.int .i64 (vt:Nat)):=fun d os=>cell_regrown B2 d os
     have b4:∀ d os,(Sort.grow (redrawn W d) os).cell? ⟨y2.heap.size,4,none⟩=some (.string ⟨ib.toArray⟩):=fun d os=>cell_regrown B4 d os
     have HTW:Hid (Tbl W):=HH.out.tbl.below HWB.out
     have HQ:Hid (∀ (d:Nat) (os:Array Obj),_):=fun d os=>Calls.regrown_of (w:=W) (HQT.out (Sort.grow (redrawn W d) os))
     have HS:Hid (∀ (d:Nat) (os:Array Obj),_):=fun d os=>Calls.regrown_of (w:=W) (HST.out (Sort.grow (redrawn W d) os) (HTW.out.b.below (below_regrown W d os)))
     have HI2:Hid (∀ (d:Nat) (os:Array Obj),_):=fun d os=>Calls.regrown_of (w:=W) (HIT.out (Sort.grow (redrawn W d) os) (HTW.out.b.below (below_regrown W d os)))
     have HF1:Hid (∀ (d:Nat) (os:Array Obj),_):=fun d os=>Calls.regrown_of (w:=W) (HG1.out (Sort.grow (redrawn W d) os))
     have HF2:Hid (∀ (d:Nat) (os:Array Obj),_):=fun d os=>Calls.regrown_of (w:=W) (HG2.out (Sort.grow (redrawn W d) os))
     have HF3:Hid (∀ (d:Nat) (os:Array Obj),_):=fun d os=>Calls.regrown_of (w:=W) (HG3.out (Sort.grow (redrawn W d) os))
     have HRE:Hid (∀ (d:Nat) (os:Array Obj),_):=fun d os=>Calls.regrown_of (w:=W) (refReply_any 200 fs ib (Sort.grow (redrawn W d) os) (HTW.out.b.below (below_regrown W d os)) (by omega) (by omega) (by first|omega|simp))
     clear B1 B2 B4
     refine wp_region_quiet_below (by kernel_rfl) (by kernel_rfl) ?_
     repeat (first|go_big_quiet_step (first|(go_at_call 111;exact HQ.out _ _)|(go_at_call_of 112 (Value.string ⟨q.toArray⟩);exact HF1.out _ _)|(go_at_call 119;exact HS.out _ _)|(go_at_call_of 112 (Value.string ⟨st.toArray⟩);exact HF2.out _ _)|(go_at_call 17;exact HI2.out _ _)|(go_at_call_of 112 (Value.string ⟨D.toArray⟩);exact HF3.out _ _)|(go_at_call 55;exact HRE.out _ _))|quiet_step (first|(go_at_call 111;exact HQ.out _ _)|(go_at_call_of 112 (Value.string ⟨q.toArray⟩);exact HF1.out _ _)|(go_at_call 119;exact HS.out _ _)|(go_at_call_of 112 (Value.string ⟨st.toArray⟩);exact HF2.out _ _)|(go_at_call 17;exact HI2.out _ _)|(go_at_call_of 112 (Value.string ⟨D.toArray⟩);exact HF3.out _ _)|(go_at_call 55;exact HRE.out _ _)))
     refine wpQuiet_nil ?_
     intro w2 hw'
     have hB2:Below W.heap.size W w2:=by
      obtain⟨⟨dq,osq⟩,hw''⟩:=hw'
      rw[hw'']
      exact below_regrown W dq osq
     clear hw'
     go_wp2
     go_ret
     exact rpost_kept (by rw[HFF.out,HFS.out]) HH.out.ref (HWB.out.trans (hB2.mono HWB.out.size))
 ·have h0I:¬ (cd:Int)=0:=by omega
  have HFF:Hid (F=(textF cd [] [],⟨l,J⟩)):=by
   show _=_
   rw[<- HCD.out]
   exact kf0 HWT.out HAV.out HF.out (by rw[HCD.out];exact h0)
  have HRP:Hid _:=refReply_any cd [] [] y2 HY.out.tbl.b (by omega) (by simp) (by simp)
  clear h0
  go_wp2_with fail
  refine Calls.mono HRP.out ?_
  rintro e w5 ⟨rfl,hb5⟩
  have HB5:Hid _:=hb5
  clear hb5
  go_wp2
  go_ret
  exact rpost_kept (by rw[HFF.out];simp[textF]) HH.out.ref (HBY.out.trans (HB5.out.mono HBY.out.size))
end Go.Proofs.YtmehkneofinmiaaGreatDoor

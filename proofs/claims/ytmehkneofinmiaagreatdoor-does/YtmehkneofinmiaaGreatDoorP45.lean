/-
 Texts of this proof, part 45.
-/
import Derived.Test.YtmehkneofinmiaaGreatDoorP37
set_option maxRecDepth 100000
set_option maxHeartbeats 4000000
namespace Go.Proofs.YtmehkneofinmiaaGreatDoor
open Go.RowKit
def verN:List UInt8:=[86,101,114,115,105,111,110]
def delsF (t:Nat)(s:Rst)(one:Bool)(key:List UInt8)(v:Nat)(at_:Bool)(whole:Option Nat):List UInt8×Rst :=
 if one then
  match whole with
  | none=>(textF 404 [] [],s)
  | some i=>match s.l[i]? with
    | none=>(textF 404 [] [],s)
    | some it=>(textF 204 [⟨verN,Lib.decDigits v⟩] [],⟨s.l.set i ⟨it.key,it.num,it.time,it.mark,it.body,true⟩,s.J++recF 3 t it.key it.num []⟩)
 else if at_ then
  if roomF key s.l then (textF 204 [⟨verN,Lib.decDigits (lastF key s.l+1)⟩] [],⟨s.l++[⟨key,lastF key s.l+1,t,true,[],false⟩],s.J++recF 2 t key (lastF key s.l+1) []⟩)
  else (textF 507 [] [],s)
 else (textF 404 [] [],s)
def RPost (w:World)(p t:Nat)(vs:Value)(r:List UInt8×Rst)(e:Ending)(w':World):Prop :=
 e=.returned (.string ⟨r.1.toArray⟩)/\∃ vs',RefAt w' p t r.2.l r.2.J vs'/\(∀ g,vs'.ownBlock=some g->vs.ownBlock=some g\/w.heap.size<=g)/\Off (fun k=>k=p\/vs.ownBlock=some k) w w'
theorem RefAt.vlt {w:World}{p t:Nat}{l:List Itm}{J:List UInt8}{vs:Value}(h:RefAt w p t l J vs):∀ g,vs.ownBlock=some g->g<w.heap.size:=fun g hg=>by
 rcases h.row.2 with ⟨h0,_⟩|⟨g',cap,cur,hv,_,hgg,_⟩
 ·rw[h0] at hg
  cases hg
 ·rw[hv] at hg
  cases hg
  exact (Array.getElem?_eq_some_iff.1 hgg).1
theorem refNum_any (D:List UInt8)(y:World)(hT:Tab y)(hd:D.length<=30) :
 Calls Tryz.prog 55 #[.int .i64 204,.string ⟨(fldText ⟨verN,D⟩).toArray⟩,.string ⟨#[]⟩] y fun e w'=>e=.returned (.string ⟨(textF 204 [⟨verN,D⟩] []).toArray⟩)/\Below y.heap.size y w':=by
 have:=refReply_any 204 (fldText ⟨verN,D⟩) [] y hT (by omega) (by simp[fldText,verN];omega) (by simp)
 have e:Lib.decDigits 204++[13,10]++fldText ⟨verN,D⟩++[13,10]++[]=textF 204 [⟨verN,D⟩] []:=by simp[textF]
 rw[e] at this
 exact this
theorem refDeletes_any (p t:Nat)(l:List Itm)(J:List UInt8)(vs:Value)(r:RReq)(v:Nat)(at_:Int)(whole:Option Nat)(w:World)(h:RefAt w p t l J vs)(hT:Tbl w)(hH:∀ k,(k=p\/vs.ownBlock=some k)->High k)(hl:l.length+1<1000000000000)(hJ:J.length<=900000000000000)(ht:t<4611686018427387904)(hn:lastF r.key l<1000000000000)(hk:r.key.length<=1000)
 (hv:r.v=(v:Int))(hv1:v<1000000000000)(hwh:∀ i,whole=some i->∃ it,l[i]?=some it/\it.num<4611686018427387904/\it.key.length<=1000) :
 Calls Tryz.prog 118 #[.pointer (some ⟨p,0,none⟩),.agg (rqCells r),.int .i64 at_,.int .i64 (idxI whole)] w (RPost w p t vs (delsF t ⟨l,J⟩ (decide (r.target=4)) r.key v (decide (0<=at_)) whole)):=by
 have HR:Hid _:=h
 have HTT:Hid _:=hT
 have HHH:Hid _:=hH
 have hpl:=h.lt
 have HVL:Hid _:=h.vlt
 obtain⟨key,hkey⟩:∃ k,r.key=k:=⟨_,rfl⟩
 obtain⟨tg,htg⟩:∃ k,r.target=k:=⟨_,rfl⟩
 have HRC:Hid ((rqCells r).size=21/\(rqCells r)[3]?=some (.string ⟨key.toArray⟩)/\(rqCells r)[5]?=some (.int .i64 (v:Int))/\(rqCells r)[2]?=some (.int .i64 (tg:Int))):=by rw[<- hkey,<- htg,<- hv];exact⟨rfl,rfl,rfl,rfl⟩
 rw[hkey] at hn hk ⊢
 rw[htg] at ⊢
 obtain⟨RC,hRC⟩:∃ c,rqCells r=c:=⟨_,rfl⟩
 rw[hRC] at HRC ⊢
 have hRS:=HRC.out.1
 have q3:=HRC.out.2.1
 have q5:=HRC.out.2.2.1
 have q2:=HRC.out.2.2.2
 have k2:RC[2]'(by omega)=.int .i64 (tg:Int):=(Array.getElem?_eq_some_iff.1 q2).2
 have k3:RC[3]'(by omega)=.string ⟨key.toArray⟩:=(Array.getElem?_eq_some_iff.1 q3).2
 have HN:Hid _:=hn
 have HK:Hid _:=hk
 have HL:Hid _:=hl
 have HJJ:Hid _:=hJ
 have HTB:Hid _:=ht
 have HWH:Hid _:=hwh
 obtain⟨x,hx⟩:∃ x,w.alloc (.cells RC 130)=x:=⟨_,rfl⟩
 have hbx:Below w.heap.size w x:=by rw[<- hx];exact (Below.refl _ _).alloc (Nat.le_refl _) _
 have HXB:Hid (x.heap[w.heap.size]?=some (.cells RC 130 (0,0))):=by rw[<- hx];exact heap_alloc_new w _
 have hxs:w.heap.size<x.heap.size:=by rw[<- hx];simp
 have HRX:Hid (RefAt x p t l J vs):=HR.out.below hbx
 have HBX:Hid _:=hbx
 have HTX:Hid _:=HTT.out.below hbx
 have HNO:Hid (∀ cd:Nat,cd<1000->Calls Tryz.prog 55 #[.int .i64 cd,.string ⟨#[]⟩,.string ⟨#[]⟩] x fun e w'=>e=.returned (.string ⟨(textF cd [] []).toArray⟩)/\Below x.heap.size x w'):=fun cd hc=>by
  have:=refReply_any cd [] [] x HTX.out.b (by omega) (by simp) (by simp)
  have e:Lib.decDigits cd++[13,10]++[]++[13,10]++[]=textF cd [] []:=by simp[textF]
  rw[e] at this
  exact this
 have HEND:Hid (∀ cd w2,Below x.heap.size x w2->delsF t ⟨l,J⟩ (decide (tg=4)) key v (decide (0<=at_)) whole=(textF cd [] [],⟨l,J⟩)->RPost w p t vs (delsF t ⟨l,J⟩ (decide (tg=4)) key v (decide (0<=at_)) whole) (.returned (.string ⟨(textF cd [] []).toArray⟩)) w2):=fun cd w2 hb he=>by
  rw[he]
  exact⟨rfl,vs,HRX.out.below hb,fun g hg=>Or.inl hg,Off.of_below (HBX.out.trans (hb.mono HBX.out.size))⟩
 have HYES:Hid (∀ w2 w3 vs' (s:Rst) D,RefAt w2 p t s.l s.J vs'->(∀ g,vs'.ownBlock=some g->vs.ownBlock=some g\/x.heap.size<=g)->Off (fun k=>k=p\/vs.ownBlock=some k) x w2->Below w2.heap.size w2 w3->delsF t ⟨l,J⟩ (decide (tg=4)) key v (decide (0<=at_)) whole=(textF 204 [⟨verN,D⟩] [],s)->RPost w p t vs (delsF t ⟨l,J⟩ (decide (tg=4)) key v (decide (0<=at_)) whole) (.returned (.string ⟨(textF 204 [⟨verN,D⟩] []).toArray⟩)) w3):=fun w2 w3 vs' s D hr hg ho hb he=>by
  rw[he]
  exact⟨rfl,vs',hr.below hb,fun g h=>(hg g h).imp id (fun h=>Nat.le_trans HBX.out.size h),((Off.of_below HBX.out).trans ho).trans (Off.of_below hb)⟩
 obtain⟨dl,hdl⟩:∃ d,delsF t ⟨l,J⟩ (decide (tg=4)) key v (decide (0<=at_)) whole=d:=⟨_,rfl⟩
 have HDL:Hid _:=hdl
 rw[hdl] at HEND HYES ⊢
 clear h hT hH hkey htg hRC hn hk hl hJ ht HRC hwh hv hbx HR hdl
 have hgo:w.alloc (.cells RC 130)=x:=hx
 have x2:x.cell? ⟨w.heap.size,2,none⟩=some (.int .i64 (tg:Int)):=by simp only[World.cell?,HXB.out];exact q2
 have x3:x.cell? ⟨w.heap.size,3,none⟩=some (.string ⟨key.toArray⟩):=by simp only[World.cell?,HXB.out];exact q3
 clear k2 k3 hx
 by_cases h4:tg=4
 ·have h4I:(tg:Int)=4:=by omega
  cases whole with
  | none =>
    have HE:Hid (dl=(textF 404 [] [],⟨l,J⟩)):=by rw[<- HDL.out,h4];rfl
    simp only[idxI]
    go_enter Tryz.func118,Tryz.ntmps118
    go_wp2_with (go_at_call 55;refine Calls.mono (HNO.out 404 (by omega)) ?_;rintro e w2 ⟨rfl,hb2⟩)
    go_ret
    exact HEND.out 404 w2 hb2 HE.out
  | some i =>
    obtain⟨it,hit,hi1,hi2⟩:=HWH.out i rfl
    have HLV:Hid _:=refLeave_any p t l J vs i it x HRX.out hit HJJ.out HTB.out hi1 hi2
    have HE:Hid (dl=(textF 204 [⟨verN,Lib.decDigits v⟩] [],⟨l.set i ⟨it.key,it.num,it.time,it.mark,it.body,true⟩,J++recF 3 t it.key it.num []⟩)):=by show _=_;rw[<- HDL.out,h4];simp[delsF,hit]
    simp only[idxI]
    clear hit
    go_enter Tryz.func118,Tryz.ntmps118
    go_wp2_with fail
    refine Calls.mono HLV.out ?_
    rintro e w2 ⟨⟨u,rfl⟩,hR2,hO2⟩
    have hyes:∀ w3,Below w2.heap.size w2 w3->RPost w p t vs dl (.returned (.string ⟨(textF 204 [⟨verN,Lib.decDigits v⟩] []).toArray⟩)) w3:=fun w3 hb=>HYES.out w2 w3 vs _ _ hR2 (fun g hg=>Or.inl hg) hO2 hb HE.out
    have HXB2:Hid (w2.heap[w.heap.size]?=some (.cells RC 130 (0,0))):=by
     show _=_
     rw[<- HXB.out]
     refine hO2.block _ hxs (fun e=>?_)
     rcases e with e|e
     ·omega
     ·have:=HVL.out _ e
      omega
    have y5:w2.cell? ⟨w.heap.size,5,none⟩=some (.int .i64 (v:Int)):=by simp only[World.cell?,HXB2.out];exact q5
    have hw2:w.heap.size<w2.heap.size:=Nat.lt_of_lt_of_le hxs hO2.size
    have HT2:Hid (Tbl w2):=HTX.out.off hO2 HHH.out
    have hd:=dec_len10 (n:=v) (k:=13) (by omega) (by omega)
    have HI:Hid _:=itoaN v w2 (by omega) HT2.out.b
    obtain⟨D,hD⟩:∃ q,Lib.decDigits v=q:=⟨_,rfl⟩
    rw[hD] at hd HI hyes
    have HF2:Hid _:=fun y=>refField_any verN D y (by simp[verN]) (by omega)
    have HRN:Hid (∀ y,Below w2.heap.size w2 y->_):=fun y hy=>refNum_any D y (HT2.out.below hy).b (by omega)
    unfold verN at HF2 HRN hyes
    obtain⟨f2,hf2⟩:∃ f,fldText ⟨[86,101,114,115,105,111,110],D⟩=f:=⟨_,rfl⟩
    rw[hf2] at HF2 HRN
    have HY:Hid _:=hyes
    clear hf2 hD hyes hR2 hO2 HXB2
    go_wp2_with (first
     | (go_at_call 17;refine Calls.mono HI.out ?_;rintro e w5 ⟨rfl,hb5⟩)
     | (go_at_call 112;refine Calls.mono (HF2.out _) ?_;rintro e w6 ⟨rfl,rfl⟩)
     | (go_at_call 55;refine Calls.mono (HRN.out _ hb5) ?_;rintro e w7 ⟨rfl,hb7⟩))
    go_ret
    exact HY.out w7 (hb5.trans (hb7.mono hb5.size))
 ·have h4I:¬ (tg:Int)=4:=by omega
  by_cases hat:at_<0
  ·have HE:Hid (dl=(textF 404 [] [],⟨l,J⟩)):=by show _=_;rw[<- HDL.out];simp[delsF,h4,show ¬ (0:Int)<=at_ by omega]
   go_enter Tryz.func118,Tryz.ntmps118
   go_wp2_with (go_at_call 55;refine Calls.mono (HNO.out 404 (by omega)) ?_;rintro e w2 ⟨rfl,hb2⟩)
   go_ret
   exact HEND.out 404 w2 hb2 HE.out
  ·have HRO:Hid _:=refRoom_any p t l J vs key x HRX.out
   cases hro:roomF key l with
   | false =>
     have HE:Hid (dl=(textF 507 [] [],⟨l,J⟩)):=by show _=_;rw[<- HDL.out];simp[delsF,h4,show (0:Int)<=at_ by omega,hro]
     rw[hro] at HRO
     clear hro
     go_enter Tryz.func118,Tryz.ntmps118
     go_wp2_with (first
      | (go_at_call 164;refine Calls.mono HRO.out ?_;rintro e w1 ⟨rfl,rfl⟩)
      | (go_at_call 55;refine Calls.mono (HNO.out 507 (by omega)) ?_;rintro e w2 ⟨rfl,hb2⟩))
     go_ret
     exact HEND.out 507 w2 hb2 HE.out
   | true =>
     have HCM:Hid _:=refCome_any p t l J vs key true [] x HRX.out HL.out HJJ.out HTB.out HN.out HK.out (by simp)
     obtain⟨nn,hnn⟩:∃ n,lastF key l+1=n:=⟨_,rfl⟩
     have hn1:nn<2000000000000:=by have:=HN.out;omega
     rw[hnn] at HCM
     have HE:Hid (dl=(textF 204 [⟨verN,Lib.decDigits nn⟩] [],⟨l++[⟨key,nn,t,true,[],false⟩],J++recF 2 t key nn []⟩)):=by show _=_;rw[<- HDL.out];simp[delsF,h4,show (0:Int)<=at_ by omega,hro,hnn]
     rw[hro] at HRO
     clear hro hnn
     go_enter Tryz.func118,Tryz.ntmps118
     go_wp2_with (go_at_call 164;refine Calls.mono HRO.out ?_;rintro e w1 ⟨rfl,hw1⟩;rw[hw1];clear hw1)
     refine Calls.mono HCM.out ?_
     rintro e w2 ⟨rfl,vs',hR2,hg2,hO2⟩
     have hyes:∀ w3,Below w2.heap.size w2 w3->RPost w p t vs dl (.returned (.string ⟨(textF 204 [⟨verN,Lib.decDigits nn⟩] []).toArray⟩)) w3:=fun w3 hb=>HYES.out w2 w3 vs' _ _ hR2 hg2 hO2 hb HE.out
     have HT2:Hid (Tbl w2):=HTX.out.off hO2 HHH.out
     have hd:=dec_len10 (n:=nn) (k:=13) (by omega) (by omega)
     have HI:Hid _:=itoaN nn w2 (by omega) HT2.out.b
     obtain⟨D,hD⟩:∃ q,Lib.decDigits nn=q:=⟨_,rfl⟩
     rw[hD] at hd HI hyes
     have HF2:Hid _:=fun y=>refField_any verN D y (by simp[verN]) (by omega)
     have HRN:Hid (∀ y,Below w2.heap.size w2 y->_):=fun y hy=>refNum_any D y (HT2.out.below hy).b (by omega)
     unfold verN at HF2 HRN hyes
     obtain⟨f2,hf2⟩:∃ f,fldText ⟨[86,101,114,115,105,111,110],D⟩=f:=⟨_,rfl⟩
     rw[hf2] at HF2 HRN
     have HY:Hid _:=hyes
     clear hf2 hD hyes hR2 hO2
     go_wp2_with (first
      | (go_at_call 17;refine Calls.mono HI.out ?_;rintro e w5 ⟨rfl,hb5⟩)
      | (go_at_call 112;refine Calls.mono (HF2.out _) ?_;rintro e w6 ⟨rfl,rfl⟩)
      | (go_at_call 55;refine Calls.mono (HRN.out _ hb5) ?_;rintro e w7 ⟨rfl,hb7⟩))
     go_ret
     exact HY.out w7 (hb5.trans (hb7.mono hb5.size))
theorem belTrans {W y z:World}(h:Below W.heap.size W y)(k:Below y.heap.size y z):Below W.heap.size W z:=h.trans (k.mono h.size)
def lineR (v:Nat)(it:Itm):List UInt8:=Lib.decDigits v++[32]++Lib.decDigits it.time++[32]++(if it.mark then [103,111,110,101] else qTag it.body)++[10]
def oneR (l:List Itm)(key:List UInt8)(v:Nat):List UInt8:=match findF key (v:Int) l with
 | none=>[]
 | some i=>match l[i]? with
   | none=>[]
   | some it=>lineR v it
def histL (l:List Itm)(key:List UInt8):Nat->List UInt8
 | 0=>[]
 | n+1=>oneR l key (n+1)++histL l key n
def histF (l:List Itm)(key:List UInt8):List UInt8:=if histL l key (lastF key l)=[] then textF 404 [] [] else textF 200 [] (histL l key (lastF key l))
theorem refHistory_any (p t:Nat)(l:List Itm)(J:List UInt8)(vs:Value)(key:List UInt8)(w:World)(h:RefAt w p t l J vs)(hT:Tbl w)(hn:lastF key l<1000000000000)(hit:∀ it∈l,it.time<1000000000000/\it.body.length<=1000) :
 Calls Tryz.prog 57 #[.pointer (some ⟨p,0,none⟩),.string ⟨key.toArray⟩] w fun e w'=>e=.returned (.string ⟨(histF l key).toArray⟩)/\Below w.heap.size w w':=by
 have HR:Hid (∀ x,Below w.heap.size w x->RefAt x p t l J vs):=fun x hx=>h.below hx
 have HTT:Hid (∀ x,Below w.heap.size w x->Tbl x):=fun x hx=>hT.below hx
 have HIT:Hid _:=hit
 have HLA:Hid _:=refLast_any p t l J vs key w h
 clear h hT hit
 have HH:Hid (histF l key=if histL l key (lastF key l)=[] then textF 404 [] [] else textF 200 [] (histL l key (lastF key l))):=rfl
 obtain⟨la,hla⟩:∃ n,lastF key l=n:=⟨_,rfl⟩
 rw[hla] at HLA hn HH
 obtain⟨HL,hHL⟩:∃ x,histL l key la=x:=⟨_,rfl⟩
 rw[hHL] at HH
 have HHL:Hid _:=hHL
 obtain⟨out,hout⟩:∃ x,histF l key=x:=⟨_,rfl⟩
 rw[hout] at HH ⊢
 clear hla hHL hout
 go_enter Tryz.func57,Tryz.ntmps57
 go_wp2_with fail
 refine Calls.mono HLA.out ?_
 rintro e w0 ⟨rfl,hw0⟩
 rw[hw0]
 clear hw0
 go_wp2_with fail
 go_loopw [5,6] (fun ov vv wr=>∃ (m:Nat) (o:List UInt8),m<=la/\vv=.int .i64 m/\ov=.string ⟨o.toArray⟩/\HL=o++histL l key m/\o.length+m*200<=la*200/\Below w.heap.size w wr) (fun _ vv _=>(intOf vv).toNat)
 case atStart=>exact⟨la,[],Nat.le_refl _,rfl,rfl,by rw[List.nil_append];exact HHL.out.symm,by simp,Below.refl _ _⟩
 case round =>
  obtain⟨m,o,hm,rfl,rfl,ho,hol,hb⟩:=hrel
  have HO:Hid _:=ho
  have HB:Hid _:=hb
  clear ho hb
  by_cases hm0:m=0
  ·subst hm0
   have HE:Hid (HL=o):=by have:=HO.out;rw[histL,List.append_nil] at this;exact this
   have hos:(⟨o.toArray⟩:ByteArray).size=o.length:=Lib.size_eq _
   have HNO:Hid _:=refReply_any 404 [] [] wr (HTT.out wr HB.out).b (by omega) (by simp) (by simp)
   have HYE:Hid _:=refReply_any 200 [] o wr (HTT.out wr HB.out).b (by omega) (by simp) (by omega)
   by_cases ho0:o=[]
   ·subst ho0
    have HX:Hid (out=Lib.decDigits 404++[13,10]++[]++[13,10]++[]):=by show _=_;rw[HH.out,HE.out];simp[textF]
    go_wp2_with (go_at_call 55;refine Calls.mono HNO.out ?_;rintro e w2 ⟨rfl,hb2⟩)
    go_ret
    exact⟨ret_str (by rw[HX.out];simp),HB.out.trans (hb2.mono HB.out.size)⟩
   ·have hoe:o.isEmpty=false:=by simpa using ho0
    have hon:(o=[])=False:=eq_false ho0
    have HX:Hid (out=Lib.decDigits 200++[13,10]++[]++[13,10]++o):=by show _=_;rw[HH.out,HE.out,if_neg ho0];simp[textF]
    go_wp2_with (first
     | (go_at_call_of 55 (Value.int .i64 200);refine Calls.mono HYE.out ?_;rintro e w2 ⟨rfl,hb2⟩)
     | (exfalso;simp_all;done))
    all_goals go_ret
    all_goals exact⟨ret_str (by rw[HX.out];simp),HB.out.trans (hb2.mono HB.out.size)⟩
  ·obtain⟨m',hm'⟩:∃ m',m=m'+1:=⟨m-1,by omega⟩
   have hmp:(0:Int)<(m:Int):=by omega
   have hFI:=refFind_any p t l J vs key (m:Int) wr (HR.out wr HB.out)
   have HS:Hid (histL l key m=oneR l key m++histL l key m'):=by show _=_;rw[hm'];rfl
   have HM:Hid (m=m'+1):=hm'
   clear hm' hm0
   have c1:=(HR.out wr HB.out).c1
   obtain⟨a,c,hvs,hI⟩:=(HR.out wr HB.out).itms
   have hfew:=(HR.out wr HB.out).few
   cases hf:findF key (m:Int) l with
   | none =>
     have HON:Hid (oneR l key m=[]):=by show _=_;unfold oneR;rw[hf]
     rw[hf] at hFI
     have HFI:Hid _:=hFI
     clear hFI hf hI
     go_wp2_with (go_at_call 114;refine Calls.mono HFI.out ?_;rintro e w1 ⟨rfl,hw1⟩;rw[hw1];clear hw1;simp only[idxI])
     have hm':=HM.out
     exact⟨⟨m',o,by omega,congrArg (Value.int .i64) (by omega),rfl,by rw[HO.out,HS.out,HON.out,List.nil_append],by omega,HB.out⟩,by simp[intOf];omega⟩
   | some i =>
     have hlt:=findF_lt hf
     obtain⟨it,hiv⟩:∃ v,l[i]?=some v:=⟨_,List.getElem?_eq_getElem hlt⟩
     have hok:=HIT.out it (List.mem_of_getElem? hiv)
     have HON:Hid (oneR l key m=lineR m it):=by show _=_;unfold oneR;rw[hf];simp only[hiv]
     obtain⟨g,rfl,hg,i0,i1,i2,i3,i4,i5⟩:=hI i it hiv
     rw[hf] at hFI
     have HFI:Hid _:=hFI
     have hiI:(i:Int)<(l.length:Int):=by omega
     subst hvs
     clear hFI hf hI hiv
     have ld1:=dec_len10 (n:=m) (k:=13) (by omega) (by omega)
     have ld2:=dec_len10 (n:=it.time) (k:=13) (by omega) (by omega)
     have lq:=qTag_len it.body
     obtain⟨D1,hD1⟩:∃ D,Lib.decDigits m=D:=⟨_,rfl⟩
     obtain⟨D2,hD2⟩:∃ D,Lib.decDigits it.time=D:=⟨_,rfl⟩
     obtain⟨q,hq⟩:∃ q,qTag it.body=q:=⟨_,rfl⟩
     rw[hD1] at ld1
     rw[hD2] at ld2
     rw[hq] at lq
     have HLN:Hid (lineR m it=D1++[32]++D2++[32]++(if it.mark then [103,111,110,101] else q)++[10]):=by rw[<- hD1,<- hD2,<- hq];rfl
     have HQ:Hid (∀ y,Calls Tryz.prog 111 #[.string ⟨it.body.toArray⟩] y fun e w'=>e=.returned (.string ⟨q.toArray⟩)/\Below y.heap.size y w'):=by rw[<- hq];exact fun y=>refQuoted_any it.body y (by omega)
     have HD1:Hid (Lib.decDigits m=D1):=hD1
     have HD2:Hid (Lib.decDigits it.time=D2):=hD2
     obtain⟨q1,e1⟩:∃ x,o++D1=x:=⟨_,rfl⟩
     obtain⟨q2,e2⟩:∃ x,q1++[32]=x:=⟨_,rfl⟩
     obtain⟨q3,e3⟩:∃ x,q2++D2=x:=⟨_,rfl⟩
     obtain⟨q4,e4⟩:∃ x,q3++[32]=x:=⟨_,rfl⟩
     have z0:o.length<=200000000000000:=by omega
     have z1:q1.length=o.length+D1.length:=by rw[<- e1,List.length_append]
     have z2:q2.length=q1.length+1:=by rw[<- e2];simp
     have z3:q3.length=q2.length+D2.length:=by rw[<- e3,List.length_append]
     have z4:q4.length=q3.length+1:=by rw[<- e4];simp
     have a1:=addR o D1 (by omega)
     have a2:=addR q1 [32] (by simp;omega)
     have a3:=addR q2 D2 (by omega)
     have a4:=addR q3 [32] (by simp;omega)
     rw[e1] at a1
     rw[e2] at a2
     rw[e3] at a3
     rw[e4] at a4
     have HQ4:Hid (q4=o++(D1++[32]++D2++[32])):=by show _=_;rw[<- e4,<- e3,<- e2,<- e1];simp
     have z4':q4.length<=300000000000000:=by omega
     have HZ4:Hid (q4.length<=o.length+28):=by show _<=_;omega
     clear e1 e2 e3 e4 z1 z2 z3 z4 hD1 hD2 hq ld1 ld2
     have hal:Below wr.heap.size wr (wr.alloc (.cells #[.string ⟨it.key.toArray⟩,.int .i64 (it.num:Nat),.int .i64 (it.time:Nat),.bool it.mark,.string ⟨it.body.toArray⟩,.bool it.gone] 199)):=(Below.refl _ _).alloc (Nat.le_refl _) _
     have halc:(wr.alloc (.cells #[.string ⟨it.key.toArray⟩,.int .i64 (it.num:Nat),.int .i64 (it.time:Nat),.bool it.mark,.string ⟨it.body.toArray⟩,.bool it.gone] 199)).cell? ⟨wr.heap.size,2,none⟩=some (.int .i64 (it.time:Nat)):=by simp
     have HAL:Hid _:=hal
     have HALC:Hid _:=halc
     clear hal halc
     cases hmk:it.mark with
     | true =>
       rw[hmk] at i3 HLN HAL HALC
       have a5:=addR q4 [103,111,110,101] (by simp;omega)
       obtain⟨q5,e5⟩:∃ x,q4++[103,111,110,101]=x:=⟨_,rfl⟩
       have z5:q5.length<=300000000000100:=by rw[<- e5];simp;omega
       have a6:=addR q5 [10] (by simp;omega)
       rw[e5] at a5
       have HE5:Hid _:=e5
       have HZ5:Hid (q5.length<=q4.length+18):=by show _<=_;rw[<- e5];simp
       clear e5
       go_wp2_with (go_at_call 114;refine Calls.mono HFI.out ?_;rintro e w1 ⟨rfl,hw1⟩;rw[hw1];clear hw1;simp only[idxI])
       obtain⟨W,hW⟩:∃ W,wr.alloc (.cells #[.string ⟨it.key.toArray⟩,.int .i64 (it.num:Nat),.int .i64 (it.time:Nat),.bool true,.string ⟨it.body.toArray⟩,.bool it.gone] 199)=W:=⟨_,rfl⟩
       have HWC:Hid _:=HALC.out
       have HWB:Hid _:=HB.out.trans (HAL.out.mono HB.out.size)
       have HWL:Hid (wr.heap.size<W.heap.size):=by show _<_;rw[<- hW];simp
       rw[hW] at HWC HWB ⊢
       clear hW
       have W2c:W.cell? ⟨wr.heap.size,2,none⟩=some (.int .i64 (it.time:Nat)):=HWC.out
       have hWl:wr.heap.size<W.heap.size:=HWL.out
       have HI1:Hid (∀ y,Below W.heap.size W y->Calls Tryz.prog 17 #[.int .i64 (m:Int)] y fun e w'=>e=.returned (.string ⟨D1.toArray⟩)/\Below y.heap.size y w'):=fun y hy=>by
        have:=itoaN m y (by omega) ((HTT.out _ (HWB.out.trans (hy.mono HWB.out.size)))).b
        rw[HD1.out] at this
        exact this
       have HI2:Hid (∀ y,Below W.heap.size W y->Calls Tryz.prog 17 #[.int .i64 (it.time:Nat)] y fun e w'=>e=.returned (.string ⟨D2.toArray⟩)/\Below y.heap.size y w'):=fun y hy=>by
        have:=itoaN it.time y (by omega) ((HTT.out _ (HWB.out.trans (hy.mono HWB.out.size)))).b
        rw[HD2.out] at this
        exact this
       have hWd:Below W.heap.size W W.drew:=(Below.refl _ _).drew
       clear i0 i1 i2 i3 i4 i5 c1 HFI hg hiI hfew
       go_region_held3 (fun y=>y.cell? ⟨wr.heap.size,2,none⟩=some (.int .i64 (it.time:Nat))/\Below W.heap.size W y) (first|assumption|exact⟨by assumption,by assumption⟩|go_keep) (first
        | (go_at_call_of 17 (Value.int .i64 (m:Int))
           refine Calls.mono (HI1.out _ (by assumption)) ?_
           rintro e w3 ⟨rfl,hb3⟩
           have hB3:=belTrans (W:=W) (by assumption) hb3
           have hC3:=(hB3.cell (p:=⟨wr.heap.size,2,none⟩) hWl).trans W2c)
        | (go_at_call_of 17 (Value.int .i64 (it.time:Nat))
           refine Calls.mono (HI2.out _ (by assumption)) ?_
           rintro e w4 ⟨rfl,hb4⟩
           have hB4:=belTrans (W:=W) (by assumption) hb4
           have hC4:=(hB4.cell (p:=⟨wr.heap.size,2,none⟩) hWl).trans W2c))
       all_goals
        have HBF:=belTrans (W:=w) HWB.out (by assumption)
        go_wp2
        have hm':=HM.out
        have hz4:=HZ4.out
        refine⟨⟨m',q5++[10],by omega,congrArg (Value.int .i64) (by omega),rfl,?_,?_,HBF⟩,by simp[intOf];omega⟩
        ·rw[HO.out,HS.out,HON.out,HLN.out,<- HE5.out,HQ4.out]
         simp
        ·rw[List.length_append]
         have:=HZ5.out
         simp
         omega
     | false =>
       rw[hmk] at i3 HLN HAL HALC
       have a5:=addR q4 q (by omega)
       obtain⟨q5,e5⟩:∃ x,q4++q=x:=⟨_,rfl⟩
       have z5:q5.length<=300000000000100:=by rw[<- e5,List.length_append];omega
       have a6:=addR q5 [10] (by simp;omega)
       rw[e5] at a5
       have HE5:Hid _:=e5
       have HZ5:Hid (q5.length<=q4.length+18):=by show _<=_;rw[<- e5,List.length_append];omega
       clear e5
       go_wp2_with (first
        | (go_at_call 114;refine Calls.mono HFI.out ?_;rintro e w1 ⟨rfl,hw1⟩;rw[hw1];clear hw1;simp only[idxI])
        | (go_at_call 111;refine Calls.mono (HQ.out _) ?_;rintro e W ⟨rfl,hbW⟩))
       have HWC:Hid (W.cell? ⟨wr.heap.size,2,none⟩=some (.int .i64 (it.time:Nat))):=(hbW.cell (p:=⟨wr.heap.size,2,none⟩) (by simp)).trans HALC.out
       have HWB:Hid (Below w.heap.size w W):=belTrans (W:=w) (HB.out.trans (HAL.out.mono HB.out.size)) hbW
       have HWL:Hid (wr.heap.size<W.heap.size):=by
        show _<_
        have:=hbW.size
        simp at this
        omega
       clear hbW
       have W2c:W.cell? ⟨wr.heap.size,2,none⟩=some (.int .i64 (it.time:Nat)):=HWC.out
       have hWl:wr.heap.size<W.heap.size:=HWL.out
       have HI1:Hid (∀ y,Below W.heap.size W y->Calls Tryz.prog 17 #[.int .i64 (m:Int)] y fun e w'=>e=.returned (.string ⟨D1.toArray⟩)/\Below y.heap.size y w'):=fun y hy=>by
        have:=itoaN m y (by omega) ((HTT.out _ (HWB.out.trans (hy.mono HWB.out.size)))).b
        rw[HD1.out] at this
        exact this
       have HI2:Hid (∀ y,Below W.heap.size W y->Calls Tryz.prog 17 #[.int .i64 (it.time:Nat)] y fun e w'=>e=.returned (.string ⟨D2.toArray⟩)/\Below y.heap.size y w'):=fun y hy=>by
        have:=itoaN it.time y (by omega) ((HTT.out _ (HWB.out.trans (hy.mono HWB.out.size)))).b
        rw[HD2.out] at this
        exact this
       have hWd:Below W.heap.size W W.drew:=(Below.refl _ _).drew
       clear i0 i1 i2 i3 i4 i5 c1 HFI hg hiI hfew
       go_region_held3 (fun y=>y.cell? ⟨wr.heap.size,2,none⟩=some (.int .i64 (it.time:Nat))/\Below W.heap.size W y) (first|assumption|exact⟨by assumption,by assumption⟩|go_keep) (first
        | (go_at_call_of 17 (Value.int .i64 (m:Int))
           refine Calls.mono (HI1.out _ (by assumption)) ?_
           rintro e w3 ⟨rfl,hb3⟩
           have hB3:=belTrans (W:=W) (by assumption) hb3
           have hC3:=(hB3.cell (p:=⟨wr.heap.size,2,none⟩) hWl).trans W2c)
        | (go_at_call_of 17 (Value.int .i64 (it.time:Nat))
           refine Calls.mono (HI2.out _ (by assumption)) ?_
           rintro e w4 ⟨rfl,hb4⟩
           have hB4:=belTrans (W:=W) (by assumption) hb4
           have hC4:=(hB4.cell (p:=⟨wr.heap.size,2,none⟩) hWl).trans W2c))
       all_goals
        have HBF:=belTrans (W:=w) HWB.out (by assumption)
        go_wp2
        have hm':=HM.out
        have hz4:=HZ4.out
        refine⟨⟨m',q5++[10],by omega,congrArg (Value.int .i64) (by omega),rfl,?_,?_,HBF⟩,by simp[intOf];omega⟩
        ·rw[HO.out,HS.out,HON.out,HLN.out,<- HE5.out,HQ4.out]
         simp
        ·rw[List.length_append]
         have:=HZ5.out
         simp
         omega
end Go.Proofs.YtmehkneofinmiaaGreatDoor
namespace Go.Proofs.YtmehkneofinmiaaGreatDoor
def liveI (key:List UInt8)(l:List Itm):List Itm:=l.filter fun v=>v.key==key&&!v.gone
def toVer (it:Itm):Ver:=⟨it.num,it.time,it.mark,it.body⟩
structure Same (σ:St)(s:Rst):Prop where
 log:s.J=σ.log
 last:∀ key,lastF key s.l=(findE σ.ents key).last
 vers:∀ key,(liveI key s.l).map toVer=(findE σ.ents key).vers
 known:knownF s.l=σ.ents.length
 rise:∀ key,(liveI key s.l).Pairwise fun a b=>a.num<b.num
theorem Same.many {σ:St}{s:Rst}(h:Same σ s)(key:List UInt8):manyF key s.l=(findE σ.ents key).vers.length:=by
 rw[<- h.vers key,List.length_map]
 unfold manyF liveI
 rw[List.countP_eq_length_filter]
theorem findIdx_item (p:Itm->Bool):∀ l:List Itm,(l.findIdx? p).bind (fun i=>l[i]?)=l.find? p
 | []=>rfl
 | a::l=>by
   rw[List.findIdx?_cons,List.find?_cons]
   cases h:p a with
   | true=>simp
   | false =>
     have:=findIdx_item p l
     simp only[Bool.false_eq_true,if_false]
     rw[<- this]
     cases l.findIdx? p<;>rfl
theorem find_live (key:List UInt8)(n:Nat)(l:List Itm):(findF key (n:Int) l).bind (fun i=>l[i]?)=(liveI key l).find? (fun v=>v.num==n):=by
 unfold findF liveI
 rw[findIdx_item,List.find?_filter]
 congr 1
 funext v
 have e:((v.num:Int)==(n:Int))=(v.num==n):=by
  rw[Bool.eq_iff_iff]
  simp only[beq_iff_eq]
  omega
 rw[e]
 cases v.key==key<;>cases v.gone<;>cases v.num==n<;>rfl
theorem find_map (l:List Itm)(n:Nat):(l.find? fun v=>v.num==n).map toVer=(l.map toVer).find? (fun v=>v.num==n):=by
 rw[List.find?_map]
 rfl
theorem Same.numbered {σ:St}{s:Rst}(h:Same σ s)(key:List UInt8)(n:Nat):((findF key (n:Int) s.l).bind (fun i=>s.l[i]?)).map toVer=(findE σ.ents key).vers.find? (fun v=>v.num==n):=by
 rw[find_live,find_map,h.vers key]
theorem newest_live (key:List UInt8)(l:List Itm):∀ n,l.foldl (newestS key) n=(liveI key l).foldl (fun n v=>if n<v.num then v.num else n) n:=by
 induction l with
 | nil=>exact fun n=>rfl
 | cons a l ih =>
   intro n
   rw[List.foldl_cons,ih]
   unfold liveI newestS
   by_cases hk:a.key=key
   ·cases hg:a.gone with
    | true=>simp[hk,hg]
    | false =>
      by_cases hn:n<a.num
      ·simp[hk,hg,hn]
      ·simp[hk,hg,hn]
   ·simp[hk]
theorem fold_rise:∀ (l:List Itm) (n:Nat),(l.Pairwise fun a b=>a.num<b.num)->(∀ v∈l,n<v.num)->l.foldl (fun n v=>if n<v.num then v.num else n) n=(match l.getLast? with|none=>n|some v=>v.num)
 | [],n,_,_=>rfl
 | a::l,n,hp,hv=>by
   have ⟨h1,h2⟩:=List.pairwise_cons.1 hp
   rw[List.foldl_cons,if_pos (hv a List.mem_cons_self),fold_rise l a.num h2 h1]
   cases l with
   | nil=>rfl
   | cons b l =>
     rw[List.getLast?_cons_cons]
     cases hx:(b::l).getLast? with
     | none=>simp at hx
     | some v=>rfl
theorem Same.newest {σ:St}{s:Rst}(h:Same σ s)(key:List UInt8)(hp:∀ v∈liveI key s.l,0<v.num):newestF key s.l=(match (liveI key s.l).getLast? with|none=>0|some v=>v.num):=by
 unfold newestF
 rw[newest_live,fold_rise _ 0 (h.rise key) hp]
theorem find_last:∀ (l:List Itm) (v:Itm),(l.Pairwise fun a b=>a.num<b.num)->l.getLast?=some v->l.find? (fun x=>x.num==v.num)=some v
 | [],_,_,h=>by cases h
 | [a],v,_,h=>by
   have:a=v:=by simpa using h
   subst this
   simp
 | a::b::l,v,hp,h=>by
   have ⟨h1,h2⟩:=List.pairwise_cons.1 hp
   rw[List.getLast?_cons_cons] at h
   have hm:v∈b::l:=List.mem_of_getLast? h
   have hlt:=h1 v hm
   rw[List.find?_cons]
   have:(a.num==v.num)=false:=by rw[beq_eq_false_iff_ne];omega
   rw[this]
   exact find_last (b::l) v h2 h
theorem Same.current {σ:St}{s:Rst}(h:Same σ s)(key:List UInt8)(hp:∀ v∈liveI key s.l,0<v.num):((someF key s.l).bind (fun i=>s.l[i]?)).map toVer=curOf (findE σ.ents key):=by
 have hv:=h.vers key
 have hn:=h.newest key hp
 have hf:=find_live key (newestF key s.l) s.l
 unfold curOf
 rw[<- hv,List.getLast?_map]
 cases hx:(liveI key s.l).getLast? with
 | none =>
   rw[hx] at hn
   have hnil:liveI key s.l=[]:=List.getLast?_eq_none_iff.1 hx
   rw[hnil] at hf
   unfold someF
   cases hff:findF key (newestF key s.l) s.l with
   | none=>rfl
   | some i =>
     rw[hff] at hf
     have:s.l[i]?=none:=hf
     simp only[this]
     rfl
 | some v =>
   rw[hx] at hn
   have hn':newestF key s.l=v.num:=hn
   rw[hn',find_last _ v (h.rise key) hx] at hf
   unfold someF
   rw[hn']
   cases hff:findF key (v.num:Int) s.l with
   | none=>rw[hff] at hf;cases hf
   | some i =>
     rw[hff] at hf
     have hi:s.l[i]?=some v:=hf
     simp only[hi]
     cases hm:v.mark with
     | true=>simp[toVer,hm]
     | false=>simp[toVer,hm,hi]
end Go.Proofs.YtmehkneofinmiaaGreatDoor

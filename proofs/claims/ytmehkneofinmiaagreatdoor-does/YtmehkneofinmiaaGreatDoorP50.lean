/-
 Texts of this proof, part 50.
-/
import Derived.Test.YtmehkneofinmiaaGreatDoorP48
import Derived.Test.YtmehkneofinmiaaGreatDoorP49
set_option maxRecDepth 100000
set_option maxHeartbeats 4000000
namespace Go.Proofs.YtmehkneofinmiaaGreatDoor
open Go.RowKit
theorem refKeyed_any (p t:Nat)(l:List Itm)(J:List UInt8)(vs:Value)(m:Nat)(tg:TgR)(c:Cst)(k:Cnd)(body:List UInt8)(g v:Nat)(w:World)(h:KeyH w p t l J vs tg c k body g v) :
 Calls Tryz.prog 58 #[.pointer (some ⟨p,0,none⟩),.agg (rqCells (okRq m tg c body))] w (RPost w p t vs (keyedF t ⟨l,J⟩ m tg k body)):=by
 by_cases h4:tg.tg=4
 ·cases hf:findF tg.key tg.v l with
  | none=>exact keyed_C p t l J vs m tg c k body g v w h h4 hf
  | some i =>
    obtain⟨it,hit⟩:∃ v,l[i]?=some v:=⟨_,List.getElem?_eq_getElem (findF_lt hf)⟩
    cases hm:it.mark with
    | true=>exact keyed_D p t l J vs m tg c k body g v w h h4 i it hf hit hm
    | false=>exact keyed_E p t l J vs m tg c k body g v w h h4 i it hf hit hm
 ·cases hs:someF tg.key l with
  | none=>exact keyed_A p t l J vs m tg c k body g v w h h4 hs
  | some i =>
    have:(atR l 2 tg.key 0).1=some i:=by unfold atR;rw[if_neg (by decide)];exact hs
    obtain⟨it,hit⟩:=atR_lt this
    exact keyed_B p t l J vs m tg c k body g v w h h4 i it hs hit
structure DoH (w:World)(p t:Nat)(l:List Itm)(J:List UInt8)(vs:Value):Prop where
 ref:RefAt w p t l J vs
 tbl:Tbl w
 high:∀ k,(k=p\/vs.ownBlock=some k)->High k
 few:l.length+1<1000000000000
 log:J.length<=900000000000000
 time:t<=253402300799
 last:∀ key,lastF key l<1000000000000
 its:∀ it∈l,it.num<1000000000000/\it.time<=253402300799/\it.body.length<=400/\it.key.length<=40
theorem DoH.below {w x:World}{p t:Nat}{l:List Itm}{J:List UInt8}{vs:Value}(h:DoH w p t l J vs)(hb:Below w.heap.size w x):DoH x p t l J vs :=
 ⟨h.ref.below hb,h.tbl.below hb,h.high,h.few,h.log,h.time,h.last,h.its⟩
theorem readR_ok {l:List UInt8}{m:Nat}{t:TgR}{k:Cnd}{body:List UInt8}(h:readR l=.ok (m,t,k,body)):∃ m' t',readF l=.ok (m',t',k,body)/\m=m'+1/\t=cvT t':=by
 rw[read_same] at h
 cases hr:readF l with
 | error n=>rw[hr] at h;cases h
 | ok x =>
   obtain⟨m',t',k',body'⟩:=x
   rw[hr] at h
   simp only[cvR] at h
   cases h
   exact⟨m',t',rfl,rfl,rfl⟩
theorem readR_no {l:List UInt8}{n:Nat}(h:readR l=.error n):readF l=.error n:=by
 rw[read_same] at h
 cases hr:readF l with
 | error n'=>rw[hr] at h;cases h;rfl
 | ok x=>rw[hr] at h;cases h
theorem cvT_ok (t:Tgt):(cvT t).key.length<=t.key.length/\(cvT t).after.length<=t.key.length/\∃ v:Nat,(cvT t).v=(v:Int)/\v<=t.num:=by
 unfold cvT
 repeat' split
 all_goals first
  | exact⟨by simp,Nat.le_refl _,0,rfl,Nat.zero_le _⟩
  | exact⟨Nat.le_refl _,by simp,0,rfl,Nat.zero_le _⟩
  | exact⟨Nat.le_refl _,by simp,t.num,rfl,Nat.le_refl _⟩
theorem refDo_any (p t:Nat)(l:List Itm)(J:List UInt8)(vs:Value)(req:List UInt8)(w:World)(h:DoH w p t l J vs)(hl:req.length<=9223372036854775807) :
 Calls Tryz.prog 32 #[.pointer (some ⟨p,0,none⟩),.string ⟨req.toArray⟩] w (RPost w p t vs (doR t ⟨l,J⟩ req)):=by
 have HH:Hid _:=h
 obtain⟨F,hF⟩:∃ F,doR t ⟨l,J⟩ req=F:=⟨_,rfl⟩
 have HF:Hid _:=hF
 rw[hF]
 have HRD:Hid _:=refRead_any req w h.tbl.b hl
 clear h hF
 go_enter Tryz.func32,Tryz.ntmps32
 go_wp2_with fail
 refine Calls.mono HRD.out ?_
 rintro e w1 ⟨hb,⟨n,hr,rfl⟩|⟨m,tg,k,body,c,g,hr,rfl,hg1,hg2,hrq⟩⟩
 ·have HFF:Hid (F=(textF n [] [],⟨l,J⟩)):=by
   show _=_
   rw[<- HF.out]
   unfold doR
   rw[hr]
  have hn:=read_no0 (readR_no hr)
  have hn2:=read_no (readR_no hr)
  have HB:Hid _:=hb
  have hnI:¬ (n:Int)=0:=by omega
  have HC:Hid ((rqCells (zRq n)).size=21/\(rqCells (zRq n))[0]?=some (.int .i64 (n:Int))/\(rqCells (zRq n)).all (·.oneCell')=true):=⟨rfl,rfl,allRq _ rfl rfl⟩
  obtain⟨RC,hRC⟩:∃ r,rqCells (zRq n)=r:=⟨_,rfl⟩
  rw[hRC] at HC ⊢
  clear hRC hr hb hn
  have hRS:=HC.out.1
  have q0:=HC.out.2.1
  have k0:RC[0]'(by omega)=.int .i64 (n:Int):=(Array.getElem?_eq_some_iff.1 q0).2
  have hiR:(Tryz.prog.info? 130).map (·.size)=some RC.size:=by rw[hRS];exact hiRq
  have HBA:Hid (Below w.heap.size w (w1.alloc (.cells RC 130))):=HB.out.alloc HB.out.size _
  have HRP:Hid _:=refReply_any n [] [] (w1.alloc (.cells RC 130)) (HH.out.tbl.below HBA.out).b (by omega) (by simp) (by simp)
  go_wp2_with (first
   | (refine wpList_store_row rfl 130 (.tmp 5) (.tmp 7) rfl w1.heap.size RC rfl rfl 130 #[.int .i64 0,.int .i64 0,.int .i64 0,.string ⟨#[]⟩,.string ⟨#[]⟩,.int .i64 0,.bool false,.bool false,.bool false,.slice none 0 0,.bool false,.bool false,.slice none 0 0,.bool false,.int .i64 0,.bool false,.int .i64 0,.bool false,.string ⟨#[]⟩,.int .i64 0,.string ⟨#[]⟩] (heap_alloc_last _ _) hiR (by rw[hRS];rfl) HC.out.2.2 ?_;rw[World.setRow_alloc_new]))
  refine Calls.mono HRP.out ?_
  rintro e w2 ⟨rfl,hb2⟩
  have HB2:Hid _:=hb2
  clear hb2
  go_wp2
  go_ret
  exact rpost_kept (by rw[HFF.out];simp[textF]) HH.out.ref (HBA.out.trans (HB2.out.mono HBA.out.size))
 ·have HR:Hid _:=hr
  have HB:Hid _:=hb
  have HRQ:Hid _:=hrq
  have HC:Hid _:=okRq_cells m tg c body
  have HC2:Hid ((rqCells (okRq m tg c body))[0]?=some (.int .i64 0)/\(rqCells (okRq m tg c body))[4]?=some (.string ⟨tg.after.toArray⟩)/\(rqCells (okRq m tg c body)).all (·.oneCell')=true):=⟨rfl,rfl,allRq _ hrq.m.one hrq.n.one⟩
  obtain⟨RC,hRC⟩:∃ r,rqCells (okRq m tg c body)=r:=⟨_,rfl⟩
  have HRC:Hid _:=hRC
  rw[hRC] at HC HC2 ⊢
  clear hRC hr hb hrq
  have hRS:=HC.out.1
  have q2:=HC.out.2.2.1
  have q3:=HC.out.2.2.2.1
  have q0:=HC2.out.1
  have q4:=HC2.out.2.1
  obtain⟨key,hkey⟩:∃ x,tg.key=x:=⟨_,rfl⟩
  have HKEY:Hid _:=hkey
  obtain⟨after,haf⟩:∃ x,tg.after=x:=⟨_,rfl⟩
  have HAF:Hid _:=haf
  obtain⟨tn,htn⟩:∃ x,tg.tg=x:=⟨_,rfl⟩
  have HTN:Hid _:=htn
  rw[htn] at q2
  rw[hkey] at q3
  rw[haf] at q4
  clear hkey haf htn HC
  have k0:RC[0]'(by omega)=.int .i64 0:=(Array.getElem?_eq_some_iff.1 q0).2
  have k2:RC[2]'(by omega)=.int .i64 (tn:Int):=(Array.getElem?_eq_some_iff.1 q2).2
  have k3:RC[3]'(by omega)=.string ⟨key.toArray⟩:=(Array.getElem?_eq_some_iff.1 q3).2
  have k4:RC[4]'(by omega)=.string ⟨after.toArray⟩:=(Array.getElem?_eq_some_iff.1 q4).2
  have hiR:(Tryz.prog.info? 130).map (·.size)=some RC.size:=by rw[hRS];exact hiRq
  have HBA:Hid (Below w.heap.size w (w1.alloc (.cells RC 130))):=HB.out.alloc HB.out.size _
  have HY:Hid _:=HH.out.below HBA.out
  by_cases t1:tn=1
  ·have t1I:(tn:Int)=1:=by omega
   have HFF:Hid (F=(listF l after,⟨l,J⟩)):=by
    show _=_
    rw[<- HF.out]
    unfold doR
    rw[HR.out]
    simp only
    rw[if_pos (HTN.out.trans t1),HAF.out]
   have HLS:Hid _:=refList_any p t l J vs after (w1.alloc (.cells RC 130)) HY.out.ref HY.out.tbl.b (fun v hv=>by have:=HY.out.its v hv;omega)
   clear t1
   go_wp2_with (first
    | (refine wpList_store_row rfl 130 (.tmp 5) (.tmp 7) rfl w1.heap.size RC rfl rfl 130 #[.int .i64 0,.int .i64 0,.int .i64 0,.string ⟨#[]⟩,.string ⟨#[]⟩,.int .i64 0,.bool false,.bool false,.bool false,.slice none 0 0,.bool false,.bool false,.slice none 0 0,.bool false,.int .i64 0,.bool false,.int .i64 0,.bool false,.string ⟨#[]⟩,.int .i64 0,.string ⟨#[]⟩] (heap_alloc_last _ _) hiR (by rw[hRS];rfl) HC2.out.2.2 ?_;rw[World.setRow_alloc_new]))
   refine Calls.mono HLS.out ?_
   rintro e w2 ⟨rfl,hb2⟩
   have HB2:Hid _:=hb2
   clear hb2
   go_wp2
   go_ret
   exact rpost_kept HFF.out HH.out.ref (HBA.out.trans (HB2.out.mono HBA.out.size))
  ·have t1I:¬ (tn:Int)=1:=by omega
   by_cases t3:tn=3
   ·have t3I:(tn:Int)=3:=by omega
    have HFF:Hid (F=(histF l key,⟨l,J⟩)):=by
     show _=_
     rw[<- HF.out]
     unfold doR
     rw[HR.out]
     simp only
     rw[if_neg (by rw[HTN.out];exact t1),if_pos (HTN.out.trans t3),HKEY.out]
    have HHS:Hid _:=refHistory_any p t l J vs key (w1.alloc (.cells RC 130)) HY.out.ref HY.out.tbl (HY.out.last key) (fun v hv=>by have:=HY.out.its v hv;omega)
    clear t1 t3
    go_wp2_with (first
     | (refine wpList_store_row rfl 130 (.tmp 5) (.tmp 7) rfl w1.heap.size RC rfl rfl 130 #[.int .i64 0,.int .i64 0,.int .i64 0,.string ⟨#[]⟩,.string ⟨#[]⟩,.int .i64 0,.bool false,.bool false,.bool false,.slice none 0 0,.bool false,.bool false,.slice none 0 0,.bool false,.int .i64 0,.bool false,.int .i64 0,.bool false,.string ⟨#[]⟩,.int .i64 0,.string ⟨#[]⟩] (heap_alloc_last _ _) hiR (by rw[hRS];rfl) HC2.out.2.2 ?_;rw[World.setRow_alloc_new]))
    refine Calls.mono HHS.out ?_
    rintro e w2 ⟨rfl,hb2⟩
    have HB2:Hid _:=hb2
    clear hb2
    go_wp2
    go_ret
    exact rpost_kept HFF.out HH.out.ref (HBA.out.trans (HB2.out.mono HBA.out.size))
   ·have t3I:¬ (tn:Int)=3:=by omega
    have HFF:Hid (F=keyedF t ⟨l,J⟩ m tg k body):=by
     show _=_
     rw[<- HF.out]
     unfold doR
     rw[HR.out]
     simp only
     rw[if_neg (by rw[HTN.out];exact t1),if_neg (by rw[HTN.out];exact t3)]
    have HKY:Hid (Calls Tryz.prog 58 #[.pointer (some ⟨p,0,none⟩),.agg RC] (w1.alloc (.cells RC 130)) (RPost (w1.alloc (.cells RC 130)) p t vs (keyedF t ⟨l,J⟩ m tg k body))):=by
     obtain⟨m',t',h1,h2,h3⟩:=readR_ok HR.out
     obtain⟨_,o1,o2,o3⟩:=read_ok h1
     obtain⟨o4,_,v,o5,o6⟩:=cvT_ok t'
     rw[<- h3] at o4 o5
     have:=refKeyed_any p t l J vs m tg c k body g v (w1.alloc (.cells RC 130)) ⟨HY.out.ref,HY.out.tbl,HY.out.high,HY.out.few,HY.out.log,by have:=HY.out.time;omega,HY.out.last _,by omega,by omega,o5,by omega,fun it hit=>by have:=HY.out.its it hit;omega,HRQ.out.below (by omega) ((Below.refl _ _).alloc (Nat.le_refl _) _),by rw[World.size_alloc];omega⟩
     rw[HRC.out] at this
     exact this
    clear t1 t3
    go_wp2_with (first
     | (refine wpList_store_row rfl 130 (.tmp 5) (.tmp 7) rfl w1.heap.size RC rfl rfl 130 #[.int .i64 0,.int .i64 0,.int .i64 0,.string ⟨#[]⟩,.string ⟨#[]⟩,.int .i64 0,.bool false,.bool false,.bool false,.slice none 0 0,.bool false,.bool false,.slice none 0 0,.bool false,.int .i64 0,.bool false,.int .i64 0,.bool false,.string ⟨#[]⟩,.int .i64 0,.string ⟨#[]⟩] (heap_alloc_last _ _) hiR (by rw[hRS];rfl) HC2.out.2.2 ?_;rw[World.setRow_alloc_new])
     | (refine wpList_load_row rfl 130 (.tmp 5) rfl w1.heap.size rfl 130 RC (0,0) _ (heap_alloc_last _ _) Tryz.underlying130 rfl hiR ?_))
    refine Calls.mono HKY.out ?_
    rintro e w2 ⟨rfl,hrest⟩
    have HRS:Hid _:=hrest
    clear hrest
    go_wp2
    go_ret
    rw[HFF.out]
    exact rpost_later HBA.out ⟨rfl,HRS.out⟩
end Go.Proofs.YtmehkneofinmiaaGreatDoor
namespace Go.Proofs.YtmehkneofinmiaaGreatDoor
theorem findE_in {l:List Ent}(hr:RiseL l){E:Ent}(h:E∈l):findE l E.key=E:=by
 induction l with
 | nil=>cases h
 | cons a l ih =>
   have ⟨h1,h2⟩:=List.pairwise_cons.1 hr
   rw[findE_cons]
   rcases List.mem_cons.1 h with rfl|h
   ·rw[if_pos rfl]
   ·rw[if_neg (cmpB_ne (h1 E h))]
    exact ih h2 h
theorem put_sums:∀ (l:List Ent) (E:Ent),RiseL l->(∀ A∈l,0<A.last)->((putE l E).map Ent.last).sum+(findE l E.key).last=(l.map Ent.last).sum+E.last/\(putE l E).length=l.length+(if (findE l E.key).last=0 then 1 else 0)
 | [],E,_,_=>by
   rw[show putE [] E=[E] from rfl,show findE [] E.key=⟨E.key,0,[]⟩ from rfl]
   simp
 | a::l,E,hr,hp=>by
   have ⟨h1,h2⟩:=List.pairwise_cons.1 hr
   have ih:=put_sums l E h2 (fun A hA=>hp A (List.mem_cons_of_mem _ hA))
   rw[putE_cons,findE_cons]
   by_cases e:a.key=E.key
   ·have:=hp a List.mem_cons_self
    rw[if_pos e,if_pos e,if_neg (by omega)]
    refine⟨?_,?_⟩
    ·simp only[List.map_cons,List.sum_cons]
     omega
    ·simp only[List.length_cons]
   ·rw[if_neg e,if_neg e]
    by_cases hlt:cmpB E.key a.key = -1
    ·have hn:findE l E.key=⟨E.key,0,[]⟩:=by
      unfold findE
      have:l.find? (fun A=>A.key==E.key)=none:=by
       rw[List.find?_eq_none]
       intro A hA hk
       have hk':A.key=E.key:=by simpa using hk
       exact absurd hk'.symm (cmpB_ne (cmpB_trans _ _ _ hlt (h1 A hA)))
      rw[this]
      rfl
     rw[if_pos hlt,hn]
     simp
     omega
    ·rw[if_neg hlt]
     simp only[List.map_cons,List.sum_cons,List.length_cons]
     omega
theorem live_app (key:List UInt8)(l:List Itm)(it:Itm)(hg:it.gone=false):liveI key (l++[it])=liveI key l++(if it.key=key then [it] else []):=by
 unfold liveI
 rw[List.filter_append]
 congr 1
 by_cases h:it.key=key
 ·simp[h,hg]
 ·simp[h]
theorem last_app (key:List UInt8)(l:List Itm)(it:Itm):lastF key (l++[it])=lastS key (lastF key l) it:=by
 unfold lastF
 rw[List.foldl_append]
 rfl
theorem last_mono (key:List UInt8)(l:List Itm)(it:Itm):lastF key l<=lastF key (l++[it]):=by
 rw[last_app]
 unfold lastS
 split<;>omega
structure StOK (σ:St):Prop where
 rise:RiseL σ.ents
 ok:∀ E∈σ.ents,EntOK E
 time:σ.time<=253402300799
theorem StOK.pos {σ:St}(h:StOK σ):∀ E∈σ.ents,0<E.last:=fun E hE=>(h.ok E hE).last
theorem Twin.come {B:Nat}{σ:St}{s:Rst}(h:Twin B σ s)(ho:StOK σ)(key body:List UInt8)(k:Nat)(mark:Bool)(hk:k≠3)(hm:(k==2)=mark)(hkey:keyOK key=true)(hb:body.length<=400) :
 Twin B ⟨σ.time,putE σ.ents (applyF (findE σ.ents key) k σ.time ((findE σ.ents key).last+1) body),σ.log++recF k σ.time key ((findE σ.ents key).last+1) body⟩ ⟨s.l++[⟨key,lastF key s.l+1,σ.time,mark,body,false⟩],s.J++recF k σ.time key (lastF key s.l+1) body⟩:=by
 have hl:=h.same.last key
 obtain⟨N,hN⟩:∃ N,(findE σ.ents key).last=N:=⟨_,rfl⟩
 have hap:applyF (findE σ.ents key) k σ.time (N+1) body=⟨key,N+1,(findE σ.ents key).vers++[⟨N+1,σ.time,mark,body⟩]⟩:=by
  unfold applyF
  rw[if_neg hk,findE_key,hm]
 have hlt:keyOK key=true->key.length<=40:=fun h=>by
  unfold keyOK at h
  simp at h
  exact h.2.1
 rw[hN] at hl ⊢
 rw[hl,hap]
 have hf:∀ key',findE (putE σ.ents ⟨key,N+1,(findE σ.ents key).vers++[⟨N+1,σ.time,mark,body⟩]⟩) key'=if key=key' then ⟨key,N+1,(findE σ.ents key).vers++[⟨N+1,σ.time,mark,body⟩]⟩ else findE σ.ents key':=fun key'=>findE_put ho.rise _ key'
 have hps:=put_sums σ.ents ⟨key,N+1,(findE σ.ents key).vers++[⟨N+1,σ.time,mark,body⟩]⟩ ho.rise ho.pos
 simp only[hN] at hps
 refine⟨⟨?_,fun key'=>?_,fun key'=>?_,?_,fun key'=>?_⟩,?_,?_,?_,?_,?_,?_,?_,?_⟩
 ·show s.J++_=σ.log++_
  rw[h.same.log]
 ·show lastF key' (s.l++_)=_
  rw[last_app,hf]
  unfold lastS
  by_cases e:key=key'
  ·subst e
   rw[if_pos ⟨rfl,by show lastF key s.l<N+1;omega⟩,if_pos rfl]
  ·rw[if_neg (fun hh=>e hh.1),if_neg e]
   exact h.same.last key'
 ·show (liveI key' (s.l++_)).map toVer=_
  rw[live_app _ _ _ rfl,hf,List.map_append,h.same.vers key']
  by_cases e:key=key'
  ·subst e
   rw[if_pos rfl,if_pos rfl]
   rfl
  ·rw[if_neg e,if_neg e,List.map_nil,List.append_nil]
 ·show knownF (s.l++_)=(putE σ.ents _).length
  rw[hps.2]
  unfold knownF
  rw[List.countP_append,<- h.same.known]
  unfold knownF
  congr 1
  rw[List.countP_singleton]
  by_cases e:N=0
  ·subst e;rfl
  ·rw[if_neg (by simpa using e),if_neg e]
 ·show (liveI key' (s.l++_)).Pairwise _
  rw[live_app _ _ _ rfl]
  by_cases e:key=key'
  ·subst e
   rw[if_pos rfl,List.pairwise_append]
   refine⟨h.same.rise key,List.pairwise_singleton _ _,fun a ha b hb=>?_⟩
   have hb':b=⟨key,N+1,σ.time,mark,body,false⟩:=by simpa using hb
   rw[hb']
   obtain⟨h1,h2,_⟩:=live_mem ha
   have:=h.num a h1
   rw[h2,hl] at this
   show a.num<N+1
   omega
  ·rw[if_neg e,List.append_nil]
   exact h.same.rise key'
 ·intro it hit
  rcases List.mem_append.1 hit with hh|hh
  ·exact h.pos it hh
  ·rw[List.mem_singleton.1 hh];exact Nat.succ_pos _
 ·intro it hit
  rcases List.mem_append.1 hit with hh|hh
  ·exact h.time it hh
  ·rw[List.mem_singleton.1 hh];exact ho.time
 ·intro it hit
  rcases List.mem_append.1 hit with hh|hh
  ·exact h.body it hh
  ·rw[List.mem_singleton.1 hh];exact hb
 ·intro it hit
  rcases List.mem_append.1 hit with hh|hh
  ·exact h.key it hh
  ·rw[List.mem_singleton.1 hh];exact hkey
 ·intro it hit
  show it.num<=lastF it.key (s.l++_)
  rcases List.mem_append.1 hit with hh|hh
  ·exact Nat.le_trans (h.num it hh) (last_mono _ _ _)
  ·rw[List.mem_singleton.1 hh,last_app]
   unfold lastS
   rw[if_pos ⟨rfl,by show lastF key s.l<N+1;omega⟩]
   exact Nat.le_refl _
 ·intro key' n hB h0 hn
  rw[hf] at hn ⊢
  by_cases e:key=key'
  ·subst e
   rw[if_pos rfl] at hn ⊢
   have hn':n<=N+1:=hn
   by_cases e2:n=N+1
   ·exact⟨⟨N+1,σ.time,mark,body⟩,by simp,e2.symm⟩
   ·obtain⟨v,hv,hvn⟩:=h.hold key n hB h0 (by omega)
    exact⟨v,List.mem_append_left _ hv,hvn⟩
  ·rw[if_neg e] at hn ⊢
   exact h.hold key' n hB h0 hn
 ·show (s.l++_).length=((putE σ.ents _).map Ent.last).sum
  have:=h.len
  rw[List.length_append,List.length_singleton]
  omega
 ·show (s.J++_).length<=460*(s.l++_).length+60*(s.l++_).countP _
  have h1:=h.log
  have h2:=hlt hkey
  rw[List.length_append,List.length_append,List.countP_append,recF_len,List.length_singleton]
  omega
theorem set_fold {f:Nat->Itm->Nat}{it:Itm}(h:∀ n,f n it=f n ⟨it.key,it.num,it.time,it.mark,it.body,true⟩):∀ (l:List Itm) (i n:Nat),l[i]?=some it->(l.set i ⟨it.key,it.num,it.time,it.mark,it.body,true⟩).foldl f n=l.foldl f n
 | [],i,n,hi=>by simp at hi
 | a::l,0,n,hi=>by
   have:a=it:=by simpa using hi
   rw[this,List.set_cons_zero,List.foldl_cons,List.foldl_cons,<- h]
 | a::l,i+1,n,hi=>by
   rw[List.set_cons_succ,List.foldl_cons,List.foldl_cons]
   exact set_fold h l i _ (by simpa using hi)
theorem set_live (key:List UInt8):∀ (l:List Itm) (i:Nat) (it:Itm),l[i]?=some it->it.key≠key->liveI key (l.set i ⟨it.key,it.num,it.time,it.mark,it.body,true⟩)=liveI key l
 | [],i,it,hi,_=>by simp at hi
 | a::l,0,it,hi,hk=>by
   have:a=it:=by simpa using hi
   subst this
   unfold liveI
   rw[List.set_cons_zero,List.filter_cons,List.filter_cons]
   simp[hk]
 | a::l,i+1,it,hi,hk=>by
   have ih:=set_live key l i it (by simpa using hi) hk
   unfold liveI at ih ⊢
   rw[List.set_cons_succ,List.filter_cons,List.filter_cons,ih]
theorem set_live2:∀ (l:List Itm) (i:Nat) (it:Itm),l[i]?=some it->it.gone=false->(liveI it.key l).Pairwise (fun a b=>a.num<b.num)->liveI it.key (l.set i ⟨it.key,it.num,it.time,it.mark,it.body,true⟩)=(liveI it.key l).filter (fun v=>v.num != it.num)
 | [],i,it,hi,_,_=>by simp at hi
 | a::l,0,it,hi,hg,hr=>by
   have:a=it:=by simpa using hi
   subst this
   unfold liveI at hr ⊢
   rw[List.set_cons_zero,List.filter_cons,List.filter_cons]
   rw[List.filter_cons] at hr
   have e1:(a.key==a.key&&!a.gone)=true:=by simp[hg]
   rw[if_pos e1] at hr ⊢
   rw[if_neg (by simp),List.filter_cons,if_neg (by simp)]
   have ⟨h1,_⟩:=List.pairwise_cons.1 hr
   symm
   rw[List.filter_eq_self]
   intro v hv
   have:=h1 v hv
   simp
   omega
 | a::l,i+1,it,hi,hg,hr=>by
   have hi':l[i]?=some it:=by simpa using hi
   unfold liveI at hr
   rw[List.filter_cons] at hr
   by_cases ha:(a.key==it.key&&!a.gone)=true
   ·rw[if_pos ha] at hr
    have ⟨h1,h2⟩:=List.pairwise_cons.1 hr
    have ih:=set_live2 l i it hi' hg h2
    have hmem:it∈l.filter (fun v=>v.key==it.key&&!v.gone):=by
     rw[List.mem_filter]
     exact⟨List.mem_of_getElem? hi',by simp[hg]⟩
    have hlt:=h1 it hmem
    unfold liveI at ih ⊢
    rw[List.set_cons_succ,List.filter_cons,List.filter_cons,if_pos ha,if_pos ha,ih,List.filter_cons,if_pos (by simp;omega)]
   ·rw[if_neg ha] at hr
    have ih:=set_live2 l i it hi' hg hr
    unfold liveI at ih ⊢
    rw[List.set_cons_succ,List.filter_cons,List.filter_cons,if_neg ha,if_neg ha,ih]
theorem set_count (p:Itm->Bool):∀ (l:List Itm) (i:Nat) (it it':Itm),l[i]?=some it->(l.set i it').countP p+(if p it then 1 else 0)=l.countP p+(if p it' then 1 else 0)
 | [],i,it,it',hi=>by simp at hi
 | a::l,0,it,it',hi=>by
   have:a=it:=by simpa using hi
   subst this
   rw[List.set_cons_zero,List.countP_cons,List.countP_cons]
   omega
 | a::l,i+1,it,it',hi=>by
   have ih:=set_count p l i it it' (by simpa using hi)
   rw[List.set_cons_succ,List.countP_cons,List.countP_cons]
   omega
theorem mem_set {l:List Itm}{i:Nat}{x y:Itm}(h:x∈l.set i y):x∈l\/x=y:=List.mem_or_eq_of_mem_set h
theorem Twin.leave {B:Nat}{σ:St}{s:Rst}(h:Twin B σ s)(ho:StOK σ)(key:List UInt8)(n i:Nat)(it:Itm)(hf:findF key (n:Int) s.l=some i)(hi:s.l[i]?=some it)(hB:n<B) :
 Twin B ⟨σ.time,putE σ.ents (applyF (findE σ.ents key) 3 σ.time n []),σ.log++recF 3 σ.time key n []⟩ ⟨s.l.set i ⟨it.key,it.num,it.time,it.mark,it.body,true⟩,s.J++recF 3 σ.time it.key it.num []⟩:=by
 have hp:=List.findIdx?_eq_some_iff_getElem.1 hf
 obtain⟨hlt,hpi,_⟩:=hp
 have hgi:s.l[i]=it:=by
  have:=List.getElem?_eq_getElem hlt
  rw[hi] at this
  exact (Option.some.inj this).symm
 rw[hgi] at hpi
 simp only[Bool.and_eq_true,beq_iff_eq,Bool.not_eq_true'] at hpi
 obtain⟨⟨hk,hn⟩,hg⟩:=hpi
 have hn':it.num=n:=by omega
 subst hk
 subst hn'
 have hit:it∈s.l:=List.mem_of_getElem? hi
 have hlast:0<(findE σ.ents it.key).last:=by
  have h1:=h.num it hit
  have h2:=h.pos it hit
  rw[h.same.last] at h1
  omega
 have hw:=whole_same h it.key it.num
 rw[hf] at hw
 obtain⟨j,hj⟩:∃ j,vidx (findE σ.ents it.key).vers (it.num:Int)=some j:=Option.isSome_iff_exists.1 hw.symm
 have hap:applyF (findE σ.ents it.key) 3 σ.time it.num []=⟨it.key,(findE σ.ents it.key).last,(findE σ.ents it.key).vers.filter fun v=>v.num != it.num⟩:=by
  unfold applyF
  rw[if_pos rfl,findE_key,hj]
  have:=(vidx_filter (findE σ.ents it.key).vers it.num (h.vrise it.key)).2 j hj
  rw[Option.getD_some,this.1]
 rw[hap]
 obtain⟨VS,hVS⟩:∃ V,(findE σ.ents it.key).vers.filter (fun v=>v.num != it.num)=V:=⟨_,rfl⟩
 rw[hVS]
 have hf2:∀ key',findE (putE σ.ents ⟨it.key,(findE σ.ents it.key).last,VS⟩) key'=if it.key=key' then ⟨it.key,(findE σ.ents it.key).last,VS⟩ else findE σ.ents key':=fun key'=>findE_put ho.rise _ key'
 have hps:=put_sums σ.ents ⟨it.key,(findE σ.ents it.key).last,VS⟩ ho.rise ho.pos
 simp only at hps
 have hsl:∀ key',lastF key' (s.l.set i ⟨it.key,it.num,it.time,it.mark,it.body,true⟩)=lastF key' s.l:=fun key'=>set_fold (fun n=>rfl) s.l i 0 hi
 have hcg:=set_count (fun x=>x.gone) s.l i it ⟨it.key,it.num,it.time,it.mark,it.body,true⟩ hi
 have hkn:=set_count (fun x=>x.num==1) s.l i it ⟨it.key,it.num,it.time,it.mark,it.body,true⟩ hi
 have hklen:it.key.length<=40:=by
  have:=h.key it hit
  unfold keyOK at this
  simp at this
  exact this.2.1
 refine⟨⟨?_,fun key'=>?_,fun key'=>?_,?_,fun key'=>?_⟩,?_,?_,?_,?_,?_,?_,?_,?_⟩
 ·show s.J++_=σ.log++_
  rw[h.same.log]
 ·show lastF key' _=_
  rw[hsl,hf2,h.same.last key']
  by_cases e:it.key=key'
  ·rw[if_pos e,e]
  ·rw[if_neg e]
 ·show (liveI key' _).map toVer=_
  rw[hf2]
  by_cases e:it.key=key'
  ·subst e
   rw[if_pos rfl,set_live2 s.l i it hi hg (h.same.rise it.key),<- hVS,<- h.same.vers it.key,List.filter_map]
   rfl
  ·rw[if_neg e,set_live key' s.l i it hi e]
   exact h.same.vers key'
 ·show knownF _=(putE σ.ents _).length
  rw[hps.2,if_neg (by omega),Nat.add_zero,<- h.same.known]
  unfold knownF
  exact Nat.add_right_cancel hkn
 ·show (liveI key' _).Pairwise _
  by_cases e:it.key=key'
  ·subst e
   rw[set_live2 s.l i it hi hg (h.same.rise it.key)]
   exact (h.same.rise it.key).filter _
  ·rw[set_live key' s.l i it hi e]
   exact h.same.rise key'
 ·intro x hx
  rcases mem_set hx with hh|rfl
  ·exact h.pos x hh
  ·exact h.pos it hit
 ·intro x hx
  rcases mem_set hx with hh|rfl
  ·exact h.time x hh
  ·exact h.time it hit
 ·intro x hx
  rcases mem_set hx with hh|rfl
  ·exact h.body x hh
  ·exact h.body it hit
 ·intro x hx
  rcases mem_set hx with hh|rfl
  ·exact h.key x hh
  ·exact h.key it hit
 ·intro x hx
  show x.num<=lastF x.key _
  rw[hsl]
  rcases mem_set hx with hh|rfl
  ·exact h.num x hh
  ·exact h.num it hit
 ·intro key' n hB' h0 hn
  rw[hf2] at hn ⊢
  by_cases e:it.key=key'
  ·subst e
   rw[if_pos rfl] at hn ⊢
   obtain⟨v,hv,hvn⟩:=h.hold it.key n hB' h0 hn
   refine⟨v,?_,hvn⟩
   show v∈VS
   rw[<- hVS,List.mem_filter]
   exact⟨hv,by simp;omega⟩
  ·rw[if_neg e] at hn ⊢
   exact h.hold key' n hB' h0 hn
 ·show (s.l.set i _).length=((putE σ.ents _).map Ent.last).sum
  have:=h.len
  rw[List.length_set]
  omega
 ·show (s.J++_).length<=460*(s.l.set i _).length+60*(s.l.set i _).countP _
  have h1:=h.log
  rw[List.length_append,List.length_set,recF_len]
  rw[hg] at hcg
  simp only[Bool.false_eq_true,if_false,if_true] at hcg
  simp only[List.length_nil]
  omega
theorem hold_len {l:List Ver}(hr:l.Pairwise fun a b=>a.num<b.num)(B:Nat):∀ j,(∀ n,B<=n->n<B+j->∃ v∈l,v.num=n+1)->j<=(l.filter fun v=>decide (v.num<=B+j)).length
 | 0,_=>Nat.zero_le _
 | j+1,h=>by
   have ih:=hold_len hr B j (fun n h1 h2=>h n h1 (by omega))
   rw[show B+(j+1)=B+j+1 by omega,filter_next l (B+j) hr,List.length_append]
   obtain⟨v,hv,hn⟩:=h (B+j) (by omega) (by omega)
   cases hf:l.find? (fun v=>v.num==B+j+1) with
   | none =>
     have:=List.find?_eq_none.1 hf v hv
     simp[hn] at this
   | some u =>
     simp only[Option.toList_some,List.length_singleton]
     omega
theorem Twin.bound {B:Nat}{σ:St}{s:Rst}(h:Twin B σ s)(ho:StOK σ)(key:List UInt8):(findE σ.ents key).last<=B+20:=by
 by_cases h0:(findE σ.ents key).last=0
 ·omega
 ·have hE:=ho.ok _ (findE_mem h0)
  by_cases hb:(findE σ.ents key).last<=B
  ·omega
  ·have h1:=hold_len (h.vrise key) B ((findE σ.ents key).last-B) (fun n h1 h2=>h.hold key (n+1) (by omega) (by omega) (by omega))
   have h2:=List.length_filter_le (fun v:Ver=>decide (v.num<=B+((findE σ.ents key).last-B))) (findE σ.ents key).vers
   have h3:=hE.len
   omega
theorem sum_le {l:List Nat}{c:Nat}(h:∀ x∈l,x<=c):l.sum<=l.length*c:=by
 induction l with
 | nil=>simp
 | cons a l ih =>
   have h1:=h a List.mem_cons_self
   have h2:=ih (fun x hx=>h x (List.mem_cons_of_mem _ hx))
   rw[List.sum_cons,List.length_cons,Nat.succ_mul]
   omega
theorem Twin.sizes {B:Nat}{σ:St}{s:Rst}(h:Twin B σ s)(ho:StOK σ)(hm:σ.ents.length<=60):s.l.length<=60*(B+20)/\s.J.length<=520*(60*(B+20))/\∀ key,lastF key s.l<=B+20:=by
 have h1:s.l.length<=60*(B+20):=by
  rw[h.len]
  have:=sum_le (l:=σ.ents.map Ent.last) (c:=B+20) (fun x hx=>by
   obtain⟨E,hE,rfl⟩:=List.mem_map.1 hx
   have h0:=(ho.ok E hE).last
   have hb:=h.bound ho E.key
   have he:=findE_in ho.rise hE
   rw[he] at hb
   exact hb)
  rw[List.length_map] at this
  exact Nat.le_trans this (Nat.mul_le_mul_right _ hm)
 refine⟨h1,?_,fun key=>by rw[h.same.last];exact h.bound ho key⟩
 have h2:=h.log
 have h3:s.l.countP (fun it=>it.gone)<=s.l.length:=List.countP_le_length
 have h4:460*s.l.length+60*s.l.countP (fun it=>it.gone)<=520*s.l.length:=by omega
 exact Nat.le_trans (Nat.le_trans h2 h4) (Nat.mul_le_mul_left _ h1)
end Go.Proofs.YtmehkneofinmiaaGreatDoor

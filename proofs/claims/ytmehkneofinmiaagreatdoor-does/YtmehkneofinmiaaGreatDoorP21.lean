/-
 Texts of this proof, part 21.
-/
import Derived.Test.YtmehkneofinmiaaGreatDoorP19
set_option maxRecDepth 100000
set_option maxHeartbeats 4000000
namespace Go.Proofs.YtmehkneofinmiaaGreatDoor
open Go.RowKit Go.MuLone
noncomputable def appRs (P:Program)(ts:Array TypeId)(ty:TypeId)(w:World)(args:Array Value):Value×World :=
 match (Builtin.append_ ts ty args).run P w with
 | .ok v w'=>(v,w')
 | _=>(undef,w)
def AppOks (P:Program)(ts:Array TypeId)(ty:TypeId)(w:World)(args:Array Value):Prop:=∃ v w',(Builtin.append_ ts ty args).run P w=.ok v w'
theorem apps_run {P:Program}{ts:Array TypeId}{ty:TypeId}{w:World}{args:Array Value}(h:AppOks P ts ty w args) :
 (appS ts ty args).run P w=.ok (appRs P ts ty w args).1 (appRs P ts ty w args).2:=by
 obtain⟨v,w',h⟩:=h
 simp only[appRs,appS,h]
theorem apps_is {P:Program}{ts:Array TypeId}{ty:TypeId}{w w':World}{args:Array Value}{v:Value}(h:(Builtin.append_ ts ty args).run P w=.ok v w') :
 AppOks P ts ty w args/\(appRs P ts ty w args).1=v/\(appRs P ts ty w args).2=w':=⟨⟨v,w',h⟩,by simp only[appRs,h],by simp only[appRs,h]⟩
theorem app_str_at {P:Program}(w:World)(t u ty e:TypeId)(i:TypeInfo)(ht:P.underlying t=some (.slice e))(hu:P.underlying u=some .string)(hi:P.info? e=some i)(hz:i.zero=some (.int .u8 0))(hsize:i.size=1)(hby:i.bytes=1)
 (v:Value)(n:Nat)(xs:List Value)(hown:w.ownsRow 0 e 1 v n xs)(s:ByteArray)(hs:0<s.size)(hb:n+s.size<=140737488355328)(v':Value)(w':World)(hr:(Builtin.append_ #[t,u] ty #[v,.string s]).run P w=.ok v' w') :
 v'.ownBlock=v.ownBlock\/v'.ownBlock=some w.heap.size:=by
 rcases hown.2 with ⟨rfl,rfl⟩|⟨g,cap,cur,rfl,_,hg,hn,hm,hc,htk⟩
 ·have h:=run_append_nil_string (P:=P) w t u ty e i (.int .u8 0) ht hu hi hz s (by omega) (by omega) (by rw[hby];omega)
  rw[h] at hr
  injection hr with h1
  rw[<- h1]
  exact Or.inr rfl
 ·by_cases hroom:n+s.size<=cap
  ·have h:=Lib.run_append_room_string (P:=P) w t u ty e i ht hu hi hsize g n cap cur hg s hroom (by omega)
   rw[h] at hr
   injection hr with h1
   rw[<- h1]
   exact Or.inl rfl
  ·have h:=Lib.run_append_grow_string (P:=P) w t u ty e i (.int .u8 0) ht hu hi hz ⟨g,0,none⟩ n cap xs (by rw[hsize];exact hown.1) (hown.cells (g:=g) rfl) s (by omega) (by omega) (by rw[hby];exact growslice_fits (by omega) (by omega))
   rw[h] at hr
   injection hr with h1
   rw[<- h1]
   exact Or.inr rfl
attribute [local go_sem ↓] appS_is
attribute [local go_sem] apps_run
theorem unlocked_row {u:World}{b off:Nat}{cs:Array Value}{T:TypeId}{jr:Value}(h:u.heap[b]?=some (.cells ((cs.setIfInBounds off (.int .i32 1)).setIfInBounds (off+4) jr) T (0,0)))(h0:cs[off]?=some (.int .i32 0)) :
 (u.setCell ⟨b,off,none⟩ (.int .i32 0)).heap[b]?=some (.cells (cs.setIfInBounds (off+4) jr) T (0,0)):=by
 rw[heap_set h]
 congr 2
 apply Array.ext_getElem?
 intro i
 have hlt:=(Array.getElem?_eq_some_iff.1 h0).1
 simp only[Array.getElem?_setIfInBounds,Array.size_setIfInBounds]
 by_cases e:off=i
 ·subst e
  simp[hlt]
  exact (Array.getElem?_eq_some_iff.1 h0).2.symm
 ·by_cases e4:off+4=i
  ·simp[e,e4]
  ·simp[e,e4]
theorem Byt.set_far {w:World}{base:Nat}{v:Value}{l:List UInt8}(h:Byt w base v l){b i:Nat}{x:Value}(hb:v.ownBlock≠some b):Byt (w.setCell ⟨b,i,none⟩ x) base v l:=by
 refine⟨h.1,?_⟩
 rcases h.2 with h0|⟨g,cap,cur,hv,h1,hg,h2⟩
 ·exact Or.inl h0
 ·refine Or.inr ⟨g,cap,cur,hv,h1,?_,h2⟩
  have hne:b≠g:=fun e=>by subst e;apply hb;rw[hv];rfl
  rw[<- hg]
  simp[World.setCell,Array.getElem?_modify,hne]
theorem hgb' {g b n:Nat}{o:Option Nat}(h:some g=o\/n<=g)(ho:o≠some b)(hb:b<n):g≠b:=by
 intro e
 subst e
 rcases h with h|h
 ·exact ho h.symm
 ·omega
theorem enter_any (b off:Nat)(cs:Array Value)(T:TypeId)(t kd t0 n:Nat)(key body:List UInt8)(jr:Value)(J:List UInt8)(w:World)
 (hb:w.heap[b]?=some (.cells cs T (0,0)))(h0:cs[off]?=some (.int .i32 0))(h2:cs[off+2]?=some (.int .i64 t))(h4:cs[off+4]?=some jr)(hj:Byt w 0 jr J)(hjb:jr.ownBlock≠some b)
 (hk:kd<256)(ht:t<9223372036854775807)(hn:n<9223372036854775807)(hkl:key.length<100000)(hbl:body.length<100000)(hJ:J.length<140000000000000) :
 Calls Tryz.prog 234 #[.pointer (some ⟨b,off,none⟩),.agg #[.int .u8 kd,.int .i64 t0,.string ⟨key.toArray⟩,.int .i64 n,.string ⟨body.toArray⟩]] w fun e w'=>e=.returned (.int .i64 t) /\
  ∃ jr',w'.heap[b]?=some (.cells (cs.setIfInBounds (off+4) jr') T (0,0))/\Byt w' 0 jr' (J++recF kd t key n body)/\(jr'.ownBlock=jr.ownBlock\/∃ g,jr'.ownBlock=some g/\w.heap.size<=g)/\Off (fun k=>k=b\/jr.ownBlock=some k) w w':=by
 obtain⟨i0,hi0,hz0,hz1,hz2⟩:=info_parts infoU8
 have c0:w.cell? ⟨b,off,none⟩=some (.int .i32 0):=by simp[World.cell?,hb,h0]
 have c2:w.cell? ⟨b,off+2,none⟩=some (.int .i64 t):=by simp[World.cell?,hb,h2]
 have c4:w.cell? ⟨b,off+4,none⟩=some jr:=by simp[World.cell?,hb,h4]
 have f0:w.frozen? ⟨b,off,none⟩=false:=by simp[World.frozen?,hb]
 have hlt:b<w.heap.size:=(Array.getElem?_eq_some_iff.1 hb).1
 go_enter_defers Tryz.func234,Tryz.ntmps234
 have a0:(w.alloc (.cells #[.int .u8 kd,.int .i64 t0,.string ⟨key.toArray⟩,.int .i64 n,.string ⟨body.toArray⟩] 181)).cell? ⟨b,off,none⟩=some (.int .i32 0):=by simp[World.cell?,heap_alloc_old _ _ hlt,hb,h0]
 have z0:(w.alloc (.cells #[.int .u8 kd,.int .i64 t0,.string ⟨key.toArray⟩,.int .i64 n,.string ⟨body.toArray⟩] 181)).frozen? ⟨b,off,none⟩=false:=by simp[World.frozen?,heap_alloc_old _ _ hlt,hb]
 go_wp2_with (go_at_call 83;refine (lock_free Tryz.muLib ⟨b,off,none⟩ _ a0 z0).mono ?_;rintro e w' ⟨rfl,rfl⟩)
 obtain⟨x,hx⟩:∃ x,x=(w.setCell ⟨b,off,none⟩ (.int .i32 1)).alloc (.cells #[.int .u8 kd,.int .i64 t,.string ⟨key.toArray⟩,.int .i64 n,.string ⟨body.toArray⟩] 181):=⟨_,rfl⟩
 rw[<- hx]
 have hsz:x.heap.size=w.heap.size+1:=by rw[hx];simp
 have hO:Off (fun k=>k=b\/jr.ownBlock=some k) w x:=by rw[hx];exact ((Off.refl _ _).set b off _ (Or.inl (Or.inl rfl))).alloc _
 have hB:x.heap[b]?=some (.cells (cs.setIfInBounds off (.int .i32 1)) T (0,0)):=by
  rw[hx,heap_alloc_old _ _ (by simpa using hlt)]
  exact heap_set hb
 have hR:Byt x 0 jr J:=by
  refine⟨hj.1,?_⟩
  rcases hj.2 with h0|⟨g,cap,cur,hv,h1,hg,h2⟩
  ·exact Or.inl h0
  ·refine Or.inr ⟨g,cap,cur,hv,h1,?_,h2⟩
   have hne:b≠g:=fun e=>by subst e;apply hjb;rw[hv];rfl
   rw[hx,heap_alloc_old _ _ (by simpa using (Array.getElem?_eq_some_iff.1 hg).1),<- hg]
   simp[World.setCell,Array.getElem?_modify,hne]
 have hC:x.heap[w.heap.size]?=some (.cells #[.int .u8 kd,.int .i64 t,.string ⟨key.toArray⟩,.int .i64 n,.string ⟨body.toArray⟩] 181 (0,0)):=by
  rw[hx]
  have:=heap_alloc_new (w.setCell ⟨b,off,none⟩ (.int .i32 1)) (.cells #[.int .u8 kd,.int .i64 t,.string ⟨key.toArray⟩,.int .i64 n,.string ⟨body.toArray⟩] 181)
  simpa using this
 have hnb:jr.ownBlock≠some w.heap.size:=fun e=>absurd (hj.lt _ e).2 (Nat.lt_irrefl _)
 have hbn:b≠w.heap.size:=by omega
 clear hx c2 c4 a0 z0
 have HB:Hid _:=hB
 have HC:Hid _:=hC
 have HR:Hid _:=hR
 have HO:Hid _:=hO
 have HSZ:Hid _:=hsz
 have HW:Hid _:=hb
 have H0:Hid _:=h0
 have H2:Hid _:=h2
 have H4:Hid _:=h4
 have HJ0:Hid _:=hj
 have hltx:b<x.heap.size:=by omega
 have hbx:w.heap.size<x.heap.size:=by omega
 have c4:x.cell? ⟨b,off+4,none⟩=some jr:=by simp[World.cell?,hB,h4]
 have c2:x.cell? ⟨b,off+2,none⟩=some (.int .i64 t):=by simp[World.cell?,hB,h2]
 have f4:x.frozen? ⟨b,off+4,none⟩=false:=by simp[World.frozen?,hB]
 have b0:x.cell? ⟨w.heap.size,0,none⟩=some (.int .u8 (kd:Int)):=by simp[World.cell?,hC]
 have b1:x.cell? ⟨w.heap.size,1,none⟩=some (.int .i64 (t:Int)):=by simp[World.cell?,hC]
 have b2:x.cell? ⟨w.heap.size,2,none⟩=some (.string ⟨key.toArray⟩):=by simp[World.cell?,hC]
 have b3:x.cell? ⟨w.heap.size,3,none⟩=some (.int .i64 (n:Int)):=by simp[World.cell?,hC]
 have b4:x.cell? ⟨w.heap.size,4,none⟩=some (.string ⟨body.toArray⟩):=by simp[World.cell?,hC]
 have hoff:off<cs.size:=(Array.getElem?_eq_some_iff.1 h0).1
 have hoff4:off+4<cs.size:=(Array.getElem?_eq_some_iff.1 h4).1
 clear hB hC hR hO hsz hb h0 h2 h4 hj
 have HT:Hid (∀ w1,Below x.drew.heap.size x.drew w1->∃ g cap w2,w1.cell? ⟨b,off+4,none⟩=some jr /\
  AppOks Tryz.prog #[115,9] 115 w1 #[jr,.string ⟨(recF kd t key n body).toArray⟩]/\(appRs Tryz.prog #[115,9] 115 w1 #[jr,.string ⟨(recF kd t key n body).toArray⟩]).1=(.slice (some ⟨g,0,none⟩) (J.length+(recF kd t key n body).length) cap)/\(appRs Tryz.prog #[115,9] 115 w1 #[jr,.string ⟨(recF kd t key n body).toArray⟩]).2=w2/\w2.cell? ⟨b,off+4,none⟩=some jr/\w2.frozen? ⟨b,off+4,none⟩=false /\
  (w1.cell? ⟨w.heap.size,0,none⟩=some (.int .u8 (kd:Int))/\w1.cell? ⟨w.heap.size,1,none⟩=some (.int .i64 (t:Int))/\w1.cell? ⟨w.heap.size,2,none⟩=some (.string ⟨key.toArray⟩)/\w1.cell? ⟨w.heap.size,3,none⟩=some (.int .i64 (n:Int))/\w1.cell? ⟨w.heap.size,4,none⟩=some (.string ⟨body.toArray⟩))/\(w2.cell? ⟨w.heap.size,0,none⟩=some (.int .u8 (kd:Int))/\w2.cell? ⟨w.heap.size,1,none⟩=some (.int .i64 (t:Int))/\w2.cell? ⟨w.heap.size,2,none⟩=some (.string ⟨key.toArray⟩)/\w2.cell? ⟨w.heap.size,3,none⟩=some (.int .i64 (n:Int))/\w2.cell? ⟨w.heap.size,4,none⟩=some (.string ⟨body.toArray⟩))/\((w2.setCell ⟨b,off+4,none⟩ (.slice (some ⟨g,0,none⟩) (J.length+(recF kd t key n body).length) cap)).cell? ⟨w.heap.size,0,none⟩=some (.int .u8 (kd:Int))/\(w2.setCell ⟨b,off+4,none⟩ (.slice (some ⟨g,0,none⟩) (J.length+(recF kd t key n body).length) cap)).cell? ⟨w.heap.size,1,none⟩=some (.int .i64 (t:Int))/\(w2.setCell ⟨b,off+4,none⟩ (.slice (some ⟨g,0,none⟩) (J.length+(recF kd t key n body).length) cap)).cell? ⟨w.heap.size,2,none⟩=some (.string ⟨key.toArray⟩)/\(w2.setCell ⟨b,off+4,none⟩ (.slice (some ⟨g,0,none⟩) (J.length+(recF kd t key n body).length) cap)).cell? ⟨w.heap.size,3,none⟩=some (.int .i64 (n:Int))/\(w2.setCell ⟨b,off+4,none⟩ (.slice (some ⟨g,0,none⟩) (J.length+(recF kd t key n body).length) cap)).cell? ⟨w.heap.size,4,none⟩=some (.string ⟨body.toArray⟩)) /\
  ((w2.setCell ⟨b,off+4,none⟩ (.slice (some ⟨g,0,none⟩) (J.length+(recF kd t key n body).length) cap)).heap[b]?=some (.cells ((cs.setIfInBounds off (.int .i32 1)).setIfInBounds (off+4) (.slice (some ⟨g,0,none⟩) (J.length+(recF kd t key n body).length) cap)) T (0,0))/\Byt (w2.setCell ⟨b,off+4,none⟩ (.slice (some ⟨g,0,none⟩) (J.length+(recF kd t key n body).length) cap)) 0 (.slice (some ⟨g,0,none⟩) (J.length+(recF kd t key n body).length) cap) (J++recF kd t key n body)/\(some g=jr.ownBlock\/w.heap.size<=g)/\Off (fun k=>k=b\/jr.ownBlock=some k) w (w2.setCell ⟨b,off+4,none⟩ (.slice (some ⟨g,0,none⟩) (J.length+(recF kd t key n body).length) cap)))):=by
  intro w1 hb1
  have hb1:Below x.heap.size x w1:=⟨hb1.os,hb1.tape,hb1.output,hb1.size,hb1.block⟩
  have hB1:w1.heap[b]?=_:=(hb1.block b hltx).trans HB.out
  have hC1:w1.heap[w.heap.size]?=_:=(hb1.block _ hbx).trans HC.out
  have hR1:=Byt.below (base:=0) (l:=J) HR.out hb1
  have hb1l:b<w1.heap.size:=Nat.lt_of_lt_of_le hltx hb1.size
  have hw1:w.heap.size<w1.heap.size:=Nat.lt_of_lt_of_le hbx hb1.size
  have hrl:=recF_len kd t key n body
  have hsr:(⟨(recF kd t key n body).toArray⟩:ByteArray).size=20+key.length+body.length:=by rw[Lib.size_eq];exact hrl
  obtain⟨v',w2,hrun,hown,hgrow,hnil⟩:=Lib.run_append_own_string (P:=Tryz.prog) w1 0 115 9 115 5 i0 Tryz.underlying115 Tryz.underlying9 hi0 hz0 hz1 hz2 jr J.length (u8s J) hR1 ⟨(recF kd t key n body).toArray⟩ (by unfold maxLen;omega) (by omega) (by omega)
  have hown':Byt w2 0 v' (J++recF kd t key n body):=by
   rw[Lib.size_eq,strCells_u8s,<- u8s_app] at hown
   unfold Byt
   rw[List.length_append]
   exact hown
  have hat:=app_str_at (P:=Tryz.prog) w1 115 9 115 5 i0 Tryz.underlying115 Tryz.underlying9 hi0 hz0 hz1 hz2 jr J.length (u8s J) hR1 ⟨(recF kd t key n body).toArray⟩ (by omega) (by omega) v' w2 hrun
  obtain⟨g,cap,rfl⟩:∃ g cap,v'=(.slice (some ⟨g,0,none⟩) (J.length+(recF kd t key n body).length) cap):=by
   rcases hown'.2 with ⟨_,h0⟩|⟨g,cap,cur,hv,_⟩
   ·rw[List.length_append,hrl] at h0;omega
   ·rw[List.length_append] at hv;exact⟨g,cap,hv⟩
  have hgs:some g=jr.ownBlock\/w1.heap.size<=g:=by
   rcases hat with h|h
   ·exact Or.inl h
   ·right
    injection h with h
    simp only at h
    omega
  have hgb:b≠g:=by
   intro e
   rcases hgs with h|h
   ·exact hjb (h ▸ e ▸ rfl)
   ·omega
  have hB2:w2.heap[b]?=_:=(hgrow.block b hb1l (Ne.symm hjb)).trans hB1
  have hC2:w2.heap[w.heap.size]?=_:=(hgrow.block _ hw1 (Ne.symm hnb)).trans hC1
  have hC3:(w2.setCell ⟨b,off+4,none⟩ (.slice (some ⟨g,0,none⟩) (J.length+(recF kd t key n body).length) cap)).heap[w.heap.size]?=some (.cells #[.int .u8 kd,.int .i64 t,.string ⟨key.toArray⟩,.int .i64 n,.string ⟨body.toArray⟩] 181 (0,0)):=by
   rw[<- hC2]
   simp[World.setCell,Array.getElem?_modify,hbn]
  obtain⟨hok,hr1,hr2⟩:=apps_is hrun
  refine⟨g,cap,w2,by simp[World.cell?,hB1,H4.out],hok,hr1,hr2,by simp[World.cell?,hB2,H4.out],by simp[World.frozen?,hB2],by simp[World.cell?,hC1],by simp[World.cell?,hC2],by simp only[World.cell?,hC3];simp,
   heap_set hB2,?_,hgs.imp_right (fun h=>by omega),?_⟩
  ·refine⟨hown'.1,?_⟩
   rcases hown'.2 with ⟨hc,_⟩|⟨g',cap',cur,hv,h1,hg,h2⟩
   ·cases hc
   ·injection hv with e1 e2 e3
    injection e1 with e1
    injection e1 with e1
    subst e1
    subst e3
    refine Or.inr ⟨g,cap,cur,by rw[List.length_append],h1,?_,h2⟩
    rw[<- hg]
    simp[World.setCell,Array.getElem?_modify,hgb]
  ·exact ((HO.out.trans (Off.of_below hb1)).grown hgrow (fun k hk=>Or.inl (Or.inr hk))).set b _ _ (Or.inl (Or.inl rfl))
 refine wp_region_noPanic ?_
 refine wp_region_held_drew (S:=fun y=>(y.cell? ⟨w.heap.size,0,none⟩=some (.int .u8 (kd:Int))/\y.cell? ⟨w.heap.size,1,none⟩=some (.int .i64 (t:Int))/\y.cell? ⟨w.heap.size,2,none⟩=some (.string ⟨key.toArray⟩)/\y.cell? ⟨w.heap.size,3,none⟩=some (.int .i64 (n:Int))/\y.cell? ⟨w.heap.size,4,none⟩=some (.string ⟨body.toArray⟩))) (by kernel_rfl) ⟨b0,b1,b2,b3,b4⟩ (fun hHeld=>?_)
 refine tkH 0 rfl (by kernel_rfl) (fun _ _ _ h=>h) (Or.inl ⟨by rfl,fun y hSw=>by go_simp;try with_reducible rfl⟩) hHeld ?_
 try simp only[Act.put]
 refine tkH 1 rfl (by kernel_rfl) (fun _ _ _ h=>h) (Or.inl ⟨by rfl,fun y hSw=>by go_simp;try with_reducible rfl⟩) hHeld ?_
 try simp only[Act.put]
 refine tkH 2 rfl (by kernel_rfl) (fun _ _ _ h=>h) (Or.inl ⟨by rfl,fun y hSw=>by go_simp;try with_reducible rfl⟩) hHeld ?_
 try simp only[Act.put]
 refine tkH 3 rfl (by kernel_rfl) (fun _ _ _ h=>h) (Or.inl ⟨by rfl,fun y hSw=>by go_simp;try with_reducible rfl⟩) hHeld ?_
 try simp only[Act.put]
 refine tkH 5 rfl (by kernel_rfl) (fun _ _ _ h=>h) (Or.inl ⟨by rfl,fun y hSw=>by go_simp;try with_reducible rfl⟩) hHeld ?_
 try simp only[Act.put]
 refine wpAnyH_ready (rs:=[4,6]) (by kernel_rfl) (by simp) ?_
 refine AllReadyH.cons rfl (fun K hK=>?_) (AllReadyH.cons rfl (fun K hK=>?_) AllReadyH.nil)
 ·go_simp
  refine hK.out _ _ hHeld (fun _=>?_)
  clear hK K
  try simp only[Act.put]
  refine wpAnyH_ready (rs:=[6]) (by kernel_rfl) (by simp) ?_
  refine AllReadyH.cons rfl (fun K hK=>?_) AllReadyH.nil
  go_simp
  refine (text_rec kd t n key body _ hk ht hn hkl hbl).mono ?_
  rintro e w1 ⟨rfl,hb1⟩
  obtain⟨g,cap,w2,g2,hok,hr1,hr2,d4,z4,hS1,hS2,hS3,hfin⟩:=HT.out w1 hb1
  have HF:Hid _:=hfin
  clear hfin
  try go_wp2_with fail
  refine hK.out _ _ hS1 (fun hHeld1=>?_)
  clear hK K
  try simp only[Act.put]
  refine wpAnyH_ready (rs:=[7]) (by kernel_rfl) (by simp) ?_
  refine AllReadyH.cons rfl (fun K hK=>?_) AllReadyH.nil
  go_simp
  refine hK.out _ _ hS2 (fun hHeld3=>?_)
  clear hK K
  try simp only[Act.put]
  refine tkH 8 rfl (by kernel_rfl) (fun _ _ _ h=>h) (Or.inl ⟨by rfl,fun y hSw=>by go_simp;try with_reducible rfl⟩) hHeld3 ?_
  try simp only[Act.put]
  refine tkH 9 rfl (by kernel_rfl) (fun _ _ _ h=>h) (Or.inl ⟨by rfl,fun y hSw=>by go_simp;try with_reducible rfl⟩) hHeld3 ?_
  try simp only[Act.put]
  refine wpAnyH_ready (rs:=[10]) (by kernel_rfl) (by simp) ?_
  refine AllReadyH.cons rfl (fun K hK=>?_) AllReadyH.nil
  go_simp
  refine hK.out _ _ hS3 (fun hHeld4=>?_)
  clear hK K
  try simp only[Act.put]
  refine wpAnyH_done (by kernel_rfl) ?_ _
  refine NoPanic.normal ?_
  obtain⟨u,hu⟩:∃ u,u=w2.setCell ⟨b,off+4,none⟩ (.slice (some ⟨g,0,none⟩) (J.length+(recF kd t key n body).length) cap):=⟨_,rfl⟩
  rw[<- hu]
  rw[<- hu] at HF
  have hB3:=HF.out.1
  have u0:u.cell? ⟨b,off,none⟩=some (.int .i32 1):=by
   simp only[World.cell?,hB3]
   simp[hoff]
  have u2:u.cell? ⟨b,off+2,none⟩=some (.int .i64 t):=by
   simp only[World.cell?,hB3]
   simp[H2.out]
  have uf:u.frozen? ⟨b,off,none⟩=false:=by simp[World.frozen?,hB3]
  clear hHeld4 hHeld3 hHeld1 hS1 hS2 hS3 hu hr1 hr2 hok d4 z4 g2
  go_wp2
  refine leaves_cons (f:=84) (args:=#[.pointer (some ⟨b,off,none⟩)]) (by simp) (by simp[go_sem]) ?_
  refine (unlock_deferred Tryz.muLib ⟨b,off,none⟩ .returning _ u0 uf).mono ?_
  rintro e u' w'' ⟨rfl,rfl,rfl⟩
  exact⟨_,results_tmp rfl _ _ _,rfl,_,unlocked_row hB3 H0.out,Byt.set_far HF.out.2.1 (fun e=>(hgb' HF.out.2.2.1 hjb hlt) (by injection e)),HF.out.2.2.1.elim Or.inl (fun h=>Or.inr ⟨_,rfl,h⟩),HF.out.2.2.2.set b off _ (Or.inl (Or.inl rfl))⟩
 ·go_simp
  refine (text_rec kd t n key body _ hk ht hn hkl hbl).mono ?_
  rintro e w1 ⟨rfl,hb1⟩
  obtain⟨g,cap,w2,g2,hok,hr1,hr2,d4,z4,hS1,hS2,hS3,hfin⟩:=HT.out w1 hb1
  have HF:Hid _:=hfin
  clear hfin
  try go_wp2_with fail
  refine hK.out _ _ hS1 (fun hHeld1=>?_)
  clear hK K
  try simp only[Act.put]
  refine wpAnyH_ready (rs:=[4]) (by kernel_rfl) (by simp) ?_
  refine AllReadyH.cons rfl (fun K hK=>?_) AllReadyH.nil
  go_simp
  refine hK.out _ _ hHeld1 (fun _=>?_)
  clear hK K
  try simp only[Act.put]
  refine wpAnyH_ready (rs:=[7]) (by kernel_rfl) (by simp) ?_
  refine AllReadyH.cons rfl (fun K hK=>?_) AllReadyH.nil
  go_simp
  refine hK.out _ _ hS2 (fun hHeld3=>?_)
  clear hK K
  try simp only[Act.put]
  refine tkH 8 rfl (by kernel_rfl) (fun _ _ _ h=>h) (Or.inl ⟨by rfl,fun y hSw=>by go_simp;try with_reducible rfl⟩) hHeld3 ?_
  try simp only[Act.put]
  refine tkH 9 rfl (by kernel_rfl) (fun _ _ _ h=>h) (Or.inl ⟨by rfl,fun y hSw=>by go_simp;try with_reducible rfl⟩) hHeld3 ?_
  try simp only[Act.put]
  refine wpAnyH_ready (rs:=[10]) (by kernel_rfl) (by simp) ?_
  refine AllReadyH.cons rfl (fun K hK=>?_) AllReadyH.nil
  go_simp
  refine hK.out _ _ hS3 (fun hHeld4=>?_)
  clear hK K
  try simp only[Act.put]
  refine wpAnyH_done (by kernel_rfl) ?_ _
  refine NoPanic.normal ?_
  obtain⟨u,hu⟩:∃ u,u=w2.setCell ⟨b,off+4,none⟩ (.slice (some ⟨g,0,none⟩) (J.length+(recF kd t key n body).length) cap):=⟨_,rfl⟩
  rw[<- hu]
  rw[<- hu] at HF
  have hB3:=HF.out.1
  have u0:u.cell? ⟨b,off,none⟩=some (.int .i32 1):=by
   simp only[World.cell?,hB3]
   simp[hoff]
  have u2:u.cell? ⟨b,off+2,none⟩=some (.int .i64 t):=by
   simp only[World.cell?,hB3]
   simp[H2.out]
  have uf:u.frozen? ⟨b,off,none⟩=false:=by simp[World.frozen?,hB3]
  clear hHeld4 hHeld3 hHeld1 hS1 hS2 hS3 hu hr1 hr2 hok d4 z4 g2
  go_wp2
  refine leaves_cons (f:=84) (args:=#[.pointer (some ⟨b,off,none⟩)]) (by simp) (by simp[go_sem]) ?_
  refine (unlock_deferred Tryz.muLib ⟨b,off,none⟩ .returning _ u0 uf).mono ?_
  rintro e u' w'' ⟨rfl,rfl,rfl⟩
  exact⟨_,results_tmp rfl _ _ _,rfl,_,unlocked_row hB3 H0.out,Byt.set_far HF.out.2.1 (fun e=>(hgb' HF.out.2.2.1 hjb hlt) (by injection e)),HF.out.2.2.1.elim Or.inl (fun h=>Or.inr ⟨_,rfl,h⟩),HF.out.2.2.2.set b off _ (Or.inl (Or.inl rfl))⟩
end Go.Proofs.YtmehkneofinmiaaGreatDoor

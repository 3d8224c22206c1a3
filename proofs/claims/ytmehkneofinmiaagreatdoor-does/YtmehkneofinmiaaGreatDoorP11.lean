/-
 Texts of this proof, part 11.
-/
import Derived.Test.YtmehkneofinmiaaGreatDoorP02
import Derived.Conc.RwLone
import Derived.WalkSpells
import Derived.Laws.CopyOwn
import Derived.Deep.AppendLies
import Derived.OrdersHeld
set_option maxHeartbeats 4000000
namespace Go.Proofs
open Go.Shelf
def Tryz.lays166_ren:Go.Shelf.Ren:=⟨fun|166=>73|240=>126|276=>189|n=>n,fun|70=>143|72=>145|0=>0|3=>3|4=>4|5=>5|9=>9|20=>20|37=>115|75=>147|80=>80|164=>154|n=>n,fun|n=>n⟩
theorem Tryz.lays166:Go.Proofs.Lays.n166 Tryz.prog Tryz.lays166_ren:={
 mixed:=by kernel_rfl
 f166:=Tryz.func73.trans (congrArg some (by kernel_rfl))
 f240:=Tryz.func126.trans (congrArg some (by kernel_rfl))
 f276:=Tryz.func189.trans (congrArg some (by kernel_rfl))
 t0:=Tryz.underlying0
 a0:=Tryz.isAgg0
 z0:=Tryz.sizeOf0
 v0:=Tryz.zeroValue0
 t3:=Tryz.underlying3
 a3:=Tryz.isAgg3
 z3:=Tryz.sizeOf3
 v3:=Tryz.zeroValue3
 t4:=Tryz.underlying4
 a4:=Tryz.isAgg4
 z4:=Tryz.sizeOf4
 v4:=Tryz.zeroValue4
 t9:=Tryz.underlying9
 a9:=Tryz.isAgg9
 z9:=Tryz.sizeOf9
 v9:=Tryz.zeroValue9
 t20:=Tryz.underlying20
 a20:=Tryz.isAgg20
 z20:=Tryz.sizeOf20
 v20:=Tryz.zeroValue20
 t37:=Tryz.underlying115
 a37:=Tryz.isAgg115
 z37:=Tryz.sizeOf115
 v37:=Tryz.zeroValue115
 t70:=Tryz.underlying143
 a70:=Tryz.isAgg143
 z70:=Tryz.sizeOf143
 v70:=Tryz.zeroValue143
 t72:=Tryz.underlying145
 a72:=Tryz.isAgg145
 z72:=Tryz.sizeOf145
 v72:=Tryz.zeroValue145
 t75:=Tryz.underlying147
 a75:=Tryz.isAgg147
 z75:=Tryz.sizeOf147
 v75:=Tryz.zeroValue147
 t164:=Tryz.underlying154
 a164:=Tryz.isAgg154
 z164:=Tryz.sizeOf154
 v164:=Tryz.zeroValue154 }
theorem Tryz.Builder_Extra_166:Builder.Extra Tryz.prog Tryz.lays166_ren:={
 sizeBuilder:=by kernel_rfl
 liesBuilder:=by kernel_rfl
 t5:=Tryz.underlying5
 a5:=Tryz.isAgg5
 z5:=Tryz.sizeOf5
 v5:=Tryz.zeroValue5
 infoByte:=by kernel_rfl
 cellsByte:=by kernel_rfl
 sizeByte:=by kernel_rfl
 neB5:=by decide }
open Go.RowKit in
theorem Tryz.Builder_WriteString (B b:Nat)(bs:List Value)(s:ByteArray)(w:World)(h:Lib.IsBuilder 145 5 B b bs w)(hlen:bs.length+s.size<=140737488355328)(hBw:B<=w.heap.size) :
 Calls Tryz.prog 73 #[.pointer (some ⟨b,0,none⟩),.string s] w fun e w'=>e=.returned (.tuple #[.int .i64 s.size,.nilIface])/\(Lib.BuilderAt 145 5 B b (.pointer (some ⟨b,0,none⟩)) (bs++Lib.strCells s) w'/\Below B w w'):=Any.Builder_WriteString Tryz.lays166 Tryz.Builder_Extra_166 B b bs s w h hlen hBw
open Go.RowKit in
theorem Tryz.Builder_WriteString_k (B b:Nat)(bs:List Value)(s:ByteArray)(w:World)(h:Lib.IsBuilderF 145 5 B b bs w)(hlen:bs.length+s.size<=140737488355328)(hBw:B<=w.heap.size) :
 Calls Tryz.prog 73 #[.pointer (some ⟨b,0,none⟩),.string s] w fun e w'=>e=.returned (.tuple #[.int .i64 s.size,.nilIface])/\(Lib.BuilderAtF 145 5 B b (.pointer (some ⟨b,0,none⟩)) (bs++Lib.strCells s) w'/\Below B w w'/\Lib.OthersKept 5 (some b) w w'):=Any.Builder_WriteString_k Tryz.lays166 Tryz.Builder_Extra_166 B b bs s w h hlen hBw
end Go.Proofs

namespace Go.Proofs
abbrev Tryz.muLink:Go.Conc.Locks.MuLink:={ lock:=83,unlock:=84,ilock:=130,iunlock:=131,lockSlow:=191,unlockSlow:=192,disable:=76,enable:=79,acquire:=80,relMerge:=81,cas32:=190,add32:=127,tMutex:=108,tIMutex:=106,tPMutex:=155,tPIMutex:=275,tPI32:=219,tUP:=154,tNoCopy:=103,tU32:=104 }
theorem Tryz.muLib:Go.Conc.Locks.MuLib Tryz.prog Tryz.muLink :=
 ⟨Tryz.func83,Tryz.func84,Tryz.func130,Tryz.func131,Tryz.func76,Tryz.func79,Tryz.func80,Tryz.func81,Tryz.func190,Tryz.func127,Tryz.underlying106,Tryz.runUnderlying106,Tryz.sizeOf106,Tryz.isAgg106,Tryz.zeroValue106,Tryz.underlying108,Tryz.runUnderlying108,Tryz.sizeOf108,Tryz.isAgg108,Tryz.zeroValue108,Tryz.underlying155,Tryz.runUnderlying155,Tryz.sizeOf155,Tryz.isAgg155,Tryz.zeroValue155,Tryz.underlying275,Tryz.runUnderlying275,Tryz.sizeOf275,Tryz.isAgg275,Tryz.zeroValue275,Tryz.underlying219,Tryz.runUnderlying219,Tryz.sizeOf219,Tryz.isAgg219,Tryz.zeroValue219,Tryz.underlying154,Tryz.runUnderlying154,Tryz.sizeOf154,Tryz.isAgg154,Tryz.zeroValue154,Tryz.underlying103,Tryz.runUnderlying103,Tryz.sizeOf103,Tryz.isAgg103,Tryz.zeroValue103,Tryz.underlying21,Tryz.runUnderlying21,Tryz.sizeOf21,Tryz.isAgg21,Tryz.zeroValue21,(by kernel_rfl)⟩
abbrev Tryz.rwLink:Go.Conc.Locks.RwLink:={ lock:=83,unlock:=84,ilock:=130,iunlock:=131,lockSlow:=191,unlockSlow:=192,disable:=76,enable:=79,acquire:=80,relMerge:=81,cas32:=190,add32:=127,tMutex:=108,tIMutex:=106,tPMutex:=155,tPIMutex:=275,tPI32:=219,tUP:=154,tNoCopy:=103,tU32:=104,rlock:=43,runlock:=44,wlock:=178,wunlock:=179,i32add:=77,raceRead:=75,release:=224,rUnlockSlow:=82,semacqR:=78,semacqW:=223,semrel:=129,sfatal:=128,tRW:=113,tPRW:=152,tAI32:=111,tPAI32:=217,tPU32:=158,tANoCopy:=109 }
theorem Tryz.rwCore:Go.Conc.Locks.RwCore Tryz.prog Tryz.rwLink :=
 ⟨Tryz.func77,Tryz.func75,Tryz.func76,Tryz.func79,Tryz.func80,Tryz.func81,Tryz.func127,Tryz.underlying113,Tryz.runUnderlying113,Tryz.sizeOf113,Tryz.isAgg113,Tryz.zeroValue113,Tryz.underlying111,Tryz.runUnderlying111,Tryz.sizeOf111,Tryz.isAgg111,Tryz.zeroValue111,Tryz.underlying152,Tryz.runUnderlying152,Tryz.sizeOf152,Tryz.isAgg152,Tryz.zeroValue152,Tryz.underlying217,Tryz.runUnderlying217,Tryz.sizeOf217,Tryz.isAgg217,Tryz.zeroValue217,Tryz.underlying158,Tryz.runUnderlying158,Tryz.sizeOf158,Tryz.isAgg158,Tryz.zeroValue158,Tryz.underlying109,Tryz.runUnderlying109,Tryz.sizeOf109,Tryz.isAgg109,Tryz.zeroValue109,Tryz.underlying104,Tryz.runUnderlying104,Tryz.sizeOf104,Tryz.isAgg104,Tryz.zeroValue104,Tryz.underlying108,Tryz.runUnderlying108,Tryz.sizeOf108,Tryz.isAgg108,Tryz.zeroValue108,Tryz.underlying155,Tryz.runUnderlying155,Tryz.sizeOf155,Tryz.isAgg155,Tryz.zeroValue155,Tryz.underlying219,Tryz.runUnderlying219,Tryz.sizeOf219,Tryz.isAgg219,Tryz.zeroValue219,Tryz.underlying154,Tryz.runUnderlying154,Tryz.sizeOf154,Tryz.isAgg154,Tryz.zeroValue154,Tryz.underlying21,Tryz.runUnderlying21,Tryz.sizeOf21,Tryz.isAgg21,Tryz.zeroValue21,(by kernel_rfl),(by kernel_rfl)⟩
theorem Tryz.rwRLib:Go.Conc.Locks.RwRLib Tryz.prog Tryz.rwLink:=⟨Tryz.rwCore,Tryz.func43,Tryz.func44⟩
end Go.Proofs

namespace Go.Proofs.YtmehkneofinmiaaGreatDoor
open Go.RowKit Go.MuLone
theorem setCell_back {w:World}{a:Addr}{v:Value}(h:w.cell? a=some v)(x:Value):(w.setCell a x).setCell a v=w:=by
 cases w with|mk heap tape drawn os output =>
 simp only[World.setCell,World.mk.injEq,and_true]
 apply Array.ext
 ·simp
 ·intro i h1 h2
  simp only[Array.getElem_modify]
  split
  ·rename_i e
   subst e
   simp only[World.cell?] at h
   rw[Array.getElem?_eq_getElem h2] at h
   revert h
   cases heap[a.block] with
   | cells c t f =>
     intro h
     simp only at h
     cases hs:a.spot with
     | some _=>rw[hs] at h;simp at h
     | none =>
       rw[hs] at h
       simp only[Option.isSome_none,Bool.false_eq_true,if_false] at h ⊢
       have hlt:a.off<c.size:=(Array.getElem?_eq_some_iff.1 h).1
       have hv:c[a.off]=v:=(Array.getElem?_eq_some_iff.1 h).2
       congr 1
       apply Array.ext
       ·simp
       ·intro j j1 j2
        by_cases hj:a.off=j
        ·subst hj;simp[hv]
        ·rw[Array.getElem_setIfInBounds_ne (by simpa using j2) hj,Array.getElem_setIfInBounds_ne j2 hj]
   | _=>simp
  ·rfl
theorem setCell_comm (w:World){a b:Addr}(h:a≠b)(x y:Value):(w.setCell a x).setCell b y=(w.setCell b y).setCell a x:=by
 cases w with|mk heap tape drawn os output =>
 simp only[World.setCell,World.mk.injEq,and_true]
 apply Array.ext
 ·simp
 ·intro i h1 h2
  simp only[Array.getElem_modify]
  by_cases ha:a.block=i<;>by_cases hb:b.block=i<;>simp only[ha,hb,if_true,if_false]
  generalize heap[i]'(by simpa using h1)=o
  cases o with
  | cells c t f =>
    simp only
    congr 1
    cases hsa:a.spot<;>cases hsb:b.spot<;>simp
    have hne:a.off≠b.off:=by
     intro e
     apply h
     cases a;cases b
     simp_all
    exact Array.setIfInBounds_comm _ _ hne
  | _=>rfl
structure Cmn (w:World)(b off:Nat)(t k:Int):Prop where
 l:w.cell? ⟨b,off,none⟩=some (.int .i32 0)
 t:w.cell? ⟨b,off+2,none⟩=some (.int .i64 t)
 k:w.cell? ⟨b,off+3,none⟩=some (.int .i64 k)
 f:∀ j,w.frozen? ⟨b,j,none⟩=false
theorem now_any (b off:Nat)(t k:Int)(w:World)(h:Cmn w b off t k) :
 Calls Tryz.prog 60 #[.pointer (some ⟨b,off,none⟩)] w fun e w'=>e=.returned (.int .i64 t)/\w'=w:=by
 have h0:=h.l
 have h2:=h.t
 have f0:=h.f off
 have f2:=h.f (off+2)
 go_enter_defers Tryz.func60,Tryz.ntmps60
 go_wp2_with (go_at_call 83;refine (lock_free Tryz.muLib ⟨b,off,none⟩ _ h0 f0).mono ?_;rintro e w' ⟨rfl,rfl⟩)
 refine leaves_cons (f:=84) (args:=#[.pointer (some ⟨b,off,none⟩)]) (by simp) (by simp[go_sem]) ?_
 refine (unlock_deferred Tryz.muLib ⟨b,off,none⟩ .returning _ ?_ ?_).mono ?_
 ·exact World.cell?_setCell_same w ⟨b,off,none⟩ (.int .i32 1) h0
 ·simp[f0]
 rintro e u' w'' ⟨rfl,rfl,rfl⟩
 exact⟨_,results_tmp rfl _ _ _,rfl,setCell_back h0 _⟩
theorem admit_yes (b off:Nat)(t k:Int)(w:World)(h:Cmn w b off t k)(hk0:0<=k)(hk:k<60) :
 Calls Tryz.prog 228 #[.pointer (some ⟨b,off,none⟩)] w fun e w'=>e=.returned (.bool true)/\w'=w.setCell ⟨b,off+3,none⟩ (.int .i64 (k+1)):=by
 have h0:=h.l
 have h2:=h.k
 have f0:=h.f off
 have f2:=h.f (off+3)
 have hne:(k==60)=false:=beq_eq_false_iff_ne.2 (by omega)
 go_enter_defers Tryz.func228,Tryz.ntmps228
 go_wp2_with (go_at_call 83;refine (lock_free Tryz.muLib ⟨b,off,none⟩ _ h0 f0).mono ?_;rintro e w' ⟨rfl,rfl⟩)
 refine leaves_cons (f:=84) (args:=#[.pointer (some ⟨b,off,none⟩)]) (by simp) (by simp[go_sem]) ?_
 refine (unlock_deferred Tryz.muLib ⟨b,off,none⟩ .returning _ ?_ ?_).mono ?_
 ·exact (World.cell?_setCell_other _ ⟨b,off+3,none⟩ ⟨b,off,none⟩ _ (by simp)).trans (World.cell?_setCell_same w ⟨b,off,none⟩ (.int .i32 1) h0)
 ·simp[f0]
 rintro e u' w'' ⟨rfl,rfl,rfl⟩
 refine⟨_,results_tmp rfl _ _ _,rfl,?_⟩
 rw[setCell_comm w (by simp),setCell_back]
 rw[World.cell?_setCell_other _ _ _ _ (by simp)]
 exact h0
theorem admit_no (b off:Nat)(t:Int)(w:World)(h:Cmn w b off t 60) :
 Calls Tryz.prog 228 #[.pointer (some ⟨b,off,none⟩)] w fun e w'=>e=.returned (.bool false)/\w'=w:=by
 have h0:=h.l
 have h2:=h.k
 have f0:=h.f off
 have f2:=h.f (off+3)
 go_enter_defers Tryz.func228,Tryz.ntmps228
 go_wp2_with (go_at_call 83;refine (lock_free Tryz.muLib ⟨b,off,none⟩ _ h0 f0).mono ?_;rintro e w' ⟨rfl,rfl⟩)
 refine leaves_cons (f:=84) (args:=#[.pointer (some ⟨b,off,none⟩)]) (by simp) (by simp[go_sem]) ?_
 refine (unlock_deferred Tryz.muLib ⟨b,off,none⟩ .returning _ ?_ ?_).mono ?_
 ·exact World.cell?_setCell_same w ⟨b,off,none⟩ (.int .i32 1) h0
 ·simp[f0]
 rintro e u' w'' ⟨rfl,rfl,rfl⟩
 exact⟨_,results_tmp rfl _ _ _,rfl,setCell_back h0 _⟩
theorem pass_yes (b off:Nat)(t k s:Int)(w:World)(h:Cmn w b off t k)(ht0:0<=t)(ht:t<=253402300799)(hs0:0<=s)(hs:s<=253402300799-t) :
 Calls Tryz.prog 59 #[.pointer (some ⟨b,off,none⟩),.int .i64 s] w fun e w'=>e=.returned (.int .i64 0)/\w'=w.setCell ⟨b,off+2,none⟩ (.int .i64 (t+s)):=by
 have h0:=h.l
 have h2:=h.t
 have f0:=h.f off
 have f2:=h.f (off+2)
 go_enter_defers Tryz.func59,Tryz.ntmps59
 go_wp2_with (go_at_call 83;refine (lock_free Tryz.muLib ⟨b,off,none⟩ _ h0 f0).mono ?_;rintro e w' ⟨rfl,rfl⟩)
 refine leaves_cons (f:=84) (args:=#[.pointer (some ⟨b,off,none⟩)]) (by simp) (by simp[go_sem]) ?_
 refine (unlock_deferred Tryz.muLib ⟨b,off,none⟩ .returning _ ?_ ?_).mono ?_
 ·exact (World.cell?_setCell_other _ ⟨b,off+2,none⟩ ⟨b,off,none⟩ _ (by simp)).trans (World.cell?_setCell_same w ⟨b,off,none⟩ (.int .i32 1) h0)
 ·simp[f0]
 rintro e u' w'' ⟨rfl,rfl,rfl⟩
 refine⟨_,results_tmp rfl _ _ _,rfl,?_⟩
 rw[setCell_comm w (by simp),setCell_back]
 rw[World.cell?_setCell_other _ _ _ _ (by simp)]
 exact h0
theorem pass_no (b off:Nat)(t k s:Int)(w:World)(h:Cmn w b off t k)(ht0:0<=t)(ht:t<=253402300799)(hs:s<0\/253402300799-t<s) :
 Calls Tryz.prog 59 #[.pointer (some ⟨b,off,none⟩),.int .i64 s] w fun e w'=>e=.returned (.int .i64 1)/\w'=w:=by
 have h0:=h.l
 have h2:=h.t
 have f0:=h.f off
 have f2:=h.f (off+2)
 rcases hs with hs|hs
 all_goals (
 go_enter_defers Tryz.func59,Tryz.ntmps59
 go_wp2_with (go_at_call 83;refine (lock_free Tryz.muLib ⟨b,off,none⟩ _ h0 f0).mono ?_;rintro e w' ⟨rfl,rfl⟩)
 refine leaves_cons (f:=84) (args:=#[.pointer (some ⟨b,off,none⟩)]) (by simp) (by simp[go_sem]) ?_
 refine (unlock_deferred Tryz.muLib ⟨b,off,none⟩ .returning _ ?_ ?_).mono ?_
 ·exact World.cell?_setCell_same w ⟨b,off,none⟩ (.int .i32 1) h0
 ·simp[f0]
 rintro e u' w'' ⟨rfl,rfl,rfl⟩
 exact⟨_,results_tmp rfl _ _ _,rfl,setCell_back h0 _⟩)
end Go.Proofs.YtmehkneofinmiaaGreatDoor
namespace Go.Proofs.YtmehkneofinmiaaGreatDoor
open Go.RowKit
structure Ver where
 num:Nat
 time:Nat
 mark:Bool
 body:List UInt8
structure Ent where
 key:List UInt8
 last:Nat
 vers:List Ver
def verCells (v:Ver):List Value:=[.int .i64 v.num,.int .i64 v.time,.bool v.mark,.string ⟨v.body.toArray⟩]
def verAgg (v:Ver):Value:=.agg #[.int .i64 v.num,.int .i64 v.time,.bool v.mark,.string ⟨v.body.toArray⟩]
def verZero:Value:=.agg #[.int .i64 0,.int .i64 0,.bool false,.string ⟨#[]⟩]
def rowOf (l:List Ver):List Value:=l.flatMap verCells
theorem rowOf_length (l:List Ver):(rowOf l).length=l.length*4:=by
 induction l with
 | nil=>rfl
 | cons a l ih=>simp only[rowOf,List.flatMap_cons,List.length_append] at ih ⊢;rw[ih];simp[verCells];omega
theorem rowOf_get (l:List Ver)(i:Nat)(v:Ver)(h:l[i]?=some v)(j:Nat)(hj:j<4):(rowOf l)[i*4+j]?=(verCells v)[j]?:=by
 induction l generalizing i with
 | nil=>simp at h
 | cons a l ih =>
   simp only[rowOf,List.flatMap_cons]
   cases i with
   | zero =>
     simp at h;subst h
     rw[List.getElem?_append_left (by simp[verCells];omega)]
     simp
   | succ i =>
     rw[List.getElem?_append_right (by simp[verCells];omega)]
     have e:(i+1)*4+j-(verCells a).length=i*4+j:=by simp[verCells];omega
     rw[e]
     exact ih i (by simpa using h)
structure EntAt (w:World)(p:Nat)(E:Ent)(vs:Value):Prop where
 blk:w.heap[p]?=some (.cells #[.string ⟨E.key.toArray⟩,.int .i64 E.last,vs] 230 (0,0))
 row:w.ownsRow 0 174 4 vs E.vers.length (rowOf E.vers)
theorem EntAt.c0 {w:World}{p:Nat}{E:Ent}{vs:Value}(h:EntAt w p E vs):w.cell? ⟨p,0,none⟩=some (.string ⟨E.key.toArray⟩):=by simp[World.cell?,h.blk]
theorem EntAt.c1 {w:World}{p:Nat}{E:Ent}{vs:Value}(h:EntAt w p E vs):w.cell? ⟨p,1,none⟩=some (.int .i64 E.last):=by simp[World.cell?,h.blk]
theorem EntAt.c2 {w:World}{p:Nat}{E:Ent}{vs:Value}(h:EntAt w p E vs):w.cell? ⟨p,2,none⟩=some vs:=by simp[World.cell?,h.blk]
theorem EntAt.fz {w:World}{p:Nat}{E:Ent}{vs:Value}(h:EntAt w p E vs)(j:Nat):w.frozen? ⟨p,j,none⟩=false:=by simp[World.frozen?,h.blk]
theorem EntAt.lt {w:World}{p:Nat}{E:Ent}{vs:Value}(h:EntAt w p E vs):p<w.heap.size:=(Array.getElem?_eq_some_iff.1 h.blk).1
theorem row_cells {w:World}{vs:Value}{l:List Ver}(h:w.ownsRow 0 174 4 vs l.length (rowOf l))(i:Nat)(v:Ver)(hi:l[i]?=some v) :
 ∃ g cap,vs=.slice (some ⟨g,0,none⟩) l.length cap/\l.length<=cap/\cap<=maxLen/\g<w.heap.size/\w.frozen? ⟨g,0,none⟩=false/\(∀ j,w.frozen? ⟨g,j,none⟩=false) /\
  w.cell? ⟨g,i*4,none⟩=some (.int .i64 v.num)/\w.cell? ⟨g,i*4+1,none⟩=some (.int .i64 v.time)/\w.cell? ⟨g,i*4+2,none⟩=some (.bool v.mark)/\w.cell? ⟨g,i*4+3,none⟩=some (.string ⟨v.body.toArray⟩):=by
 have hlt:i<l.length:=(List.getElem?_eq_some_iff.1 hi).1
 rcases h.2 with ⟨_,h0⟩|⟨g,cap,cur,hv,_,hg,hn,hm,hs,htk⟩
 ·omega
 ·refine⟨g,cap,hv,hn,hm,(Array.getElem?_eq_some_iff.1 hg).1,by simp[World.frozen?,hg],fun j=>by simp[World.frozen?,hg],?_⟩
  have key:∀ j,j<4->w.cell? ⟨g,i*4+j,none⟩=(verCells v)[j]?:=by
   intro j hj
   rw[<- rowOf_get l i v hi j hj,<- htk,List.getElem?_take_of_lt (by omega)]
   simp[World.cell?,hg]
  exact⟨key 0 (by omega),key 1 (by omega),key 2 (by omega),key 3 (by omega)⟩
theorem isFull_any (p:Nat)(E:Ent)(vs:Value)(w:World)(h:EntAt w p E vs) :
 Calls Tryz.prog 255 #[.pointer (some ⟨p,0,none⟩)] w fun e w'=>e=.returned (.bool (decide (20<=(E.vers.length:Int))))/\w'=w:=by
 have h2:=h.c2
 rcases h.row.2 with ⟨rfl,h0⟩|⟨g,cap,cur,rfl,_,hg,hn,hm,hs,htk⟩
 ·rw[h0]
  go_enter Tryz.func255,Tryz.ntmps255
  go_wp2
  go_ret
  exact⟨rfl,rfl⟩
 ·clear htk hs
  go_enter Tryz.func255,Tryz.ntmps255
  go_wp2
  go_ret
  exact⟨rfl,rfl⟩
theorem isKnown_any (p:Nat)(E:Ent)(vs:Value)(w:World)(h:EntAt w p E vs) :
 Calls Tryz.prog 205 #[.pointer (some ⟨p,0,none⟩)] w fun e w'=>e=.returned (.bool (decide (0<E.last)))/\w'=w:=by
 have h2:=h.c1
 go_enter Tryz.func205,Tryz.ntmps205
 go_wp2
 go_ret
 exact⟨rfl,rfl⟩
theorem results_row_tmp {P:Program}{fn:Func}{p u:Tmp}{ty:TypeId}(h:fn.results=#[.cell p ty,.tmp u])(tmps:Array Value)(w:World)(g:Nat)(t:TypeId)(cs:Array Value)(fr:Nat×Nat)(d:TypeDesc)
 (hp:tmps.getD p undef=.pointer (some ⟨g,0,none⟩))(hg:w.heap[g]?=some (.cells cs t fr))
 (hu:P.underlying ty=some d)(hd:(match d with|.struct _|.array _ _=>true|_=>false)=true)(hi:(P.info? ty).map (·.size)=some cs.size) :
 (results fn tmps).run P w=.ok (.tuple #[.agg cs,tmps.getD u undef]) w:=by
 have hp':tmps[p]?.getD undef=.pointer (some ⟨g,0,none⟩):=by simpa using hp
 simp[results,h,hp',asAddr,run_loadVar_row w g t ty cs fr d hg hu hd hi]
theorem hi154:(Tryz.prog.info? 174).map (·.size)=some 4:=by kernel_rfl
theorem current_none (p:Nat)(E:Ent)(vs:Value)(w:World)(h:EntAt w p E vs)(h0:E.vers=[]) :
 Calls Tryz.prog 135 #[.pointer (some ⟨p,0,none⟩)] w fun e w'=>e=.returned (.tuple #[verZero,.bool false])/\Below w.heap.size w w':=by
 have h2:=h.c2
 have hlt:=h.lt
 have hr:=h.row
 rw[h0] at hr
 have hlen:∃ a c,vs=.slice a 0 c:=by
  rcases hr.2 with ⟨rfl,_⟩|⟨g,cap,cur,rfl,_⟩
  ·exact⟨_,_,rfl⟩
  ·exact⟨_,_,rfl⟩
 obtain⟨a,c,rfl⟩:=hlen
 clear hr h
 go_enter Tryz.func135,Tryz.ntmps135
 go_wp2
 exact bodyPost_ret (v:=.tuple #[verZero,.bool false]) (results_row_tmp Tryz.results135 _ _ w.heap.size _ _ _ _ rfl (heap_alloc_last _ _) Tryz.underlying174 rfl hi154) rfl ⟨rfl,(Below.refl _ _).alloc (Nat.le_refl _) _⟩
theorem heap_two (w:World)(a b:Obj):((w.alloc a).alloc b).drew.drew.heap[w.heap.size]?=some a :=
 (heap_alloc_old (w.alloc a) b (by simp)).trans (heap_alloc_new w a)
theorem below_two (w:World)(a b:Obj):Below w.heap.size w ((w.alloc a).alloc b).drew.drew:=by
 have h:=((Below.refl w.heap.size w).alloc (Nat.le_refl _) a).alloc (by simp) b
 exact⟨h.os,h.tape,h.output,h.size,h.block⟩
theorem current_some (p:Nat)(E:Ent)(vs:Value)(w:World)(h:EntAt w p E vs)(v:Ver)(i:Nat)(hi:E.vers.length=i+1)(hv:E.vers[i]?=some v)(hb:i<1000) :
 Calls Tryz.prog 135 #[.pointer (some ⟨p,0,none⟩)] w fun e w'=>e=.returned (.tuple #[verAgg v,.bool (!v.mark)])/\Below w.heap.size w w':=by
 have h2:=h.c2
 have hlt:=h.lt
 obtain⟨g,cap,rfl,hn,hm,hg,_,hf,c0,c1,c2,c3⟩:=row_cells h.row i v hv
 rw[hi] at h2 hn
 have hsub:((i+1:Nat):Int)-1=(i:Int):=by omega
 clear h hv
 go_enter Tryz.func135,Tryz.ntmps135
 go_wp2
 go_region
 go_wp2
 go_region
 go_wp2
 exact bodyPost_ret (v:=.tuple #[verAgg v,.bool (!v.mark)]) (results_row_tmp Tryz.results135 _ _ w.heap.size _ _ _ _ rfl (heap_two _ _ _) Tryz.underlying174 rfl hi154) rfl ⟨rfl,below_two _ _ _⟩
theorem place1_any (b:Nat)(n:Int)(v:Ver)(w:World)(hb:w.cell? ⟨b,0,none⟩=some (.int .i64 n))(hlt:b<w.heap.size) :
 Calls Tryz.prog 253 #[verAgg v,.pointer (some ⟨b,0,none⟩)] w fun e w'=>e=.returned (.bool ((v.num:Int)==n))/\Below w.heap.size w w':=by
 unfold verAgg
 go_enter Tryz.func253,Tryz.ntmps253
 go_wp2
 go_ret
 exact⟨rfl,(Below.refl _ _).alloc (Nat.le_refl _) _⟩
def vidx (l:List Ver)(n:Int):Option Nat:=l.findIdx? (fun v=>(v.num:Int)==n)
def vidxI (l:List Ver)(n:Int):Int:=match vidx l n with|some i=>i|none => -1
theorem vidxI_some {l:List Ver}{n:Int}{i:Nat}(h:vidx l n=some i):vidxI l n=i:=by simp[vidxI,h]
theorem vidxI_none {l:List Ver}{n:Int}(h:vidx l n=none):vidxI l n = -1:=by simp[vidxI,h]
def NoNum (l:List Ver)(n:Int)(i:Nat):Prop:=∀ j v,j<i->l[j]?=some v->(v.num:Int)≠n
theorem NoNum.zero (l:List Ver)(n:Int):NoNum l n 0:=fun _ _ h=>by omega
theorem NoNum.succ {l:List Ver}{n:Int}{i:Nat}{v:Ver}(h:NoNum l n i)(hv:l[i]?=some v)(hn:((v.num:Int)==n)=false):NoNum l n (i+1):=by
 intro j u hj hu
 by_cases e:j=i
 ·subst e;rw[hv] at hu;cases hu;exact beq_eq_false_iff_ne.1 hn
 ·exact h j u (by omega) hu
theorem vidx_hit {l:List Ver}{n:Int}{i:Nat}{v:Ver}(h:NoNum l n i)(hv:l[i]?=some v)(hn:((v.num:Int)==n)=true):vidx l n=some i:=by
 have hlt:i<l.length:=(List.getElem?_eq_some_iff.1 hv).1
 have hg:l[i]=v:=(List.getElem?_eq_some_iff.1 hv).2
 unfold vidx
 rw[List.findIdx?_eq_some_iff_getElem]
 refine⟨hlt,by rw[hg];exact hn,?_⟩
 intro j hj
 have:=h j (l[j]'(by omega)) hj (List.getElem?_eq_getElem (by omega))
 simpa using this
theorem vidx_end {l:List Ver}{n:Int}(h:NoNum l n l.length):vidx l n=none:=by
 unfold vidx
 rw[List.findIdx?_eq_none_iff]
 intro v hv
 obtain⟨j,hj,e⟩:=List.getElem_of_mem hv
 have:=h j v hj (by rw[List.getElem?_eq_getElem hj,e])
 simpa using this
theorem row_below {w x:World}{base:Nat}{e:TypeId}{k:Nat}{v:Value}{n:Nat}{xs:List Value}(h:w.ownsRow base e k v n xs)(hb:Below w.heap.size w x):x.ownsRow base e k v n xs:=by
 refine⟨h.1,?_⟩
 rcases h.2 with h0|⟨g,cap,cur,hv,h1,hg,h2⟩
 ·exact Or.inl h0
 ·exact Or.inr ⟨g,cap,cur,hv,h1,(hb.block _ (Array.getElem?_eq_some_iff.1 hg).1).trans hg,h2⟩
theorem EntAt.below {w x:World}{p:Nat}{E:Ent}{vs:Value}(h:EntAt w p E vs)(hb:Below w.heap.size w x):EntAt x p E vs:=⟨(hb.block _ h.lt).trans h.blk,row_below h.row hb⟩
theorem indexFunc_any (vs:Value)(l:List Ver)(b:Nat)(n:Int)(w:World)(h:w.ownsRow 0 174 4 vs l.length (rowOf l))(hb:w.cell? ⟨b,0,none⟩=some (.int .i64 n))(hlt:b<w.heap.size)(hl:l.length<1000000) :
 Calls Tryz.prog 252 #[vs,.func (.func 253) #[] #[.pointer (some ⟨b,0,none⟩)]] w fun e w'=>e=.returned (.int .i64 (vidxI l n))/\Below w.heap.size w w':=by
 have hlen:∃ a c,vs=.slice a l.length c:=by
  rcases h.2 with ⟨rfl,h0⟩|⟨g,cap,cur,rfl,_⟩
  ·rw[h0];exact⟨_,_,rfl⟩
  ·exact⟨_,_,rfl⟩
 have HR:Hid (w.ownsRow 0 174 4 vs l.length (rowOf l)):=h
 clear h
 obtain⟨a,c,hvs⟩:=hlen
 rw[hvs]
 go_enter Tryz.func252,Tryz.ntmps252
 go_wp2
 go_loopw [8] (fun x wx=>∃ i:Nat,i<=l.length/\x=.int .i64 i/\Hid (Below w.heap.size w wx)/\Hid (NoNum l n i)) (fun x _=>l.length-(intOf x).toNat)
 case atStart=>exact⟨0,by omega,rfl,Below.refl _ _,NoNum.zero _ _⟩
 case round =>
  obtain⟨i,hi,rfl,HB,HN⟩:=hrel
  by_cases hlt2:i<l.length
  ·obtain⟨v,hv⟩:∃ v,l[i]?=some v:=⟨l[i],List.getElem?_eq_getElem hlt2⟩
   obtain⟨g,cap,e1,hn,hm,hg,_,hf,c0,c1,c2,c3⟩:=row_cells (row_below HR.out HB.out) i v hv
   rw[hvs] at e1
   cases e1
   have hb1:=(HB.out.cell (p:=⟨b,0,none⟩) hlt).trans hb
   have hlt1:b<wr.heap.size:=Nat.lt_of_lt_of_le hlt HB.out.size
   have HV:Hid (l[i]?=some v):=hv
   have hltI:(i:Int)<(l.length:Int):=by omega
   clear hv
   go_wp2_with fail
   refine (place1_any b n v _ hb1 hlt1).mono ?_
   rintro e w2 ⟨rfl,hb2⟩
   have HB2:Hid (Below w.heap.size w w2):=HB.out.trans (hb2.mono HB.out.size)
   clear hb2 HB
   cases hq:((v.num:Int)==n) with
   | true =>
     have HQ:Hid (((v.num:Int)==n)=true):=hq
     clear hq
     go_wp2
     go_ret
     exact⟨by rw[vidxI_some (vidx_hit HN.out HV.out HQ.out)];rfl,HB2.out⟩
   | false =>
     have HQ:Hid (((v.num:Int)==n)=false):=hq
     clear hq
     go_wp2
     refine⟨⟨i+1,by omega,rfl,HB2,HN.out.succ HV.out HQ.out⟩,?_⟩
     simp[intOf]
     omega
  ·obtain rfl:i=l.length:=by omega
   clear hlt2
   go_wp2
   go_ret
   exact⟨by rw[vidxI_none (vidx_end HN.out)];rfl,HB.out⟩
theorem place_any (p:Nat)(E:Ent)(vs:Value)(n:Int)(w:World)(h:EntAt w p E vs)(hl:E.vers.length<1000000) :
 Calls Tryz.prog 200 #[.pointer (some ⟨p,0,none⟩),.int .i64 n] w fun e w'=>e=.returned (.int .i64 (vidxI E.vers n))/\Below w.heap.size w w':=by
 have h2:=h.c2
 have hlt:=h.lt
 have hal:Below w.heap.size w (w.alloc (.cells #[.int .i64 n] 3)):=(Below.refl _ _).alloc (Nat.le_refl _) _
 have hr:=row_below h.row hal
 clear h
 go_enter Tryz.func200,Tryz.ntmps200
 go_wp2_with fail
 refine (indexFunc_any vs E.vers w.heap.size n _ hr (by simp) (by simp) hl).mono ?_
 rintro e w2 ⟨rfl,hb2⟩
 go_wp2
 go_ret
 exact⟨rfl,hal.trans (hb2.mono (by simp))⟩
theorem numbered_none (p:Nat)(E:Ent)(vs:Value)(n:Int)(w:World)(h:EntAt w p E vs)(hl:E.vers.length<1000000)(hn:vidx E.vers n=none) :
 Calls Tryz.prog 140 #[.pointer (some ⟨p,0,none⟩),.int .i64 n] w fun e w'=>e=.returned (.tuple #[verZero,.bool false])/\Below w.heap.size w w':=by
 have hal:Below w.heap.size w (w.alloc (.cells #[.int .i64 0,.int .i64 0,.bool false,.string ⟨#[]⟩] 174)):=(Below.refl _ _).alloc (Nat.le_refl _) _
 have h1:=h.below hal
 clear h
 go_enter Tryz.func140,Tryz.ntmps140
 go_wp2_with fail
 refine (place_any p E vs n _ h1 hl).mono ?_
 rintro e w2 ⟨rfl,hb2⟩
 have hB:=hal.trans (hb2.mono (by simp))
 have hz:w2.heap[w.heap.size]?=some (.cells #[.int .i64 0,.int .i64 0,.bool false,.string ⟨#[]⟩] 174 (0,0)):=(hb2.block _ (by simp)).trans (heap_alloc_new _ _)
 have hlt:=(Array.getElem?_eq_some_iff.1 hz).1
 rw[vidxI_none hn]
 clear h1 hal hb2
 go_wp2_with (refine wpList_store_row rfl 174 (.tmp 4) (.tmp 13) rfl w.heap.size #[.int .i64 0,.int .i64 0,.bool false,.string ⟨#[]⟩] rfl rfl 174 #[.int .i64 0,.int .i64 0,.bool false,.string ⟨#[]⟩] hz hi154 rfl (by simp[Value.oneCell']) ?_)
 exact bodyPost_ret (v:=.tuple #[verZero,.bool false]) (results_row_tmp Tryz.results140 _ _ w.heap.size _ _ _ _ rfl (setRow_heap _ _ _ _ _ _ hz) Tryz.underlying174 rfl hi154) rfl ⟨rfl,below_setRow hB (Nat.le_refl _) _⟩
theorem heap_set {w:World}{g i:Nat}{v:Value}{cs:Array Value}{t:TypeId}{fr:Nat×Nat}(h:w.heap[g]?=some (.cells cs t fr)):(w.setCell ⟨g,i,none⟩ v).heap[g]?=some (.cells (cs.setIfInBounds i v) t fr):=by
 simp[World.setCell,Array.getElem?_modify,h]
theorem vidx_get {l:List Ver}{n:Int}{i:Nat}(h:vidx l n=some i):∃ v,l[i]?=some v/\(v.num:Int)=n:=by
 unfold vidx at h
 rw[List.findIdx?_eq_some_iff_getElem] at h
 obtain⟨hlt,hp,_⟩:=h
 exact⟨l[i],List.getElem?_eq_getElem hlt,by simpa using hp⟩
theorem numbered_some (p:Nat)(E:Ent)(vs:Value)(n:Int)(w:World)(h:EntAt w p E vs)(hl:E.vers.length<1000000)(i:Nat)(v:Ver)(hn:vidx E.vers n=some i)(hv:E.vers[i]?=some v) :
 Calls Tryz.prog 140 #[.pointer (some ⟨p,0,none⟩),.int .i64 n] w fun e w'=>e=.returned (.tuple #[verAgg v,.bool (!v.mark)])/\Below w.heap.size w w':=by
 have hal:Below w.heap.size w (w.alloc (.cells #[.int .i64 0,.int .i64 0,.bool false,.string ⟨#[]⟩] 174)):=(Below.refl _ _).alloc (Nat.le_refl _) _
 have h1:=h.below hal
 clear h
 go_enter Tryz.func140,Tryz.ntmps140
 go_wp2_with fail
 refine (place_any p E vs n _ h1 hl).mono ?_
 rintro e w2 ⟨rfl,hb2⟩
 have hB:=hal.trans (hb2.mono (by simp))
 have hz:w2.heap[w.heap.size]?=some (.cells #[.int .i64 0,.int .i64 0,.bool false,.string ⟨#[]⟩] 174 (0,0)):=(hb2.block _ (by simp)).trans (heap_alloc_new _ _)
 have hlt:=(Array.getElem?_eq_some_iff.1 hz).1
 have h2:=h1.below hb2
 rw[vidxI_some hn]
 have hltl:i<E.vers.length:=(List.getElem?_eq_some_iff.1 hv).1
 obtain⟨g,cap,rfl,hn2,hm,hg,_,hf,c0,c1,c2,c3⟩:=row_cells h2.row i v hv
 have e2:=h2.c2
 have hltp:=h2.lt
 have HZ:Hid _:=hz
 have HBB:Hid _:=hB
 have k0:w2.cell? ⟨w.heap.size,0,none⟩=some (.int .i64 0):=by simp[World.cell?,hz]
 have k1:w2.cell? ⟨w.heap.size,1,none⟩=some (.int .i64 0):=by simp[World.cell?,hz]
 have k2:w2.cell? ⟨w.heap.size,2,none⟩=some (.bool false):=by simp[World.cell?,hz]
 have k3:w2.cell? ⟨w.heap.size,3,none⟩=some (.string ⟨#[]⟩):=by simp[World.cell?,hz]
 have kf:∀ j,w2.frozen? ⟨w.heap.size,j,none⟩=false:=fun j=>by simp[World.frozen?,hz]
 have kf0:=kf 0
 have kf1:=kf 1
 have kf2:=kf 2
 have kf3:=kf 3
 clear h1 hal hb2 h2 hv hn hz hB kf
 go_wp2
 go_region
 go_wp2
 have hs:=heap_set (i:=3) (v:=.string ⟨v.body.toArray⟩) (heap_set (i:=2) (v:=.bool v.mark) (heap_set (i:=1) (v:=.int .i64 v.time) (heap_set (i:=0) (v:=.int .i64 v.num) HZ.out)))
 have hb4:=((((HBB.out.setCell (p:=⟨w.heap.size,0,none⟩) (Nat.le_refl _) (.int .i64 v.num)).setCell (p:=⟨w.heap.size,1,none⟩) (Nat.le_refl _) (.int .i64 v.time)).setCell (p:=⟨w.heap.size,2,none⟩) (Nat.le_refl _) (.bool v.mark)).setCell (p:=⟨w.heap.size,3,none⟩) (Nat.le_refl _) (.string ⟨v.body.toArray⟩))
 exact bodyPost_ret (v:=.tuple #[verAgg v,.bool (!v.mark)]) (results_row_tmp Tryz.results140 _ _ w.heap.size _ _ _ _ rfl ((heap_alloc_old _ _ (by simpa using hlt)).trans hs) Tryz.underlying174 rfl hi154) rfl ⟨rfl,(hb4.alloc hb4.size _).drew⟩
end Go.Proofs.YtmehkneofinmiaaGreatDoor
namespace Go.Proofs.YtmehkneofinmiaaGreatDoor
def appS (ts:Array TypeId)(ty:TypeId)(args:Array Value):Sem Value:=Builtin.append_ ts ty args
theorem appS_is (ts:Array TypeId)(ty:TypeId)(args:Array Value):Builtin.append_ ts ty args=appS ts ty args:=rfl
noncomputable def appR (P:Program)(t ty:TypeId)(w:World)(s x:Value):Value×World :=
 match (Builtin.append_ #[t,t] ty #[s,x]).run P w with
 | .ok v w'=>(v,w')
 | _=>(undef,w)
def AppOk (P:Program)(t ty:TypeId)(w:World)(s x:Value):Prop:=∃ v w',(Builtin.append_ #[t,t] ty #[s,x]).run P w=.ok v w'
theorem app_run {P:Program}{t ty:TypeId}{w:World}{s x:Value}(h:AppOk P t ty w s x) :
 (appS #[t,t] ty #[s,x]).run P w=.ok (appR P t ty w s x).1 (appR P t ty w s x).2:=by
 obtain⟨v,w',h⟩:=h
 simp only[appR,appS,h]
theorem app_is {P:Program}{t ty:TypeId}{w w':World}{s x v:Value}(h:(Builtin.append_ #[t,t] ty #[s,x]).run P w=.ok v w') :
 AppOk P t ty w s x/\(appR P t ty w s x).1=v/\(appR P t ty w s x).2=w':=⟨⟨v,w',h⟩,by simp only[appR,h],by simp only[appR,h]⟩
theorem tkH {P:Program}{ops:Array Oper}{Q:Exit->Act->World->Prop}{md:Region.Mode}{S:World->Prop}{oi:Oper}{v:Value}{fuel:Nat}{listed:Array Bool}{a:Act}{w:World}(i:Nat)(hi:ops[i]?=some oi)
 (hk:(Region.noSelect ops&&(Region.free md ops listed i&&(Region.ready md ops listed).contains i))=true)
 (hQ:∀ c a w,Q (.panic c) (a.put oi.dst v) w->Q (.panic c) a w)(hy:YieldsIf P ops S oi v a)(hS:S w)
 (h:wpAnyH P md ops Q S fuel (listed.setIfInBounds i true) (a.put oi.dst v) w):wpAnyH P md ops Q S (fuel+1) listed a w:=by
 rw[Bool.and_eq_true,Bool.and_eq_true] at hk
 exact wpAnyH_take hi hk.1 hk.2.1 hk.2.2 hQ hy hS h
end Go.Proofs.YtmehkneofinmiaaGreatDoor

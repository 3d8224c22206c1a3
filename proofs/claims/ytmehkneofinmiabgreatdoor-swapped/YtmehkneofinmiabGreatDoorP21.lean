/-part 21-/
import Derived.Test.YtmehkneofinmiabGreatDoorProg
import Derived.Test.YtmehkneofinmiabGreatDoorP16
import Derived.Conc.FxGenLone
open Go.Proofs.Tryz
open Go renaming undef->ID,Value->I3,World->J1,Frame->Ln,execOp->LO,Program->L3,results_none->L5,stepG->Mp,resolve->Mu,TypeId->MA,Deferred->MD,yielded->MT,Operand->M1,Oper->Nd,unwind->Nm,callFunc->Nx,invoke->NO,doReturn->N1,FuncId->N2,Ending->N3
open List renaming size_toArray->IF,length_cons->IH,length_nil->IR,range->K0
open Option renaming some->Jx,none->Ly
open List.range renaming loop->J0
open Go.Frame renaming enter->Kf,finish_at->MY
open Nat renaming zero_add->Ks,reduceAdd->Kx,lt_of_lt_of_le->L1,le_trans->NX
open Array renaming getElem?_eq_some_iff->K1,getElem?_eq_getElem->K2,getElem?_push_lt->Lq,getElem?_modify->Lw,getElem?_eq_none->Lz,getD_eq_getD_getElem?->LN,ext_getElem?->Mn
open Go.World renaming setCell->Lo
open Bool renaming false->LI,true->L4,false_eq_true->Mb
open Go.Deferred renaming ofValue->LL
open Go.Instr renaming makeFunc->LR,indexAt->Mz,loadAt->N0
open Go.Region renaming wanted->LS
open Go.GStep renaming after->L2
set_option maxRecDepth 10000
namespace Go.Proofs
abbrev Tryz.link:Go.Conc.Lib.WgLink:={ add:=162,done:=165,wait:=122,relMerge:=58,disable:=53,enable:=56,inBubble:=171,associate:=207,fatal:=87,uOr:=208,uAdd:=209,raceRead:=52,uLoad:=166,uStore:=210,disassociate:=169,semrelease:=88,acquire:=57,isAssociated:=167,uCas:=168,raceWrite:=170,semacquire:=172,orU64:=244,addU64:=245,loadU64:=211,storeU64:=246,casU64:=212,tWgP:=254,tUP:=127,tAssoc:=277,tWg:=205,tAU:=203,tU64:=194,tUint:=251,tU32:=84,tPU32:=131,tPAU:=281,tPU64:=283,tNoCopy:=83,tANoCopy:=89,tAlign64:=201 }
theorem Tryz.QM:Go.Conc.Lib.WgLib prog Tryz.link :=
 ⟨func162,func165,func122,func58,func53,func56,func171,func207,func87,func208,func209,func52,func166,func210,func169,func88,func57,func167,func168,func170,func172,func244,func245,func211,func246,func212,underlying254,runUnderlying254,sizeOf254,isAgg254,zeroValue254,underlying127,runUnderlying127,sizeOf127,isAgg127,zeroValue127,underlying277,runUnderlying277,sizeOf277,isAgg277,zeroValue277,underlying205,runUnderlying205,sizeOf205,isAgg205,zeroValue205,underlying203,runUnderlying203,sizeOf203,isAgg203,zeroValue203,underlying194,runUnderlying194,sizeOf194,isAgg194,zeroValue194,underlying251,runUnderlying251,sizeOf251,isAgg251,zeroValue251,underlying84,runUnderlying84,sizeOf84,isAgg84,zeroValue84,underlying131,runUnderlying131,sizeOf131,isAgg131,zeroValue131,underlying281,runUnderlying281,sizeOf281,isAgg281,zeroValue281,underlying283,runUnderlying283,sizeOf283,isAgg283,zeroValue283,underlying0,runUnderlying0,sizeOf0,isAgg0,zeroValue0,underlying3,runUnderlying3,sizeOf3,isAgg3,zeroValue3,underlying4,runUnderlying4,sizeOf4,isAgg4,zeroValue4,underlying9,runUnderlying9,sizeOf9,isAgg9,zeroValue9,underlying20,runUnderlying20,sizeOf20,isAgg20,zeroValue20,underlying21,runUnderlying21,sizeOf21,isAgg21,zeroValue21,(by kernel_rfl),(by kernel_rfl)⟩
end Go.Proofs
namespace Go.Proofs.Rn
open Go Go.Conc Go.ConcX Go.RowKit
variable {f:N2}{fn:Func}{X args cap x:Array I3}{FR b:Ln}{a:Act}{k:List Item}{ops:Array Nd}{rest:List Nat}{o:Nd}{ats:Array MA}{t:MA}{v3 v8:I3}{W₁ w2:J1}{B:Nat}{s IC:List Ln}{A:Addr}
abbrev pt (b:Nat):I3:=.pointer (Jx ⟨b,0,Ly⟩)
def d163 (Bw Bf:Nat):MD:={ target:=.fn (.func 163) #[pt Bw,pt Bf],args:=#[] }
def d164 (Bw:Nat):MD:={ target:=.fn (.func 164) #[pt Bw],args:=#[] }
def bot (P:L3):Ln:={ (default:Ln) with fn:=P.funcs.size,defers:=[],mode:=.panicking [goexitEntry] }
structure Wf (P:L3):Prop where
 f119:P.funcs[119]?=Jx Tryz.f119
 f120:P.funcs[120]?=Jx Tryz.f120
 f163:P.funcs[163]?=Jx Tryz.f163
 f164:P.funcs[164]?=Jx Tryz.f164
 f165:P.funcs[165]?=Jx Tryz.f165
 Rb : ∃fn c, P.funcs[121]? = Jx fn /\ fn.body = Jx c /\ (fn.name == "runtime.NumGoroutine") = LI
 Qw : ∃fn c, P.funcs[162]? = Jx fn /\ fn.body = Jx c /\ (fn.name == "runtime.NumGoroutine") = LI
 u20:∃l,P.underlying 20=Jx (.interface l)
 a1:∀w,(isAgg 1).run P w=.ok LI w
 a25:∀w,(isAgg 25).run P w=.ok LI w
 a208:∀w,(isAgg 208).run P w=.ok LI w
 Rh:∀w,(isAgg 254).run P w=.ok LI w
theorem wf:Wf prog:=⟨func119,func120,func163,func164,func165,⟨_,_,func121,rfl,by kernel_rfl⟩,⟨_,_,func162,rfl,by kernel_rfl⟩,⟨_,underlying20⟩,isAgg1,isAgg25,isAgg208,isAgg254⟩
theorem n120 : (Tryz.f120.name == "runtime.NumGoroutine") = LI := by kernel_rfl
theorem n163 : (Tryz.f163.name == "runtime.NumGoroutine") = LI := by kernel_rfl
theorem n164 : (Tryz.f164.name == "runtime.NumGoroutine") = LI := by kernel_rfl
theorem n165 : (Tryz.f165.name == "runtime.NumGoroutine") = LI := by kernel_rfl
section
variable {P:L3} {Fin:aD->Nat->Goroutine->J1->Prop} {S:aD} {W:J1} {Wg Bw Bf Bs Bh:Nat} {sv sh:I3}
theorem od {m : Bool} {fr : Ln} {cs : List Ln}   {c : Code}  {ds : List MD} (hd : fr.defers = { target := .fn (.func f) cap, args := args }::ds) (hm : fr.mode ≠ .run) (hf : P.funcs[f]? = Jx fn) (hn : (fn.name == "runtime.NumGoroutine") = LI) (hb : fn.body = Jx c) (w : J1) :
 Mp P m (G fr cs) w=.go (G (Kf P f (args++cap) .deferred) ({ fr with defers:=ds }::cs)) w #[]:=by
 have h1 : ¬ fn.name = "runtime.NumGoroutine" := by simpa using hn
 cases hmode:fr.mode with
 | run=>exact absurd hmode hm
 | returning=>simp[G,Mp,hmode,Nm,callDeferred,hd,NO,Nx,hf,h1,hb,L2,seen_none]
 | panicking ch=>simp[G,Mp,hmode,Nm,callDeferred,hd,NO,Nx,hf,h1,hb,L2,seen_none]
theorem yO (h:Wf P)(W₁:J1):Mp P LI (born P (d163 Bw Bf)) W₁=.go (G (Kf P 163 #[pt Bw,pt Bf] .deferred) [bot P]) W₁ #[] :=
 od (P:=P) (fr:={ (default:Ln) with fn:=P.funcs.size,defers:=[d163 Bw Bf],mode:=.panicking [goexitEntry] }) (cs:=[]) rfl (by simp) h.f163 n163 rfl W₁
theorem rH {m:Bool}{cs:List Ln}{w:J1}{i:Nat}{d:MD}(ho:ops[i]?=Jx o)(hw:LS o (MT ops a.tmps)=L4)(hk:b.kind≠.early)
 (hr:(LO a.eval o).run P w=.ok (.defer d) w)(he:(LO a.eval o).events P w #[]=#[]) :
 Mp P m (G (b.at a (.inRegion ops (i::rest)::k)) cs) w=.go (G (b.at (Act.put ⟨a.tmps,d::a.defers⟩ o.dst ID) (.inRegion ops rest::k)) cs) w #[]:=by
 have A0:(b.at ⟨a.tmps,d::a.defers⟩ (.inRegion ops (i::rest)::k)).finish ID=b.at (Act.put ⟨a.tmps,d::a.defers⟩ o.dst ID) (.inRegion ops rest::k):=by rw[MY,ho];rfl
 have A1:(b.kind==CallKind.early)=LI:=by simpa using hk
 rw[stepG_oper ho hw,<-A0];simp[stepG.apply,hr,he,G,Frame.at,A1,L2,seen_none]
theorem bP {x:M1}{xs:Array M1}(hop:o.op=.call { callee:=.value x,args:=xs,argTypes:=ats })(hx:a.eval x=.func (.func f) #[] cap)
 (hb : ∃fn c, P.funcs[f]? = Jx fn /\ fn.body = Jx c /\ (fn.name == "runtime.NumGoroutine") = LI) (w : J1) : (LO a.eval o).run P w = .ok (.enter f (xs.map a.eval ++ cap)) w /\ (LO a.eval o).events P w #[] = #[] := by
 obtain⟨fn,c,h1,h2,h3⟩:=hb;have h4 : ¬ fn.name = "runtime.NumGoroutine" := by simpa using h3
 unfold LO;simp only[hop];constructor
 ·simp[Mu,LL,hx,NO,Nx,h1,h2,h4]
 ·simp[Mu,LL,hx,NO,Nx,h1,h2,h4]
noncomputable def Hw:Array Nd:=match Tryz.f120.body with|some (.region _ o _)=>o|_=>#[]
noncomputable def Ho:Array Nd:=match Tryz.f163.body with|some (.seq _ (.region _ o _))=>o|_=>#[]
noncomputable def Il:Array Nd:=match Tryz.f164.body with|some (.seq _ (.region _ o _))=>o|_=>#[]
noncomputable def GU:Array Nd:=match Tryz.f165.body with|some (.region _ o _)=>o|_=>#[]
noncomputable def TN (P:L3)(Bw Bf Bs Bh:Nat)(sv sh:I3):List Ln :=
 [(base 120).at ⟨#[pt Bs,pt Bh,sv,sh,ID],[]⟩ (.inRegion Hw (2::[])::[]),(baseD 163).at ⟨#[pt Bw,pt Bf,.func (.func 164) #[] #[pt Bw],.func (.func 120) #[] #[pt Bs,pt Bh],ID],[d164 Bw]⟩ (.inRegion Ho (1::[])::[]),bot P]
theorem A7 (h:Wf P)(hS:∀b,S b->b<W.heap.size)(o1:S Bf)(o2:S Bs)(o3:S Bh)(c1:W.heap[Bf]?=Jx (.cells #[.func (.func 120) #[] #[pt Bs,pt Bh]] 1))(c2:W.heap[Bs]?=Jx (.cells #[sv] 25))(c3:W.heap[Bh]?=Jx (.cells #[sh] 208))
 (hq:Wk P LI Fin S 0 (G (Kf P 121 #[sv,sh] .normal) (TN P Bw Bf Bs Bh sv sh)) W):Wk P LI Fin S 0 (born P (d163 Bw Bf)) W:=by
 refine .ctl hS rfl (λW₁=>(yO h _)) ?_;rw[enter_atD _ h.f163 rfl];simp only[Tryz.f163];refine .ctl hS rfl (λW₁=>stepG_seq) ?_;refine .ctl hS rfl (λW₁=>stepG_region) ?_;simp only[IF,IH,IR,Kx,Ks,K0,J0];refine .pure (.func (.func 164) #[] #[pt Bw]) hS rfl rfl (by simp[baseD]) (λw=>by simp[go_sem,LR]) (λw=>by simp[go_sem,LR]) ?_
 walk_nrm
 refine .ctl hS rfl (λW₁=>rH (d:=d164 Bw) rfl rfl (by simp[baseD]) (by simp[go_sem,Mu,LL,d164]) (by simp[go_sem,Mu,LL])) ?_
 walk_nrm
 refine .ctl hS rfl (λW₁=>stepG_region_end) ?_;refine .ctl hS rfl (λW₁=>stepG_region) ?_;simp only[IF,IH,IR,Kx,Ks,K0,J0];refine .Kb hS rfl rfl (by simp[baseD]) rfl rfl o1 h.a1 c1 ?_
 walk_nrm
 refine .enter hS rfl rfl (by simp[baseD]) (λw=>(bP rfl rfl ⟨_,_,h.f120,rfl,n120⟩ w).1) (λw=>(bP rfl rfl ⟨_,_,h.f120,rfl,n120⟩ w).2) ?_
 walk_nrm
 rw[enter_at _ h.f120 rfl];simp only[Tryz.f120];refine .ctl hS rfl (λW₁=>stepG_region) ?_;simp only[IF,IH,IR,Kx,Ks,K0,J0];refine .Kb hS rfl rfl (by simp[base]) rfl rfl o2 h.a25 c2 ?_
 walk_nrm
 refine .Kb hS rfl rfl (by simp[base]) rfl rfl o3 h.a208 c3 ?_
 walk_nrm
 refine .enter hS rfl rfl (by simp[base]) (λw=>(bP rfl rfl h.Rb w).1) (λw=>(bP rfl rfl h.Rb w).2) ?_
 walk_nrm
 exact hq
theorem pg {m:Bool}{c:Ln}{cs:List Ln}{w:J1}{i:Nat}(ho:ops[i]?=Jx o)(hw:LS o (MT ops a.tmps)=L4)(hk:b.kind=.deferred)(hc:c.mode=.returning)
 (hop:o.op=.call { callee:=.builtin .recover,args:=#[],argTypes:=ats }) :
 Mp P m (G (b.at a (.inRegion ops (i::rest)::k)) (c::cs)) w=.go (G (b.at (a.put o.dst .nilIface) (.inRegion ops rest::k)) (c::cs)) w #[]:=by
 have A0:(b.at a (.inRegion ops (i::rest)::k)).finish .nilIface=b.at (a.put o.dst .nilIface) (.inRegion ops rest::k):=by rw[MY,ho];rfl
 rw[stepG_oper ho hw,<-A0];unfold LO;simp[hop,Mu,NO,builtin,stepG.apply,tryRecover,hc,hk,Frame.at,G,L2,seen_none]
theorem zU {m:Bool}{fr c:Ln}{cs:List Ln}(hfn:P.funcs[fr.fn]?=Jx fn)(hr:fn.results=#[])(h1:fr.mode=.returning)(h2:fr.defers=[])(hk:fr.kind=.normal)(w:J1):Mp P m (Gr fr (c::cs)) w=.go (Gr (c.finish (.tuple #[])) cs) w #[]:=by
 obtain⟨a1,a2,a3,a4,a5,a6,a7⟩:=fr;simp only at hfn h1 h2 hk;subst h1 h2 hk;simp[Gr,Mp,Nm,N1,hfn,L5 hr,events_results_none hr,L2,seen_none]
noncomputable def EJ (Wg:Nat):Ln:=(base 165).at ⟨#[pt Wg,ID,pt Wg,ID],[]⟩ (.inRegion GU (1::[])::[])
noncomputable def rZ (P:L3)(Wg Bw Bf Bs Bh:Nat):List Ln :=
 [(baseD 164).at ⟨#[pt Bw,.nilIface,.nilIface,.nilIface,.bool LI,ID,pt Wg,ID],[]⟩ (.inRegion Il (1::[])::[]),
  { (baseD 163).at ⟨#[pt Bw,pt Bf,.func (.func 164) #[] #[pt Bw],.func (.func 120) #[] #[pt Bs,pt Bh],.tuple #[]],[]⟩ [] with mode:=.returning },bot P]
theorem CP (d:Nat)(hl:∃l,P.underlying t=Jx (.interface l))(w:J1):(Op.equalIn (d+1) t .nilIface .nilIface).run P w=.ok L4 w/\(Op.equalIn (d+1) t .nilIface .nilIface).events P w #[]=#[]:=by
 obtain⟨l,hl⟩:=hl;constructor<;>simp[Op.equalIn,run_underlying hl]
theorem nil_eq (hl:∃l,P.underlying t=Jx (.interface l))(w:J1):(Op.equal t .nilIface .nilIface).run P w=.ok L4 w/\(Op.equal t .nilIface .nilIface).events P w #[]=#[]:=CP 9999 hl w
theorem zi (h:Wf P)(hS:∀b,S b->b<W.heap.size)(o1:S Bw)(c1:W.heap[Bw]?=Jx (.cells #[pt Wg] 254))(hm:FR.mode=.returning)(hd:FR.defers=[])(hk:FR.kind=.normal)(hfn:P.funcs[FR.fn]?=Jx fn)(hr:fn.results=#[])
 (hq:Wk P LI Fin S 0 (G (Kf P 162 #[pt Wg,.int .i64 (-1)] .normal) (EJ Wg::rZ P Wg Bw Bf Bs Bh)) W):Wk P LI Fin S 0 (Gr FR (TN P Bw Bf Bs Bh sv sh)) W:=by
 refine .ctl hS rfl (λW₁=>zU hfn hr hm hd hk W₁) ?_;rw[finish_at];refine .ctl hS rfl (λW₁=>stepG_region_end) ?_;refine .ctl hS rfl (λW₁=>stepG_end) ?_;refine .ctl hS rfl (λW₁=>stepG_leave rfl rfl h.f120 (L5 rfl _ P _) (events_results_none rfl _ _)) ?_;rw[finish_at];refine .ctl hS rfl (λW₁=>stepG_region_end) ?_;refine .ctl hS rfl (λW₁=>stepG_end) ?_;refine .ctl hS rfl (λW₁=>od rfl (by simp) h.f164 n164 rfl _) ?_;rw[enter_atD _ h.f164 rfl];simp only[Tryz.f164]
 walk_nrm
 refine .ctl hS rfl (λW₁=>stepG_seq) ?_;refine .ctl hS rfl (λW₁=>stepG_seq) ?_;refine .ctl hS rfl (λW₁=>stepG_region) ?_;simp only[IF,IH,IR,Kx,Ks,K0,J0];refine .ctl hS rfl (λW₁=>(pg rfl rfl rfl rfl rfl)) ?_
 walk_nrm
 refine .pure .nilIface hS rfl rfl (by simp[baseD]) (λw=>by simp[go_sem]) (λw=>by simp[go_sem]) ?_
 walk_nrm
 refine .ctl hS rfl (λW₁=>stepG_region_end) ?_;refine .ctl hS rfl (λW₁=>stepG_seq) ?_;refine .ctl hS rfl (λW₁=>stepG_region) ?_;simp only[IF,IH,IR,Kx,Ks,K0,J0];refine .pure .nilIface hS rfl rfl (by simp[baseD]) (λw=>by simp[go_sem]) (λw=>by simp[go_sem]) ?_
 walk_nrm
 refine .pure (.bool LI) hS rfl rfl (by simp[baseD]) (λw=>?_) (λw=>?_) ?_
 ·(have:Sem.run P (binOp .neq 20 .nilIface .nilIface) w=.ok (.bool LI) w:=by unfold binOp;simp[(nil_eq h.u20 w).1]);simp[go_sem,this]
 ·(have:Sem.events P (binOp .neq 20 .nilIface .nilIface) w #[]=#[]:=by unfold binOp;simp[(nil_eq h.u20 w).2]);simp[go_sem,this]
 walk_nrm
 refine .ctl hS rfl (λW₁=>stepG_region_end) ?_;refine .ctl hS rfl (λW₁=>(stepG_cond (t:=LI) rfl)) ?_;simp only[Mb,if_false];refine .ctl hS rfl (λW₁=>stepG_skip) ?_;refine .ctl hS rfl (λW₁=>stepG_region) ?_;simp only[IF,IH,IR,Kx,Ks,K0,J0];refine .Kb hS rfl rfl (by simp[baseD]) rfl rfl o1 h.Rh c1 ?_
 walk_nrm
 refine .enter hS rfl rfl (by simp[baseD]) (λw=>(bP rfl rfl ⟨_,_,h.f165,rfl,n165⟩ w).1) (λw=>(bP rfl rfl ⟨_,_,h.f165,rfl,n165⟩ w).2) ?_
 walk_nrm
 rw[enter_at _ h.f165 rfl];simp only[Tryz.f165];refine .ctl hS rfl (λW₁=>stepG_region) ?_;simp only[IF,IH,IR,Kx,Ks,K0,J0];refine .pure (pt Wg) hS rfl rfl (by simp[base]) (λw=>by simp[go_sem]) (λw=>by simp[go_sem]) ?_
 walk_nrm
 refine .enter hS rfl rfl (by simp[base]) (λw=>(bP rfl rfl h.Qw w).1) (λw=>(bP rfl rfl h.Qw w).2) ?_
 walk_nrm
 exact hq
theorem uT (h:Wf P):∃q,QuitsD P q 0 (Gr ((EJ Wg).finish (.tuple #[])) (rZ P Wg Bw Bf Bs Bh)):=by
 unfold EJ rZ;rw[finish_at];refine⟨_,.ctl rfl (λw=>stepG_region_end) (.ctl rfl (λw=>stepG_end) (QuitsD.leave0 rfl rfl h.f165 rfl (.ctl rfl (λw=>stepG_region_end) (.ctl rfl (λw=>stepG_end) (QuitsD.leaveD rfl rfl h.f164 rfl rfl (.ctl (g':=G (bot P) []) rfl (λw=>?_) (.ctl (n:=0) (g':={ frame:=bot P,callers:=[],status:=.finished,dying:=Ly }) rfl (λw=>?_) ⟨rfl,rfl⟩)))))))⟩
 ·have hr:Tryz.f163.results=#[]:=rfl;simp[G,Mp,Nm,N1,Frame.at,baseD,h.f163,L5 hr,events_results_none hr,L2,seen_none,bot,goexitEntry]
 ·simp[G,Mp,Nm,bot,goexitEntry,Frame.catches];rfl
end
structure Mf (P:L3):Prop where
 f77:P.funcs[77]?=Jx Tryz.f77
 f119:P.funcs[119]?=Jx Tryz.f119
 Ra : ∃fn c, P.funcs[122]? = Jx fn /\ fn.body = Jx c /\ (fn.name == "runtime.NumGoroutine") = LI
 a208:∀w,(isAgg 208).run P w=.ok LI w
 z208:∀w,(zeroValue 208).run P w=.ok (.slice Ly 0 0) w
 O0:∀w,(sizeOf 208).run P w=.ok 1 w
 u206:P.underlying 206=Jx (.slice 208)
 u208:∃e,P.underlying 208=Jx (.slice e)
theorem mf:Mf prog:=⟨func77,func119,⟨_,_,func122,rfl,by kernel_rfl⟩,isAgg208,zeroValue208,sizeOf208,underlying206,⟨_,underlying208⟩⟩
noncomputable def KN:Code:=match Tryz.f77.body with|some (.seq _ (.seq _ (.seq (.seq _ (.block _ (.loop c))) _)))=>c|_=>.skip
noncomputable def R8:Code:=match Tryz.f77.body with|some (.seq _ (.seq _ (.seq _ c)))=>c|_=>.skip
noncomputable def O8:Array Nd:=match R8 with|.region _ o _=>o|_=>#[]
noncomputable def R7:Code:=match KN with|.seq _ (.seq _ (.seq _ c))=>c|_=>.skip
noncomputable def O6:Array Nd:=match KN with|.seq _ (.seq _ (.seq (.block _ (.seq _ (.seq _ (.cond _ (.region _ o _) _)))) _))=>o|_=>#[]
noncomputable def vW:Array Nd:=match Tryz.f119.body with|some (.seq _ (.seq _ (.region _ o _)))=>o|_=>#[]
section
variable {P:L3} {Fin:aD->Nat->Goroutine->J1->Prop} {S:aD} {W:J1} {Wg D:Nat} {cs:List Ln}
noncomputable def mL (T:Array I3)(k:List Item):Ln:=(base 77).at ⟨T,[]⟩ (.code KN::.inLoop KN::.inBlock 0::.code R8::k)
theorem CR (h:Mf P)(hS:∀b,S b->b<W.heap.size){n:Nat}{v0 v1 v2 v4 v5 v7 v9 v10 v11 v12 v15 v16 v17 v18 v19 v20 v21 v22 v23 v24:I3}(T:Array I3)(hT:T=#[v0,v1,v2,v3,v4,v5,pt Wg,v7,v8,v9,v10,v11,v12,.int .i64 n,.int .i64 n,v15,v16,v17,v18,v19,v20,v21,v22,v23,v24])
 (hq:∀T':Array I3,T'.size=25->Wk P L4 Fin S 0 (G (Kf P 122 #[pt Wg] .normal) ((base 77).at ⟨T',[]⟩ (.inRegion O8 (0::[])::[])::cs)) W):Wk P L4 Fin S 0 (G (mL T []) cs) W:=by
 subst hT;unfold mL;simp only[KN,Tryz.f77];refine .ctl hS rfl (λW₁=>stepG_seq) ?_;refine .ctl hS rfl (λW₁=>stepG_region) ?_;simp only[IF,IH,IR,Ks,K0,J0];refine .pure (.bool LI) hS rfl rfl (by simp[base]) (λw=>by simp[go_sem]) (λw=>by simp[go_sem]) ?_
 walk_nrm
 refine .ctl hS rfl (λW₁=>stepG_region_end) ?_;refine .ctl hS rfl (λW₁=>stepG_seq) ?_;refine .ctl hS rfl (λW₁=>(stepG_cond (t:=LI) rfl)) ?_;simp only[Mb,if_false];refine .ctl hS rfl (λW₁=>(stepG_exit rfl)) ?_;simp only[R8,Tryz.f77];refine .ctl hS rfl (λW₁=>stepG_region) ?_;simp only[IF,IH,IR,Ks,K0,J0];refine .enter hS rfl rfl (by simp[base]) (λw=>(bP rfl rfl h.Ra w).1) (λw=>(bP rfl rfl h.Ra w).2) ?_
 walk_nrm
 exact hq _ rfl
theorem mw {e:MA}(hu:P.underlying t=Jx (.slice e))(hs:∀w,(sizeOf e).run P w=.ok 1 w){n i:Nat}(hi:i<n)(w:J1):(Mz t (.slice (Jx ⟨D,0,Ly⟩) n n) (.int .i64 i)).run P w=.ok (.pointer (Jx ⟨D,i,Ly⟩)) w/\(Mz t (.slice (Jx ⟨D,0,Ly⟩) n n) (.int .i64 i)).events P w #[]=#[]:=by
 have h1:(0:Int)<=i/\(i:Int)<n:=by omega
 unfold Mz;constructor
 ·simp[asIntOf,run_underlying hu,h1,hs,Addr.add,hi];intro e;exact e.symm
 ·simp[asIntOf,run_underlying hu,h1,Addr.add,hi]
theorem xr (hu:∃e,P.underlying t=Jx (.slice e)){ad:Option Addr}{n c:Nat}(w:J1):(Builtin.len_ #[t] 3 #[.slice ad n c]).run P w=.ok (goInt n) w/\(Builtin.len_ #[t] 3 #[.slice ad n c]).events P w #[]=#[]:=by
 obtain⟨e,hu⟩:=hu;constructor<;>simp[Builtin.len_,run_underlying hu]
theorem uw {u v:I3}(h:W₁.heap[B]?=Jx (.cells #[u] t)):(W₁.setCell ⟨B,0,Ly⟩ v).heap[B]?=Jx (.cells #[v] t):=by
 unfold Lo;simp only;rw[Lw];simp[h]
theorem zj (h:Mf P)(hS:∀b,S b->b<W.heap.size){n i:Nat}(hi:i<n)(hn:n<2 ^ 62)(oD:S D){c:Array I3}(hc:W.heap[D]?=Jx (.cells c 208))(hci:c[i]?=Jx (.slice Ly 0 0)){v0 v1 v2 v4 v5 v7 v9 v10 v11 v15 v16 v17 v18 v19 v20 v21 v22 v23 v24:I3}(T:Array I3)(hT:T=#[v0,v1,v2,v3,v4,v5,pt Wg,v7,v8,v9,v10,v11,.slice (Jx ⟨D,0,Ly⟩) n n,.int .i64 n,.int .i64 i,v15,v16,v17,v18,v19,v20,v21,v22,v23,v24])
 (hq:∀(S':aD) (W':J1) (v8 v15 v16 v17 v18 v19 v20 v23:I3),(∀b,S' b->b<W'.heap.size)->S' D->W'.heap[D]?=Jx (.cells c 208)->Wk P L4 Fin S' 0 (G (mL #[v0,v1,v2,v3,v4,v5,pt Wg,v7,v8,v9,v10,v11,.slice (Jx ⟨D,0,Ly⟩) n n,.int .i64 n,.int .i64 (i+1:Nat),v15,v16,v17,v18,v19,v20,v21,v22,v23,v24] []) cs) W'):Wk P L4 Fin S 0 (G (mL T []) cs) W:=by
 subst hT;unfold mL;simp only[KN,Tryz.f77];refine .ctl hS rfl (λW₁=>stepG_seq) ?_;refine .ctl hS rfl (λW₁=>stepG_region) ?_;simp only[IF,IH,IR,Ks,K0,J0];refine .pure (.bool L4) hS rfl rfl (by simp[base]) (λw=>by simp[go_sem,hi]) (λw=>by simp[go_sem]) ?_
 walk_nrm
 refine .ctl hS rfl (λW₁=>stepG_region_end) ?_;refine .ctl hS rfl (λW₁=>stepG_seq) ?_;refine .ctl hS rfl (λW₁=>(stepG_cond (t:=L4) rfl)) ?_;simp only[if_true];refine .ctl hS rfl (λW₁=>stepG_skip) ?_;refine .ctl hS rfl (λW₁=>stepG_seq) ?_;refine .ctl hS rfl (λW₁=>stepG_block) ?_;refine .ctl hS rfl (λW₁=>stepG_seq) ?_;refine .ctl hS rfl (λW₁=>stepG_region) ?_;simp only[IF,IH,IR,Kx,Ks,K0,J0];refine .pure (.pointer (Jx ⟨D,i,Ly⟩)) hS rfl rfl (by simp[base]) (λw=>?_) (λw=>?_) ?_
 ·simp[go_sem,(mw (D:=D) h.u206 h.O0 hi w).1]
 ·simp[go_sem,(mw (D:=D) h.u206 h.O0 hi w).2]
 walk_nrm
 refine .QR hS rfl rfl (by simp[base]) rfl rfl oD h.a208 hc hci ?_
 walk_nrm
 refine .Qx hS rfl rfl (by simp[base]) rfl h.z208 rfl λW₁ hr=>?_
 walk_nrm
 have A8:W₁.heap[D]?=Jx (.cells c 208):=(hr.keep D oD).trans hc;have Ab:D<W₁.heap.size:=L1 (hS D oD) hr.size;have Aa:∀b,S b->b<W₁.heap.size:=λb hb=>L1 (hS b hb) hr.size;clear hr hS hc;generalize hN:W₁.heap.size=N at *
 have A0:(W₁.heap.push (.cells #[.slice Ly 0 0] 208))[N]?=Jx (.cells #[.slice Ly 0 0] 208):=by rw[<-hN];simp
 have A1:(W₁.heap.push (.cells #[.slice Ly 0 0] 208))[D]?=Jx (.cells c 208):=by rw[Lq (by omega),<-K2 (by omega)];exact A8
 have A2:∀b,(S b\/b=N)->b<(W₁.heap.push (.cells #[.slice Ly 0 0] 208)).size:=λb hb=>by rw[Array.size_push];rcases hb with hb|hb;have:=Aa b hb;omega;omega
 refine .OZ A2 rfl rfl (by simp[base]) rfl rfl rfl rfl rfl h.O0 (.inr rfl) A0 λW₂ hr₂=>?_
 walk_nrm
 have A4:W₂.heap[D]?=Jx (.cells c 208):=(hr₂.keep D (.inl oD)).trans A1;have A7:W₂.heap[N]?=Jx (.cells #[.slice Ly 0 0] 208):=(hr₂.keep N (.inr rfl)).trans A0;have A3:D≠N:=by omega
 have A5:∀b,(S b\/b=N)->b<(W₂.setCell ⟨N,0,Ly⟩ (.slice Ly 0 0)).heap.size:=λb hb=>by rw[ep];exact L1 (A2 b hb) hr₂.size
 have A9:=uw (v:=.slice Ly 0 0) A7;have A6:(W₂.setCell ⟨N,0,Ly⟩ (.slice Ly 0 0)).heap[D]?=Jx (.cells c 208):=by unfold Lo;simp only;rw[Lw];simp[Ne.symm A3,A4]
 generalize W₂.setCell ⟨N,0,Ly⟩ (.slice Ly 0 0)=W₃ at *
 have hS:=A5;refine .ctl hS rfl (λW₁=>stepG_region_end) ?_;refine .ctl hS rfl (λW₁=>stepG_seq) ?_;refine .ctl hS rfl (λW₁=>stepG_region) ?_;simp only[IF,IH,IR,Kx,Ks,K0,J0];refine .Kb hS rfl rfl (by simp[base]) rfl rfl (.inr rfl) h.a208 A9 ?_
 walk_nrm
 refine .pure (.int .i64 0) hS rfl rfl (by simp[base]) (λw=>by simp[go_sem,(xr h.u208 (ad:=Ly) (n:=0) (c:=0) w).1]) (λw=>by simp[go_sem,(xr h.u208 (ad:=Ly) (n:=0) (c:=0) w).2]) ?_
 walk_nrm
 refine .pure (.bool LI) hS rfl rfl (by simp[base]) (λw=>by simp[go_sem]) (λw=>by simp[go_sem]) ?_
 walk_nrm
 refine .ctl hS rfl (λW₁=>stepG_region_end) ?_;refine .ctl hS rfl (λW₁=>(stepG_cond (t:=LI) rfl)) ?_;simp only[Mb,if_false];refine .ctl hS rfl (λW₁=>stepG_skip) ?_;refine .ctl hS rfl (λW₁=>stepG_inBlock) ?_;refine .ctl hS rfl (λW₁=>stepG_region) ?_;simp only[IF,IH,IR,Kx,Ks,K0,J0];refine .pure (.int .i64 (i+1:Nat)) hS rfl rfl (by simp[base]) (λw=>?_) (λw=>by simp[go_sem]) ?_
 ·simp[go_sem];rw[IntKind.wrap_i64];omega
 walk_nrm
 refine .pure (.int .i64 (i+1:Nat)) hS rfl rfl (by simp[base]) (λw=>by simp[go_sem]) (λw=>by simp[go_sem]) ?_
 walk_nrm
 refine .ctl hS rfl (λW₁=>stepG_region_end) ?_;refine .ctl hS rfl (λW₁=>stepG_inLoop) ?_;exact hq _ _ _ _ _ _ _ _ _ _ hS (.inl oD) A6
theorem Bo (h:Mf P){n:Nat}(hn:n<2 ^ 62){c:Array I3}{v0 v1 v2 v4 v5 v7 v9 v10 v11 v21 v22 v24:I3}
 (hq:∀(S:aD) (W:J1) (T':Array I3),(∀b,S b->b<W.heap.size)->T'.size=25->Wk P L4 Fin S 0 (G (Kf P 122 #[pt Wg] .normal) ((base 77).at ⟨T',[]⟩ (.inRegion O8 (0::[])::[])::cs)) W) :
 ∀(k i:Nat) (S:aD) (W:J1) (v8 v15 v16 v17 v18 v19 v20 v23:I3),i+k=n->(∀j,i<=j->j<n->c[j]?=Jx (.slice Ly 0 0))->(∀b,S b->b<W.heap.size)->S D->W.heap[D]?=Jx (.cells c 208) ->
  Wk P L4 Fin S 0 (G (mL #[v0,v1,v2,v3,v4,v5,pt Wg,v7,v8,v9,v10,v11,.slice (Jx ⟨D,0,Ly⟩) n n,.int .i64 n,.int .i64 i,v15,v16,v17,v18,v19,v20,v21,v22,v23,v24] []) cs) W:=by
 intro k;induction k with
 | zero =>intro i S W v8 v15 v16 v17 v18 v19 v20 v23 A1 A0 hS oD hc;(obtain rfl:i=n:=by omega);exact CR h hS _ rfl λT' hT'=>hq S W T' hS hT'
 | succ k ih =>intro i S W v8 v15 v16 v17 v18 v19 v20 v23 A1 A0 hS oD hc;exact zj h hS (by omega) hn oD hc (A0 i (Nat.le_refl _) (by omega)) _ rfl λS' W' v8 v15 v16 v17 v18 v19 v20 v23 hS' oD' hc'=>ih (i+1) S' W' _ _ _ _ _ _ _ _ (by omega) (λj h1 h2=>A0 j (by omega) h2) hS' oD' hc'
theorem Dc (h:Mf P)(hS:∀b,S b->b<W.heap.size){n i:Nat}(hi:i<n)(hn:n<2 ^ 62){c:Array I3}(hnil:∀j,i<j->j<n->c[j]?=Jx (.slice Ly 0 0))(oD:S D)(hc:W.heap[D]?=Jx (.cells c 208)){v0 v1 v2 v4 v5 v7 v9 v10 v11 v15 v16 v17 v18 v19 v20 v21 v22 v23 v24:I3}{U:Array I3}
 (hq:∀(S:aD) (W:J1) (T':Array I3),(∀b,S b->b<W.heap.size)->T'.size=25->Wk P L4 Fin S 0 (G (Kf P 122 #[pt Wg] .normal) ((base 77).at ⟨T',[]⟩ (.inRegion O8 (0::[])::[])::cs)) W) :
 Wk P L4 Fin S 0 (G ((base 119).at ⟨U,[]⟩ (.inRegion vW []::[])) ((base 77).at ⟨#[v0,v1,v2,v3,v4,v5,pt Wg,v7,v8,v9,v10,v11,.slice (Jx ⟨D,0,Ly⟩) n n,.int .i64 n,.int .i64 i,v15,v16,v17,v18,v19,v20,v21,v22,v23,v24],[]⟩ (.inRegion O6 (1::[])::.inBlock 1::.code R7::.inLoop KN::.inBlock 0::.code R8::[])::cs)) W:=by
 refine .ctl hS rfl (λW₁=>stepG_region_end) ?_;refine .ctl hS rfl (λW₁=>stepG_end) ?_;refine .ctl hS rfl (λW₁=>(stepG_leave rfl rfl h.f119 (L5 rfl _ P _) (events_results_none rfl _ _))) ?_;rw[finish_at,show((O6[1]?).bind λx=>x.dst)=Jx 22 from rfl]
 walk_nrm
 refine .ctl hS rfl (λW₁=>stepG_region_end) ?_;refine .ctl hS rfl (λW₁=>stepG_inBlock) ?_;simp only[R7,KN,Tryz.f77];refine .ctl hS rfl (λW₁=>stepG_region) ?_;simp only[IF,IH,IR,Kx,Ks,K0,J0];refine .pure (.int .i64 (i+1:Nat)) hS rfl rfl (by simp[base]) (λw=>?_) (λw=>by simp[go_sem]) ?_
 ·simp[go_sem];rw[IntKind.wrap_i64];omega
 walk_nrm
 refine .pure (.int .i64 (i+1:Nat)) hS rfl rfl (by simp[base]) (λw=>by simp[go_sem]) (λw=>by simp[go_sem]) ?_
 walk_nrm
 refine .ctl hS rfl (λW₁=>stepG_region_end) ?_;refine .ctl hS rfl (λW₁=>stepG_inLoop) ?_;exact Bo h hn hq (n-(i+1)) (i+1) S W _ _ _ _ _ _ _ _ (by omega) (λj h1 h2=>hnil j (by omega) h2) hS oD hc
end
section
variable {E:Env}
theorem WR.rely {r:Rel}{w W:J1}(h:WR E r w W)(hr:bQ LI (ran r) W W₁):WR E r w W₁:=by
 have ho:=hr.os rfl;refine⟨λb B hb=>?_,λhl=>ho.trans (h.os hl),h.base,h.ok,by rw[ho];exact h.env,⟨h.big.1,NX h.big.2 hr.size⟩⟩;obtain⟨o,O,e1,e2,e3⟩:=h.heap b B hb;exact⟨o,O,e1,(hr.keep B ⟨b,hb⟩).trans e2,e3⟩
def KB (E:Env)(N:Nat)(r:Rel)(f:N2)(R:N3->J1->Prop)(W:J1):Prop:=∃fr w r',Sub r r'/\(∀b B,r' b B->r b B\/N<=B)/\N<=W.heap.size/\Left E R fr w/\fr.fn=f/\WR E r' w W
def uP (Bw Bf Bs Bh:Nat):aD:=λb=>b=Bw\/b=Bf\/b=Bs\/b=Bh
theorem FO (hE:aS E)(hS:aS E.self)(hO:Mm E)(hl:E.lv)(h:Wf E.P){r:Rel}{w W:J1}(hW:WR E r w W)(hf:E.F 121)(hfn:E.P.funcs[121]?=Jx fn)(hb:fn.body.isSome)(hres:fn.results=#[]){sv sh SV SH:I3}(ha:AR E r #[sv,sh] #[SV,SH])
 {R:N3->J1->Prop}(hR:∀e w',R e w'->∃v,e=.returned v)(hc:∀t,Calls E.P 121 #[sv,sh] (az w t) R)
 {Wg Bw Bf Bs Bh:Nat}(hF:∀b,uP Bw Bf Bs Bh b->b<W.heap.size/\¬ ran r b)(c0:W.heap[Bw]?=Jx (.cells #[pt Wg] 254))(c1:W.heap[Bf]?=Jx (.cells #[.func (.func 120) #[] #[pt Bs,pt Bh]] 1))(c2:W.heap[Bs]?=Jx (.cells #[SV] 25))(c3:W.heap[Bh]?=Jx (.cells #[SH] 208)) :
 Wk E.P LI (Dv (TC E.P Tryz.link Wg) (EJ Wg) (rZ E.P Wg Bw Bf Bs Bh) (KB E W.heap.size r 121 R)) (λb=>ran r b\/uP Bw Bf Bs Bh b) 0 (born E.P (d163 Bw Bf)) W:=by
 have A0:∀b,(ran r b\/uP Bw Bf Bs Bh b)->b<W.heap.size:=λb hb=>hb.elim (λ⟨c,hc⟩=>(hW.low hc).2) λx=>(hF b x).1;refine A7 h A0 (.inr (.inr (.inl rfl))) (.inr (.inr (.inr (.inl rfl)))) (.inr (.inr (.inr (.inr rfl)))) c1 c2 c3 ?_;refine((sA hE hS hO hl hW hf hfn hb ha hR hc (TN E.P Bw Bf Bs Bh SV SH)).frame (λb x=>(hF b x).1) (λb x=>(hF b x).2)).bind ?_;rintro S' n g W' ⟨S₀,rfl,⟨rfl,fr,w,r',FR,rfl,k1,j1,j2,k2,k3,rfl,k4,k5,k6,k7,k8⟩,hk,A1⟩ _;have A0:∀b,(ran r' b\/uP Bw Bf Bs Bh b)->b<W'.heap.size:=λb hb=>hb.elim (λ⟨c,hc⟩=>(k8.low hc).2) λx=>L1 (hF b x).1 A1;refine zi h A0 (.inr (.inl rfl)) ((hk Bw (.inl rfl)).1.trans c0) k4 k5 k6 (fn:=fn) (by rw[k7];exact hfn) hres ?_;refine .stop rfl λW₁ hr=>⟨rfl,rfl,fr,w,r',k1,j1,NX j2 hr.size,k2,k3,k8.rely ⟨hr.size,λb hb=>hr.keep b (.inl hb),hr.os⟩⟩
end
open Go Go.Conc Go.ConcX Go.RowKit Go.Conc.Lib Go.ConcX.Gen
section
variable {P:L3} {R:I3->J1->Prop} {w:J1} {Wg d:Nat} {cs:List Ln} {VE:Ln} {fv:I3}
theorem yg {x:M1}{v:I3}(hop:o.op=.box t x)(hx:a.eval x=v)(hv:v.cells=#[v])(w:J1):(LO a.eval o).run P w=.ok (.value (pt w.heap.size)) { w with heap:=w.heap.push (.cells #[v] t) }/\(LO a.eval o).events P w #[]=#[]:=by
 unfold LO;simp only[hop,hx];constructor
 ·simp[Instr.box,newVar,newRow,hv]
 ·simp[Instr.box,newVar,newRow,hv]
theorem EX.value {i:Nat}{v:I3}{w':J1}(ho:ops[i]?=Jx o)(hw:LS o (MT ops a.tmps)=L4)(hk:b.kind≠.early)(hr:(LO a.eval o).run P w=.ok (.value v) w')(he:∀e∈(LO a.eval o).events P w #[],e.loc≠.mark .disable/\e.loc≠.mark .enable)
 (h:EX P R d (G (b.at (a.put o.dst v) (.inRegion ops rest::k)) cs) w'):EX P R d (G (b.at a (.inRegion ops (i::rest)::k)) cs) w :=
 .go rfl (stepG_value ho hw hk hr) (deafBehind_still (λe hx=>he e (mem_listed hx)) _) h
theorem EX.box {i:Nat}{x:M1}(v:I3)(ho:ops[i]?=Jx o)(hw:LS o (MT ops a.tmps)=L4)(hk:b.kind≠.early)(hop:o.op=.box t x)(hx:a.eval x=v)(hv:v.cells=#[v])
 (h:EX P R d (G (b.at (a.put o.dst (pt w.heap.size)) (.inRegion ops rest::k)) cs) { w with heap:=w.heap.push (.cells #[v] t) }):EX P R d (G (b.at a (.inRegion ops (i::rest)::k)) cs) w :=
 .value ho hw hk (yg hop hx hv w).1 (by rw[(yg hop hx hv w).2];simp) h
theorem EX.Kb {i:Nat}{t':MA}{x:M1}{v:I3}(ho:ops[i]?=Jx o)(hw:LS o (MT ops a.tmps)=L4)(hk:b.kind≠.early)(hop:o.op=.load t x)(hx:a.eval x=.pointer (Jx ⟨B,0,Ly⟩))(hagg:∀w,(isAgg t).run P w=.ok LI w)(hc:w.heap[B]?=Jx (.cells #[v] t'))
 (h:EX P R d (G (b.at (a.put o.dst v) (.inRegion ops rest::k)) cs) w):EX P R d (G (b.at a (.inRegion ops (i::rest)::k)) cs) w:=by
 have A0:w.cell? ⟨B,0,Ly⟩=Jx v:=by simp[World.cell?,hc]
 refine .value (v:=v) ho hw hk ?_ (λe he=>?_) h
 ·unfold LO;simp only[hop,hx];simp[N0,loadVar,hagg,A0,go_sem]
 ·unfold LO at he;simp only[hop,hx] at he;simp[N0,loadVar,hagg,A0,go_sem] at he;subst he;simp
theorem EX.enter {i:Nat}(ho:ops[i]?=Jx o)(hw:LS o (MT ops a.tmps)=L4)(hk:b.kind≠.early)(hr:∀w,(LO a.eval o).run P w=.ok (.enter f args) w/\(LO a.eval o).events P w #[]=#[])
 (h:EX P R d (G (Kf P f args .normal) (b.at a (.inRegion ops (i::rest)::k)::cs)) w):EX P R d (G (b.at a (.inRegion ops (i::rest)::k)) cs) w :=
 .ctl rfl (by rw[stepG_enter ho hw hk (hr w).1];unfold listed;rw[(hr w).2,seen_none]) h
theorem Gx (H:WgLib P Tryz.link):Kf P 162 #[pt Wg,.int .i64 1] .normal=(base Tryz.link.add).at { tmps:=#[pt Wg,.int .i64 1,ID,ID,ID,ID,ID,ID,ID,ID,ID,ID,ID,ID,ID,ID,ID,ID,ID,ID,ID,ID,ID,ID,ID,ID,ID,ID,ID,ID,ID,ID,ID,ID,ID,ID,ID,ID,ID,ID,ID,ID,ID,ID,ID,ID,ID,ID,ID,ID,ID,ID,ID,ID,ID,ID,ID,ID,ID,ID,ID,ID,ID,ID,ID,ID,ID,ID,ID,ID,ID,ID,ID,ID,ID,ID,ID,ID,ID,ID,ID,ID,ID,ID,ID,ID,ID,ID,ID,ID,ID,ID,ID,ID,ID,ID,ID,ID,ID,ID,ID,ID,ID,ID,ID,ID,ID,ID,ID,ID,ID,ID,ID,ID,ID,ID,ID],defers:=[] } [.code (body_add Tryz.link)]:=by
 have h:(addFn Tryz.link).body=Jx (body_add Tryz.link):=rfl;have h2:(addFn Tryz.link).ntmps=117:=rfl;have:=enter_at (P:=P) #[pt Wg,.int .i64 1] H.f_add h;rw[h2] at this;exact this.trans (congrArg (λt=>(base Tryz.link.add).at { tmps:=t,defers:=[] } [.code (body_add Tryz.link)]) (AB _ _))
theorem Gf (H:WgLib P Tryz.link){C:Nat}(hw:WgAt 205 Wg w 0 0){b₀:Ln}{a₀:Act}{ops₀:Array Nd}{i₀:Nat}{rest₀:List Nat}{k₀:List Item}
 (h:∀d',EX P R 0 (G (b₀.at (a₀.put ((ops₀[i₀]?).bind (·.dst)) (.tuple #[])) (.inRegion ops₀ rest₀::k₀)) cs) ((w.setCell (stA Wg) (.int .u64 KK)).at d')) :
 EX P R 0 (G (Kf P 162 #[pt Wg,.int .i64 1] .normal) (b₀.at a₀ (.inRegion ops₀ (i₀::rest₀)::k₀)::cs)) w:=by
 letI:=pay
 letI:=shy P Wg C
 have hD:∀w w' es,DE (EvS Wg C) w w' es->∀e∈es,e.loc≠.mark .disable/\e.loc≠.mark .enable:=by intro w w' es h e he;have:=h e he;obtain⟨l,a,b⟩:=e;exact⟨λx=>by(simp only at x;subst x;exact this.2.2.2.1 (by cases a<;>cases b<;>rfl)),λx=>by(simp only at x;subst x;exact this.2.2.2.2.1 (by cases a<;>cases b<;>rfl))⟩
 rw[Gx H];refine EX.goes hD (addPos (C:=C) (StopG:=λg w'=>g=G (b₀.at (a₀.put ((ops₀[i₀]?).bind (·.dst)) (.tuple #[])) (.inRegion ops₀ rest₀::k₀)) cs/\∃d',w'=(w.setCell (stA Wg) (.int .u64 KK)).at d') (mT:=0) H w hw λw₁ ⟨d',hd'⟩=>⟨rfl,d',hd'⟩) ?_;rintro g₁ w₁ ⟨h1,g₂,h2,n,h3⟩;refine .go (d':=1) h1 h2 rfl (EX.goes hD h3 ?_);rintro g₃ w₃ ⟨h4,g₄,h5,n',h6⟩;refine .go (d':=0) h4 h5 rfl (EX.goes hD h6 ?_);rintro g₅ w₅ ⟨rfl,d',rfl⟩;exact h d'
def iM (w:J1)(Wg:Nat)(fv:I3)(d:Nat):J1:=(({ w with heap:=(w.heap.push (.cells #[pt Wg] 254)).push (.cells #[fv] 1) }).setCell (stA Wg) (.int .u64 KK)).at d
theorem jZ:(iM w Wg fv d).heap.size=w.heap.size+2:=by
 show(Lo _ _ _).heap.size=_;rw[ep];simp
theorem gv {b:Nat}(hb:b<w.heap.size)(hne:b≠Wg):(iM w Wg fv d).heap[b]?=w.heap[b]?:=by
 show(Lo _ _ _).heap[b]?=_;unfold Lo;simp only[stA];rw[Lw];simp only[Ne.symm hne,if_false];rw[Lq (by simp;omega),Array.getElem_push_lt (by omega),<-K2]
theorem Cc (h:WgAt 205 Wg w 0 0):WgAt 205 Wg (iM w Wg fv d) KK 0:=by
 have A0:Wg<w.heap.size:=(K1.1 h).1;show(Lo _ _ _).heap[Wg]?=_;unfold Lo;simp only[stA];rw[Lw];simp only[if_true];rw[Lq (by simp;omega),Array.getElem_push_lt (by omega),<-K2,show w.heap[Wg]?=_ from h];rfl
theorem Eb (hlt:Wg<w.heap.size):(iM w Wg fv d).heap[w.heap.size]?=Jx (.cells #[pt Wg] 254):=by
 show(Lo _ _ _).heap[w.heap.size]?=_;unfold Lo;simp only[stA];rw[Lw];have:Wg≠w.heap.size:=by omega
 simp only[this,if_false];rw[Lq (by simp)];simp
theorem EV (hlt:Wg<w.heap.size):(iM w Wg fv d).heap[w.heap.size+1]?=Jx (.cells #[fv] 1):=by
 show(Lo _ _ _).heap[w.heap.size+1]?=_;unfold Lo;simp only[stA];rw[Lw];have:Wg≠w.heap.size+1:=by omega
 simp only[this,if_false];have:=Array.getElem?_push_size (xs:=w.heap.push (.cells #[pt Wg] 254)) (x:=.cells #[fv] 1);rw[Array.size_push] at this;exact this
theorem FF (h:Wf P)(H:WgLib P Tryz.link)(hw:WgAt 205 Wg w 0 0)(hfv:fv.cells=#[fv])
 (hq:∀d' U,EX P R 0 (G ((base 119).at ⟨#[pt Wg,fv,pt w.heap.size,pt (w.heap.size+1),pt Wg,.tuple #[],U],[]⟩ (.inRegion vW (0::1::[])::[])) (VE::cs)) (iM w Wg fv d')) :
 EX P R 0 (G (Kf P 119 #[pt Wg,fv] .normal) (VE::cs)) w:=by
 have A0:Wg<w.heap.size:=(K1.1 hw).1;rw[enter_at _ h.f119 rfl];simp only[Tryz.f119];refine .ctl rfl stepG_seq ?_;refine .ctl rfl stepG_region ?_;simp only[IF,IH,IR,Kx,Ks,K0,J0];refine .box (pt Wg) rfl rfl (by simp[base]) rfl rfl rfl ?_
 walk_nrm
 refine .box fv rfl rfl (by simp[base]) rfl rfl hfv ?_
 walk_nrm
 refine .ctl rfl stepG_region_end ?_;refine .ctl rfl stepG_seq ?_;refine .ctl rfl stepG_region ?_;simp only[IF,IH,IR,Kx,Ks,K0,J0];refine .Kb (B:=w.heap.size) (v:=pt Wg) rfl rfl (by simp[base]) rfl rfl h.Rh (t':=254) ?_ ?_
 ·rw[Lq (by simp)];simp
 walk_nrm
 refine .enter rfl rfl (by simp[base]) (λw=>bP rfl rfl h.Qw w) ?_
 walk_nrm
 refine Gf (C:=0) H ?_ λd'=>?_
 ·show((w.heap.push _).push _)[Wg]?=_;rw[Lq (by simp;omega),Array.getElem_push_lt (by omega),<-K2];exact hw
 walk_nrm
 rw[Array.size_push];refine .ctl rfl stepG_region_end ?_;refine .ctl rfl stepG_region ?_;simp only[IF,IH,IR,Kx,Ks,K0,J0];exact hq d' _
end
abbrev jA (Bs Bh:Nat):I3:=.func (.func 120) #[] #[pt Bs,pt Bh]
theorem yx {P:L3}{v0 v1 v4 v5:I3}{Bw Bf:Nat}(W:J1)(p1 p2:String)(cs:List Ln) :
 Mp P L4 (G ((base 119).at ⟨#[v0,v1,pt Bw,pt Bf,v4,v5,.func (.func 163) #[] #[pt Bw,pt Bf]],[]⟩ (.inRegion #[{ dst:=Jx 6,op:=Op.makeFunc (Fn.func 163) #[] #[.tmp 2,.tmp 3],type:=1,pos:=p1,after:=#[],guard:=Ly },{ dst:=Ly,op:=Op.go { callee:=Callee.value (.tmp 6),args:=#[],argTypes:=#[] },type:=0,pos:=p2,after:=#[{ on:=0,ground:=.data }],guard:=Ly }] (1::[])::[])) cs) W =
  .spawn (G ((base 119).at ⟨#[v0,v1,pt Bw,pt Bf,v4,v5,.func (.func 163) #[] #[pt Bw,pt Bf]],[]⟩ (.inRegion #[{ dst:=Jx 6,op:=Op.makeFunc (Fn.func 163) #[] #[.tmp 2,.tmp 3],type:=1,pos:=p1,after:=#[],guard:=Ly },{ dst:=Ly,op:=Op.go { callee:=Callee.value (.tmp 6),args:=#[],argTypes:=#[] },type:=0,pos:=p2,after:=#[{ on:=0,ground:=.data }],guard:=Ly }] []::[])) cs) (born P (d163 Bw Bf)) W #[]:=by
 have A0:∀o:Nd,o.op=Op.go { callee:=Callee.value (.tmp 6),args:=#[],argTypes:=#[] }->(LO (Act.eval ⟨#[v0,v1,pt Bw,pt Bf,v4,v5,.func (.func 163) #[] #[pt Bw,pt Bf]],[]⟩) o).run P W=.ok (.spawn (d163 Bw Bf)) W/\(LO (Act.eval ⟨#[v0,v1,pt Bw,pt Bf,v4,v5,.func (.func 163) #[] #[pt Bw,pt Bf]],[]⟩) o).events P W #[]=#[]:=by
  intro o ho;unfold LO;simp only[ho];constructor
  ·simp[Mu,LL,Act.eval,d163]
  ·simp[Mu,LL,Act.eval]
 rw[stepG_spawn rfl rfl (by simp[base]) (A0 _ rfl).1 rfl];unfold listed;rw[(A0 _ rfl).2,seen_none];rfl
section
variable {E Eg:Env} {R:I3->J1->Prop}
theorem EY {r:Rel}{w W:J1}{Wg d:Nat}{fv:I3}(hW:WR E r w W)(hn:¬ ran r Wg):WR E r w (iM W Wg fv d):=by
 have hs:(iM W Wg fv d).heap.size=W.heap.size+2:=jZ;refine⟨λb B hb=>?_,λhl=>hW.os hl,hW.base,hW.ok,hW.env,hW.big.1,by have:=hW.big.2;omega⟩;obtain⟨o,O,e1,e2,e3⟩:=hW.heap b B hb;have:=gv (w:=W) (Wg:=Wg) (fv:=fv) (d:=d) (hW.low hb).2 (λe=>hn (e ▸ ⟨b,hb⟩));exact⟨o,O,e1,this.trans e2,e3⟩
theorem CY [IY Eg] (hE:aS E)(hS0:aS E.self)(hO:Mm E)(hl:E.lv)(UX:aS Eg)(UZ:¬ Eg.lv)(gG:∀i,¬ Eg.G i)(gO:∀c,¬ Eg.Op c)(hP:Eg.P=E.P)(h:Wf E.P)(hm:Mf E.P)(H:WgLib E.P Tryz.link)(QZ:Eg.F 122)(Q0:Eg.F 162)
 {w:J1}{Wg Bs Bh D n i:Nat}{c:Array I3}{sv sh:I3}(hw:WgAt 205 Wg w 0 0)(cS:w.heap[Bs]?=Jx (.cells #[sv] 25))(cH:w.heap[Bh]?=Jx (.cells #[sh] 208))(cD:w.heap[D]?=Jx (.cells c 208))(hi:i<n)(hn:n<2 ^ 62)(hnil:∀j,i<j->j<n->c[j]?=Jx (.slice Ly 0 0))
 {r:Rel}{wl:J1}(hW:WR E r wl w)(nW:¬ ran r Wg)(nS:¬ ran r Bs)(nH:¬ ran r Bh)(nD:¬ ran r D)(Vz:Wg≠Bs)(VA:Wg≠Bh)(VB:Wg≠D)(dDS:D≠Bs)(dDH:D≠Bh)
 (hf:E.F 121)(hfn:E.P.funcs[121]?=Jx fn)(hb:fn.body.isSome)(hres:fn.results=#[]){TM shl:I3}(ha:AR E r #[TM,shl] #[sv,sh])
 {Kw:N3->J1->Prop}(hR:∀e w'',Kw e w''->∃v,e=.returned v)(Qt:∀t,Calls E.P 121 #[TM,shl] (az wl t) Kw)
 {cs:List Ln}(hbx:∀d' T' W,T'.size=25->KB E (w.heap.size+2) r 121 Kw W->Kp (iM w Wg (jA Bs Bh) d') (λb=>b=D\/(ran r b\/uP w.heap.size (w.heap.size+1) Bs Bh b)\/b=Wg) W->BX E.P R Wg (Gr (((base 77).at ⟨T',[]⟩ (.inRegion O8 (0::[])::[])).finish (.tuple #[])) cs) W)
 {v0 v1 v2 v4 v5 v7 v9 v10 v11 v15 v16 v17 v18 v19 v20 v21 v22 v23 v24:I3} :
 EX E.P R 0 (G (Kf E.P 119 #[pt Wg,jA Bs Bh] .normal) ((base 77).at ⟨#[v0,v1,v2,v3,v4,v5,pt Wg,v7,v8,v9,v10,v11,.slice (Jx ⟨D,0,Ly⟩) n n,.int .i64 n,.int .i64 i,v15,v16,v17,v18,v19,v20,v21,v22,v23,v24],[]⟩ (.inRegion O6 (1::[])::.inBlock 1::.code R7::.inLoop KN::.inBlock 0::.code R8::[])::cs)) w:=by
 have A0:∀{b:Nat} {o:Obj},w.heap[b]?=Jx o->b<w.heap.size:=λh=>(K1.1 h).1;have lW:=A0 hw;refine FF h H hw rfl λd' U=>?_;have eO : vW = #[{ dst := Jx 6, op := Op.makeFunc (Fn.func 163) #[] #[.tmp 2, .tmp 3], type := 1, pos := (vW[0]?.map (·.pos)).getD "", after := #[], guard := Ly }, { dst := Ly, op := Op.go { callee := Callee.value (.tmp 6), args := #[], argTypes := #[] }, type := 0, pos := (vW[1]?.map (·.pos)).getD "", after := #[{ on := 0, ground := .data }], guard := Ly }] := rfl;generalize Vo : (vW[0]?.map (·.pos)).getD "" = p1 at eO;generalize Vn : (vW[1]?.map (·.pos)).getD "" = p2 at eO;rw[eO];refine .value (v:=.func (.func 163) #[] #[pt w.heap.size,pt (w.heap.size+1)]) (w':=iM w Wg (jA Bs Bh) d') rfl rfl (by simp[base]) (by simp[go_sem,LR]) (by simp[go_sem,LR]) ?_
 walk_nrm
 generalize hfw:iM w Wg (jA Bs Bh) d'=W;generalize hops:(#[_,_]:Array Nd)=ops;have A4:=yx (P:=E.P) (v0:=pt Wg) (v1:=jA Bs Bh) (v4:=pt Wg) (v5:=.tuple #[]) (Bw:=w.heap.size) (Bf:=w.heap.size+1) W p1 p2;rw[hops] at A4;refine EX.fork rfl (A4 _) λT x y hT hx hy=>?_;obtain⟨⟨B,hB⟩,h1⟩:=EF hT;have A3:WR E r wl W:=by rw[<-hfw];exact EY hW nW
 have A5:W.heap.size=w.heap.size+2:=by rw[<-hfw];exact jZ
 have lS:=A0 cS;have lH:=A0 cH;have lD:=A0 cD;have lr:∀{b:Nat},ran r b->b<w.heap.size:=λ⟨c,hc⟩=>(hW.low hc).2;have k0:W.heap[w.heap.size]?=Jx (.cells #[pt Wg] 254):=by rw[<-hfw];exact Eb lW
 have k1:W.heap[w.heap.size+1]?=Jx (.cells #[jA Bs Bh] 1):=by rw[<-hfw];exact EV lW
 have k2:W.heap[Bs]?=Jx (.cells #[sv] 25):=by rw[<-hfw];exact(gv lS (Ne.symm Vz)).trans cS
 have k3:W.heap[Bh]?=Jx (.cells #[sh] 208):=by rw[<-hfw];exact(gv lH (Ne.symm VA)).trans cH
 have k4:W.heap[D]?=Jx (.cells c 208):=by rw[<-hfw];exact(gv lD (Ne.symm VB)).trans cD
 have k5:WgAt 205 Wg W KK 0:=by rw[<-hfw];exact Cc hw
 have hF:∀b,uP w.heap.size (w.heap.size+1) Bs Bh b->b<W.heap.size/\¬ ran r b:=by
  rintro b (rfl|rfl|rfl|rfl)
  ·exact⟨by omega,λx=>absurd (lr x) (Nat.lt_irrefl _)⟩
  ·exact⟨by omega,λx=>by have:=lr x;omega⟩
  ·exact⟨by omega,nS⟩
  ·exact⟨by omega,nH⟩
 have A7:=FO hE hS0 hO hl h A3 hf hfn hb hres ha hR Qt (Wg:=Wg) hF k0 k1 k2 k3;have hS:∀b,(λb=>b=D) b->b<W.heap.size:=λb e=>by have e:b=D:=e;omega
 have A1:=Dc (P:=E.P) (Fin:=EB (Tv E.P Tryz.link Wg) (λc' cs'=>(∃T',T'.size=25/\c'=(base 77).at ⟨T',[]⟩ (.inRegion O8 (0::[])::[]))/\cs'=cs)) (S:=λb=>b=D) (Wg:=Wg) (cs:=cs) (v0:=v0) (v1:=v1) (v2:=v2) (v3:=v3) (v4:=v4) (v5:=v5) (v7:=v7) (v8:=v8) (v9:=v9) (v10:=v10) (v11:=v11) (v15:=v15) (v16:=v16) (v17:=v17) (v18:=v18) (v19:=v19) (v20:=v20) (v21:=v21) (v22:=v22) (v23:=v23) (v24:=v24)
  (U:=#[pt Wg,jA Bs Bh,pt w.heap.size,pt (w.heap.size+1),pt Wg,.tuple #[],.func (.func 163) #[] #[pt w.heap.size,pt (w.heap.size+1)]]) hm hS hi hn hnil rfl k4 (λS W T' hS A2=>.stop rfl λW₁ _=>⟨rfl,_,cs,⟨⟨T',A2,rfl⟩,rfl⟩,rfl⟩)
 rw[eO] at A1;rw[hops] at A1;have A6:=Dt (E:=Eg) (L:=Tryz.link) (Wg:=Wg) (CB:=rZ E.P Wg w.heap.size (w.heap.size+1) Bs Bh) (W:=W) UX UZ gG gO (by rw[hP];exact H) QZ Q0 k5 A3.big.2 (b₀:=base 165) (a₀:=⟨#[pt Wg,ID,pt Wg,ID],[]⟩) (ops₀:=GU) (i₀:=1) (rest₀:=[]) (k₀:=[]) (by rw[hP];exact uT h) hB h1 hx hy
  (Sm:=λb=>b=D) (Sw:=λb=>ran r b\/uP w.heap.size (w.heap.size+1) Bs Bh b) ?_ (λe=>VB e) ?_ hS (λb hb=>hb.elim (λx=>by have:=lr x;omega) λx=>(hF b x).1) (by rw[hP];exact A1) (by rw[hP];exact A7) Ly
 ·have:=xh (R:=R) A6 λc' cs' W' hA Mg QY=>?_
  ·rw[hP] at this;exact this
  ·obtain⟨⟨T',A2,rfl⟩,rfl⟩:=hA;rw[hP];exact hbx d' T' W' A2 (by rw[<-A5];exact Mg) (by rw[hfw];exact QY)
 ·rintro b e hx;have e:b=D:=e;subst e;rcases hx with hx|rfl|rfl|rfl|rfl
  ·exact nD hx
  ·omega
  ·omega
  ·exact dDS rfl
  ·exact dDH rfl
 ·rintro(hx|rfl|rfl|rfl|rfl)
  ·exact nW hx
  ·omega
  ·omega
  ·exact Vz rfl
  ·exact VA rfl
end
section
variable {E:Env} {R:I3->J1->Prop} {Wz:J1} {Sz:aD}
def AtRet (Q:Ln->J1->Prop)(fr:Ln)(IC:List Ln)(w:J1):Prop:=IC=[]/\fr.mode=.returning/\fr.defers=[]/\Q fr w
theorem yJ (hE:aS E)(hS:aS E.self)(hO:Mm E)(hl:E.lv){r':Rel}{W:J1}(hW:WR E r' w2 W){Wg:Nat}(nW:¬ ran r' Wg)(hlt:Wg<W.heap.size){c C:Ln}{I1:List Ln}(hfr:bb E r' L4 0 c C)(hsg:Jy E r' 0 IC I1)(IM:JF rY (c.finish (.tuple #[])::IC))(hkp:Kp Wz Sz W)(hgr:∀b,b<Wz.heap.size->ran r' b->Sz b)
 {Q:Ln->J1->Prop}(hQt:∀fr w t,Q fr (az w t)->Q fr w)(Qp:∀t,Reach E.P (AtRet Q) (c.finish (.tuple #[])) IC (az w2 t))(QU:Ends E R Wz Sz r' Q) :
 BX E.P R Wg (Gr (C.finish (.tuple #[])) I1) W:=by
 have hv:VR E r' (.tuple #[]) (.tuple #[]):=.tuple rfl (λi v V h=>by simp at h);have A1:=hfr.finish hv;have A0:Fit E.self 0 (c.finish (.tuple #[])) IC w2:=⟨dg r',0,0,nz,A1.dom,hsg.dom,hW.dom,IM,rfl⟩;have A2:Ev E.self Q (c.finish (.tuple #[])) IC w2:=by
  refine bar hS hO hQt A0 λt=>?_
  ·obtain⟨A4,A3,w',⟨n,hn⟩,rfl,h2,h3,h4⟩:=Qp t [aP];exact⟨n,A4,w',hn,h2,h3,h4⟩
 intro k b sl T d hq hp A5;have hk:Lt E 0 r' [] (c.finish (.tuple #[])) IC w2 (Gr (C.finish (.tuple #[])) I1) (W.at d):=(⟨⟨_,I1,0,0,by simp,A1,hsg,rfl⟩,IM,hW⟩:Lt E 0 r' [] _ IC w2 (Gr (C.finish (.tuple #[])) I1) W).at d;exact At hE hS hl A2 A0 hk nW hlt (hkp.at d) hgr QU k b sl T hq hp A5
theorem Ht (hm:Mf E.P){Wg:Nat}{T':Array I3}{c:Ln}{W:J1}(h:BX E.P R Wg (Gr (c.finish (.tuple #[])) IC) W):BX E.P R Wg (Gr (((base 77).at ⟨T',[]⟩ (.inRegion O8 (0::[])::[])).finish (.tuple #[])) (c::IC)) W:=by
 rw[finish_at];refine .ctl rfl (λW₁=>stepG_region_end) (.ctl rfl (λW₁=>stepG_end) (.ctl rfl (λW₁=>stepG_leave rfl rfl hm.f77 (L5 rfl _ E.P _) (events_results_none rfl _ _)) h))
end
open Go Go.Conc
section
variable {E:Env} {r r':Rel}
theorem IX.same (hs:Sub r r')(hok:r'.OK){a B:Addr}(h:IX r a B)(h':IX r' a A):A=B:=by
 obtain⟨b1,o1,s1⟩:=B;obtain⟨b2,o2,s2⟩:=A;obtain⟨x,y,z⟩:=h';obtain⟨x',y',z'⟩:=h;have e:=hok.fn (hs.1 _ _ x') x;simp only at e y z y' z';subst e y z y' z';rfl
theorem KQ.same (hs:Sub r r')(hok:r'.OK){a B A:Fn}(h:KQ E r a B)(h':KQ E r' a A):A=B:=by
 cases h' with
 | func _=>cases h;rfl
 | yield x=>cases h with|yield y=>rw[hok.fn (hs.1 _ _ y) x]
def OJ (E:Env):Prop:=∀V a b,E.J V a->E.J V b->a=b
theorem VR.same (hJ:OJ E)(hs:Sub r r')(hok:r'.OK){v U V:I3}(h:VR E r v U)(h':VR E r' v V):V=U:=by
 have A0:∀{x X Y:Array I3},x.size=Y.size->x.size=X.size->(∀(i:Nat) v V,x[i]?=Jx v->Y[i]?=Jx V->VR E r v V)->(∀(i:Nat) v V,x[i]?=Jx v->X[i]?=Jx V->∀{U},VR E r v U->V=U)->X=Y:=by
  intro x X Y A3 A4 h1 h2;apply Mn;intro i;by_cases hi:i<x.size
  ·(have e1:x[i]?=Jx x[i]:=by simp[hi]);(have A1:i<X.size:=by omega);(have A2:i<Y.size:=by omega);(have e2:X[i]?=Jx X[i]:=by simp[A1]);(have e3:Y[i]?=Jx Y[i]:=by simp[A2]);rw[e2,e3,h2 i _ _ e1 e2 (h1 i _ _ e1 e3)]
  ·rw[Lz (by omega),Lz (by omega)]
 induction h' generalizing U with
 | bool b=>cases h;rfl
 | int k n=>cases h;rfl
 | string s=>cases h;rfl
 | Ji=>cases h;rfl
 | ptr x=>cases h with|ptr y=>rw[y.same hs hok x]
 | IU l c=>cases h;rfl
 | slice l c x=>cases h with|slice _ _ y=>rw[y.same hs hok x]
 | KT=>cases h;rfl
 | Ki=>cases h;rfl
 | func x h1 _ h2 _ i1 i2 =>
   cases h with
   | func y y0 y1 y3 y2=>rw[y.same hs hok x,A0 y0 h1 y1 i1,A0 y3 h2 y2 i2]
   | jf=>cases x
 | nilFunc=>cases h;rfl
 | iface _ _ ih=>cases h with|iface _ y=>rw[ih y]
 | nilIface=>cases h;rfl
 | agg h1 _ ih=>cases h with|agg y0 y=>rw[A0 y0 h1 y ih]
 | tuple h1 _ ih=>cases h with|tuple y0 y=>rw[A0 y0 h1 y ih]
 | jf a b =>
   cases h with
   | func y=>cases y
   | jf c d=>exact hJ _ _ _ a c
theorem AR.same (hJ:OJ E)(hs:Sub r r')(hok:r'.OK){Y:Array I3}(h:AR E r x Y)(h':AR E r' x X):X=Y:=by
 apply Mn;intro i;have n1:=h.1;have n2:=h'.1;by_cases hi:i<x.size
 ·(have e1:x[i]?=Jx x[i]:=by simp[hi]);(have A0:i<X.size:=by omega);(have A1:i<Y.size:=by omega);(have e2:X[i]?=Jx X[i]:=by simp[A0]);(have e3:Y[i]?=Jx Y[i]:=by simp[A1]);rw[e2,e3,(h.2 i _ _ e1 e3).same hJ hs hok (h'.2 i _ _ e1 e2)]
 ·rw[Lz (by omega),Lz (by omega)]
theorem Kl.same (hJ:OJ E)(hs:Sub r r')(hok:r'.OK){x Y X:Target}(h:Kl E r x Y)(h':Kl E r' x X):X=Y:=by
 cases h' with
 | fn a b =>
   cases h with
   | fn c d=>rw[c.same hs hok a,d.same hJ hs hok b]
   | method=>cases a
 | method =>
   cases h with
   | fn c d=>cases c
   | method=>rfl
 | nil=>cases h;rfl
 | builtin _=>cases h;rfl
 | collected a=>cases h with|collected c=>rw[hok.fn (hs.1 _ _ c) a]
theorem KE.same (hJ:OJ E)(hs:Sub r r')(hok:r'.OK){x Y X:List MD}(h:KE E r x Y)(h':KE E r' x X):X=Y:=by
 induction h' generalizing Y with
 | nil=>cases h;rfl
 | @cons d D l L a _ ih =>
   cases h with
   | @cons _ D' _ L' c e =>rw[ih e];obtain⟨t,y⟩:=d;obtain⟨T,Z⟩:=D;obtain⟨T',Z'⟩:=D';have h1:=c.target.same hJ hs hok a.target;have h2:=c.args.same hJ hs hok a.args;simp only at h1 h2;rw[h1,h2]
theorem OR.same (hJ:OJ E)(hs:Sub r r')(hok:r'.OK){o Q O:Obj}(h:OR E r o Q)(h':OR E r' o O):O=Q:=by
 cases h' with
 | cells a=>cases h with|cells c=>rw[c.same hJ hs hok a]
 | view a=>cases h with|view c=>rw[c.same hs hok a]
 | number a=>cases h with|number c=>rw[c.same hs hok a]
 | @loop l L a =>
   cases h with
   | @loop _ L' c =>have h1:=c.tmps.same hJ hs hok a.tmps;have h2:=hok.fn (hs.1 _ _ c.defers) a.defers;have h3:=a.state;have h4:=a.pending;have h5:=a.fn;have h6:=a.params;have h7:=a.assign;have h8:=a.body;have g3:=c.state;have g4:=c.pending;have g5:=c.fn;have g6:=c.params;have g7:=c.assign;have g8:=c.body;congr 1;cases l;cases L;cases L';simp_all
 | JH=>cases h;rfl
 | Jz=>cases h;rfl
 | Jr a=>cases h with|Jr c=>rw[c.same hJ hs hok a]
theorem WR.same (hJ:OJ E)(hs:Sub r r'){w W w₁:J1}(h:WR E r w₁ W₁)(h':WR E r' w W){b:Nat}(hb:r b B)(he:w.heap[b]?=w₁.heap[b]?):W.heap[B]?=W₁.heap[B]?:=by
 obtain⟨o,O,e1,e2,e3⟩:=h.heap b B hb;obtain⟨o',O',f1,f2,f3⟩:=h'.heap b B (hs.1 _ _ hb);rw[he,e1] at f1;cases f1;rw[f2,e2,e3.same hJ hs h'.ok f3]
end
structure gW where
 Wg:Nat
 Bs:Nat
 Bh:Nat
 D:Nat
 n:Nat
 i:Nat
 SB:Nat
 m:Nat
 cp:Nat
 te:MA
 c:Array I3
 ps:Array I3
 v0:I3
 v1:I3
 v2:I3
 v4:I3
 v5:I3
 v7:I3
 v9:I3
 v10:I3
 v11:I3
 v15:I3
 v16:I3
 v17:I3
 v18:I3
 v19:I3
 v20:I3
 v21:I3
 v22:I3
 v23:I3
 v24:I3
def gW.sh (d:gW):I3:=.slice (Jx ⟨d.SB,0,Ly⟩) d.m d.cp
noncomputable def R6:Code:=match KN with|.seq _ (.seq _ (.seq (.block _ (.seq _ (.seq _ (.cond _ c _)))) _))=>c|_=>.skip
noncomputable def gW.fr (d:gW):Ln:=(base 77).at ⟨#[d.v0,d.v1,d.v2,pt d.Bs,d.v4,d.v5,pt d.Wg,d.v7,pt d.Bh,d.v9,d.v10,d.v11,.slice (Jx ⟨d.D,0,Ly⟩) d.n d.n,.int .i64 d.n,.int .i64 d.i,d.v15,d.v16,d.v17,d.v18,d.v19,d.v20,d.v21,d.v22,d.v23,d.v24],[]⟩ (.code R6::.inBlock 1::.code R7::.inLoop KN::.inBlock 0::.code R8::[])
structure uN (w w2:J1)(sv:I3)(TB:Nat)(d:gW):Prop where
 wg:WgAt 205 d.Wg w2 0 0
 cS:w2.heap[d.Bs]?=Jx (.cells #[sv] 25)
 cH:w2.heap[d.Bh]?=Jx (.cells #[d.sh] 208)
 cD:w2.heap[d.D]?=Jx (.cells d.c 208)
 cB:w2.heap[d.SB]?=Jx (.cells d.ps d.te)
 ps:∀v∈d.ps,v=.pointer Ly\/∃off,v=.pointer (Jx ⟨TB,off,Ly⟩)
 hi:d.i<d.n
 hn:d.n<2 ^ 62
 hnil:∀j,d.i<j->j<d.n->d.c[j]?=Jx (.slice Ly 0 0)
 old:∀b,b<w.heap.size->w2.heap[b]?=w.heap[b]?
 size:w.heap.size<=w2.heap.size
 new:w.heap.size<=d.Wg/\w.heap.size<=d.Bs/\w.heap.size<=d.Bh/\w.heap.size<=d.D/\w.heap.size<=d.SB
 U2:d.Wg≠d.Bs/\d.Wg≠d.Bh/\d.Wg≠d.D/\d.D≠d.Bs/\d.D≠d.Bh/\d.SB≠d.Wg/\d.SB≠d.Bs/\d.SB≠d.Bh/\d.SB≠d.D
 os:w2.os=w.os
 tape:w2.tape=w.tape
 out:w2.output=w.output
section
variable {E Eg:Env}
theorem Jy.flat {r:Rel}{n:Nat}{S:List Ln}(h:Jy E r n s S)(hT:∀f∈s,¬ E.Ty f.fn):n=0:=by
 induction h with
 | nil=>rfl
 | cons hf _ ih=>rw[hf.flat (hT _ (by simp)),ih λf hf=>hT f (by simp[hf])]
def Pl:I3->Prop
 | .bool _|.int ..|.string _|.pointer _|.slice ..|.map Ly|.chan Ly|.nilFunc|.nilIface=>True
 | _=>False
theorem IX.at {r:Rel}(hd:cP r){a:Addr}(h:IX r a A):A=a:=by
 obtain⟨x,y,z⟩:=a;obtain⟨X,Y,Z⟩:=A;obtain⟨h1,h2,h3⟩:=h;have:=hd _ _ h1;simp only at this h2 h3;rw[this,h2,h3]
theorem VR.pl {r:Rel}(hd:cP r){v V:I3}(h:VR E r v V)(hp:Pl v):V=v:=by
 cases h with
 | ptr h=>rw[h.at hd]
 | slice l c h=>rw[h.at hd]
 | func=>exact hp.elim
 | iface=>exact hp.elim
 | agg=>exact hp.elim
 | tuple=>exact hp.elim
 | jf=>exact hp.elim
 | _=>rfl
theorem AR.pl {r:Rel}(hd:cP r)(h:AR E r x X)(hp:∀v∈x,Pl v):X=x:=by
 apply Mn;intro i;rcases h.get i with⟨a,b⟩|⟨v,V,a,b,c⟩
 ·rw[a,b]
 ·rw[a,b,c.pl hd (hp v (Array.mem_of_getElem? a))]
theorem WR.pl {r:Rel}(hd:cP r){w W:J1}(h:WR E r w W){b:Nat}(hb:r b b){e:MA}{z:Nat×Nat}(hx:w.heap[b]?=Jx (.cells x e z))(hp:∀v∈x,Pl v):W.heap[b]?=Jx (.cells x e z):=by
 obtain⟨o,O,e1,e2,e3⟩:=h.heap b b hb;rw[hx] at e1;cases e1;cases e3 with
 | cells ha=>rw[e2,ha.pl hd hp]
theorem FU (hJ:OJ E){r r2:Rel}(hd:cP r)(hd2:cP r2)(hs2:Sub r r2){w W W2:J1}(hW:WR E r w W)(hW2:WR E r2 w2 W2)(_:w2.heap.size=W2.heap.size){sv:I3}{TB:Nat}(hTB:r TB TB){d:gW}(ok:uN w w2 sv TB d)(hSB:r2 d.SB d.SB):WR E (r.put d.SB d.SB) w2 W2/\cP (r.put d.SB d.SB)/\Sub r (r.put d.SB d.SB):=by
 have A2:∀{a b:Nat},r a b->a=b/\a<w.heap.size:=λh=>⟨hd _ _ h,(hW.low h).1⟩;have A0:cP (r.put d.SB d.SB):=λa b h=>h.elim (hd a b) λx=>x.1.trans x.2.symm;have A3:(r.put d.SB d.SB).OK:=⟨λx y=>(A0 _ _ x).symm.trans (A0 _ _ y),λx y=>(A0 _ _ x).trans (A0 _ _ y).symm,λx=>by rw[A0 _ _ x]⟩;have A1:Sub r (r.put d.SB d.SB):=⟨λ_ _ h=>.inl h,λ_=>A3⟩;refine⟨⟨λa b h=>?_,hW2.os,λg hg=>.inl (hW.base g hg),A3,hW2.env,hW2.big⟩,A0,A1⟩;rcases h with h|⟨rfl,rfl⟩
 ·obtain⟨rfl,A4⟩:=A2 h;obtain⟨o,O,e1,e2,e3⟩:=hW.heap a a h;have he:=ok.old a A4;exact⟨o,O,he.trans e1,(WR.same hJ hs2 hW hW2 h he).trans e2,e3.mono A1⟩
 ·(have hp:∀v∈d.ps,Pl v:=λv hv=>by rcases ok.ps v hv with rfl|⟨A5,rfl⟩<;>trivial);refine⟨_,_,ok.cB,hW2.pl hd2 hSB ok.cB hp,.cells (kQ λv hv=>?_)⟩;rcases ok.ps v hv with rfl|⟨A5,rfl⟩
  ·exact .Ji
  ·exact .ptr ⟨.inl hTB,rfl,rfl⟩
theorem Gv {P:L3}{R:I3->J1->Prop}(h:Wf P){d:gW}{cs:List Ln}{w:J1}
 (hq:EX P R 0 (G (Kf P 119 #[pt d.Wg,jA d.Bs d.Bh] .normal) ((base 77).at ⟨#[d.v0,d.v1,d.v2,pt d.Bs,d.v4,d.v5,pt d.Wg,d.v7,pt d.Bh,d.v9,d.v10,d.v11,.slice (Jx ⟨d.D,0,Ly⟩) d.n d.n,.int .i64 d.n,.int .i64 d.i,d.v15,d.v16,d.v17,d.v18,d.v19,d.v20,jA d.Bs d.Bh,d.v22,d.v23,d.v24],[]⟩ (.inRegion O6 (1::[])::.inBlock 1::.code R7::.inLoop KN::.inBlock 0::.code R8::[])::cs)) w) :
 EX P R 0 (G d.fr cs) w:=by
 unfold gW.fr;simp only[R6,KN,Tryz.f77];refine .ctl rfl stepG_region ?_;simp only[IF,IH,IR,Kx,Ks,K0,J0];refine .value (v:=jA d.Bs d.Bh) (w':=w) rfl rfl (by simp[base]) (by simp[go_sem,LR]) (by simp[go_sem,LR]) ?_
 walk_nrm
 refine .enter rfl rfl (by simp[base]) (λw=>bP (P:=P) rfl rfl ⟨_,_,h.f119,rfl,by kernel_rfl⟩ w) ?_
 walk_nrm
 exact hq
end
def Bg {ι:Type}(P:L3)(Pre:ι->Ln->List Ln->I3->I3->I3->Nat->J1->Prop)(fr:Ln)(IC:List Ln)(w:J1):Prop :=
 ∃i c IL sv tv kv TB o l k,fr=Kf P 77 #[sv,tv,kv] .normal/\IC=c::IL/\tv=.slice (Jx ⟨TB,o,Ly⟩) l k/\Pre i c IL sv tv kv TB w
def Vd (sv:I3)(TB:Nat)(w:J1)(X:J1->gW->Prop)(fr:Ln)(IC:List Ln)(w2:J1):Prop:=IC=[]/\∃d:gW,fr=d.fr/\uN w w2 sv TB d/\X w2 d
def Qe (f0:N2)(t:Tmp)(W0:J1)(fr:Ln)(w:J1):Prop:=fr.fn=f0/\fr.kind=.normal/\fr.tmps.getD t ID=.bool L4/\w.os=W0.os/\∀b,b<W0.heap.size->w.heap[b]?=W0.heap[b]?
structure Re (W0:J1)(v:I3)(W:J1):Prop where
 v:v=.bool L4
 os:W.os=W0.os
 tape:W.tape=W0.tape
 out:W.output=W0.output
 size:W0.heap.size<=W.heap.size
 keep:∀b,b<W0.heap.size->W.heap[b]?=W0.heap[b]?
section
variable {E Eg:Env}
theorem Jy.head {r:Rel}{n:Nat}{c:Ln}{S:List Ln}(h:Jy E r n (c::s) S):∃l n' C S',S=C::S'/\bb E r L4 l c C/\Jy E r n' s S':=by
 cases h with
 | cons a b=>exact⟨_,_,_,_,rfl,a,b⟩
theorem vn {e c:Ln}(h:JF rY (e::c::s))(v:I3):JF rY (c.finish v::s):=by
 obtain⟨h1,h2⟩:=h;have hr:=cA c v;have A0:=cL c v;refine⟨λx hx=>⟨?_,trivial⟩,?_⟩
 ·cases s with
  | nil =>simp at hx;subst hx;rw[hr.1];exact(h1 c (by simp)).1
  | cons a s =>refine(h1 x ?_).1;rw[List.getLast?_cons_cons] at hx ⊢;rw[List.getLast?_cons_cons];exact hx
 ·have h3:=h2.2;cases s with
  | nil=>trivial
  | cons a s=>exact⟨λhk=>h3.1 (hr.2.1 ▸ hk),h3.2⟩
theorem yq {P:L3}{t:Tmp}(hfn:P.funcs[FR.fn]?=Jx fn)(hr:fn.results=#[.tmp t])(hi:P.inits.idxOf? FR.fn=Ly)(hm:FR.mode=.returning)(hd:FR.defers=[])(hk:FR.kind=.normal)(w:J1):Mp P L4 (Gr FR []) w=.ended (.done (FR.tmps.getD t ID)) w #[]:=by
 obtain⟨a1,a2,a3,a4,a5,a6,a7⟩:=FR;simp only at hfn hm hd hk hi;subst hm hd hk;simp[Gr,Mp,Nm,N1,hfn,results_tmp hr,events_results_tmp hr,L2,seen_none,hi]
theorem zI {r:Rel}(hd:cP r){d:gW}{p:Nat}(h:bb E r LI p d.fr FR):∃D:gW,FR=D.fr/\D.Wg=d.Wg/\D.Bs=d.Bs/\D.Bh=d.Bh/\D.D=d.D/\D.n=d.n/\D.i=d.i/\r d.Wg d.Wg/\r d.Bs d.Bs/\r d.Bh d.Bh/\r d.D d.D:=by
 obtain⟨fn,tmps,todo,defers,mode,kind,round⟩:=FR;have h1:=h.fn;have h2:=h.tmps;obtain⟨q,m,A0,-⟩:=h.todo;have h3:=A0.eq hd;clear A0;have h4:=h.defers;have h5:=h.mode;have h6:=h.kind;have h7:=h.round;simp only[gW.fr,Frame.at,base] at h1 h2 h3 h4 h5 h6 h7;subst h1 h6;cases h4;cases h5;cases h7;subst h3;obtain⟨l⟩:=tmps;have A1:=h2.1;simp only[IF,IH,IR] at A1;have gt:=h2.2
 match l,A1 with
 | [a0,a1,a2,a3,a4,a5,a6,a7,a8,a9,a10,QJ,a12,a13,a14,Ri,a16,a17,a18,a19,a20,a21,a22,a23,a24],_ =>
   have g3:=gt 3 _ _ rfl rfl;have g6:=gt 6 _ _ rfl rfl;have g8:=gt 8 _ _ rfl rfl;have A2:=gt 12 _ _ rfl rfl;have A5:=gt 13 _ _ rfl rfl;have A6:=gt 14 _ _ rfl rfl;have e3:=g3.pl hd trivial;have e6:=g6.pl hd trivial;have e8:=g8.pl hd trivial;have A7:=A2.pl hd trivial;have A4:=A5.pl hd trivial;have A3:=A6.pl hd trivial;subst e3 e6 e8 A7 A4 A3;refine⟨{ d with v0:=a0,v1:=a1,v2:=a2,v4:=a4,v5:=a5,v7:=a7,v9:=a9,v10:=a10,v11:=QJ,v15:=Ri,v16:=a16,v17:=a17,v18:=a18,v19:=a19,v20:=a20,v21:=a21,v22:=a22,v23:=a23,v24:=a24 },rfl,rfl,rfl,rfl,rfl,rfl,rfl,?_,?_,?_,?_⟩
   ·cases g6 with|ptr h=>exact h.1
   ·cases g3 with|ptr h=>exact h.1
   ·cases g8 with|ptr h=>exact h.1
   ·cases A2 with|slice _ _ h=>exact h.1
theorem tH {r:Rel}{w W:J1}(h:WR E r w W){b:Nat}(hb:r b b){v:I3}{e:MA}(hx:w.heap[b]?=Jx (.cells #[v] e)):∃V,VR E r v V/\W.heap[b]?=Jx (.cells #[V] e):=by
 obtain⟨o,O,e1,e2,e3⟩:=h.heap b b hb;rw[hx] at e1;cases e1;cases e3 with
 | @cells _ X _ _ ha =>
   have A0:=ha.1;obtain⟨l⟩:=X;simp only[IF,IH,IR] at A0
   match l,A0 with
   | [V],_=>exact⟨V,ha.2 0 _ _ rfl rfl,e2⟩
theorem ft {r:Rel}{w W:J1}(h:WR E r w W){b:Nat}(hb:r b b){e:MA}(hx:w.heap[b]?=Jx (.cells x e)):∃X,AR E r x X/\W.heap[b]?=Jx (.cells X e):=by
 obtain⟨o,O,e1,e2,e3⟩:=h.heap b b hb;rw[hx] at e1;cases e1;cases e3 with
 | @cells _ X _ _ ha=>exact⟨X,ha,e2⟩
theorem CG [IY Eg] (hE:aS E)(hS:aS E.self)(hJ:OJ E)(hO:Mm E)(hl:E.lv)(UX:aS Eg)(UZ:¬ Eg.lv)(gG:∀i,¬ Eg.G i)(gO:∀c,¬ Eg.Op c)(hP:Eg.P=E.P)(h:Wf E.P)(hm:Mf E.P)(H:WgLib E.P Tryz.link)(QZ:Eg.F 122)(Q0:Eg.F 162)
 (hf:E.F 121)(hfn:E.P.funcs[121]?=Jx fn)(hb:fn.body.isSome)(hres:fn.results=#[])(QW:¬ E.Ty 77)
 {f0:N2}{fn0:Func}{t0:Tmp}(UO:E.P.funcs[f0]?=Jx fn0)(QT:fn0.results=#[.tmp t0])(UN:E.P.inits.idxOf? f0=Ly)
 {ARGS:Array I3}{w0 W0:J1}{r0:Rel}(Og:Tw E 0 r0 (Kf E.P f0 args .normal) [] w0 (Kf E.P f0 ARGS .normal) [] W0)
 {ι:Type} {Pre:ι->Ln->List Ln->I3->I3->I3->Nat->J1->Prop} (hpre:Reach E.P (Bg E.P Pre) (Kf E.P f0 args .normal) [] w0)
 (OA:∀i c IL sv tv kv TB w,Pre i c IL sv tv kv TB w->(∀f∈c::IL,¬ E.Ty f.fn/\f.mode=.run)/\Pl sv)
 {X:ι->J1->gW->Prop}(hmid:∀i c IL sv tv kv TB w,Pre i c IL sv tv kv TB w->Reach E.P (Vd sv TB w (X i)) (Kf E.P 77 #[sv,tv,kv] .normal) [] w)
 {Kw:ι->J1->gW->N3->J1->Prop}(hR:∀i w2 d e w'',Kw i w2 d e w''->∃v,e=.returned v)
 (QS:∀i c IL sv tv kv TB w w2 d,Pre i c IL sv tv kv TB w->uN w w2 sv TB d->X i w2 d->∀t,Calls E.P 121 #[sv,d.sh] (az w2 t) (Kw i w2 d))
 (UI:∀i c IL sv tv kv TB w w2 d,Pre i c IL sv tv kv TB w->uN w w2 sv TB d->X i w2 d->∀v wE,Kw i w2 d (.returned v) wE->∀t,Reach E.P (AtRet (Qe f0 t0 w0)) (c.finish (.tuple #[])) IL (az wE t)) :
 EX E.P (Re W0) 0 (G (Kf E.P f0 ARGS .normal) []) W0:=by
 have A3:∀{l:List Ln},(∀f∈l,f.mode=.run)->¬ bY l:=by rintro l h ⟨f,h1,c,h2⟩;rw[h f h1] at h2;cases h2
 have:=EX.follow (R:=Re W0) (cs:=[]) hE hO hl Og hpre (λfr IC w hT=>?_) λfr IC w q r FR I1 W hT K8 Ke=>?_
 ·simpa using this
 ·obtain⟨ix,c,IL,sv,tv,kv,TB,o,l,k,rfl,rfl,rfl,hp⟩:=hT;have e:=enter_at (P:=E.P) #[sv,.slice (Jx ⟨TB,o,Ly⟩) l k,kv] hm.f77 rfl;have:=(OA _ _ _ _ _ _ _ _ hp).1;refine⟨rfl,?_,A3 λf hf=>?_⟩
  ·rw[e];rintro(⟨x,y,z,hx⟩|⟨x,y,z,u,hx,_⟩)<;>cases hx
  ·rcases List.mem_cons.1 hf with rfl|hf
   ·rfl
   ·exact(this f hf).2
 obtain⟨ix,c,IL,sv,tv,kv,TB,o,l,k,rfl,rfl,Bd,hp⟩:=hT;obtain⟨Ah,At⟩:=OA _ _ _ _ _ _ _ _ hp;obtain⟨p,ls,Af,As,rfl⟩:=K8.ex;have hd:=K8.diag;have hW:=K8.wr;have Bi:p=0:=Af.flat QW;have Aj:ls=0:=As.flat λf hf=>(Ah f hf).1;subst Bi Aj;have ht:∀(i:Nat) v,(#[sv,tv,kv]:Array I3)[i]?=Jx v->∃V,VR E r v V:=λi v hv=>by(have e:(Kf E.P 77 #[sv,tv,kv] .normal).tmps[i]?=Jx v:=by have e0:(Kf E.P 77 #[sv,tv,kv] .normal).tmps=#[sv,tv,kv]++Array.replicate (((E.P.funcs[77]?).map (·.ntmps)).getD 0-3) ID:=rfl;rw[e0,Array.getElem?_append_left (K1.1 hv).1];exact hv);(have Ae:i<FR.tmps.size:=by rw[<-Af.tmps.1];exact(K1.1 e).1);exact⟨FR.tmps[i],Af.tmps.2 i v _ e (by simp[Ae])⟩
 have Be:r TB TB:=by
  obtain⟨V,hV⟩:=ht 1 tv rfl;rw[Bd] at hV;cases hV with
  | slice _ _ h =>have h1:=h.1;have:=hd _ _ h1;rw[<-this] at h1;exact h1
 have Ay:VR E r sv sv:=by obtain⟨V,hV⟩:=ht 0 sv rfl;have:=hV.pl hd At;rw[this] at hV;exact hV
 have Am:Tw E 0 r (Kf E.P 77 #[sv,tv,kv] .normal) [] w FR [] W:=⟨⟨0,0,Af,.nil,rfl⟩,hW,⟨λx hx=>by simp at hx;subst hx;exact⟨rfl,trivial⟩,trivial⟩,hd,K8.size,K8.tape,K8.drawn⟩;have:=EX.follow (R:=Re W0) (cs:=I1) hE hO hl Am (hmid _ _ _ _ _ _ _ _ hp) (λfr IC w2 hT=>?_) λfr IC w2 q r2 Rm LY W2 hT MC K9=>?_
 ·simpa using this
 ·obtain⟨rfl,d,rfl,Bn,hx⟩:=hT;refine⟨rfl,?_,A3 λf hf=>?_⟩
  ·rintro(⟨x,y,z,hx⟩|⟨x,y,z,u,hx,hs⟩)
   ·cases hx
   ·cases hx;cases hs
  ·simp only[List.mem_singleton] at hf;subst hf;rfl
 obtain⟨rfl,d,rfl,ok,hx⟩:=hT;obtain⟨p2,B1,Ad,A9,rfl⟩:=MC.ex;have Bb:p2=0:=Ad.flat QW;have Al:B1=0:=A9.flat λf hf=>by cases hf
 have Bc:LY=[]:=by cases A9;rfl
 subst Bb Al Bc;have A7:=MC.diag;have Aa:=MC.wr;obtain⟨D,rfl,q1,q2,q3,q4,q5,q6,B6,B2,Ba,rD⟩:=zI A7 Ad;have Ar:WgAt 205 d.Wg W2 0 0:=Aa.pl A7 B6 ok.wg (by simp[Pl]);obtain⟨SV,B3,cS⟩:=tH Aa B2 ok.cS;have B0:SV=sv:=B3.pl A7 At;subst B0;obtain⟨SH,Ap,cH⟩:=tH Aa Ba ok.cH;have Bh:SH=d.sh:=Ap.pl A7 trivial;subst Bh;have Az:r2 d.SB d.SB:=by
  cases Ap with
  | slice _ _ h=>exact h.1
 obtain⟨C,hC,cD⟩:=ft Aa rD ok.cD;have hnil:∀j,d.i<j->j<d.n->C[j]?=Jx (.slice Ly 0 0):=λj h1 h2=>by
  have e:=ok.hnil j h1 h2;rcases hC.get j with⟨x1,x2⟩|⟨v,V,x1,x2,x3⟩
  ·rw[e] at x1;cases x1
  ·rw[e] at x1;cases x1;rw[x2,x3.pl A7 trivial]
 obtain⟨Bj,Bp,A4⟩:=FU hJ hd A7 K9.sub hW Aa MC.size Be ok Az;have A1:∀{b:Nat},ran (r.put d.SB d.SB) b->b<w.heap.size\/b=d.SB:=by
  rintro b ⟨a,ha|⟨_,rfl⟩⟩
  ·refine .inl ?_;have:=hd _ _ ha;subst this;exact(hW.low ha).1
  ·exact .inr rfl
 obtain⟨n1,n2,n3,n4,n5⟩:=ok.new;obtain⟨e1,e2,e3,e4,e5,e6,e7,e8,e9⟩:=ok.U2;rw[List.nil_append];refine Gv h ?_;rw[q1,q2,q3,q4,q5,q6];refine CY (Kw:=Kw ix w2 d) (TM:=SV) (shl:=d.sh) hE hS hO hl UX UZ gG gO hP h hm H QZ Q0 Ar cS cH cD ok.hi ok.hn hnil Bj (λx=>(A1 x).elim (λy=>by omega) λy=>e6 y.symm) (λx=>(A1 x).elim (λy=>by omega) λy=>e7 y.symm) (λx=>(A1 x).elim (λy=>by omega) λy=>e8 y.symm) (λx=>(A1 x).elim (λy=>by omega) λy=>e9 y.symm) e1 e2 e3 e4 e5 hf hfn hb hres ?_ (λe w''=>hR ix w2 d e w'') (λt=>QS _ _ _ _ _ _ _ _ _ _ hp ok hx t) λd' T' W' hT' Mg QY=>?_
 ·exact kQ λv hv=>by
   simp at hv;rcases hv with rfl|rfl
   ·exact Ay.mono A4
   ·exact .slice _ _ ⟨.inr ⟨rfl,rfl⟩,rfl,rfl⟩
 obtain⟨Bs,wE,r',B8,A5,Bm,⟨t,v,Bq,Bk,_,_,_⟩,_,B7⟩:=Mg;have Ag:=UI _ _ _ _ _ _ _ _ _ _ hp ok hx v _ Bk;have A6:Sub r r':=A4.trans B8;have z1:=Ke.size;have z2:=K9.size;have y0:=Og.size;have y1:=K8.size;have y2:=MC.size;have Br:=ok.size;have Bl:d.Wg<W2.heap.size:=(K1.1 Ar).1;obtain⟨l0,n0,C0,S0,rfl,Aw,Au⟩:=As.head;have Ax:l0=0:=Aw.flat (Ah c (by simp)).1;have B5:n0=0:=Au.flat λf hf=>(Ah f (by simp[hf])).1;subst Ax B5;refine Ht hm (yJ (Wz:=W0) (Sz:=ran r0) hE hS hO hl B7 (Wg:=d.Wg) ?_ ?_ (Aw.mono A6) (Au.mono A6) (vn K8.bot _) ?_ ?_ (Q:=Qe f0 t0 w0) (λfr w t hq=>hq) (λt'=>Ag t') ?_)
 ·rintro⟨b,hb⟩;rcases A5 b d.Wg hb with x|x
  ·exact(A1 ⟨b,x⟩).elim (λy=>by omega) λy=>e6 y.symm
  ·omega
 ·omega
 ·refine⟨by omega,λb hb hn=>?_,QY.tape.trans (K9.tape.trans Ke.tape),QY.out.trans (K9.out.1.trans Ke.out.1)⟩;(have Aq:∀a,¬ r a b:=λa ha=>(Ke.old a b ha).elim (λx=>hn ⟨a,x⟩) λx=>by omega);rw[QY.keep b (by rw[jZ];omega) ?_,gv (by omega) (by omega),K9.keep b (by omega) Aq,Ke.keep b hb λa ha=>hn ⟨a,ha⟩];rintro(x|(x|x)|x)
  ·omega
  ·obtain⟨a,ha|⟨_,rfl⟩⟩:=x
   ·exact Aq a ha
   ·omega
  ·rcases x with x|x|x|x<;>omega
  ·omega
 ·rintro b hb ⟨a,ha⟩;rcases A5 a b ha with x|x
  ·rcases x with x|⟨_,rfl⟩
   ·exact(Ke.old a b x).elim (λy=>⟨a,y⟩) λy=>by omega
   ·omega
  ·omega
 ·intro fr w' Bt FR Bo An A2 hQ B4 B9 A0 Ai;obtain⟨q1,q2,q3,q4,q5⟩:=hQ;have Av:=Ai.ok;(have A8:FR.mode=.returning:=by have:=A0.mode;rw[B4] at this;generalize FR.mode=x at this;cases this;rfl);(have Ak:FR.defers=[]:=by have:=A0.defers;rw[B9] at this;generalize FR.defers=x at this;cases this;rfl);(have Ao:FR.tmps.getD t0 ID=.bool L4:=by(have Ae:t0<fr.tmps.size:=by apply Classical.byContradiction;intro hn;rw[LN,Lz (Nat.not_lt.1 hn)] at q3;cases q3);(have Bf:fr.tmps[t0]?=Jx (.bool L4):=by rw[LN] at q3;rw[K2 Ae] at q3 ⊢;simpa using q3);(have Ac:t0<FR.tmps.size:=by rw[<-A0.tmps.1];exact Ae);have:=A0.tmps.2 t0 _ FR.tmps[t0] Bf (by simp[Ac]);generalize hz:FR.tmps[t0]=z at this;cases this;rw[LN,K2 Ac,hz];rfl);refine⟨.bool L4,?_,rfl,?_,A2.tape,A2.out,A2.size,λb hb=>?_⟩
  ·rw[<-Ao];have Ab:FR.fn=f0:=A0.fn.trans q1;exact yq (by rw[Ab];exact UO) QT (by rw[Ab];exact UN) A8 Ak (A0.kind.trans q2) _
  ·rw[Ai.os hl,q4,Og.wr.os hl]
  ·by_cases hbr:ran r0 b
   ·obtain⟨a,ha⟩:=hbr;obtain rfl:=Og.diag _ _ ha;exact WR.same hJ ((Ke.sub.trans A6).trans An) Og.wr Ai ha (q5 a (by omega))
   ·exact A2.keep b hb hbr
end
end Go.Proofs.Rn

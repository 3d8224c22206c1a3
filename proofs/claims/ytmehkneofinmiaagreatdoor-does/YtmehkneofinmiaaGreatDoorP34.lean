/-
 Texts of this proof, part 34.
-/
import Derived.Test.YtmehkneofinmiaaGreatDoorRows
import Derived.Test.YtmehkneofinmiaaGreatDoorP33
import Derived.OpenShut
import Derived.Conc.HoldsTime
import Derived.Deep.DeepHandedRow
set_option maxRecDepth 100000
set_option maxHeartbeats 2000000
namespace Go.Proofs.YtmehkneofinmiaaGreatDoor
open Go.ChangeShapes Go.WideShapes Go.ChangeAt Go.RowKit
theorem own:ownKnob Tryz.prog.godebug=none:=by kernel_rfl
theorem laidOut:laidOutB Tryz.prog=true:=by kernel_rfl
theorem gBru : Tryz.prog.globalNamed "math/bits.deBruijn64tab" = some 3 := by kernel_rfl
theorem gBruType:(Tryz.prog.globals[3]?).map (·.type)=some 346:=by kernel_rfl
theorem cellsBru:Tryz.prog.cellsOf 346=64:=by kernel_rfl
theorem cellsU8:Tryz.prog.cellsOf 5=1:=by kernel_rfl
theorem gPowN : Tryz.prog.globalNamed "internal/strconv.uint64pow10" = some 0 := by kernel_rfl
theorem gPowType:(Tryz.prog.globals[0]?).map (·.type)=some 293:=by kernel_rfl
theorem cellsPow:Tryz.prog.cellsOf 293=20:=by kernel_rfl
theorem cellsU64:Tryz.prog.cellsOf 240=1:=by kernel_rfl
def bruNs:List Int:=[0,1,56,2,57,49,28,3,61,58,42,50,38,29,17,4,62,47,59,36,45,43,51,22,53,39,33,30,24,18,12,5,63,55,48,27,60,41,37,16,46,35,44,21,52,32,23,11,54,26,40,15,34,20,31,10,25,14,19,9,13,8,7,6]
theorem bru_data:Rows.laid_math_bits_deBruijn64tab=(Lib.tabData .u8 bruNs:DataW Unit):=by kernel_rfl
theorem pow_data:Rows.laid_internal_strconv_uint64pow10=(Lib.tabData .u64 Lib.pow10Tab:DataW Unit):=by kernel_rfl
theorem maxIs {W:World}(h:W.ShapedOpen Tryz.prog):MaxIs W :=
 Go.Proofs.cell_of_shapedOpen_int (zero:=#[.int .i64 0]) (t:=3) h (of_decide_eq_true (by kernel_rfl)) (by kernel_rfl) rfl (by kernel_rfl) (by kernel_rfl) Tryz.underlying3
def laids : List (String × DataW Unit) := [("math/bits.deBruijn32tab", Rows.laid_math_bits_deBruijn32tab), ("math/bits.deBruijn64tab", Rows.laid_math_bits_deBruijn64tab), ("internal/strconv.uint64pow10", Rows.laid_internal_strconv_uint64pow10), ("unicode/utf8.acceptRanges", Rows.laid_unicode_utf8_acceptRanges), ("unicode.CaseRanges", Rows.laid_unicode_CaseRanges), ("unicode/utf8.first", Rows.laid_unicode_utf8_first)]
theorem tables {W:World}(h:laidMetH Tryz.prog laids W):Tbl W:=by
 have h':laidMet Tryz.prog laids W:=h
 obtain⟨ps,⟨_,_,_,_,_,_,_,_,_,_,t1,_⟩,_⟩:=h'
 obtain⟨_,_,_,_,_,_,_,_,_,_,t2,_⟩:=id t1
 obtain⟨g',t',cs,fuel,p,q,hg',ht',hvar,hd,_,_⟩:=t1
 obtain rfl:=Option.some.inj (gBru.symm.trans hg')
 obtain rfl:=Option.some.inj (gBruType.symm.trans ht')
 rw[bru_data] at hd
 have tab : Lib.TabIs Tryz.prog W "math/bits.deBruijn64tab" .u8 bruNs := by
  unfold Lib.TabIs
  rw[hvar,<- Lib.cells_of_tab Tryz.underlying346 Tryz.underlying5 cellsU8 cellsBru hd]
 obtain⟨g2,u2,cs2,fuel2,p2,q2,hg2,ht2,hvar2,hd2,_,_⟩:=t2
 obtain rfl:=Option.some.inj (gPowN.symm.trans hg2)
 obtain rfl:=Option.some.inj (gPowType.symm.trans ht2)
 rw[pow_data] at hd2
 have tab2 : Lib.TabIs Tryz.prog W "internal/strconv.uint64pow10" .u64 Lib.pow10Tab := by
  unfold Lib.TabIs
  rw[hvar2,<- Lib.cells_of_tab Tryz.underlying293 Tryz.underlying240 cellsU64 cellsPow hd2]
 exact⟨tab.cell gBru 15 (by decide),⟨tab2,World.block_lt_of_cell? _ _ (tab2.cell gPowN 0 (by decide))⟩⟩
end Go.Proofs.YtmehkneofinmiaaGreatDoor
namespace Go.Proofs.YtmehkneofinmiaaGreatDoor
open Go Go.Conc Go.ConcM
theorem good_of_calls {P:Program}{f:FuncId}{args:Array Value}{w:World}{R:Value->World->Prop}(h:Calls P f args w fun|.returned v,w'=>R v w'|_,_=>False)(hi:P.inits.idxOf? f=none) :
 ∃ M last o w' t',runNT P (M+1) (solo (G (Frame.enter P f args .normal) []) w) #[]=(.ended o w',t')/\runN P M (solo (G (Frame.enter P f args .normal) []) w)=.next last/\step P last=.ended o w'/\Conc.Good P R last o w' t':=by
 obtain⟨n,v,w',fr,hn,hend,hp⟩:=h.done_lone hi
 refine⟨n,lone fr [] w',.done v,w',(runNT P (n+1) (lone (Frame.enter P f args .normal) [] w) #[]).2,?_,hn,step_of_runs hn hend,v,rfl,hp,fun said=>(no_race_of_lone P n _ _ hn (by simp[lone]) rfl).2,handedOver_of_lone hn,⟨?_,rfl⟩,?_⟩
 ·refine Prod.ext ?_ rfl
  rw[runNT_fst]
  exact hend
 ·intro g hg
  simp[lone] at hg
 ·intro i g hg hi
  cases i with
  | zero=>exact absurd rfl hi
  | succ k=>simp[lone] at hg
end Go.Proofs.YtmehkneofinmiaaGreatDoor
namespace Go.Proofs.YtmehkneofinmiaaGreatDoor
open Go Go.Conc Go.ConcM
section
variable {H:Type} {enc:TypeId×Value->H}
theorem leaving_of_row {a:Assume}{C:Checked}{os:Os}{f:FuncId}{fn:Func}{s:ChangeSpec}{F:Stop.Interp}{conds:List PathCond}{apart fresh handsOn:Bool}{laid:List (String×DataW Unit)}
 (own:ownKnob C.prog.godebug=none)(started:os.Started)(noInit:C.prog.inits.idxOf? f=none)(hfn:C.prog.funcs[f]?=some fn)
 (witness:∃ (w:World) (tape:Tape) (i:Input),w.os=os/\(w.forCall tape i).Shaped C.prog/\i.vars=[]/\Input.okWide C.prog (w.forCall tape i) .any w.heap.size f i /\
   (OpenSpec.ofChange s).preRow enc C.prog fn conds apart laid (w.forCall tape i).memory i.args/\a.holds C.prog (lone (Frame.enter C.prog f i.args .normal) [] (w.forCall tape i)))
 (contract:∀ (W:World) (base:Nat) (args:Array Value) (ds gs:List (DataW H)) (before:List MemPlace),
   (∀ (j:Nat) t v,fn.params[j]?=some t->args[j]?=some v->Value.okWide C.prog W .any base t v) ->
   DataW.Whole enc C.prog fn.params.toList s.vars apart W args.toList ds gs before ->
   laidMetH C.prog laid W ->
   W.ShapedOpen C.prog ->
   Calls C.prog f args W fun e W'=>∃ v,e=.returned v/\s.post enc C.prog fn apart fresh handsOn false W args v W'/\W'.os=W.os) :
 ReturnsInLeavingWide a C os f .any ((OpenSpec.ofChange s).preRow enc C.prog fn conds apart laid) ((OpenSpec.ofChange s).postWith enc C.prog fn F (outsideKept [.timePasses]) apart fresh handsOn):=by
 refine returnsInLeavingWide_of_good own started witness ?_
 intro w tape i _ hsh _ hok hpre hholds
 obtain⟨_,_,_,fn',hfn',_,_,_,_,hval⟩:=hok
 have e:fn'=fn:=Option.some.inj (hfn'.symm.trans hfn)
 subst e
 obtain⟨⟨hp,hl⟩,hz⟩:=hpre
 obtain⟨ds,gs,before,hw,hc,hk⟩:=OpenSpec.pre_parts hp
 have hw':=DataW.Whole.of_heap (w':=w.forCall tape i) (by rfl) hw
 have hcall:=contract (w.forCall tape i) w.heap.size i.args ds gs before hval hw' (hl.of_heap (by rfl)) hsh
 obtain⟨M,last,o,w',t',h1,h2,h3,h4⟩:=good_of_calls (R:=fun v W'=>s.post enc C.prog fn' apart fresh handsOn false (w.forCall tape i) i.args v W'/\W'.os=(w.forCall tape i).os) (hcall.mono fun e W' ⟨v,he,hp⟩=>by subst he;exact hp) noInit
 obtain⟨v,e,hp,r1,r2,r3,r4⟩:=h4
 refine⟨M,last,o,w',t',h1,h2,h3,v,e,postWith_blind (postWith_of_post (?_:s.post enc C.prog fn' apart fresh handsOn false (w.forCall tape i) i.args v { w' with os:=(w.forCall tape i).os }) ?_),r1,r2,r3,r4⟩
 ·have e2:({ w' with os:=(w.forCall tape i).os }:World)=w':=by rw[<- hp.2]
  rw[e2]
  exact hp.1
 ·rw[hp.2]
  exact⟨0,rfl⟩
end
end Go.Proofs.YtmehkneofinmiaaGreatDoor
namespace Go.Proofs.YtmehkneofinmiaaGreatDoor
open Go.RowKit
theorem byteStr (x:World)(c:UInt8)(v:Int)(hv:v=(c.toNat:Int)):(convert 115 9 (.slice (some ⟨x.heap.size,0,none⟩) 1 1)).run Tryz.prog (x.alloc (.cells #[.int .u8 v] 5))=.ok (.string ⟨#[c]⟩) (x.alloc (.cells #[.int .u8 v] 5)):=by
 subst hv
 have:=run_convert_bytes_back (P:=Tryz.prog) (x.alloc (.cells #[.int .u8 (c.toNat:Int)] 5)) 115 9 5 ⟨x.heap.size,0,none⟩ 1 [c] Tryz.underlying115 Tryz.underlying5 Tryz.underlying9 (fun j hj=>by
  obtain rfl:j=0:=by simpa using hj
  rw[Go.WideShapes.add_plain]
  simp)
 simpa using this
theorem refBytes_any (n k:Nat)(w:World)(hn:n<4611686018427387904)(hk:k<=8):Calls Tryz.prog 163 #[.int .i64 n,.int .i64 k] w fun e w'=>e=.returned (.string ⟨(be n k).toArray⟩)/\Below w.heap.size w w':=by
 go_enter Tryz.func163,Tryz.ntmps163
 go_wp2
 go_loopw [0,5,6] (fun nv ov iv wr=>∃ i:Nat,i<=k/\iv=.int .i64 i/\nv=.int .i64 (n/256 ^ i:Nat)/\ov=.string ⟨(be n i).toArray⟩/\Below w.heap.size w wr) (fun _ _ iv _=>k-(intOf iv).toNat)
 case atStart=>exact⟨0,Nat.zero_le _,rfl,by simp,rfl,Below.refl _ _⟩
 case round =>
  obtain⟨i,hi,rfl,rfl,rfl,hb⟩:=hrel
  have HB:Hid _:=hb
  clear hb
  by_cases hik:i<k
  ·have hiI:(i:Int)<(k:Int):=by omega
   have hln:=be_len n i
   have hsz:(⟨(be n i).toArray⟩:ByteArray).size=i:=by rw[Lib.size_eq];exact hln
   have HM:Hid (n/256 ^ (i+1)=n/256 ^ i/256):=by show _=_;rw[Nat.div_div_eq_div_mul,Nat.pow_succ]
   have hml:n/256 ^ i<=n:=Nat.div_le_self _ _
   have HBE:Hid (be n (i+1)=UInt8.ofNat (n/256 ^ i%256)::be n i):=rfl
   obtain⟨m,hm⟩:∃ m,n/256 ^ i=m:=⟨_,rfl⟩
   rw[hm] at HM hml HBE ⊢
   clear hm
   have hbs:=byteStr wr (UInt8.ofNat (m%256)) ((m:Int)%256) (by simp)
   go_wp2_with fail
   refine⟨⟨i+1,by omega,by go_num,?_,?_,HB.out.trans (((Below.refl _ _).alloc (Nat.le_refl _) _).mono HB.out.size)⟩,by simp[intOf];omega⟩
   ·rw[HM.out]
    go_num
   ·rw[HBE.out]
    exact congrArg Value.string (by apply ByteArray.ext;simp[ByteArray.data_append])
  ·obtain rfl:i=k:=by omega
   go_wp2
   go_ret
   exact⟨rfl,HB.out⟩
end Go.Proofs.YtmehkneofinmiaaGreatDoor
namespace Go.Proofs.YtmehkneofinmiaaGreatDoor
def val4 (h:Nat->Nat):Nat:=h 0+h 1*65536+h 2*4294967296+h 3*281474976710656
def pt:Nat->Nat
 | 0=>435
 | 2=>256
 | _=>0
theorem xor_low (q r b:Nat)(hr:r<256)(hb:b<256):(256*q+r) ^^^ b=256*q+(r ^^^ b):=by
 have hx:r ^^^ b<2 ^ 8:=Nat.xor_lt_two_pow (n:=8) hr hb
 apply Nat.eq_of_testBit_eq
 intro i
 rw[show (256:Nat)=2 ^ 8 from rfl,Nat.testBit_xor,Nat.testBit_two_pow_mul_add _ (show r<2 ^ 8 from hr),Nat.testBit_two_pow_mul_add _ hx]
 split
 ·rw[Nat.testBit_xor]
 ·have:b.testBit i=false:=Nat.testBit_lt_two_pow (Nat.lt_of_lt_of_le hb (Nat.pow_le_pow_right (n:=2) (by decide) (show 8<=i by omega)))
  rw[this]
  simp
def nAt (h:Nat->Nat):Nat->Nat->Nat->Nat
 | 0,b,i=>if i<b then h 0*pt i else 0
 | a+1,b,i=>nAt h a (4-a) i+(if a+1<=i/\i-(a+1)<b then h (a+1)*pt (i-(a+1)) else 0)
theorem nAt_step (h:Nat->Nat)(a b i:Nat):nAt h a (b+1) i=nAt h a b i+(if i=a+b then h a*pt b else 0):=by
 cases a with
 | zero =>
   simp only[nAt]
   by_cases e:i=0+b
   ·rw[if_pos e,if_pos (by omega),if_neg (by omega),show i=b by omega]
    simp
   ·rw[if_neg e]
    by_cases e2:i<b
    ·rw[if_pos e2,if_pos (by omega)]
     simp
    ·rw[if_neg e2,if_neg (by omega)]
 | succ a =>
   simp only[nAt]
   by_cases e:i=a+1+b
   ·rw[if_pos e,if_pos (by omega),if_neg (by omega),show i-(a+1)=b by omega]
    omega
   ·rw[if_neg e]
    by_cases e2:a+1<=i/\i-(a+1)<b
    ·rw[if_pos e2,if_pos (by omega)]
     simp
    ·rw[if_neg e2,if_neg (by omega)]
theorem nAt_next (h:Nat->Nat)(a b i:Nat)(hb:a+b=4):nAt h (a+1) 0 i=nAt h a b i:=by
 rw[nAt,show 4-a=b by omega,if_neg (by omega)]
 simp
theorem nAt_start (h:Nat->Nat)(i:Nat):nAt h 0 0 i=0:=by rw[nAt,if_neg (by omega)]
theorem nAt_end (h:Nat->Nat):nAt h 3 1 0=h 0*435/\nAt h 3 1 1=h 1*435/\nAt h 3 1 2=h 0*256+h 2*435/\nAt h 3 1 3=h 1*256+h 3*435:=by
 refine⟨?_,?_,?_,?_⟩<;>simp[nAt,pt]
theorem nAt_le (h:Nat->Nat)(hh:∀ i,h i<65536)(a b i:Nat)(ha:a<4):nAt h a b i<=(a+1)*28507725:=by
 have hp:∀ (x j:Nat),h x*pt j<=28507725:=fun x j=>by
  have h1:=hh x
  have h2:pt j<=435:=by
   unfold pt
   split<;>omega
  have h3:h x*pt j<=65535*435:=Nat.mul_le_mul (by omega) h2
  omega
 induction a generalizing b with
 | zero =>
   simp only[nAt]
   split
   ·have:=hp 0 i;omega
   ·omega
 | succ a ih =>
   have:=ih (4-a) (by omega)
   simp only[nAt]
   split
   ·have h4:=hp (a+1) (i-(a+1))
    rw[Nat.add_mul (a+1) 1,Nat.one_mul]
    exact Nat.add_le_add this h4
   ·rw[Nat.add_zero]
    exact Nat.le_trans this (Nat.mul_le_mul_right _ (by omega))
theorem carried (h n g:Nat->Nat)(c1 c2 c3 c4:Nat)(hn0:n 0=h 0*435)(hn1:n 1=h 1*435)(hn2:n 2=h 0*256+h 2*435)(hn3:n 3=h 1*256+h 3*435)
 (e0:g 0+c1*65536=n 0)(e1:g 1+c2*65536=n 1+c1)(e2:g 2+c3*65536=n 2+c2)(e3:g 3+c4*65536=n 3+c3)(hg:∀ i,g i<65536) :
 val4 g=val4 h*1099511628211%18446744073709551616:=by
 have g0:=hg 0
 have g1:=hg 1
 have g2:=hg 2
 have g3:=hg 3
 unfold val4
 omega
theorem hexN_val (h:Nat->Nat)(hh:∀ i,h i<65536):hexN 16 (val4 h)=hexN 4 (h 3)++(hexN 4 (h 2)++(hexN 4 (h 1)++hexN 4 (h 0))):=by
 have g0:=hh 0
 have g1:=hh 1
 have g2:=hh 2
 have g3:=hh 3
 have e:∀ u,hexN 4 u=hexN 0 (u/65536)++hexN 4 (u%65536):=hexN_split 0
 rw[show (16:Nat)=12+4 from rfl,hexN_split 12,show (12:Nat)=8+4 from rfl,hexN_split 8,show (8:Nat)=4+4 from rfl,hexN_split 4]
 have v0:val4 h%65536=h 0:=by unfold val4;omega
 have v1:val4 h/65536%65536=h 1:=by unfold val4;omega
 have v2:val4 h/65536/65536%65536=h 2:=by unfold val4;omega
 have v3:val4 h/65536/65536/65536=h 3:=by unfold val4;omega
 rw[v0,v1,v2,v3]
 simp
end Go.Proofs.YtmehkneofinmiaaGreatDoor
namespace Go.Proofs.YtmehkneofinmiaaGreatDoor
open Go.RowKit
structure Hv (w x:World)(h:Nat->Nat):Prop where
 b:Below w.heap.size w x
 hc:∀ i,i<4->x.cell? ⟨w.heap.size,i,none⟩=some (.int .i64 (h i:Int))
 hf:∀ i,i<4->x.frozen? ⟨w.heap.size,i,none⟩=false
 pc:∀ i,i<4->x.cell? ⟨w.heap.size+1,i,none⟩=some (.int .i64 (pt i:Int))
 lt:w.heap.size+1<x.heap.size
theorem Hv.below {w x y:World}{h:Nat->Nat}(v:Hv w x h)(hb:Below x.heap.size x y):Hv w y h:=by
 have lt:=v.lt
 have l2:w.heap.size<x.heap.size:=by omega
 exact⟨v.b.trans (hb.mono v.b.size),fun i hi=>(hb.cell (p:=⟨_,i,none⟩) l2).trans (v.hc i hi),fun i hi=>(hb.frozen (p:=⟨_,i,none⟩) l2).trans (v.hf i hi),fun i hi=>(hb.cell (p:=⟨_,i,none⟩) lt).trans (v.pc i hi),by have:=hb.size;omega⟩
theorem Hv.set {w x:World}{h:Nat->Nat}(v:Hv w x h)(i n:Nat)(hi:i<4):Hv w (x.setCell ⟨w.heap.size,i,none⟩ (.int .i64 (n:Int))) (fun j=>if j=i then n else h j):=by
 have same:=World.cell?_setCell_same x ⟨w.heap.size,i,none⟩ (.int .i64 (n:Int)) (v.hc i hi)
 refine⟨v.b.setCell (Nat.le_refl _) _,fun j hj=>?_,fun j hj=>?_,fun j hj=>?_,by simpa [World.setCell] using v.lt⟩
 ·by_cases e:j=i
  ·subst e
   rw[same,if_pos rfl]
  ·rw[World.cell?_setCell_other _ _ _ _ (by intro q;injection q;omega),v.hc j hj,if_neg e]
 ·rw[World.frozen?_setCell]
  exact v.hf j hj
 ·rw[World.cell?_setCell_other _ _ _ _ (by intro q;injection q;omega),v.pc j hj]
theorem Hv.drew {w x:World}{h:Nat->Nat}(v:Hv w x h):Hv w x.drew h:=⟨v.b.drew,v.hc,v.hf,v.pc,v.lt⟩
theorem Hv.congr {w x:World}{h g:Nat->Nat}(v:Hv w x h)(e:∀ i,i<4->h i=g i):Hv w x g:=⟨v.b,fun i hi=>by rw[v.hc i hi,e i hi],v.hf,v.pc,v.lt⟩
structure Nv (w x:World)(h:Nat->Nat)(g:Nat)(n:Nat->Nat):Prop where
 v:Hv w x h
 nc:∀ i,i<4->x.cell? ⟨g,i,none⟩=some (.int .i64 (n i:Int))
 nf:∀ i,i<4->x.frozen? ⟨g,i,none⟩=false
 gl:w.heap.size+1<g
 lt:g<x.heap.size
theorem Nv.set {w x:World}{h n:Nat->Nat}{g:Nat}(v:Nv w x h g n)(i z:Nat)(hi:i<4):Nv w (x.setCell ⟨g,i,none⟩ (.int .i64 (z:Int))) h g (fun j=>if j=i then z else n j):=by
 have same:=World.cell?_setCell_same x ⟨g,i,none⟩ (.int .i64 (z:Int)) (v.nc i hi)
 have gl:=v.gl
 have ob:∀ (b o:Nat),b≠g->(x.setCell ⟨g,i,none⟩ (.int .i64 (z:Int))).cell? ⟨b,o,none⟩=x.cell? ⟨b,o,none⟩:=fun b o hb=>World.cell?_setCell_other _ _ _ _ (by intro q;injection q;omega)
 refine⟨⟨v.v.b.setCell (by show w.heap.size<=g;omega) _,fun j hj=>?_,fun j hj=>?_,fun j hj=>?_,by simpa [World.setCell] using v.v.lt⟩,fun j hj=>?_,fun j hj=>?_,gl,by simpa [World.setCell] using v.lt⟩
 ·rw[ob _ _ (by omega)];exact v.v.hc j hj
 ·rw[World.frozen?_setCell];exact v.v.hf j hj
 ·rw[ob _ _ (by omega)];exact v.v.pc j hj
 ·by_cases e:j=i
  ·subst e
   rw[same,if_pos rfl]
  ·rw[World.cell?_setCell_other _ _ _ _ (by intro q;injection q;omega),v.nc j hj,if_neg e]
 ·rw[World.frozen?_setCell];exact v.nf j hj
theorem Nv.drew {w x:World}{h n:Nat->Nat}{g:Nat}(v:Nv w x h g n):Nv w x.drew h g n:=⟨v.v.drew,v.nc,v.nf,v.gl,v.lt⟩
theorem Nv.congr {w x:World}{h n m:Nat->Nat}{g:Nat}(v:Nv w x h g n)(e:∀ i,i<4->n i=m i):Nv w x h g m:=⟨v.v,fun i hi=>by rw[v.nc i hi,e i hi],v.nf,v.gl,v.lt⟩
theorem Nv.setH {w x:World}{h n:Nat->Nat}{g:Nat}(v:Nv w x h g n)(i z:Nat)(hi:i<4):Nv w (x.setCell ⟨w.heap.size,i,none⟩ (.int .i64 (z:Int))) (fun j=>if j=i then z else h j) g n:=by
 have gl:=v.gl
 refine⟨v.v.set i z hi,fun j hj=>?_,fun j hj=>?_,gl,by simpa [World.setCell] using v.lt⟩
 ·rw[World.cell?_setCell_other _ _ _ _ (by intro q;injection q;omega)];exact v.nc j hj
 ·rw[World.frozen?_setCell];exact v.nf j hj
theorem i64_xor_nat (a b:Nat)(ha:a<256)(hb:b<256):bits .xor .i64 (a:Int) (b:Int)=((a ^^^ b:Nat):Int):=by
 have hx:a ^^^ b<2 ^ 8:=Nat.xor_lt_two_pow (n:=8) ha hb
 have h1:(BitVec.ofInt 64 (a:Int)).toNat=a:=by
  rw[BitVec.ofInt_natCast,BitVec.toNat_ofNat];exact Nat.mod_eq_of_lt (by omega)
 have h2:(BitVec.ofInt 64 (b:Int)).toNat=b:=by
  rw[BitVec.ofInt_natCast,BitVec.toNat_ofNat];exact Nat.mod_eq_of_lt (by omega)
 show IntKind.i64.wrap ((BitVec.ofInt 64 (a:Int) ^^^ BitVec.ofInt 64 (b:Int)).toNat:Int)=_
 rw[BitVec.toNat_xor,h1,h2,IntKind.wrap_i64]
 omega
theorem xor_val (H:Nat)(c:UInt8)(h:H<65536):wrap64 ((H:Int)-(H:Int)%256+bits .xor .i64 ((H:Int)%256) (wrap64 (c.toNat:Int)))=((H ^^^ c.toNat:Nat):Int)/\H ^^^ c.toNat<65536:=by
 have hc:=c.toNat_lt
 have e1:wrap64 (c.toNat:Int)=(c.toNat:Int):=by unfold wrap64;omega
 have e2:(H:Int)%256=((H%256:Nat):Int):=by omega
 have hx:H%256 ^^^ c.toNat<2 ^ 8:=Nat.xor_lt_two_pow (n:=8) (by omega) (by omega)
 have e3:=xor_low (H/256) (H%256) c.toNat (by omega) (by omega)
 rw[Nat.div_add_mod] at e3
 rw[e1,e2,i64_xor_nat _ _ (by omega) (by omega),e3]
 unfold wrap64
 omega
theorem Nv.made {w x:World}{h:Nat->Nat}(v:Hv w x h):Nv w (x.alloc (.cells #[.int .i64 0,.int .i64 0,.int .i64 0,.int .i64 0] 263)) h x.heap.size (nAt h 0 0):=by
 refine⟨v.below ((Below.refl _ _).alloc (Nat.le_refl _) _),fun i hi=>?_,fun i hi=>?_,v.lt,by simp⟩
 ·rw[nAt_start]
  rcases (by omega:i=0\/i=1\/i=2\/i=3) with rfl|rfl|rfl|rfl<;>simp
 ·rcases (by omega:i=0\/i=1\/i=2\/i=3) with rfl|rfl|rfl|rfl<;>simp
def cr (n:Nat->Nat):Nat->Nat
 | 0=>0
 | a+1=>(n a+cr n a)/65536
def gp (n:Nat->Nat)(a:Nat):Nat:=(n a+cr n a)%65536
theorem gp_lt (n:Nat->Nat)(a:Nat):gp n a<65536:=by unfold gp;omega
theorem cr_le (n:Nat->Nat)(hn:∀ i,n i<=114030900)(a:Nat):cr n a<=2000:=by
 induction a with
 | zero=>simp[cr]
 | succ a ih =>
   have:=hn a
   simp only[cr]
   omega
theorem product (h:Nat->Nat):val4 (gp (nAt h 3 1))=val4 h*1099511628211%18446744073709551616:=by
 obtain⟨e0,e1,e2,e3⟩:=nAt_end h
 refine carried h (nAt h 3 1) (gp (nAt h 3 1)) (cr (nAt h 3 1) 1) (cr (nAt h 3 1) 2) (cr (nAt h 3 1) 3) (cr (nAt h 3 1) 4) e0 e1 e2 e3 ?_ ?_ ?_ ?_ (gp_lt _)
 ·show (nAt h 3 1 0+0)%65536+(nAt h 3 1 0+0)/65536*65536=_
  omega
 ·show (nAt h 3 1 1+cr (nAt h 3 1) 1)%65536+(nAt h 3 1 1+cr (nAt h 3 1) 1)/65536*65536=_
  omega
 ·show (nAt h 3 1 2+cr (nAt h 3 1) 2)%65536+(nAt h 3 1 2+cr (nAt h 3 1) 2)/65536*65536=_
  omega
 ·show (nAt h 3 1 3+cr (nAt h 3 1) 3)%65536+(nAt h 3 1 3+cr (nAt h 3 1) 3)/65536*65536=_
  omega
theorem val4_xor (h:Nat->Nat)(c:UInt8)(X:Nat)(hX:h 0 ^^^ c.toNat=X):val4 (fun j=>if j=0 then X else h j)=val4 h ^^^ c.toNat:=by
 have hc:=c.toNat_lt
 have e1:=xor_low (h 0/256) (h 0%256) c.toNat (by omega) (by omega)
 rw[Nat.div_add_mod,hX] at e1
 have e2:=xor_low (h 0/256+h 1*256+h 2*16777216+h 3*1099511627776) (h 0%256) c.toNat (by omega) (by omega)
 have e3:256*(h 0/256+h 1*256+h 2*16777216+h 3*1099511627776)+h 0%256=val4 h:=by unfold val4;omega
 rw[e3] at e2
 rw[e2,e1]
 show (256*(h 0/256)+(h 0%256 ^^^ c.toNat))+h 1*65536+h 2*4294967296+h 3*281474976710656=_
 generalize h 0%256 ^^^ c.toNat=y
 omega
def hz:Nat->Nat
 | 0=>8997
 | 1=>33826
 | 2=>40164
 | 3=>52210
 | _=>0
theorem hz_lt (i:Nat):hz i<65536:=by
 unfold hz
 split<;>omega
theorem hz_val:val4 hz=fnv []:=by
 unfold val4 hz fnv
 rfl
theorem Hv.made (w:World):Hv w ((w.alloc (.cells #[.int .i64 8997,.int .i64 33826,.int .i64 40164,.int .i64 52210] 263)).alloc (.cells #[.int .i64 435,.int .i64 0,.int .i64 256,.int .i64 0] 263)) hz:=by
 refine⟨((Below.refl _ _).alloc (Nat.le_refl _) _).alloc (by simp) _,fun i hi=>?_,fun i hi=>?_,fun i hi=>?_,by simp⟩
 ·rcases (by omega:i=0\/i=1\/i=2\/i=3) with rfl|rfl|rfl|rfl<;>simp[hz]
 ·rcases (by omega:i=0\/i=1\/i=2\/i=3) with rfl|rfl|rfl|rfl<;>simp
 ·rcases (by omega:i=0\/i=1\/i=2\/i=3) with rfl|rfl|rfl|rfl<;>simp[pt]
def outs (h:Nat->Nat):Nat->List UInt8
 | 0=>[]
 | j+1=>outs h j++hexN 4 (h (3-j))
theorem outs_len (h:Nat->Nat)(j:Nat):(outs h j).length=4*j:=by
 induction j with
 | zero=>rfl
 | succ j ih =>
   rw[outs,List.length_append,ih,hexN_len]
   omega
theorem hex4_take (u m:Nat)(hm:m<4):(hexN 4 u).take (m+1)=(hexN 4 u).take m++[hexD (u/(4096/16 ^ m)%16)]:=by
 have e:hexN 4 u=[hexD (u/4096%16),hexD (u/256%16),hexD (u/16%16),hexD (u%16)]:=by
  show ((([]++[hexD (u/16/16/16%16)])++[hexD (u/16/16%16)])++[hexD (u/16%16)])++[hexD (u%16)]=_
  rw[show u/16/16/16=u/4096 by omega,show u/16/16=u/256 by omega]
  rfl
 rw[e]
 rcases (by omega:m=0\/m=1\/m=2\/m=3) with rfl|rfl|rfl|rfl
 ·rfl
 ·rfl
 ·rfl
 ·show _=[_,_,_]++[hexD (u/1%16)]
  rw[Nat.div_one]
  rfl
def hexs:ByteArray:=⟨#[48,49,50,51,52,53,54,55,56,57,97,98,99,100,101,102]⟩
theorem hexs_at:∀ k:Fin 16,(hexs.data.toList.drop k.val).take 1=[hexD k.val]:=by decide
theorem hex_step (O O2:List UInt8)(u m d:Nat)(hd:d<16)(e:d=u/(4096/16 ^ m)%16)(hm:m<4)(hO2:O++(hexN 4 u).take m=O2) :
 Value.string ((⟨O2.toArray⟩:ByteArray)++hexs.extract d (d+1))=.string ⟨(O++(hexN 4 u).take (m+1)).toArray⟩:=by
 rw[Lib.extract_eq,show d+1-d=1 by omega,hexs_at ⟨d,hd⟩,hex4_take u m hm,<- List.append_assoc,hO2,<- e]
 refine congrArg Value.string ?_
 apply ByteArray.ext
 simp[ByteArray.data_append]
theorem refTag (s:ByteArray)(w:World)(hs:s.size<=9223372036854775807):Calls Tryz.prog 115 #[.string s] w fun e w'=>e=.returned (.string ⟨(hexN 16 (fnv s.data.toList)).toArray⟩)/\Below w.heap.size w w':=by
 go_enter Tryz.func115,Tryz.ntmps115
 go_wp2
 go_loopw [5] (fun i wr=>∃ (k:Nat) (h:Nat->Nat),k<=s.size/\i=.int .i64 k/\(∀ i,h i<65536)/\Hid (val4 h=fnv (s.data.toList.take k))/\Hv w wr h) (fun i _=>s.size-(intOf i).toNat)
 case atStart=>exact⟨0,hz,Nat.zero_le _,rfl,hz_lt,hz_val,Hv.made w⟩
 case round =>
  obtain⟨k,h,hk,rfl,hh,hv,hw⟩:=hrel
  by_cases hlt:k<s.size
  ·have h0:=hh 0
   have c0:=hw.hc 0 (by omega)
   have f0:=hw.hf 0 (by omega)
   obtain⟨H0,hH0⟩:∃ H0,h 0=H0:=⟨_,rfl⟩
   rw[hH0] at h0 c0
   go_wp2
   go_region
   obtain⟨hX,hX1⟩:=xor_val H0 s[k] h0
   rw[hX]
   obtain⟨X,hXe⟩:∃ X,H0 ^^^ s[k].toNat=X:=⟨_,rfl⟩
   rw[hXe] at hX1 ⊢
   obtain⟨w1,hw1⟩:∃ w1,w1=(wr.setCell ⟨w.heap.size,0,none⟩ (.int .i64 (X:Int))).drew:=⟨_,rfl⟩
   have hv1:Hv w w1 (fun j=>if j=0 then X else h j):=by rw[hw1];exact (hw.set 0 X (by omega)).drew
   rw[<- hw1]
   obtain⟨h1,hh1⟩:∃ h1,h1=(fun j=>if j=0 then X else h j):=⟨_,rfl⟩
   rw[<- hh1] at hv1
   have hb1:∀ i,h1 i<65536:=by
    intro i
    rw[hh1]
    show (if i=0 then X else h i)<65536
    split
    ·exact hX1
    ·exact hh i
   clear hw1 hX c0 f0
   have nv0:=Nv.made hv1
   go_wp2
   go_loopw [8] (fun a wz=>∃ a':Nat,a'<=4/\a=.int .i64 a'/\Nv w wz h1 w1.heap.size (nAt h1 a' 0)) (fun a _=>4-(intOf a).toNat)
   case atStart=>exact⟨0,by omega,rfl,nv0⟩
   case round =>
    obtain⟨a,ha,rfl,nva⟩:=hrel
    by_cases ha4:a<4
    ·go_wp2
     go_loopw [9] (fun b wz=>∃ b':Nat,a+b'<=4/\b=.int .i64 b'/\Nv w wz h1 w1.heap.size (nAt h1 a b')) (fun b _=>4-(intOf b).toNat)
     case atStart=>exact⟨0,by omega,rfl,nva⟩
     case round =>
      obtain⟨b,hab,rfl,nvb⟩:=hrel
      by_cases hab4:a+b<4
      ·have c1:=nvb.nc (a+b) hab4
       have f1:=nvb.nf (a+b) hab4
       have c2:=nvb.v.hc a ha4
       have c3:=nvb.v.pc b (by omega)
       have l1:=nAt_le h1 hb1 a b (a+b) ha4
       have l2:=hb1 a
       have l3:pt b<=435:=by unfold pt;split<;>omega
       have l4:h1 a*pt b<=65535*435:=Nat.mul_le_mul (by omega) l3
       obtain⟨N1,hN1⟩:∃ N1,nAt h1 a b (a+b)=N1:=⟨_,rfl⟩
       obtain⟨A1,hA1⟩:∃ A1,h1 a=A1:=⟨_,rfl⟩
       obtain⟨P1,hP1⟩:∃ P1,pt b=P1:=⟨_,rfl⟩
       rw[hN1] at c1 l1
       rw[hA1] at c2 l2 l4
       rw[hP1] at c3 l3 l4
       have l5:(A1:Int)*(P1:Int)<=28507725:=by
        have:((A1*P1:Nat):Int)<=((65535*435:Nat):Int):=Int.ofNat_le.2 l4
        simpa using this
       have l6:0<=(A1:Int)*(P1:Int):=Int.mul_nonneg (by omega) (by omega)
       have l7:(N1:Int)<=114030900:=by omega
       go_wp2
       go_region
       rw[show (N1:Int)+(A1:Int)*(P1:Int)=((N1+A1*P1:Nat):Int) by simp]
       obtain⟨w2,hw2⟩:∃ w2,w2=(wr.setCell ⟨w1.heap.size,a+b,none⟩ (.int .i64 ((N1+A1*P1:Nat):Int))).drew:=⟨_,rfl⟩
       have nv2:Nv w w2 h1 w1.heap.size (nAt h1 a (b+1)):=by
        rw[hw2]
        refine ((nvb.set (a+b) (N1+A1*P1) hab4).drew).congr (fun i _=>?_)
        rw[nAt_step]
        by_cases e:i=a+b
        ·rw[if_pos e,if_pos e,e,hN1,hA1,hP1]
        ·rw[if_neg e,if_neg e,Nat.add_zero]
       rw[<- hw2]
       clear hw2 c1 c2 c3 f1 l1 l4 l5 l6 l7
       go_wp2
       exact⟨⟨b+1,by omega,by go_num,nv2⟩,by simp[intOf];omega⟩
      ·go_wp2
       exact⟨⟨a+1,by omega,by go_num,nvb.congr (fun i _=>(nAt_next h1 a b i (by omega)).symm)⟩,by simp[intOf];omega⟩
    ·have nvE:Nv w wr h1 w1.heap.size (nAt h1 3 1):=nva.congr (fun i _=>by rw[show a=3+1 by omega];exact nAt_next h1 3 1 i rfl)
     have hnn:∀ i,nAt h1 3 1 i<=114030900:=fun i=>nAt_le h1 hb1 3 1 i (by omega)
     have HV:Hid (val4 (gp (nAt h1 3 1))=fnv (s.data.toList.take (k+1))):=by
      show _=_
      rw[product,take_snoc s k hlt,fnv_snoc,<- hv.out,hh1,val4_xor h s[k] X (by rw[hH0];exact hXe)]
      rfl
     obtain⟨n,hn⟩:∃ n,nAt h1 3 1=n:=⟨_,rfl⟩
     rw[hn] at nvE hnn HV
     clear nva nv0 hv1
     go_wp2
     go_loopw [10,11] (fun c a wz=>∃ a':Nat,a'<=4/\c=.int .i64 ((cr n a':Nat):Int)/\a=.int .i64 a'/\Nv w wz (fun i=>if i<a' then gp n i else h1 i) w1.heap.size n) (fun _ a _=>4-(intOf a).toNat)
     case atStart=>exact⟨0,by omega,rfl,rfl,by simpa using nvE⟩
     case round =>
      obtain⟨a2,ha2,rfl,rfl,nvc⟩:=hrel
      by_cases ha24:a2<4
      ·have c1:=nvc.nc a2 ha24
       have c2:=nvc.v.hc a2 ha24
       have f2:=nvc.v.hf a2 ha24
       have l1:=hnn a2
       have l2:=cr_le n hnn a2
       have HC:Hid (cr n (a2+1)=(n a2+cr n a2)/65536/\gp n a2=(n a2+cr n a2)%65536):=⟨rfl,rfl⟩
       have HS:Hid _:=fun z=>nvc.setH a2 z ha24
       obtain⟨N2,hN2⟩:∃ N2,n a2=N2:=⟨_,rfl⟩
       obtain⟨C2,hC2⟩:∃ C2,cr n a2=C2:=⟨_,rfl⟩
       rw[hN2,hC2] at HC
       rw[hN2] at c1 l1
       rw[hC2] at l2 ⊢
       obtain⟨V,hV⟩:∃ V:Int,((if a2<a2 then gp n a2 else h1 a2:Nat):Int)=V:=⟨_,rfl⟩
       rw[hV] at c2
       go_wp2
       refine⟨⟨a2+1,by omega,?_,by go_num,?_⟩,by simp[intOf];omega⟩
       ·rw[HC.out.1]
        congr 1
       ·rw[show ((N2:Int)+(C2:Int))%65536=((gp n a2:Nat):Int) by rw[HC.out.2];omega]
        have:=HS.out (gp n a2)
        rw[show (fun j=>if j=a2 then gp n a2 else (if j<a2 then gp n j else h1 j))=(fun i=>if i<a2+1 then gp n i else h1 i) from ?_] at this
        ·exact this
        ·funext j
         by_cases e:j=a2
         ·rw[if_pos e,if_pos (by omega),e]
         ·rw[if_neg e]
          by_cases e2:j<a2
          ·rw[if_pos e2,if_pos (by omega)]
          ·rw[if_neg e2,if_neg (by omega)]
      ·go_wp2
       exact⟨⟨k+1,gp n,by omega,by go_num,gp_lt n,HV.out,nvc.v.congr (fun i hi=>if_pos (by omega))⟩,by simp[intOf];omega⟩
  ·obtain rfl:k=s.size:=by omega
   rw[List.take_of_length_le (by rw[Lib.size_eq];exact Nat.le_refl _)] at hv
   have HO:Hid (hexN 16 (fnv s.data.toList)=outs h 4):=by
    show _=_
    rw[<- hv.out,hexN_val h hh]
    simp[outs]
   have hbw:=hw.b
   go_wp2
   go_loop [13,14] (fun out a=>∃ j:Nat,j<=4/\out=.string ⟨(outs h j).toArray⟩/\a=.int .i64 (3-(j:Int))) (fun _ a=>(intOf a+1).toNat)
   case atStart=>exact⟨0,by omega,rfl,rfl⟩
   case round =>
    obtain⟨j,hj,rfl,rfl⟩:=hrel
    by_cases hj4:j<4
    ·have c1:=hw.hc (3-j) (by omega)
     have l1:=hh (3-j)
     have HN:Hid (outs h (j+1)=outs h j++hexN 4 (h (3-j))):=rfl
     obtain⟨u,hu⟩:∃ u,h (3-j)=u:=⟨_,rfl⟩
     rw[hu] at c1 l1 HN
     obtain⟨q,hq⟩:∃ q:Nat,3-j=q:=⟨_,rfl⟩
     rw[show (3:Int)-(j:Int)=(q:Int) by omega]
     rw[hq] at c1
     have hol:=outs_len h j
     obtain⟨O,hO⟩:∃ O,outs h j=O:=⟨_,rfl⟩
     rw[hO] at hol HN ⊢
     go_wp2
     go_loop [13,15] (fun out kk=>∃ m:Nat,m<=4/\out=.string ⟨(O++(hexN 4 u).take m).toArray⟩/\kk=.int .i64 ((4096/16 ^ m:Nat):Int)) (fun _ kk=>(intOf kk).toNat)
     case atStart=>exact⟨0,by omega,by simp,rfl⟩
     case round =>
      obtain⟨m,hm,rfl,rfl⟩:=hrel
      have hl2:(O++(hexN 4 u).take m).length<=20:=by
       simp[hexN_len]
       omega
      obtain⟨O2,hO2⟩:∃ O2,O++(hexN 4 u).take m=O2:=⟨_,rfl⟩
      rcases (by omega:m=0\/m=1\/m=2\/m=3\/m=4) with rfl|rfl|rfl|rfl|rfl
      ·rw[hO2] at hl2 ⊢
       go_wp2
       exact⟨⟨1,by omega,hex_step O O2 u 0 (u/4096%16) (by omega) rfl (by omega) hO2,rfl⟩,by simp[intOf]⟩
      ·rw[hO2] at hl2 ⊢
       go_wp2
       exact⟨⟨2,by omega,hex_step O O2 u 1 (u/256%16) (by omega) rfl (by omega) hO2,rfl⟩,by simp[intOf]⟩
      ·rw[hO2] at hl2 ⊢
       go_wp2
       exact⟨⟨3,by omega,hex_step O O2 u 2 (u/16%16) (by omega) rfl (by omega) hO2,rfl⟩,by simp[intOf]⟩
      ·rw[hO2] at hl2 ⊢
       go_wp2
       exact⟨⟨4,by omega,hex_step O O2 u 3 (u%16) (by omega) (by show _=u/1%16;rw[Nat.div_one]) (by omega) hO2,rfl⟩,by simp[intOf]⟩
      ·have h4:(hexN 4 u).take 4=hexN 4 u:=List.take_of_length_le (by rw[hexN_len];exact Nat.le_refl _)
       rw[h4] at hO2 hl2 ⊢
       rw[hO2] at hl2 ⊢
       go_wp2
       refine⟨⟨j+1,by omega,by rw[HN.out,hO2],?_⟩,by simp[intOf];try omega⟩
       congr 1
       omega
    ·obtain rfl:j=4:=by omega
     go_wp2
     go_ret
     exact⟨ret_str (by rw[HO.out]),hbw⟩
end Go.Proofs.YtmehkneofinmiaaGreatDoor

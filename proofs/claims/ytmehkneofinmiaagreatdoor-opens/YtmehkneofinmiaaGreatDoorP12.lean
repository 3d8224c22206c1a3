/-part 12-/
import Derived.Test.YtmehkneofinmiaaGreatDoorP11
import Derived.Lib.JoinLaws
import Derived.Lib.AppendZerosOnto
import Derived.Lib.Overlaps
set_option maxRecDepth 100000
set_option maxHeartbeats 4000000
namespace Go.Proofs.YtmehkneofinmiaaGreatDoor
open Go.RowKit
def cD (body:List UInt8):List UInt8:=34::bQ 16 (fnv body)++[34]
theorem fH (body:List UInt8)(w:World)(hb:body.length<1000000)(h:Tz w) :
 Calls Tryz.prog 136 #[.string ⟨body.toArray⟩] w λ e w'=>e=.returned (.string ⟨(cD body).toArray⟩)/\Below w.heap.size w w':=by
 go_enter Tryz.func136,Tryz.ntmps136;go_wp2_with fail;refine (uc ⟨body.toArray⟩ _ (by rw[Lib.size_eq];simp;omega) h).mono ?_;rintro e w1 ⟨rfl,A1⟩;obtain⟨H,hH⟩:∃ H,bQ 16 (fnv body)=H:=⟨_,rfl⟩;have A0:H.length=16:=by rw[<- hH];exact fZ 16 _
 have HH:Hid _:=hH;rw[show (ByteArray.mk body.toArray).data.toList=body from rfl,hH];have hs:(⟨H.toArray⟩:ByteArray).size=16:=by rw[Lib.size_eq];exact A0
 clear hH A0;go_wp2;go_ret;refine⟨aM ?_,A1⟩;unfold cD;rw[HH.out];apply ByteArray.ext;simp[ByteArray.data_append]
theorem fX (n:Nat)(w:World)(h:n<1000000000000000)(hT:Tab w) :
 Calls Tryz.prog 17 #[.int .i64 n] w λ e w'=>e=.returned (.string ⟨(Lib.decDigits n).toArray⟩)/\Below w.heap.size w w':=by
 refine (Tryz.strconv_Itoa n (by omega) (by omega) w hT.tab).mono ?_;rintro e w' ⟨rfl,k,os,rfl⟩;refine⟨aM ?_,Lib.below_grow _ _ (Nat.le_refl _) _ _⟩;unfold Lib.itoa;rw[if_neg (by omega)];rfl
theorem dO (k:Nat):∀ n:Nat,n<10 ^ (k+1)->(Lib.decDigits n).length<=k+1:=by
 induction k with
 | zero =>intro n h;rw[Lib.decDigits_one (by omega)];simp
 | succ k ih =>
   intro n h;rw[Lib.decDigits];split
   ·simp
   ·rw[List.length_append];have:=ih (n/10) (by rw[Nat.pow_succ] at h;omega);simp only[List.length_singleton];omega
def cg (v:Ver):List UInt8:=Lib.decDigits v.num++[32]++Lib.decDigits v.time++[32]++(if v.mark then [103,111,110,101] else cD v.body)++[10]
theorem cn (b:List UInt8):(cD b).length=18:=by simp[cD,fZ]
theorem kB (a b:ByteArray)(h:a.size+b.size<=1000000):∀ w:World,(Op.stringOp .add a b).run Tryz.prog w=.ok (.string (a++b)) w:=λ w=>run_string_add_sum w a b (by omega)
theorem wZ (v:Ver)(w:World)(hn:v.num<1000000000000000)(ht:v.time<1000000000000000)(hb:v.body.length<1000000)(h:Tz w)(hT:Tab w) :
 Calls Tryz.prog 139 #[aW v] w λ e w'=>e=.returned (.string ⟨(cg v).toArray⟩)/\Below w.heap.size w w':=by
 have Af:=dO 14 v.num (by omega);have Ae:=dO 14 v.time (by omega);obtain⟨D1,Aa⟩:∃ D,Lib.decDigits v.num=D:=⟨_,rfl⟩;obtain⟨D2,A9⟩:∃ D,Lib.decDigits v.time=D:=⟨_,rfl⟩;have A6:Hid (∀ w,Tab w->Calls Tryz.prog 17 #[.int .i64 v.num] w λ e w'=>e=.returned (.string ⟨D1.toArray⟩)/\Below w.heap.size w w'):=by rw[<- Aa];exact λ w h=>fX v.num w hn h
 have A3:Hid (∀ w,Tab w->Calls Tryz.prog 17 #[.int .i64 v.time] w λ e w'=>e=.returned (.string ⟨D2.toArray⟩)/\Below w.heap.size w w'):=by rw[<- A9];exact λ w h=>fX v.time w ht h
 have HL:Hid (cg v=D1++[32]++D2++[32]++(if v.mark then [103,111,110,101] else cD v.body)++[10]):=by rw[<- Aa,<- A9];rfl
 rw[Aa] at Af;rw[A9] at Ae;have Ak:(⟨D1.toArray⟩:ByteArray).size<=15:=by rw[Lib.size_eq];exact Af
 have Aj:(⟨D2.toArray⟩:ByteArray).size<=15:=by rw[Lib.size_eq];exact Ae
 have hq:=cn v.body;obtain⟨q,A8⟩:∃ q,cD v.body=q:=⟨_,rfl⟩;have Ai:(⟨q.toArray⟩:ByteArray).size=18:=by rw[Lib.size_eq,<- A8];exact hq
 have Ab:Below w.heap.size w (w.alloc (.cells #[.int .i64 v.num,.int .i64 v.time,.bool v.mark,.string ⟨v.body.toArray⟩] 174)):=(Below.refl _ _).alloc (Nat.le_refl _) _;have HA:Hid _:=Ab;have A0:Tz (w.alloc (.cells #[.int .i64 v.num,.int .i64 v.time,.bool v.mark,.string ⟨v.body.toArray⟩] 174)):=h.below Ab;have hTb:Tab (w.alloc (.cells #[.int .i64 v.num,.int .i64 v.time,.bool v.mark,.string ⟨v.body.toArray⟩] 174)):=hT.below Ab;have HQ:Hid (∀ w,Tz w->Calls Tryz.prog 136 #[.string ⟨v.body.toArray⟩] w λ e w'=>e=.returned (.string ⟨q.toArray⟩)/\Below w.heap.size w w'):=by rw[<- A8];exact λ w h=>fH v.body w hb h
 rw[A8] at HL;clear Af Ae hq A8 Aa A9 Ab h hT;unfold aW;obtain⟨vn,Ah⟩:∃ x:Nat,v.num=x:=⟨_,rfl⟩;obtain⟨vt,Ag⟩:∃ x:Nat,v.time=x:=⟨_,rfl⟩;rw[Ah] at A6 HA A0 hTb hn ⊢;rw[Ag] at A3 HA A0 hTb ht ⊢;clear Ah Ag;cases hm:v.mark with
 | true =>rw[hm] at HL HA A0 hTb;go_enter Tryz.func139,Tryz.ntmps139;go_wp2_with fail;obtain⟨W,hW⟩:∃ W,W=(w.alloc (.cells #[.int .i64 vn,.int .i64 vt,.bool true,.string ⟨v.body.toArray⟩] 174)):=⟨_,rfl⟩;(have B0:W.cell? ⟨w.heap.size,0,none⟩=some (.int .i64 vn):=by rw[hW];simp);(have B1:W.cell? ⟨w.heap.size,1,none⟩=some (.int .i64 vt):=by rw[hW];simp);have z3:(⟨#[103,111,110,101]⟩:ByteArray).size=4:=rfl;rw[<- hW] at HA hTb ⊢;clear hW A0;have b0:∀ d os,(Sort.grow (redrawn W d) os).cell? ⟨w.heap.size,0,none⟩=some (.int .i64 vn):=λ d os=>cell_regrown B0 d os;have b1:∀ d os,(Sort.grow (redrawn W d) os).cell? ⟨w.heap.size,1,none⟩=some (.int .i64 vt):=λ d os=>cell_regrown B1 d os;have A4:Hid (∀ (d:Nat) (os:Array Obj),_):=λ d os=>Calls.regrown_of (A6.out (Sort.grow (redrawn W d) os) (hTb.below (below_regrown W d os)));have A5:Hid (∀ (d:Nat) (os:Array Obj),_):=λ d os=>Calls.regrown_of (A3.out (Sort.grow (redrawn W d) os) (hTb.below (below_regrown W d os)));have z1:(⟨#[32]⟩:ByteArray).size=1:=rfl;have z2:(⟨#[10]⟩:ByteArray).size=1:=rfl;have a1:=kB ⟨D1.toArray⟩ ⟨#[32]⟩ (by omega);have a2:=kB (⟨D1.toArray⟩++⟨#[32]⟩) ⟨D2.toArray⟩ (by rw[ByteArray.size_append];omega);have a3:=kB (⟨D1.toArray⟩++⟨#[32]⟩++⟨D2.toArray⟩) ⟨#[32]⟩ (by rw[ByteArray.size_append,ByteArray.size_append];omega);have a4:=kB (⟨D1.toArray⟩++⟨#[32]⟩++⟨D2.toArray⟩++⟨#[32]⟩) ⟨#[103,111,110,101]⟩ (by rw[ByteArray.size_append,ByteArray.size_append,ByteArray.size_append];omega);have a5:=kB (⟨D1.toArray⟩++⟨#[32]⟩++⟨D2.toArray⟩++⟨#[32]⟩++⟨#[103,111,110,101]⟩) ⟨#[10]⟩ (by rw[ByteArray.size_append,ByteArray.size_append,ByteArray.size_append,ByteArray.size_append];omega);clear hTb A6 A3 HQ B0 B1 Ai;refine wp_region_quiet_below (by kernel_rfl) (by kernel_rfl) ?_;(repeat (first|go_big_quiet_step (first|(go_at_call_of 17 (Value.int IntKind.i64 vn);exact A4.out _ _)|(go_at_call_of 17 (Value.int IntKind.i64 vt);exact A5.out _ _))|quiet_step (first|(go_at_call_of 17 (Value.int IntKind.i64 vn);exact A4.out _ _)|(go_at_call_of 17 (Value.int IntKind.i64 vt);exact A5.out _ _))));refine wpQuiet_nil ?_;intro w2 A7;(have Ac:Below W.heap.size W w2:=by obtain⟨⟨dq,Ad⟩,A1⟩:=A7;rw[A1];exact below_regrown W dq Ad);clear A7;go_wp2;go_ret;refine⟨aM ?_,HA.out.trans (Ac.mono HA.out.size)⟩;rw[HL.out];apply ByteArray.ext;simp[ByteArray.data_append]
 | false =>
   rw[hm] at HL HA A0 hTb;go_enter Tryz.func139,Tryz.ntmps139;go_wp2_with fail;refine (HQ.out _ A0).mono ?_;rintro e W ⟨rfl,A2⟩;have B0:W.cell? ⟨w.heap.size,0,none⟩=some (.int .i64 vn):=(A2.cell (p:=⟨w.heap.size,0,none⟩) (by simp)).trans (by simp);have B1:W.cell? ⟨w.heap.size,1,none⟩=some (.int .i64 vt):=(A2.cell (p:=⟨w.heap.size,1,none⟩) (by simp)).trans (by simp)
   replace hTb:=hTb.below A2
   have HA:Hid (Below w.heap.size w W):=HA.out.trans (A2.mono HA.out.size);clear A2 A0;go_wp2_with fail;have b0:∀ d os,(Sort.grow (redrawn W d) os).cell? ⟨w.heap.size,0,none⟩=some (.int .i64 vn):=λ d os=>cell_regrown B0 d os;have b1:∀ d os,(Sort.grow (redrawn W d) os).cell? ⟨w.heap.size,1,none⟩=some (.int .i64 vt):=λ d os=>cell_regrown B1 d os;have A4:Hid (∀ (d:Nat) (os:Array Obj),_):=λ d os=>Calls.regrown_of (A6.out (Sort.grow (redrawn W d) os) (hTb.below (below_regrown W d os)));have A5:Hid (∀ (d:Nat) (os:Array Obj),_):=λ d os=>Calls.regrown_of (A3.out (Sort.grow (redrawn W d) os) (hTb.below (below_regrown W d os)));have z1:(⟨#[32]⟩:ByteArray).size=1:=rfl;have z2:(⟨#[10]⟩:ByteArray).size=1:=rfl;have a1:=kB ⟨D1.toArray⟩ ⟨#[32]⟩ (by omega);have a2:=kB (⟨D1.toArray⟩++⟨#[32]⟩) ⟨D2.toArray⟩ (by rw[ByteArray.size_append];omega);have a3:=kB (⟨D1.toArray⟩++⟨#[32]⟩++⟨D2.toArray⟩) ⟨#[32]⟩ (by rw[ByteArray.size_append,ByteArray.size_append];omega);have a4:=kB (⟨D1.toArray⟩++⟨#[32]⟩++⟨D2.toArray⟩++⟨#[32]⟩) ⟨q.toArray⟩ (by rw[ByteArray.size_append,ByteArray.size_append,ByteArray.size_append];omega);have a5:=kB (⟨D1.toArray⟩++⟨#[32]⟩++⟨D2.toArray⟩++⟨#[32]⟩++⟨q.toArray⟩) ⟨#[10]⟩ (by rw[ByteArray.size_append,ByteArray.size_append,ByteArray.size_append,ByteArray.size_append];omega);clear hTb A6 A3 HQ B0 B1 Ai;refine wp_region_quiet_below (by kernel_rfl) (by kernel_rfl) ?_;(repeat (first|go_big_quiet_step (first|(go_at_call_of 17 (Value.int IntKind.i64 vn);exact A4.out _ _)|(go_at_call_of 17 (Value.int IntKind.i64 vt);exact A5.out _ _))|quiet_step (first|(go_at_call_of 17 (Value.int IntKind.i64 vn);exact A4.out _ _)|(go_at_call_of 17 (Value.int IntKind.i64 vt);exact A5.out _ _))));refine wpQuiet_nil ?_;intro w2 A7;(have Ac:Below W.heap.size W w2:=by obtain⟨⟨dq,Ad⟩,A1⟩:=A7;rw[A1];exact below_regrown W dq Ad);clear A7;go_wp2;go_ret;refine⟨aM ?_,HA.out.trans (Ac.mono HA.out.size)⟩;rw[HL.out];apply ByteArray.ext;simp[ByteArray.data_append]
structure Fld where
 name:List UInt8
 value:List UInt8
def fu (f:Fld):List Value:=[.string ⟨f.name.toArray⟩,.string ⟨f.value.toArray⟩]
def cM (l:List Fld):List Value:=l.flatMap fu
def au (f:Fld):List UInt8:=f.name++[58,32]++f.value++[13,10]
def ap (told:Nat)(fs:List Fld)(body:List UInt8):List UInt8:=Lib.decDigits told++[13,10]++fs.flatMap au++[13,10]++body
theorem rR (l:List Fld)(i:Nat)(v:Fld)(h:l[i]?=some v)(j:Nat)(hj:j<2):(cM l)[i*2+j]?=(fu v)[j]?:=by
 induction l generalizing i with
 | nil=>simp at h
 | cons a l ih =>
   simp only[cM,List.flatMap_cons];cases i with
   | zero =>simp at h;subst h;rw[List.getElem?_append_left (by simp[fu];omega)];simp
   | succ i =>rw[List.getElem?_append_right (by simp[fu];omega)];(have e:(i+1)*2+j-(fu a).length=i*2+j:=by simp[fu];omega);rw[e];exact ih i (by simpa using h)
theorem vC {w:World}{vs:Value}{l:List Fld}(h:w.ownsRow 0 151 2 vs l.length (cM l))(i:Nat)(v:Fld)(hi:l[i]?=some v) :
 ∃ g cap,vs=.slice (some ⟨g,0,none⟩) l.length cap/\l.length<=cap/\cap<=maxLen/\g<w.heap.size/\(∀ j,w.frozen? ⟨g,j,none⟩=false) /\
  w.cell? ⟨g,i*2,none⟩=some (.string ⟨v.name.toArray⟩)/\w.cell? ⟨g,i*2+1,none⟩=some (.string ⟨v.value.toArray⟩):=by
 have A2:i<l.length:=(List.getElem?_eq_some_iff.1 hi).1;rcases h.2 with ⟨_,h0⟩|⟨g,cap,A3,hv,_,hg,hn,hm,hs,A1⟩
 ·omega
 ·refine⟨g,cap,hv,hn,hm,(gL hg),λ j=>by simp[World.frozen?,hg],?_⟩;(have A0:∀ j,j<2->w.cell? ⟨g,i*2+j,none⟩=(fu v)[j]?:=by intro j hj;rw[<- rR l i v hi j hj,<- A1,List.getElem?_take_of_lt (by omega)];simp[World.cell?,hg]);exact⟨A0 0 (by omega),A0 1 (by omega)⟩
theorem iu (l:List UInt8):Lib.strCells ⟨l.toArray⟩=Lib.byteCells l:=by simp[Lib.strCells,Lib.byteCells]
theorem eu (a b:List UInt8):Lib.byteCells (a++b)=Lib.byteCells a++Lib.byteCells b:=by simp[Lib.byteCells]
structure Tx (w0:World)(a b:Nat)(told:Nat)(fs:Value)(body:List UInt8)(t:List UInt8)(w:World):Prop where
 low:Below w0.heap.size w0 w
 h0:w0.heap.size<=a
 ab:a<b
 blk:w.heap[a]?=some (.cells #[.int .i64 told,fs,.string ⟨body.toArray⟩] 100 (0,0))
 bld:Lib.IsBuilder 145 5 b b (Lib.byteCells t) w
 sz:b<w.heap.size
theorem nH {T e B b:Nat}{bs:List Value}{w x:World}(h:Lib.IsBuilder T e B b bs w)(hb:Below w.heap.size w x):Lib.IsBuilder T e B b bs x:=by
 rcases h with ⟨h0,v,h1,h2,h3⟩|⟨h0,v,h1,h2,h3⟩
 ·exact Or.inl ⟨h0,v,(hb.block _ (gL h1)).trans h1,bT h2 hb,h3⟩
 ·exact Or.inr ⟨h0,v,(hb.block _ (gL h1)).trans h1,bT h2 hb,h3⟩
theorem Tx.below {w0:World}{a b told:Nat}{fs:Value}{body t:List UInt8}{w x:World}(h:Tx w0 a b told fs body t w)(hb:Below w.heap.size w x):Tx w0 a b told fs body t x :=
 ⟨h.low.trans (hb.mono h.low.size),h.h0,h.ab,(hb.block a (by have:=h.ab;have:=h.sz;omega)).trans h.blk,nH h.bld hb,Nat.lt_of_lt_of_le h.sz hb.size⟩
theorem qq (l:List Fld)(hf:∀ f∈l,f.name.length<1000/\f.value.length<1000):(l.flatMap au).length<=l.length*2004:=by
 induction l with
 | nil=>simp
 | cons a l ih =>have h1:=hf a (by simp);have h2:=ih (λ f h=>hf f (by simp[h]));simp only[List.flatMap_cons,List.length_append,List.length_cons,au,List.length_nil];omega
theorem Tx.write {w0:World}{a b told:Nat}{fs:Value}{body t:List UInt8}{w:World}(h:Tx w0 a b told fs body t w)(s:List UInt8)(hl:t.length+s.length<=140737488355328) :
 Calls Tryz.prog 73 #[.pointer (some ⟨b,0,none⟩),.string ⟨s.toArray⟩] w λ e w'=>(∃ v,e=.returned v)/\Tx w0 a b told fs body (t++s) w':=by
 refine (Tryz.Builder_WriteString b b (Lib.byteCells t) ⟨s.toArray⟩ w h.bld (by rw[Lib.byteCells_length,Lib.size_eq];simpa using hl) (Nat.le_of_lt h.sz)).mono ?_;rintro e w' ⟨rfl,hB,hb⟩;refine⟨⟨_,rfl⟩,⟨h.low.trans (hb.mono (by have:=h.h0;have:=h.ab;omega)),h.h0,h.ab,(hb.block a h.ab).trans h.blk,?_,Nat.lt_of_lt_of_le h.sz hb.size⟩⟩;rw[iu,<- eu] at hB;exact Or.inr hB
theorem ut (n:Nat)(h:n<100000):(Lib.decDigits n).length<=5:=dO 4 n h
theorem lV (told:Nat)(fs:Value)(l:List Fld)(body:List UInt8)(w:World)(hT:Tab w)(ht:told<100000)
 (hF:w.ownsRow 0 151 2 fs l.length (cM l))(hl:l.length<1000)(hf:∀ f∈l,f.name.length<1000/\f.value.length<1000)(hb:body.length<1000000) :
 Calls Tryz.prog 42 #[.agg #[.int .i64 told,fs,.string ⟨body.toArray⟩]] w λ e w'=>e=.returned (.string ⟨(ap told l body).toArray⟩)/\Below w.heap.size w w':=by
 have A2:∃ a c,fs=.slice a l.length c:=by
  rcases hF.2 with ⟨rfl,h0⟩|⟨g,A9,Af,rfl,_⟩
  ·rw[h0];exact⟨_,_,rfl⟩
  ·exact⟨_,_,rfl⟩
 have HF:Hid (w.ownsRow 0 151 2 fs l.length (cM l)):=hF;clear hF;obtain⟨fa,fc,A5⟩:=A2;subst A5;go_enter Tryz.func42,Tryz.ntmps42;go_wp2_with fail;have A1:Below w.heap.size w ((w.alloc (.cells #[.int .i64 told,.slice fa l.length fc,.string ⟨body.toArray⟩] 100)).alloc (.cells #[.pointer none,.slice none 0 0] 145)):=((Below.refl _ _).alloc (Nat.le_refl _) _).alloc (by simp) _;refine (lW told _ (by omega) (by omega) (hT.below A1)).mono ?_;rintro e w1 ⟨rfl,A0⟩;have X1:Tx w w.heap.size (w.heap.size+1) told (.slice fa l.length fc) body [] w1:=by
  have hs:=A0.size;simp at hs;refine⟨A1.trans (A0.mono (by simp;try omega)),Nat.le_refl _,by omega,?_,Or.inl ⟨Nat.le_refl _,.slice none 0 0,?_,⟨rfl,Or.inl ⟨rfl,rfl⟩⟩,by simp[Value.ownBlock]⟩,by omega⟩
  ·rw[A0.block _ (by simp;try omega)];rw[heap_alloc_old _ _ (by simp)];exact heap_alloc_new _ _
  ·rw[A0.block _ (by simp;try omega)];have:=heap_alloc_new (w.alloc (.cells #[.int .i64 told,.slice fa l.length fc,.string ⟨body.toArray⟩] 100)) (.cells #[.pointer none,.slice none 0 0] 145);simpa using this
 rw[Int.toNat_natCast];obtain⟨D,hD⟩:∃ D,Lib.decDigits told=D:=⟨_,rfl⟩;have Ah:D.length<=5:=by rw[<- hD];exact ut told ht
 rw[hD];have HW:Hid (ap told l body=D++[13,10]++l.flatMap au++[13,10]++body):=by rw[<- hD];rfl
 have A4:Hid _:=HF;clear A1 A0 hD A4;go_wp2_with fail;refine (X1.write D (by simp;omega)).mono ?_;rintro e w2 ⟨⟨v,rfl⟩,X2⟩;clear X1;go_wp2_with fail;refine (X2.write [13,10] (by simp;omega)).mono ?_;rintro e w3 ⟨⟨v,rfl⟩,X3⟩;clear X2;have c1:w3.cell? ⟨w.heap.size,1,none⟩=some (.slice fa l.length fc):=by simp[World.cell?,X3.blk]
 have X:Hid _:=X3;clear X3 c1;have c1:w3.cell? ⟨w.heap.size,1,none⟩=some (.slice fa l.length fc):=by simp[World.cell?,X.out.blk]
 go_wp2;go_loopw [14] (λ x wx=>∃ i:Nat,i<=l.length/\x=.int .i64 i/\Hid (Tx w w.heap.size (w.heap.size+1) told (.slice fa l.length fc) body (D++[13,10]++(l.take i).flatMap au) wx)) (λ x _=>l.length-(intOf x).toNat);case atStart=>exact⟨0,by omega,rfl,by simpa using X⟩
 case round =>
  obtain⟨i,hi,rfl,X⟩:=hrel;by_cases hlt2:i<l.length
  ·obtain⟨v,hv⟩:∃ v,l[i]?=some v:=⟨l[i],List.getElem?_eq_getElem hlt2⟩;obtain⟨Ab,A8⟩:=hf v (List.mem_of_getElem? hv);obtain⟨g,A9,e1,hn,hm,hg,Ae,c0,c1⟩:=vC (bT HF.out (X.out.low.mono (Nat.le_refl _))) i v hv;cases e1;have HV:Hid (l[i]?=some v):=hv;(have A7:(i:Int)<(l.length:Int):=by omega);(have Ag:(⟨v.name.toArray⟩:ByteArray).size<1000:=by rw[Lib.size_eq];simpa using Ab);(have Aa:(⟨v.value.toArray⟩:ByteArray).size<1000:=by rw[Lib.size_eq];simpa using A8);clear hv;go_wp2_with fail;(have et:(⟨v.name.toArray⟩++⟨#[58,32]⟩++⟨v.value.toArray⟩++⟨#[13,10]⟩:ByteArray)=⟨(au v).toArray⟩:=by apply ByteArray.ext;simp[ByteArray.data_append,au]);rw[et];have A3:=qq (l.take i) (λ f h=>hf f (List.mem_of_mem_take h));(have Ad:(l.take i).length<=1000:=by rw[List.length_take];omega);(have Ac:(au v).length<=2004:=by simp only[au,List.length_append,List.length_cons,List.length_nil];omega);refine ((X.out.below ((Below.refl _ _).alloc (Nat.le_refl _) _)).write (au v) (by simp only[List.length_append,List.length_cons,List.length_nil];omega)).mono ?_;rintro e w4 ⟨⟨v',rfl⟩,X4⟩;(have X5:Hid (Tx w w.heap.size (w.heap.size+1) told (.slice (some ⟨g,0,none⟩) l.length fc) body (D++[13,10]++(l.take (i+1)).flatMap au) w4):=by (have e2:(l.take (i+1)).flatMap au=(l.take i).flatMap au++au v:=by rw[List.take_add_one,HV.out];simp);rw[e2,<- List.append_assoc];exact X4);clear X4 X et A3;go_wp2;refine⟨⟨i+1,by omega,rfl,X5⟩,?_⟩;simp[intOf];omega
  ·(obtain rfl:i=l.length:=by omega);clear hlt2;rw[List.take_length] at X;have A3:=qq l hf;go_wp2_with fail;refine (X.out.write [13,10] (by simp only[List.length_append,List.length_cons,List.length_nil];omega)).mono ?_;rintro e w5 ⟨⟨v5,rfl⟩,X5⟩;(have c2:w5.cell? ⟨w.heap.size,2,none⟩=some (.string ⟨body.toArray⟩):=by simp[World.cell?,X5.blk]);have X6:Hid _:=X5;clear X X5;go_wp2_with fail;refine (X6.out.write body (by simp only[List.length_append,List.length_cons,List.length_nil];omega)).mono ?_;rintro e w7 ⟨⟨v7,rfl⟩,X7⟩;clear X6 c2;rw[<- HW.out] at X7;go_wp2_with fail;refine (Tryz.Builder_String_any (w.heap.size+1) (w.heap.size+1) _ _ X7.bld (Nat.le_of_lt X7.sz)).mono ?_;rintro e w8 ⟨rfl,A6⟩;go_wp2;go_ret;exact⟨rfl,X7.low.trans (A6.mono (by omega))⟩
open Go.RowKit
attribute [local go_sem ↓] jU
attribute [local go_sem] lK
theorem qa (w:World){P:Program}{o:Oper}{a:Act}{K:Act->World->Prop}{Q:Exit->Act->World->Prop}(d s:Operand)(t t':TypeId)
 (ho:o.op=.call { callee:=.builtin .copy,args:=#[d,s],argTypes:=#[t,t'] })(v u:Value)(hd:a.eval d=v)(hs:a.eval s=u){v':Value}{w':World}
 (hr:(Builtin.copy_ #[t,t'] o.type #[v,u]).run P w=.ok v' w')(h:K (a.put o.dst v') w'):o.wp P a w K Q:=by
 unfold Oper.wp execOp;simp only[ho,resolve,invoke,builtin,Sem.run_bind,Sem.run_pure,Result.andThen_ok,List.map_toArray,List.map_cons,List.map_nil,hd,hs,hr];exact h
theorem gJ (w:World){P:Program}{ops:Array Oper}{rest:List Oper}{o:Oper}{a:Act}{Q:Exit->Act->World->Prop}(hgd:o.guard=none)(d s:Operand)(t t':TypeId)
 (ho:o.op=.call { callee:=.builtin .copy,args:=#[d,s],argTypes:=#[t,t'] })(v u:Value)(hd:a.eval d=v)(hs:a.eval s=u){v':Value}{w':World}
 (hr:(Builtin.copy_ #[t,t'] o.type #[v,u]).run P w=.ok v' w')(h:wpList P ops Q rest (a.put o.dst v') w'):wpList P ops Q (o::rest) a w :=
 wpList_plain hgd λ _ hK=>qa w d s t t' ho v u hd hs hr (hK _ _ h)
theorem yN:(Tryz.prog.info? 170).map (λ i=>(i.zero,i.size,i.bytes))=some (some (.pointer none),1,8):=by kernel_rfl
theorem t8:(Tryz.prog.info? 170).map (·.size)=some 1:=by kernel_rfl
theorem jg {w:World}{e:TypeId}{g n cap:Nat}{xs:List Value}(h:w.ownsRow 0 e 1 (.slice (some ⟨g,0,none⟩) n cap) n xs) :
 xs.length=n/\n<=cap/\cap<=9223372036854775807/\g<w.heap.size/\∃ cur,w.heap[g]?=some (.cells cur e (0,0))/\cur.size=cap/\cur.toList.take n=xs/\(∀ j v,xs[j]?=some v->w.cell? ⟨g,j,none⟩=some v) /\
  (∀ j,j<cap->(w.cell? ⟨g,j,none⟩).isSome=true)/\∀ j,w.frozen? ⟨g,j,none⟩=false:=by
 rcases h.2 with ⟨h0,_⟩|⟨g',A1,cur,hv,_,hg,hn,hm,hs,A0⟩
 ·cases h0
 ·cases hv;rw[Nat.mul_one] at hs A0;(have hl:xs.length=n:=by rw[h.1,Nat.mul_one]);refine⟨hl,hn,by simpa [maxLen] using hm,(gL hg),cur,hg,hs,A0,?_,?_,?_⟩
  ·intro j v hv;(have hj:j<n:=by rw[<- hl];exact (List.getElem?_eq_some_iff.1 hv).1);rw[<- A0,List.getElem?_take_of_lt hj] at hv;simpa [World.cell?,hg] using hv
  ·intro j hj;simp only[World.cell?,hg];rw[Array.getElem?_eq_getElem (by omega)];rfl
  ·intro j;simp[World.frozen?,hg]
theorem sZ (es:Value)(n:Nat)(xs:List Value)(vb:Nat)(x:Value)(w:World)(h:w.ownsRow 0 170 1 es n xs)(hx:x.oneCell'=true)(hv:w.heap[vb]?=some (.cells #[x] 170 (0,0)))(hn:n<1000000) :
 Calls Tryz.prog 297 #[es,.int .i64 n,.slice (some ⟨vb,0,none⟩) 1 1] w λ e w'=>∃ g cap,e=.returned (.slice (some ⟨g,0,none⟩) (n+1) cap) /\
  w'.ownsRow 0 170 1 (.slice (some ⟨g,0,none⟩) (n+1) cap) (n+1) (xs++[x])/\(es.ownBlock=some g\/w.heap.size<=g)/\Off (λ k=>es.ownBlock=some k) w w':=by
 obtain⟨i0,A2,A6,A4,A5⟩:=info_parts yN;have HR:Hid (w.ownsRow 0 170 1 es n xs):=h;have HV:Hid _:=hv;rcases h.2 with ⟨rfl,rfl⟩|⟨g0,c,A8,rfl,_,_,A7,_⟩
 all_goals (
  clear h hv;go_enter Tryz.func297,Tryz.ntmps297;go_wp2_with (at_builtin;refine wpList_append_lies _ rfl _ _ 162 rfl 0 170 i0 _ 1 8 Tryz.underlying162 A2 A6 A4 A5 rfl (by omega) _ _ xs rfl HR.out ⟨vb,0,none⟩ 1 1 [x] rfl rfl (World.news_of_block (cs:=#[x]) HV.out) (by simpa using hx) (by omega) (by simp only[maxLen];omega) (by omega) (by omega) _ rfl ?_;intro g cap w1 A0 A1 A3 A9)
  all_goals (
   go_ret;refine⟨g,cap,rfl,A0,?_,(Off.refl _ w).grown A1 (λ k hk=>Or.inl hk)⟩;rcases A3 with h1|h1
   ·exact Or.inl h1
   ·right;omega))
theorem dI (b:Nat)(vs:List Value)(o:Nat)(w:World)(h:∀ j,j<vs.length->(w.cell? ⟨b,o+j,none⟩).isSome=true)(k:Nat)(hk:(w.cell? ⟨b,k,none⟩).isSome=true):((w.setCells b o vs).cell? ⟨b,k,none⟩).isSome=true:=by
 by_cases hin:o<=k/\k<o+vs.length
 ·have:=World.cell?_setCells_in b vs o w h (k-o) (by omega);rw[show o+(k-o)=k by omega] at this;rw[this];rfl
 ·rw[World.cell?_setCells_out b vs o w ⟨b,k,none⟩ (λ _ _=>by show k<o\/o+vs.length<=k;omega)];exact hk
theorem Off.setCells {S:Nat->Prop}{w:World}(g:Nat)(hg:S g\/w.heap.size<=g):∀ (vs:List Value) (o:Nat) (x:World),Off S w x->Off S w (x.setCells g o vs)
 | [],_,_,h=>h
 | v::r,o,_,h=>Off.setCells g hg r (o+1) _ (h.set g o v hg)
theorem wE {x:World}{e:TypeId}{g n cap:Nat}{xs:List Value}(cur:Array Value)(hg:x.heap[g]?=some (.cells cur e (0,0)))(hs:cur.size=cap)(hn:n<=cap)(hc:cap<=9223372036854775807)(hl:xs.length=n)(hx:∀ j,j<n->cur[j]?=xs[j]?) :
 x.ownsRow 0 e 1 (.slice (some ⟨g,0,none⟩) n cap) n xs:=by
 refine⟨by omega,Or.inr ⟨g,cap,cur,rfl,Nat.zero_le _,hg,hn,by simpa [maxLen] using hc,by omega,?_⟩⟩;apply List.ext_getElem?;intro j;rw[Nat.mul_one];by_cases hj:j<n
 ·rw[List.getElem?_take_of_lt hj,<- hx j hj];simp
 ·rw[List.getElem?_eq_none (by simp;omega),List.getElem?_eq_none (by omega)]
theorem dS (g:Nat):∀ (vs:List Value) (o:Nat) (w:World) (cur:Array Value) (t:TypeId) (fr:Nat×Nat),w.heap[g]?=some (.cells cur t fr)->∃ cur',(w.setCells g o vs).heap[g]?=some (.cells cur' t fr)/\cur'.size=cur.size
 | [],_,_,cur,_,_,h=>⟨cur,h,rfl⟩
 | v::r,o,w,_,t,fr,h=>by
   obtain⟨cur',h1,h2⟩:=dS g r (o+1) (w.setCell ⟨g,o,none⟩ v) _ t fr (ah h)
   exact⟨cur',h1,by rw[h2];simp⟩
theorem pA (g c n i vb:Nat)(xs:List Value)(x:Value)(w:World)(h:w.ownsRow 0 170 1 (.slice (some ⟨g,0,none⟩) n c) n xs)(h1:∀ v∈xs,v.oneCell'=true)(hx:x.oneCell'=true)(hv:w.heap[vb]?=some (.cells #[x] 170 (0,0)))(hi:i<n)(hroom:n+1<=c)(hvb:vb≠g)(hn:n<1000000) :
 Calls Tryz.prog 297 #[.slice (some ⟨g,0,none⟩) n c,.int .i64 i,.slice (some ⟨vb,0,none⟩) 1 1] w λ e w'=>e=.returned (.slice (some ⟨g,0,none⟩) (n+1) c) /\
  w'=(w.drew.setCells g (i+1) (xs.drop i)).setCells g i [x]:=by
 obtain⟨Ac,Ag,Ad,Ai,Ab,hg,Aa,Ae,A0,A3,A5⟩:=jg h;have A7:w.cell? ⟨vb,0,none⟩=some x:=by simp[World.cell?,hv]
 have A9:∀ lb cb,(callFunc 323 #[.slice (some ⟨vb,0,none⟩) 1 1,.slice (some ⟨g,i+1,none⟩) lb cb]).run Tryz.prog w=.ok (.value (.bool false)) w:=λ lb cb=>by
  rw[run_callFunc_extern Tryz.func323 (by kernel_rfl) (by kernel_rfl) (by kernel_rfl) (e:=Extern.SlicesOverlaps.overlaps #[162,162] #[4]) (by kernel_rfl),
   Lib.run_overlaps_apart w 162 4 170 Tryz.underlying162 1 Tryz.sizeOf170 ⟨vb,0,none⟩ ⟨g,i+1,none⟩ 1 1 lb cb hvb 170 170 1 Ab.size (by simp[World.shape?,hv]) (by simp[World.shape?,hg]) (by omega) (by simp[World.frozen?,hv]) (by simp[World.frozen?,hv])]
  rfl
 have A8:(xs.drop i).length=n-i:=by rw[List.length_drop,Ac]
 have A4:∀ ty dc sc,(Builtin.copy_ #[162,162] ty #[.slice (some ⟨g,i+1,none⟩) (n-i) dc,.slice (some ⟨g,i,none⟩) (n+1-i) sc]).run Tryz.prog w.drew=.ok (goInt (xs.drop i).length) (w.drew.setCells g (i+1) (xs.drop i)):=λ ty dc sc =>
  run_copy_cells w.drew _ _ ty 170 g (i+1) (n-i) dc ⟨g,i,none⟩ (n+1-i) sc (xs.drop i) Tryz.underlying162 t8 (by rw[A8];simp only[Nat.min_def];split<;>omega)
   (λ j v hj=>by rw[Addr.add_lit];exact A0 (i+j) v (by rwa [List.getElem?_drop] at hj))
   (λ j hj=>A3 _ (by omega)) (λ j hj=>A5 _) (λ v hv=>h1 v (List.mem_of_mem_drop hv))
 obtain⟨W1,A1⟩:∃ W1,W1=w.drew.setCells g (i+1) (xs.drop i):=⟨_,rfl⟩;have A2:∀ k,k<n+1->(W1.cell? ⟨g,k,none⟩).isSome=true:=λ k hk=>by rw[A1];exact dI g (xs.drop i) (i+1) w.drew (λ j hj=>A3 _ (by omega)) _ (A3 k (by omega))
 have A6:∀ (W:World),(∀ x,W.cell? x=W1.cell? x)->(∀ x,W.frozen? x=W1.frozen? x)->∀ ty dc,(Builtin.copy_ #[162,162] ty #[.slice (some ⟨g,i,none⟩) (n+1-i) dc,.slice (some ⟨vb,0,none⟩) 1 1]).run Tryz.prog W=.ok (goInt 1) (W.setCells g i [x]):=λ W hWc hWf ty dc =>
  run_copy_cells W _ _ ty 170 g i (n+1-i) dc ⟨vb,0,none⟩ 1 1 [x] Tryz.underlying162 t8 (by simp only[List.length_singleton,Nat.min_def];split<;>omega)
   (λ j v hj=>by
     rw[Addr.add_lit,hWc,A1,World.cell?_setCells_out g _ _ _ _ (λ h _=>absurd h hvb)];cases j with
     | zero=>simp at hj;subst hj;exact A7
     | succ j=>simp at hj)
   (λ j hj=>by rw[hWc];exact A2 _ (by simp at hj;omega)) (λ j hj=>by rw[hWf,A1,World.frozen?_setCells];exact A5 _) (by simpa using hx)
 rw[<- A1] at A4;have HW:Hid _:=A1;have Af:¬ ((i:Int)=(n:Int)):=by omega
 have Aj:¬ (c=i+1):=by omega
 have Ah:¬ (c=i):=by omega
 clear A1 A2 A3 A5 A0 Ae Aa hg A7 h A8;go_enter Tryz.func297,Tryz.ntmps297;go_wp2_with (simp only[A9]);go_region;go_wp2_with (at_builtin;refine gJ _ rfl _ _ 162 162 rfl _ _ rfl rfl (A6 _ (λ _=>rfl) (λ _=>rfl) _ _) ?_);go_ret;exact⟨rfl,by rw[HW.out]⟩
end Go.Proofs.YtmehkneofinmiaaGreatDoor

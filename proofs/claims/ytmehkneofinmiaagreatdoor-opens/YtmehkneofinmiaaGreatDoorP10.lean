/-part 10-/
import Derived.Test.YtmehkneofinmiaaGreatDoorP09
import Derived.Conc.RwLone
import Derived.Deep.AppendLies
import Derived.Deep.RegionHeld3
set_option maxRecDepth 100000
set_option maxHeartbeats 4000000
namespace Go.Proofs.YtmehkneofinmiaaGreatDoor
open Go.RowKit Go.MuLone
theorem dT {w:World}{a:Addr}{v:Value}(h:w.cell? a=some v)(x:Value):(w.setCell a x).setCell a v=w:=by
 cases w with|mk heap tape drawn os output =>
 simp only[World.setCell,World.mk.injEq,and_true];apply Array.ext
 ·simp
 ·intro i h1 h2;simp only[Array.getElem_modify];split
  ·rename_i e;subst e;simp only[World.cell?] at h;rw[Array.getElem?_eq_getElem h2] at h;revert h;cases heap[a.block] with
   | cells c t f =>
     intro h;simp only at h;cases hs:a.spot with
     | some _=>rw[hs] at h;simp at h
     | none =>
       rw[hs] at h;simp only[Option.isSome_none,Bool.false_eq_true,if_false] at h ⊢;have A0:a.off<c.size:=(gL h);have hv:c[a.off]=v:=(Array.getElem?_eq_some_iff.1 h).2;congr 1;apply Array.ext
       ·simp
       ·intro j j1 j2;by_cases hj:a.off=j
        ·subst hj;simp[hv]
        ·rw[Array.getElem_setIfInBounds_ne (by simpa using j2) hj,Array.getElem_setIfInBounds_ne j2 hj]
   | _=>simp
  ·rfl
theorem jy (w:World){a b:Addr}(h:a≠b)(x y:Value):(w.setCell a x).setCell b y=(w.setCell b y).setCell a x:=by
 cases w with|mk heap tape drawn os output =>
 simp only[World.setCell,World.mk.injEq,and_true];apply Array.ext
 ·simp
 ·intro i h1 h2;simp only[Array.getElem_modify];by_cases ha:a.block=i<;>by_cases hb:b.block=i<;>simp only[ha,hb,if_true,if_false];generalize heap[i]'(by simpa using h1)=o;cases o with
  | cells c t f =>simp only;congr 1;cases hsa:a.spot<;>cases hsb:b.spot<;>simp;(have A0:a.off≠b.off:=by intro e;apply h;cases a;cases b;simp_all);exact Array.setIfInBounds_comm _ _ A0
  | _=>rfl
structure Cmn (w:World)(b off:Nat)(t k:Int):Prop where
 l:w.cell? ⟨b,off,none⟩=some (.int .i32 0)
 t:w.cell? ⟨b,off+2,none⟩=some (.int .i64 t)
 k:w.cell? ⟨b,off+3,none⟩=some (.int .i64 k)
 f:∀ j,w.frozen? ⟨b,j,none⟩=false
theorem oI (b off:Nat)(t k:Int)(w:World)(h:Cmn w b off t k) :
 Calls Tryz.prog 60 #[.pointer (some ⟨b,off,none⟩)] w λ e w'=>e=.returned (.int .i64 t)/\w'=w:=by
 have h0:=h.l;have h2:=h.t;have f0:=h.f off;have f2:=h.f (off+2);go_enter_defers Tryz.func60,Tryz.ntmps60;go_wp2_with (go_at_call 83;refine (lock_free Tryz.muLib ⟨b,off,none⟩ _ h0 f0).mono ?_;rintro e w' ⟨rfl,rfl⟩);refine leaves_cons (f:=84) (args:=#[.pointer (some ⟨b,off,none⟩)]) (by simp) (by simp[go_sem]) ?_;refine (unlock_deferred Tryz.muLib ⟨b,off,none⟩ .returning _ ?_ ?_).mono ?_
 ·exact World.cell?_setCell_same w ⟨b,off,none⟩ (.int .i32 1) h0
 ·simp[f0]
 rintro e u' A0 ⟨rfl,rfl,rfl⟩;exact⟨_,results_tmp rfl _ _ _,rfl,dT h0 _⟩
theorem nN (b off:Nat)(t k:Int)(w:World)(h:Cmn w b off t k)(hk0:0<=k)(hk:k<60) :
 Calls Tryz.prog 228 #[.pointer (some ⟨b,off,none⟩)] w λ e w'=>e=.returned (.bool true)/\w'=w.setCell ⟨b,off+3,none⟩ (.int .i64 (k+1)):=by
 have h0:=h.l;have h2:=h.k;have f0:=h.f off;have f2:=h.f (off+3);have A1:(k==60)=false:=beq_eq_false_iff_ne.2 (by omega);go_enter_defers Tryz.func228,Tryz.ntmps228;go_wp2_with (go_at_call 83;refine (lock_free Tryz.muLib ⟨b,off,none⟩ _ h0 f0).mono ?_;rintro e w' ⟨rfl,rfl⟩);refine leaves_cons (f:=84) (args:=#[.pointer (some ⟨b,off,none⟩)]) (by simp) (by simp[go_sem]) ?_;refine (unlock_deferred Tryz.muLib ⟨b,off,none⟩ .returning _ ?_ ?_).mono ?_
 ·exact (World.cell?_setCell_other _ ⟨b,off+3,none⟩ ⟨b,off,none⟩ _ (by simp)).trans (World.cell?_setCell_same w ⟨b,off,none⟩ (.int .i32 1) h0)
 ·simp[f0]
 rintro e u' A0 ⟨rfl,rfl,rfl⟩;refine⟨_,results_tmp rfl _ _ _,rfl,?_⟩;rw[jy w (by simp),dT];rw[World.cell?_setCell_other _ _ _ _ (by simp)];exact h0
theorem qJ (b off:Nat)(t:Int)(w:World)(h:Cmn w b off t 60) :
 Calls Tryz.prog 228 #[.pointer (some ⟨b,off,none⟩)] w λ e w'=>e=.returned (.bool false)/\w'=w:=by
 have h0:=h.l;have h2:=h.k;have f0:=h.f off;have f2:=h.f (off+3);go_enter_defers Tryz.func228,Tryz.ntmps228;go_wp2_with (go_at_call 83;refine (lock_free Tryz.muLib ⟨b,off,none⟩ _ h0 f0).mono ?_;rintro e w' ⟨rfl,rfl⟩);refine leaves_cons (f:=84) (args:=#[.pointer (some ⟨b,off,none⟩)]) (by simp) (by simp[go_sem]) ?_;refine (unlock_deferred Tryz.muLib ⟨b,off,none⟩ .returning _ ?_ ?_).mono ?_
 ·exact World.cell?_setCell_same w ⟨b,off,none⟩ (.int .i32 1) h0
 ·simp[f0]
 rintro e u' A0 ⟨rfl,rfl,rfl⟩;exact⟨_,results_tmp rfl _ _ _,rfl,dT h0 _⟩
theorem xB (b off:Nat)(t k s:Int)(w:World)(h:Cmn w b off t k)(ht0:0<=t)(ht:t<=253402300799)(hs0:0<=s)(hs:s<=253402300799-t) :
 Calls Tryz.prog 59 #[.pointer (some ⟨b,off,none⟩),.int .i64 s] w λ e w'=>e=.returned (.int .i64 0)/\w'=w.setCell ⟨b,off+2,none⟩ (.int .i64 (t+s)):=by
 have h0:=h.l;have h2:=h.t;have f0:=h.f off;have f2:=h.f (off+2);go_enter_defers Tryz.func59,Tryz.ntmps59;go_wp2_with (go_at_call 83;refine (lock_free Tryz.muLib ⟨b,off,none⟩ _ h0 f0).mono ?_;rintro e w' ⟨rfl,rfl⟩);refine leaves_cons (f:=84) (args:=#[.pointer (some ⟨b,off,none⟩)]) (by simp) (by simp[go_sem]) ?_;refine (unlock_deferred Tryz.muLib ⟨b,off,none⟩ .returning _ ?_ ?_).mono ?_
 ·exact (World.cell?_setCell_other _ ⟨b,off+2,none⟩ ⟨b,off,none⟩ _ (by simp)).trans (World.cell?_setCell_same w ⟨b,off,none⟩ (.int .i32 1) h0)
 ·simp[f0]
 rintro e u' A0 ⟨rfl,rfl,rfl⟩;refine⟨_,results_tmp rfl _ _ _,rfl,?_⟩;rw[jy w (by simp),dT];rw[World.cell?_setCell_other _ _ _ _ (by simp)];exact h0
open Go.RowKit
structure Ver where
 num:Nat
 time:Nat
 mark:Bool
 body:List UInt8
structure Ent where
 key:List UInt8
 last:Nat
 vers:List Ver
def dC (v:Ver):List Value:=[.int .i64 v.num,.int .i64 v.time,.bool v.mark,.string ⟨v.body.toArray⟩]
def aW (v:Ver):Value:=.agg #[.int .i64 v.num,.int .i64 v.time,.bool v.mark,.string ⟨v.body.toArray⟩]
def lO:Value:=.agg #[.int .i64 0,.int .i64 0,.bool false,.string ⟨#[]⟩]
def aS (l:List Ver):List Value:=l.flatMap dC
theorem dh (l:List Ver):(aS l).length=l.length*4:=by
 induction l with
 | nil=>rfl
 | cons a l ih=>simp only[aS,List.flatMap_cons,List.length_append] at ih ⊢;rw[ih];simp[dC];omega
theorem wo (l:List Ver)(i:Nat)(v:Ver)(h:l[i]?=some v)(j:Nat)(hj:j<4):(aS l)[i*4+j]?=(dC v)[j]?:=by
 induction l generalizing i with
 | nil=>simp at h
 | cons a l ih =>
   simp only[aS,List.flatMap_cons];cases i with
   | zero =>simp at h;subst h;rw[List.getElem?_append_left (by simp[dC];omega)];simp
   | succ i =>rw[List.getElem?_append_right (by simp[dC];omega)];(have e:(i+1)*4+j-(dC a).length=i*4+j:=by simp[dC];omega);rw[e];exact ih i (by simpa using h)
structure al (w:World)(p:Nat)(E:Ent)(vs:Value):Prop where
 blk:w.heap[p]?=some (.cells #[.string ⟨E.key.toArray⟩,.int .i64 E.last,vs] 230 (0,0))
 row:w.ownsRow 0 174 4 vs E.vers.length (aS E.vers)
theorem al.c0 {w:World}{p:Nat}{E:Ent}{vs:Value}(h:al w p E vs):w.cell? ⟨p,0,none⟩=some (.string ⟨E.key.toArray⟩):=by simp[World.cell?,h.blk]
theorem al.c1 {w:World}{p:Nat}{E:Ent}{vs:Value}(h:al w p E vs):w.cell? ⟨p,1,none⟩=some (.int .i64 E.last):=by simp[World.cell?,h.blk]
theorem al.c2 {w:World}{p:Nat}{E:Ent}{vs:Value}(h:al w p E vs):w.cell? ⟨p,2,none⟩=some vs:=by simp[World.cell?,h.blk]
theorem al.fz {w:World}{p:Nat}{E:Ent}{vs:Value}(h:al w p E vs)(j:Nat):w.frozen? ⟨p,j,none⟩=false:=by simp[World.frozen?,h.blk]
theorem al.lt {w:World}{p:Nat}{E:Ent}{vs:Value}(h:al w p E vs):p<w.heap.size:=(gL h.blk)
theorem gi {w:World}{vs:Value}{l:List Ver}(h:w.ownsRow 0 174 4 vs l.length (aS l))(i:Nat)(v:Ver)(hi:l[i]?=some v) :
 ∃ g cap,vs=.slice (some ⟨g,0,none⟩) l.length cap/\l.length<=cap/\cap<=maxLen/\g<w.heap.size/\w.frozen? ⟨g,0,none⟩=false/\(∀ j,w.frozen? ⟨g,j,none⟩=false) /\
  w.cell? ⟨g,i*4,none⟩=some (.int .i64 v.num)/\w.cell? ⟨g,i*4+1,none⟩=some (.int .i64 v.time)/\w.cell? ⟨g,i*4+2,none⟩=some (.bool v.mark)/\w.cell? ⟨g,i*4+3,none⟩=some (.string ⟨v.body.toArray⟩):=by
 have A2:i<l.length:=(List.getElem?_eq_some_iff.1 hi).1;rcases h.2 with ⟨_,h0⟩|⟨g,cap,A3,hv,_,hg,hn,hm,hs,A1⟩
 ·omega
 ·refine⟨g,cap,hv,hn,hm,(gL hg),by simp[World.frozen?,hg],λ j=>by simp[World.frozen?,hg],?_⟩;(have A0:∀ j,j<4->w.cell? ⟨g,i*4+j,none⟩=(dC v)[j]?:=by intro j hj;rw[<- wo l i v hi j hj,<- A1,List.getElem?_take_of_lt (by omega)];simp[World.cell?,hg]);exact⟨A0 0 (by omega),A0 1 (by omega),A0 2 (by omega),A0 3 (by omega)⟩
theorem gA (p:Nat)(E:Ent)(vs:Value)(w:World)(h:al w p E vs) :
 Calls Tryz.prog 255 #[.pointer (some ⟨p,0,none⟩)] w λ e w'=>e=.returned (.bool (decide (20<=(E.vers.length:Int))))/\w'=w:=by
 have h2:=h.c2;rcases h.row.2 with ⟨rfl,h0⟩|⟨g,A2,A1,rfl,_,hg,hn,hm,hs,A0⟩
 ·rw[h0];go_enter Tryz.func255,Tryz.ntmps255;go_wp2;go_ret;exact⟨rfl,rfl⟩
 ·clear A0 hs;go_enter Tryz.func255,Tryz.ntmps255;go_wp2;go_ret;exact⟨rfl,rfl⟩
theorem bO (p:Nat)(E:Ent)(vs:Value)(w:World)(h:al w p E vs) :
 Calls Tryz.prog 205 #[.pointer (some ⟨p,0,none⟩)] w λ e w'=>e=.returned (.bool (decide (0<E.last)))/\w'=w:=by
 have h2:=h.c1;go_enter Tryz.func205,Tryz.ntmps205;go_wp2;go_ret;exact⟨rfl,rfl⟩
theorem aN {P:Program}{fn:Func}{p u:Tmp}{ty:TypeId}(h:fn.results=#[.cell p ty,.tmp u])(tmps:Array Value)(w:World)(g:Nat)(t:TypeId)(cs:Array Value)(fr:Nat×Nat)(d:TypeDesc)
 (hp:tmps.getD p undef=.pointer (some ⟨g,0,none⟩))(hg:w.heap[g]?=some (.cells cs t fr))
 (hu:P.underlying ty=some d)(hd:(match d with|.struct _|.array _ _=>true|_=>false)=true)(hi:(P.info? ty).map (·.size)=some cs.size) :
 (results fn tmps).run P w=.ok (.tuple #[.agg cs,tmps.getD u undef]) w:=by
 have A0:tmps[p]?.getD undef=.pointer (some ⟨g,0,none⟩):=by simpa using hp
 simp[results,h,A0,asAddr,run_loadVar_row w g t ty cs fr d hg hu hd hi]
theorem jR:(Tryz.prog.info? 174).map (·.size)=some 4:=by kernel_rfl
theorem pG (p:Nat)(E:Ent)(vs:Value)(w:World)(h:al w p E vs)(h0:E.vers=[]) :
 Calls Tryz.prog 135 #[.pointer (some ⟨p,0,none⟩)] w λ e w'=>e=.returned (.tuple #[lO,.bool false])/\Below w.heap.size w w':=by
 have h2:=h.c2;have A1:=h.lt;have hr:=h.row;rw[h0] at hr;have A0:∃ a c,vs=.slice a 0 c:=by
  rcases hr.2 with ⟨rfl,_⟩|⟨g,A3,A2,rfl,_⟩
  ·exact⟨_,_,rfl⟩
  ·exact⟨_,_,rfl⟩
 obtain⟨a,c,rfl⟩:=A0;clear hr h;go_enter Tryz.func135,Tryz.ntmps135;go_wp2;exact bodyPost_ret (v:=.tuple #[lO,.bool false]) (aN Tryz.results135 _ _ w.heap.size _ _ _ _ rfl (heap_alloc_last _ _) Tryz.underlying174 rfl jR) rfl ⟨rfl,(Below.refl _ _).alloc (Nat.le_refl _) _⟩
theorem wV (w:World)(a b:Obj):((w.alloc a).alloc b).drew.drew.heap[w.heap.size]?=some a :=
 (heap_alloc_old (w.alloc a) b (by simp)).trans (heap_alloc_new w a)
theorem uX (w:World)(a b:Obj):Below w.heap.size w ((w.alloc a).alloc b).drew.drew:=by
 have h:=((Below.refl w.heap.size w).alloc (Nat.le_refl _) a).alloc (by simp) b;exact⟨h.os,h.tape,h.output,h.size,h.block⟩
theorem oH (p:Nat)(E:Ent)(vs:Value)(w:World)(h:al w p E vs)(v:Ver)(i:Nat)(hi:E.vers.length=i+1)(hv:E.vers[i]?=some v)(hb:i<1000) :
 Calls Tryz.prog 135 #[.pointer (some ⟨p,0,none⟩)] w λ e w'=>e=.returned (.tuple #[aW v,.bool (!v.mark)])/\Below w.heap.size w w':=by
 have h2:=h.c2;have A1:=h.lt;obtain⟨g,A2,rfl,hn,hm,hg,_,hf,c0,c1,c2,c3⟩:=gi h.row i v hv;rw[hi] at h2 hn;have A0:((i+1:Nat):Int)-1=(i:Int):=by omega
 clear h hv;go_enter Tryz.func135,Tryz.ntmps135;go_wp2;go_region;go_wp2;go_region;go_wp2;exact bodyPost_ret (v:=.tuple #[aW v,.bool (!v.mark)]) (aN Tryz.results135 _ _ w.heap.size _ _ _ _ rfl (wV _ _ _) Tryz.underlying174 rfl jR) rfl ⟨rfl,uX _ _ _⟩
theorem rS (b:Nat)(n:Int)(v:Ver)(w:World)(hb:w.cell? ⟨b,0,none⟩=some (.int .i64 n))(hlt:b<w.heap.size) :
 Calls Tryz.prog 253 #[aW v,.pointer (some ⟨b,0,none⟩)] w λ e w'=>e=.returned (.bool ((v.num:Int)==n))/\Below w.heap.size w w':=by
 unfold aW;go_enter Tryz.func253,Tryz.ntmps253;go_wp2;go_ret;exact⟨rfl,(Below.refl _ _).alloc (Nat.le_refl _) _⟩
def cV (l:List Ver)(n:Int):Option Nat:=l.findIdx? (λ v=>(v.num:Int)==n)
def nS (l:List Ver)(n:Int):Int:=match cV l n with|some i=>i|none => -1
theorem gq {l:List Ver}{n:Int}{i:Nat}(h:cV l n=some i):nS l n=i:=by simp[nS,h]
theorem jh {l:List Ver}{n:Int}(h:cV l n=none):nS l n = -1:=by simp[nS,h]
def jV (l:List Ver)(n:Int)(i:Nat):Prop:=∀ j v,j<i->l[j]?=some v->(v.num:Int)≠n
theorem jV.zero (l:List Ver)(n:Int):jV l n 0:=λ _ _ h=>by omega
theorem jV.succ {l:List Ver}{n:Int}{i:Nat}{v:Ver}(h:jV l n i)(hv:l[i]?=some v)(hn:((v.num:Int)==n)=false):jV l n (i+1):=by
 intro j u hj hu;by_cases e:j=i
 ·subst e;rw[hv] at hu;cases hu;exact beq_eq_false_iff_ne.1 hn
 ·exact h j u (by omega) hu
theorem xa {l:List Ver}{n:Int}{i:Nat}{v:Ver}(h:jV l n i)(hv:l[i]?=some v)(hn:((v.num:Int)==n)=true):cV l n=some i:=by
 have A0:i<l.length:=(List.getElem?_eq_some_iff.1 hv).1;have hg:l[i]=v:=(List.getElem?_eq_some_iff.1 hv).2;unfold cV;rw[List.findIdx?_eq_some_iff_getElem];refine⟨A0,by rw[hg];exact hn,?_⟩;intro j hj;have:=h j (l[j]'(by omega)) hj (List.getElem?_eq_getElem (by omega));simpa using this
theorem xT {l:List Ver}{n:Int}(h:jV l n l.length):cV l n=none:=by
 unfold cV;rw[List.findIdx?_eq_none_iff];intro v hv;obtain⟨j,hj,e⟩:=List.getElem_of_mem hv;have:=h j v hj (by rw[List.getElem?_eq_getElem hj,e]);simpa using this
theorem bT {w x:World}{base:Nat}{e:TypeId}{k:Nat}{v:Value}{n:Nat}{xs:List Value}(h:w.ownsRow base e k v n xs)(hb:Below w.heap.size w x):x.ownsRow base e k v n xs:=by
 refine⟨h.1,?_⟩;rcases h.2 with h0|⟨g,A1,A0,hv,h1,hg,h2⟩
 ·exact Or.inl h0
 ·exact Or.inr ⟨g,A1,A0,hv,h1,(hb.block _ (gL hg)).trans hg,h2⟩
theorem al.below {w x:World}{p:Nat}{E:Ent}{vs:Value}(h:al w p E vs)(hb:Below w.heap.size w x):al x p E vs:=⟨(hb.block _ h.lt).trans h.blk,bT h.row hb⟩
theorem nA (vs:Value)(l:List Ver)(b:Nat)(n:Int)(w:World)(h:w.ownsRow 0 174 4 vs l.length (aS l))(hb:w.cell? ⟨b,0,none⟩=some (.int .i64 n))(hlt:b<w.heap.size)(hl:l.length<1000000) :
 Calls Tryz.prog 252 #[vs,.func (.func 253) #[] #[.pointer (some ⟨b,0,none⟩)]] w λ e w'=>e=.returned (.int .i64 (nS l n))/\Below w.heap.size w w':=by
 have A1:∃ a c,vs=.slice a l.length c:=by
  rcases h.2 with ⟨rfl,h0⟩|⟨g,A7,A8,rfl,_⟩
  ·rw[h0];exact⟨_,_,rfl⟩
  ·exact⟨_,_,rfl⟩
 have HR:Hid (w.ownsRow 0 174 4 vs l.length (aS l)):=h;clear h;obtain⟨a,c,A3⟩:=A1;rw[A3];go_enter Tryz.func252,Tryz.ntmps252;go_wp2;go_loopw [8] (λ x wx=>∃ i:Nat,i<=l.length/\x=.int .i64 i/\Hid (Below w.heap.size w wx)/\Hid (jV l n i)) (λ x _=>l.length-(intOf x).toNat);case atStart=>exact⟨0,by omega,rfl,Below.refl _ _,jV.zero _ _⟩
 case round =>
  obtain⟨i,hi,rfl,HB,HN⟩:=hrel;by_cases hlt2:i<l.length
  ·obtain⟨v,hv⟩:∃ v,l[i]?=some v:=⟨l[i],List.getElem?_eq_getElem hlt2⟩;obtain⟨g,A7,e1,hn,hm,hg,_,hf,c0,c1,c2,c3⟩:=gi (bT HR.out HB.out) i v hv;rw[A3] at e1;cases e1;have A5:=(HB.out.cell (p:=⟨b,0,none⟩) hlt).trans hb;have A0:b<wr.heap.size:=Nat.lt_of_lt_of_le hlt HB.out.size;have HV:Hid (l[i]?=some v):=hv;(have A6:(i:Int)<(l.length:Int):=by omega);clear hv;go_wp2_with fail;refine (rS b n v _ A5 A0).mono ?_;rintro e w2 ⟨rfl,A4⟩;have A2:Hid (Below w.heap.size w w2):=HB.out.trans (A4.mono HB.out.size);clear A4 HB;cases hq:((v.num:Int)==n) with
   | true =>have HQ:Hid (((v.num:Int)==n)=true):=hq;clear hq;go_wp2;go_ret;exact⟨by rw[gq (xa HN.out HV.out HQ.out)];rfl,A2.out⟩
   | false =>have HQ:Hid (((v.num:Int)==n)=false):=hq;clear hq;go_wp2;refine⟨⟨i+1,by omega,rfl,A2,HN.out.succ HV.out HQ.out⟩,?_⟩;simp[intOf];omega
  ·(obtain rfl:i=l.length:=by omega);clear hlt2;go_wp2;go_ret;exact⟨by rw[jh (xT HN.out)];rfl,HB.out⟩
theorem iH (p:Nat)(E:Ent)(vs:Value)(n:Int)(w:World)(h:al w p E vs)(hl:E.vers.length<1000000) :
 Calls Tryz.prog 200 #[.pointer (some ⟨p,0,none⟩),.int .i64 n] w λ e w'=>e=.returned (.int .i64 (nS E.vers n))/\Below w.heap.size w w':=by
 have h2:=h.c2;have A2:=h.lt;have A0:Below w.heap.size w (w.alloc (.cells #[.int .i64 n] 3)):=(Below.refl _ _).alloc (Nat.le_refl _) _;have hr:=bT h.row A0;clear h;go_enter Tryz.func200,Tryz.ntmps200;go_wp2_with fail;refine (nA vs E.vers w.heap.size n _ hr (by simp) (by simp) hl).mono ?_;rintro e w2 ⟨rfl,A1⟩;go_wp2;go_ret;exact⟨rfl,A0.trans (A1.mono (by simp))⟩
theorem nx (p:Nat)(E:Ent)(vs:Value)(n:Int)(w:World)(h:al w p E vs)(hl:E.vers.length<1000000)(hn:cV E.vers n=none) :
 Calls Tryz.prog 140 #[.pointer (some ⟨p,0,none⟩),.int .i64 n] w λ e w'=>e=.returned (.tuple #[lO,.bool false])/\Below w.heap.size w w':=by
 have A1:Below w.heap.size w (w.alloc (.cells #[.int .i64 0,.int .i64 0,.bool false,.string ⟨#[]⟩] 174)):=(Below.refl _ _).alloc (Nat.le_refl _) _;have h1:=h.below A1;clear h;go_enter Tryz.func140,Tryz.ntmps140;go_wp2_with fail;refine (iH p E vs n _ h1 hl).mono ?_;rintro e w2 ⟨rfl,A0⟩;have hB:=A1.trans (A0.mono (by simp));have hz:w2.heap[w.heap.size]?=some (.cells #[.int .i64 0,.int .i64 0,.bool false,.string ⟨#[]⟩] 174 (0,0)):=(A0.block _ (by simp)).trans (heap_alloc_new _ _);have A2:=(gL hz);rw[jh hn];clear h1 A1 A0;go_wp2_with (refine wpList_store_row rfl 174 (.tmp 4) (.tmp 13) rfl w.heap.size #[.int .i64 0,.int .i64 0,.bool false,.string ⟨#[]⟩] rfl rfl 174 #[.int .i64 0,.int .i64 0,.bool false,.string ⟨#[]⟩] hz jR rfl (by simp[Value.oneCell']) ?_);exact bodyPost_ret (v:=.tuple #[lO,.bool false]) (aN Tryz.results140 _ _ w.heap.size _ _ _ _ rfl (setRow_heap _ _ _ _ _ _ hz) Tryz.underlying174 rfl jR) rfl ⟨rfl,below_setRow hB (Nat.le_refl _) _⟩
theorem ah {w:World}{g i:Nat}{v:Value}{cs:Array Value}{t:TypeId}{fr:Nat×Nat}(h:w.heap[g]?=some (.cells cs t fr)):(w.setCell ⟨g,i,none⟩ v).heap[g]?=some (.cells (cs.setIfInBounds i v) t fr):=by
 simp[World.setCell,Array.getElem?_modify,h]
theorem fg {l:List Ver}{n:Int}{i:Nat}(h:cV l n=some i):∃ v,l[i]?=some v/\(v.num:Int)=n:=by
 unfold cV at h;rw[List.findIdx?_eq_some_iff_getElem] at h;obtain⟨A0,hp,_⟩:=h;exact⟨l[i],List.getElem?_eq_getElem A0,by simpa using hp⟩
theorem nI (p:Nat)(E:Ent)(vs:Value)(n:Int)(w:World)(h:al w p E vs)(hl:E.vers.length<1000000)(i:Nat)(v:Ver)(hn:cV E.vers n=some i)(hv:E.vers[i]?=some v) :
 Calls Tryz.prog 140 #[.pointer (some ⟨p,0,none⟩),.int .i64 n] w λ e w'=>e=.returned (.tuple #[aW v,.bool (!v.mark)])/\Below w.heap.size w w':=by
 have A1:Below w.heap.size w (w.alloc (.cells #[.int .i64 0,.int .i64 0,.bool false,.string ⟨#[]⟩] 174)):=(Below.refl _ _).alloc (Nat.le_refl _) _;have h1:=h.below A1;clear h;go_enter Tryz.func140,Tryz.ntmps140;go_wp2_with fail;refine (iH p E vs n _ h1 hl).mono ?_;rintro e w2 ⟨rfl,A0⟩;have hB:=A1.trans (A0.mono (by simp));have hz:w2.heap[w.heap.size]?=some (.cells #[.int .i64 0,.int .i64 0,.bool false,.string ⟨#[]⟩] 174 (0,0)):=(A0.block _ (by simp)).trans (heap_alloc_new _ _);have A5:=(gL hz);have h2:=h1.below A0;rw[gq hn];have A3:i<E.vers.length:=(List.getElem?_eq_some_iff.1 hv).1;obtain⟨g,Aa,rfl,A9,hm,hg,_,hf,c0,c1,c2,c3⟩:=gi h2.row i v hv;have e2:=h2.c2;have A6:=h2.lt;have HZ:Hid _:=hz;have A4:Hid _:=hB;have k0:w2.cell? ⟨w.heap.size,0,none⟩=some (.int .i64 0):=by simp[World.cell?,hz]
 have k1:w2.cell? ⟨w.heap.size,1,none⟩=some (.int .i64 0):=by simp[World.cell?,hz]
 have k2:w2.cell? ⟨w.heap.size,2,none⟩=some (.bool false):=by simp[World.cell?,hz]
 have k3:w2.cell? ⟨w.heap.size,3,none⟩=some (.string ⟨#[]⟩):=by simp[World.cell?,hz]
 have kf:∀ j,w2.frozen? ⟨w.heap.size,j,none⟩=false:=λ j=>by simp[World.frozen?,hz]
 have kf0:=kf 0;have A7:=kf 1;have A8:=kf 2;have kf3:=kf 3;clear h1 A1 A0 h2 hv hn hz hB kf;go_wp2;go_region;go_wp2;have hs:=ah (i:=3) (v:=.string ⟨v.body.toArray⟩) (ah (i:=2) (v:=.bool v.mark) (ah (i:=1) (v:=.int .i64 v.time) (ah (i:=0) (v:=.int .i64 v.num) HZ.out)));have A2:=((((A4.out.setCell (p:=⟨w.heap.size,0,none⟩) (Nat.le_refl _) (.int .i64 v.num)).setCell (p:=⟨w.heap.size,1,none⟩) (Nat.le_refl _) (.int .i64 v.time)).setCell (p:=⟨w.heap.size,2,none⟩) (Nat.le_refl _) (.bool v.mark)).setCell (p:=⟨w.heap.size,3,none⟩) (Nat.le_refl _) (.string ⟨v.body.toArray⟩));exact bodyPost_ret (v:=.tuple #[aW v,.bool (!v.mark)]) (aN Tryz.results140 _ _ w.heap.size _ _ _ _ rfl ((heap_alloc_old _ _ (by simpa using A5)).trans hs) Tryz.underlying174 rfl jR) rfl ⟨rfl,(A2.alloc A2.size _).drew⟩
def xC (ts:Array TypeId)(ty:TypeId)(args:Array Value):Sem Value:=Builtin.append_ ts ty args
theorem jU (ts:Array TypeId)(ty:TypeId)(args:Array Value):Builtin.append_ ts ty args=xC ts ty args:=rfl
noncomputable def mW (P:Program)(t ty:TypeId)(w:World)(s x:Value):Value×World :=
 match (Builtin.append_ #[t,t] ty #[s,x]).run P w with
 | .ok v w'=>(v,w')
 | _=>(undef,w)
def uy (P:Program)(t ty:TypeId)(w:World)(s x:Value):Prop:=∃ v w',(Builtin.append_ #[t,t] ty #[s,x]).run P w=.ok v w'
theorem lK {P:Program}{t ty:TypeId}{w:World}{s x:Value}(h:uy P t ty w s x) :
 (xC #[t,t] ty #[s,x]).run P w=.ok (mW P t ty w s x).1 (mW P t ty w s x).2:=by
 obtain⟨v,w',h⟩:=h;simp only[mW,xC,h]
theorem tF {P:Program}{t ty:TypeId}{w w':World}{s x v:Value}(h:(Builtin.append_ #[t,t] ty #[s,x]).run P w=.ok v w') :
 uy P t ty w s x/\(mW P t ty w s x).1=v/\(mW P t ty w s x).2=w':=⟨⟨v,w',h⟩,by simp only[mW,h],by simp only[mW,h]⟩
theorem tkH {P:Program}{ops:Array Oper}{Q:Exit->Act->World->Prop}{md:Region.Mode}{S:World->Prop}{oi:Oper}{v:Value}{fuel:Nat}{listed:Array Bool}{a:Act}{w:World}(i:Nat)(hi:ops[i]?=some oi)
 (hk:(Region.noSelect ops&&(Region.free md ops listed i&&(Region.ready md ops listed).contains i))=true)
 (hQ:∀ c a w,Q (.panic c) (a.put oi.dst v) w->Q (.panic c) a w)(hy:YieldsIf P ops S oi v a)(hS:S w)
 (h:wpAnyH P md ops Q S fuel (listed.setIfInBounds i true) (a.put oi.dst v) w):wpAnyH P md ops Q S (fuel+1) listed a w:=by
 rw[Bool.and_eq_true,Bool.and_eq_true] at hk;exact wpAnyH_take hi hk.1 hk.2.1 hk.2.2 hQ hy hS h
theorem tkI {P:Program}{ops:Array Oper}{Q:Exit->Act->World->Prop}{md:Region.Mode}{S:World->Prop}{oi:Oper}{v:Value}{fuel:Nat}{listed:Array Bool}{a:Act}{w:World}(i:Nat)(hS:S w)
 (h:wpAnyH P md ops Q S fuel (listed.setIfInBounds i true) (a.put oi.dst v) w)(hi:ops[i]?=some oi:=by rfl)
 (hk:(Region.noSelect ops&&(Region.free md ops listed i&&(Region.ready md ops listed).contains i))=true:=by kernel_rfl)
 (hQ:∀ c a w,Q (.panic c) (a.put oi.dst v) w->Q (.panic c) a w:=by exact λ _ _ _ h=>h)(hy:YieldsIf P ops S oi v a:=by exact Or.inl ⟨by rfl,λ y hSw=>by go_simp;try with_reducible rfl⟩):wpAnyH P md ops Q S (fuel+1) listed a w:=tkH i hi hk hQ hy hS h
theorem rdI {P:Program}{ops:Array Oper}{Q:Exit->Act->World->Prop}{md:Region.Mode}{S:World->Prop}{o:Oper}{fuel:Nat}{listed:Array Bool}{a:Act}{w:World}(i:Nat)
 (h:∀ K':Act->World->Prop,Shut (∀ a w,S w->(S w->wpAnyH P md ops Q S fuel (listed.setIfInBounds i true) a w)->K' a w)->if Region.wanted o (yielded ops a.tmps)=true then Oper.wp P o a w K' Q else K' (a.put o.dst undef) w)
 (hr:Region.ready md ops listed=[i]:=by kernel_rfl)(ho:ops[i]?=some o:=by rfl):wpAnyH P md ops Q S (fuel+1) listed a w:=wpAnyH_ready hr (by simp) (AllReadyH.cons ho h AllReadyH.nil)
open Go.RowKit
structure Off (S:Nat->Prop)(w x:World):Prop where
 os:x.os=w.os
 tape:x.tape=w.tape
 output:x.output=w.output
 size:w.heap.size<=x.heap.size
 block:∀ k,k<w.heap.size->¬ S k->x.heap[k]?=w.heap[k]?
theorem Off.refl (S:Nat->Prop)(w:World):Off S w w:=⟨rfl,rfl,rfl,Nat.le_refl _,λ _ _ _=>rfl⟩
theorem Off.trans {S:Nat->Prop}{a b c:World}(h:Off S a b)(k:Off S b c):Off S a c :=
 ⟨k.os.trans h.os,k.tape.trans h.tape,k.output.trans h.output,Nat.le_trans h.size k.size,λ i hi hs=>(k.block i (Nat.lt_of_lt_of_le hi h.size) hs).trans (h.block i hi hs)⟩
theorem Off.trans' {S T:Nat->Prop}{a b c:World}(h:Off S a b)(k:Off T b c)(hT:∀ i,i<a.heap.size->T i->S i):Off S a c :=
 ⟨k.os.trans h.os,k.tape.trans h.tape,k.output.trans h.output,Nat.le_trans h.size k.size,λ i hi hs=>(k.block i (Nat.lt_of_lt_of_le hi h.size) (λ t=>hs (hT i hi t))).trans (h.block i hi hs)⟩
theorem Off.mono {S T:Nat->Prop}{a b:World}(h:Off S a b)(hT:∀ i,S i->T i):Off T a b:=⟨h.os,h.tape,h.output,h.size,λ k hk hs=>h.block k hk (λ s=>hs (hT k s))⟩
theorem Off.of_below {S:Nat->Prop}{w x:World}(h:Below w.heap.size w x):Off S w x:=⟨h.os,h.tape,h.output,h.size,λ k hk _=>h.block k hk⟩
theorem Off.set {S:Nat->Prop}{w x:World}(h:Off S w x)(g i:Nat)(v:Value)(hg:S g\/w.heap.size<=g):Off S w (x.setCell ⟨g,i,none⟩ v):=by
 refine⟨h.os,h.tape,h.output,by simpa using h.size,λ k hk hs=>?_⟩;have A0:g≠k:=λ e=>by subst e;rcases hg with hg|hg;exact hs hg;omega
 rw[<- h.block k hk hs];simp[World.setCell,Array.getElem?_modify,A0]
theorem Off.alloc {S:Nat->Prop}{w x:World}(h:Off S w x)(o:Obj):Off S w (x.alloc o):=by
 refine⟨h.os,h.tape,h.output,by have:=h.size;simp;omega,λ k hk hs=>?_⟩;rw[<- h.block k hk hs];exact heap_alloc_old _ _ (Nat.lt_of_lt_of_le hk h.size)
theorem Off.drew {S:Nat->Prop}{w x:World}(h:Off S w x):Off S w x.drew:=⟨h.os,h.tape,h.output,h.size,h.block⟩
theorem Off.grown {S:Nat->Prop}{w x y:World}{r:Option Nat}(h:Off S w x)(hg:x.grownBy y r)(hr:∀ k,r=some k->S k\/w.heap.size<=k):Off S w y:=by
 refine⟨hg.os.trans h.os,hg.tape.trans h.tape,hg.output.trans h.output,Nat.le_trans h.size hg.size,λ k hk hs=>?_⟩;rw[<- h.block k hk hs];refine hg.block k (Nat.lt_of_lt_of_le hk h.size) (λ e=>?_);rcases hr k e.symm with h1|h1
 ·exact hs h1
 ·omega
theorem rz:(Tryz.prog.info? 174).map (λ i=>(i.zero,i.size,i.bytes))=some (some (.agg #[.int .i64 0,.int .i64 0,.bool false,.string ⟨#[]⟩]),4,40):=by kernel_rfl
open Go.RowKit
attribute [local go_sem ↓] jU
attribute [local go_sem] lK
theorem vN (w:World)(ty:TypeId)(b o c:Nat)(hc:∀ j,j<4->(w.cell? ⟨b,o+j,none⟩).isSome=true)(hf:∀ j,j<4->w.frozen? ⟨b,o+j,none⟩=false) :
 (Builtin.clear_ #[228] ty #[.slice (some ⟨b,o,none⟩) 1 c]).run Tryz.prog w=.ok (.tuple #[]) (w.setCells b o [.int .i64 0,.int .i64 0,.bool false,.string ⟨#[]⟩]):=by
 have A0:=run_storeCells_cells (P:=Tryz.prog) b o [.int .i64 0,.int .i64 0,.bool false,.string ⟨#[]⟩] 0 w (by simpa using hc) (by simpa using hf) (by simp[Value.oneCell']);simp only[Nat.add_zero] at A0;have A1:(Builtin.zeroCells (Value.agg #[.int .i64 0,.int .i64 0,.bool false,.string ⟨#[]⟩]).cells 1).toList=[.int .i64 0,.int .i64 0,.bool false,.string ⟨#[]⟩]:=by simp[Builtin.zeroCells,Value.cells,List.range_succ]
 simp only[Builtin.clear_];simp[run_underlying Tryz.underlying228,Tryz.zeroValue174,A1,A0]
theorem gF (a b:List Ver):aS (a++b)=aS a++aS b:=by simp[aS]
theorem rU (l:List Ver)(i:Nat)(h:i<=l.length):(aS l).take (i*4)=aS (l.take i):=by
 have e:aS l=aS (l.take i)++aS (l.drop i):=by rw[<- gF,List.take_append_drop]
 rw[e];have hl:(aS (l.take i)).length=i*4:=by rw[dh,List.length_take,Nat.min_eq_left h]
 rw[<- hl,List.take_left]
theorem sC (l:List Ver)(i:Nat)(h:i<=l.length):(aS l).drop (i*4)=aS (l.drop i):=by
 have e:aS l=aS (l.take i)++aS (l.drop i):=by rw[<- gF,List.take_append_drop]
 rw[e];have hl:(aS (l.take i)).length=i*4:=by rw[dh,List.length_take,Nat.min_eq_left h]
 rw[<- hl,List.drop_left]
theorem wl {l:List Ver}{v:Value}(h:v∈aS l):v.oneCell'=true:=by
 simp only[aS,List.mem_flatMap] at h;obtain⟨x,_,hx⟩:=h;simp only[dC,List.mem_cons,List.not_mem_nil,or_false] at hx;rcases hx with rfl|rfl|rfl|rfl<;>rfl
theorem rT (l:List Ver)(g cap:Nat)(i:Nat)(w:World)(h:w.ownsRow 0 174 4 (.slice (some ⟨g,0,none⟩) l.length cap) l.length (aS l))(hi:i<l.length)(hl:l.length<1000000) :
 Calls Tryz.prog 295 #[.slice (some ⟨g,0,none⟩) l.length cap,.int .i64 i,.int .i64 ((i:Int)+1)] w λ e w'=>e=.returned (.slice (some ⟨g,0,none⟩) (l.length-1) cap) /\
  w'.ownsRow 0 174 4 (.slice (some ⟨g,0,none⟩) (l.length-1) cap) (l.length-1) (aS (l.eraseIdx i))/\Off (λ k=>k=g) w w':=by
 obtain⟨i0,Ag,Ar,Ai,Al⟩:=info_parts rz;obtain⟨A4,hg,An,Aj,Af,Ae⟩:∃ A4,w.heap[g]?=some (.cells A4 174 (0,0))/\l.length<=cap/\cap<=maxLen/\A4.size=cap*4/\A4.toList.take (l.length*4)=aS l:=by
  rcases h.2 with ⟨h0,_⟩|⟨g',Ad,A4,hv,_,hg,h2⟩
  ·cases h0
  ·cases hv;exact⟨A4,hg,h2⟩
 have Ap:g<w.heap.size:=(gL hg);simp only[maxLen] at Aj;have A9:w.drew.ownsRow 0 174 4 (.slice (some ⟨g,0,none⟩) i cap) i (aS (l.take i)):=by refine⟨by rw[dh,List.length_take,Nat.min_eq_left (by omega)],Or.inr ⟨g,cap,A4,rfl,Nat.zero_le _,hg,by omega,by simp only[maxLen];omega,Af,?_⟩⟩;rw[<- rU l i (by omega),<- Ae,List.take_take,Nat.min_eq_left (by omega)]
 have A1:∀ j u,(aS l)[j]?=some u->w.cell? ⟨g,j,none⟩=some u:=by intro j u hu;(have hj:j<l.length*4:=by have:=(List.getElem?_eq_some_iff.1 hu).1;rwa [dh] at this);rw[<- Ae,List.getElem?_take_of_lt hj] at hu;simpa [World.cell?,hg] using hu
 obtain⟨A,hA,A6⟩:∃ A:Addr,(if cap=i+1 then some (⟨g,0,none⟩:Addr) else some ⟨g,(i+1)*4,none⟩)=some A/\Hid (∀ t u,(aS (l.drop (i+1)))[t]?=some u->w.drew.cell? (A.add t)=some u):=by
  by_cases hc:cap=i+1
  ·refine⟨⟨g,0,none⟩,by simp[hc],λ t u hu=>?_⟩;have:l.drop (i+1)=[]:=List.drop_eq_nil_of_le (by omega);rw[this] at hu;simp[aS] at hu
  ·refine⟨⟨g,(i+1)*4,none⟩,by simp[hc],λ t u hu=>?_⟩;rw[<- sC l (i+1) (by omega),List.getElem?_drop] at hu;rw[Addr.add_lit];exact A1 _ _ hu
 obtain⟨w1,A5,A2,A3⟩:=run_append_fits (P:=Tryz.prog) w.drew 0 228 228 174 i0 4 Tryz.underlying228 Ag Ai g i cap (aS (l.take i)) A9 A (l.length-(i+1)) (cap-(i+1)) (aS (l.drop (i+1))) (by rw[dh,List.length_drop]) A6.out (λ u hu=>wl hu) (by omega);obtain⟨Am,Aq,Ao⟩:=tF A5;have HG:Hid _:=A3;have HO:Hid _:=A2;obtain⟨A0,Aa,A8,A7⟩:∃ A0,w1.heap[g]?=some (.cells A0 174 (0,0))/\A0.size=cap*4/\A0.toList.take ((i+(l.length-(i+1)))*4)=aS (l.take i)++aS (l.drop (i+1)):=by
  rcases HO.out.2 with ⟨h0,_⟩|⟨g',Ad,Ac,hv,_,Ah,_,_,h3,h4⟩
  ·cases h0
  ·cases hv;exact⟨Ac,Ah,h3,h4⟩
 have Ak:(Builtin.clear_ #[228] 0 #[.slice (some ⟨g,(i+(l.length-(i+1)))*4,none⟩) (l.length-(i+(l.length-(i+1)))) (cap-(i+(l.length-(i+1))))]).run Tryz.prog w1=.ok (.tuple #[]) (w1.setCells g ((i+(l.length-(i+1)))*4) [.int .i64 0,.int .i64 0,.bool false,.string ⟨#[]⟩]):=by
  (have e1:l.length-(i+(l.length-(i+1)))=1:=by omega);rw[e1];refine vN w1 0 g _ _ (λ j hj=>?_) (λ j hj=>?_)
  ·simp only[World.cell?,Aa];rw[Array.getElem?_eq_getElem (by omega)];rfl
  ·simp[World.frozen?,Aa]
 obtain⟨w2,Ab⟩:∃ w2,w2=w1.setCells g ((i+(l.length-(i+1)))*4) [.int .i64 0,.int .i64 0,.bool false,.string ⟨#[]⟩]:=⟨_,rfl⟩;rw[<- Ab] at Ak;have HW:Hid _:=Ab;have H1:Hid _:=Aa;have H2:Hid _:=A8;have H3:Hid _:=A7;clear A5 A3 A2 A9 A1 A6 h Ae Af hg Ab Aa A8 A7;go_enter Tryz.func295,Tryz.ntmps295;go_wp2_with fail;go_region;go_wp2;go_ret;have hk:i+(l.length-(i+1))=l.length-1:=by omega
 refine⟨by rw[<- hk];rfl,?_,?_⟩
 ·(have hb:w2.heap[g]?=some (.cells (((((A0.setIfInBounds ((l.length-1)*4) (.int .i64 0)).setIfInBounds ((l.length-1)*4+1) (.int .i64 0)).setIfInBounds ((l.length-1)*4+1+1) (.bool false)).setIfInBounds ((l.length-1)*4+1+1+1) (.string ⟨#[]⟩))) 174 (0,0)):=by rw[HW.out,hk];exact ah (ah (ah (ah H1.out))));refine⟨by rw[dh,List.length_eraseIdx_of_lt hi],Or.inr ⟨g,cap,_,rfl,Nat.zero_le _,hb,by omega,by simp only[maxLen];omega,by simpa using H2.out,?_⟩⟩;have h3:=H3.out;rw[hk] at h3;(have e2:aS (l.eraseIdx i)=aS (l.take i)++aS (l.drop (i+1)):=by rw[List.eraseIdx_eq_take_drop_succ,gF]);rw[e2,<- h3];apply List.ext_getElem?;intro t;by_cases ht:t<(l.length-1)*4
  ·rw[List.getElem?_take_of_lt ht,List.getElem?_take_of_lt ht];simp only[Array.getElem?_toList];rw[Array.getElem?_setIfInBounds_ne (by omega),Array.getElem?_setIfInBounds_ne (by omega),Array.getElem?_setIfInBounds_ne (by omega),Array.getElem?_setIfInBounds_ne (by omega)]
  ·rw[List.getElem?_eq_none (by simp;omega),List.getElem?_eq_none (by simp;omega)]
 ·have ho:Off (λ k=>k=g) w w1:=(Off.refl _ w).drew.grown HG.out (λ k hk=>Or.inl (by cases hk;rfl));rw[HW.out];exact (((ho.set g _ _ (Or.inl rfl)).set g _ _ (Or.inl rfl)).set g _ _ (Or.inl rfl)).set g _ _ (Or.inl rfl)
end Go.Proofs.YtmehkneofinmiaaGreatDoor

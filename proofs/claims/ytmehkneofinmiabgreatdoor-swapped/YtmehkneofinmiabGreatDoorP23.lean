/-part 23-/
import Derived.Test.YtmehkneofinmiabGreatDoorP15
namespace Go.Proofs.Rn
open Go Go.Conc
section
variable {P:Program} {T:Frame->List Frame->World->Prop} {IC:List Frame} {w:World} {b:Frame} {k:List Item} {ops:Array Oper}
theorem Reach.past {a:Act}{i:Nat}{rest:List Nat}{o:Oper}(ho:ops[i]?=some o)(hw:Region.wanted o (yielded ops a.tmps)=false)(h:Reach P T (b.at (a.put o.dst undef) (.inRegion ops rest::k)) IC w):Reach P T (b.at a (.inRegion ops (i::rest)::k)) IC w:=by
 refine .step (λcs=>?_) h;have hs:=step_op_skip (P:=P) (b:=b) (a:=a) (k:=k) (cs:=IC++cs) (w:=w) (ops:=ops) (i:=i) (rest:=rest) (by simp[ho,hw]);simp only[ho,Option.bind_some] at hs;exact hs
theorem Reach.list {K:Act->World->Prop}{m:Nat}:∀(l:List Oper) (i:Nat) (a:Act) (w:World),(∀j,j<l.length->l[j]?=ops[i+j]?)->(∀a w,K a w->Reach P T (b.at a (.inRegion ops (List.range' (i+l.length) m)::k)) IC w) ->
 wpList P ops (Exit.then K λ_ _ _=>False) l a w->Reach P T (b.at a (.inRegion ops (List.range' i (l.length+m))::k)) IC w:=by
 intro l;induction l with
 | nil =>intro i a w _ hK h;simpa using hK a w h
 | cons o l ih =>
   intro i a w hl hK h;(have ho:ops[i]?=some o:=by have:=hl 0 (by simp);simpa using this.symm);(have A1:∀j,j<l.length->l[j]?=ops[i+1+j]?:=λj hj=>by have:=hl (j+1) (by simp;omega);rw[List.getElem?_cons_succ] at this;rw[this];congr 1;omega);(have A2:∀a w,K a w->Reach P T (b.at a (.inRegion ops (List.range' (i+1+l.length) m)::k)) IC w:=λa w hk=>by have:=hK a w hk;rw[List.length_cons] at this;rw[show i+1+l.length=i+(l.length+1) by omega];exact this);(have e:List.range' i ((o::l).length+m)=i::List.range' (i+1) (l.length+m):=by rw[List.length_cons,show l.length+1+m=(l.length+m)+1 by omega,List.range'_succ]);rw[e];simp only[wpList] at h;by_cases hw:Region.wanted o (yielded ops a.tmps)=true
   ·simp only[hw,if_true] at h;rcases h with h|⟨_,a0,w0,h0⟩
    ·refine .op ho hw ?_;have h2:=Oper.wp_mono (λa' w' h3=>ih (i+1) a' w' A1 A2 h3) h;unfold Oper.wp at h2 ⊢;generalize (execOp a.eval o).run P w=r at h2 ⊢;cases r with
     | ok n w' =>cases n<;>simp only[Oper.upon] at h2 ⊢<;>first|exact h2|(refine Calls.mono h2 λe w'' he=>?_;cases e<;>first|exact he|exact he.elim|(obtain⟨_,_,hx⟩:=he;exact hx.elim))
     | halt x w'=>cases x<;>simp only[Oper.upon] at h2 ⊢<;>first|exact h2|exact h2.elim
    ·exact h0.elim
   ·(have A0:Region.wanted o (yielded ops a.tmps)=false:=by simpa using hw);simp only[A0,Bool.false_eq_true,if_false] at h;exact .past ho A0 (ih (i+1) _ w A1 A2 h)
theorem Reach.till {id:Nat}{a:Act}(n m:Nat)(l:List Oper)(hn:ops.size=n+m)(hl:ops.toList.take n=l)(h:∀K:Act->World->Prop,(∀a w,Reach P T (b.at a (.inRegion ops (List.range' n m)::k)) IC w->K a w)->wpList P ops (Exit.then K λ_ _ _=>False) l a w):Reach P T (b.at a (.code (.region id ops false)::k)) IC w:=by
 refine .ctl (λcs=>stepG_region) ?_;have A0:l.length=n:=by rw[<-hl];simp;omega
 have:=Reach.list (P:=P) (T:=T) (IC:=IC) (b:=b) (k:=k) (ops:=ops) (m:=m) l 0 a w (λj hj=>by rw[<-hl,List.getElem?_take,if_pos (by omega),Nat.zero_add];simp) (λa w hk=>hk) (h _ λa w hr=>by rw[Nat.zero_add,A0];exact hr);rw[A0,<-hn,<-List.range_eq_range'] at this;exact this
theorem Reach.tail {a:Act}{l:List Nat}(h:∀K:Act->World->Prop,(∀a w,Reach P T (b.at a k) IC w->K a w)->wpOps P ops (Exit.then K λ_ _ _=>False) l a w):Reach P T (b.at a (.inRegion ops l::k)) IC w:=λcs=>by
 obtain⟨e,a',w',hq,harr⟩:=wp_ops l a w (h _ λa w hr=>hr) b k (IC++cs)
 cases e<;>first|(obtain⟨f,s,w2,h1,h2⟩:=hq cs;exact⟨f,s,w2,harr.trans h1,h2⟩)|exact hq.elim
theorem Reach.last {f:FuncId}{fn:Func}{a:Act}{x:Code}{c:Frame}(hf:P.funcs[f]?=some fn)(hb:b.fn=f)(hk:b.kind=.normal)(h:x.wp P (bodyPostD P fn λe w'=>∃v,e=.returned v/\Reach P T (c.finish v) IC w') a w):Reach P T (b.at a [.code x]) (c::IC) w:=λcs=>by
 obtain⟨e,a',w',hq,harr⟩:=h b [] (c::IC++cs)
 have fin:∀{todo:List Item} {u:FrameMode},Steps P (lone (b.at a [.code x]) (c::IC++cs) w) (lone { b.at a' todo with mode:=u } (c::IC++cs) w')->Leaves P fn a'.tmps (λe w'=>∃v,e=.returned v/\Reach P T (c.finish v) IC w') a'.defers u w'->∃fr' IL w'',Steps P (lone (b.at a [.code x]) (c::IC++cs) w) (lone fr' (IL++cs) w'')/\T fr' IL w'':=by
  intro todo u A1 A2;obtain⟨e',w'',fr',⟨v,rfl,hr⟩,hs,_,hl⟩:=leaves_steps a'.defers u w' { b.at a' todo with mode:=u } (c::IC++cs) rfl rfl rfl (by show P.funcs[b.fn]?=_;rw[hb];exact hf) hk A2;obtain⟨f1,s1,w1,h1,h2⟩:=hr cs;exact⟨f1,s1,w1,A1.trans (Steps.trans hs (.head (step_leave_returned hl) h1)),h2⟩
 cases e with
 | normal=>exact fin (todo:=[]) (Steps.trans harr (.one step_end)) hq
 | ret =>obtain⟨todo,A0⟩:=harr;exact fin A0 hq
 | panic chain =>obtain⟨todo,A0⟩:=harr;exact fin A0 hq
 | exit id=>exact hq.elim
 | goto l=>exact hq.elim
 | outgrown =>obtain⟨v,hv,_⟩:=hq;cases hv
end
end Go.Proofs.Rn

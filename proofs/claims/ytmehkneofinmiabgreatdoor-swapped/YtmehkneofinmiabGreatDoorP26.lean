/-part 26-/
import Derived.Test.YtmehkneofinmiabGreatDoorP21
open Go.Proofs.Tryz
open Go.Proofs.Tryz renaming prog->ID
open Go.Extern.Race renaming marked->IF
open Go.Extern.BytealgIndexByte renaming indexByte->IH
open Array renaming getElem?_eq_some_iff->IR,getElem?_eq_none->Lz
open Go.Extern.Synctest renaming none_->I3
open Go.Extern.Sync renaming semacquire->Jx,die->K2,semrelease->Ln
open Go.Extern.BytealgIndex renaming index->J0
open Go.Extern.Atomic renaming storeT->J1,update->Kf,loadT->Ks,casT->Ly
open Classical renaming choose->Kx,choose_spec->K0
open List renaming not_mem_nil->K1,mem_cons->Lo,mem_filter->LL
open Go renaming Value->Lq
open Option renaming some->Lw
open Bool renaming true->LI,false->LN
namespace Go.Proofs.Rn
open Go
variable {X x:Array Lq}
section
variable {E:Env} {r:Rel}
theorem tR (k:IntKind)(h:AR E r x X):SR E (aO E) r (Ks (.int k) x) (Ks (.int k) X):=by
 obtain⟨l,L,rfl,rfl,hl,hp⟩:=h.toList
 match l,L,hl with
 | [],[],_=>exact ag
 | [v],[V],_ =>unfold Ks;refine(dI (hp 0 v V rfl rfl)).Iy ?_;intro r1 a A s1 ha;exact qW k ha
 | _::_::_,_::_::_,_=>exact ag
theorem pX (h:AR E r x X):SR E (aO E) r (J1 x) (J1 X):=by
 obtain⟨l,L,rfl,rfl,hl,hp⟩:=h.toList
 match l,L,hl with
 | [],[],_=>exact ag
 | [v],[V],_=>exact ag
 | [v,u],[V,U],_ =>
   unfold J1;refine(dI (hp 0 v V rfl rfl)).Iy ?_;intro r1 a A s1 ha;refine(gq ha ((hp 1 u U rfl rfl).mono s1) .atomic).Iy ?_;rintro r2 _ _ s2 -
   exact fL
 | _::_::_::_,_::_::_::_,_=>exact ag
theorem yD {v V:Lq}(h:VR E r v V):SR E bc r (Extern.Bytes.asByte v) (Extern.Bytes.asByte V):=by
 unfold Extern.Bytes.asByte;cases h with
 | int k n=>cases k<;>first|exact .pure rfl|exact ag
 | _=>exact ag
theorem rA (h:AR E r x X):SR E (aO E) r (IH x) (IH X):=by
 obtain⟨l,L,rfl,rfl,hl,hp⟩:=h.toList
 match l,L,hl with
 | [],[],_=>exact ag
 | [v],[V],_=>exact ag
 | [v,u],[V,U],_ =>unfold IH;refine(fK (hp 0 v V rfl rfl)).Iy ?_;rintro r1 a _ s1 rfl;refine(yD ((hp 1 u U rfl rfl).mono s1)).Iy ?_;rintro r2 b _ s2 rfl;split<;>exact .pure (.int _ _)
 | _::_::_::_,_::_::_::_,_=>exact ag
theorem pH (hG:∀g,g<E.P.globals.size->E.G g)(hb:∀g,E.G g->r g g)(n:String):SR E (λr=>IX r) r (globalAddr n) (globalAddr n):=by
 unfold globalAddr;refine fY.Iy ?_;rintro r1 _ _ s1 ⟨rfl,rfl⟩;split
 ·rename_i g hg;refine .pure ⟨s1.1 _ _ (hb g (hG g ?_)),rfl,rfl⟩;exact(Array.findIdx?_eq_some_iff_findIdx_eq.1 hg).1
 ·exact ag
theorem yA (hG:∀g,g<E.P.globals.size->E.G g)(hb:∀g,E.G g->r g g)(h:AR E r x X):SR E (aO E) r (J0 x) (J0 X):=by
 obtain⟨l,L,rfl,rfl,hl,hp⟩:=h.toList
 match l,L,hl with
 | [],[],_=>exact ag
 | [v],[V],_=>exact ag
 | [v,u],[V,U],_ =>
   unfold J0;refine(fK (hp 0 v V rfl rfl)).Iy ?_;rintro r1 a _ s1 rfl;refine(fK ((hp 1 u U rfl rfl).mono s1)).Iy ?_;rintro r2 b _ s2 rfl;refine SR.Iy (A:=bc) ?_ ?_
   ·unfold Extern.BytealgIndex.maxLen;refine(pH hG (λg hg=>s2.1 _ _ (s1.1 _ _ (hb g hg))) _).Iy ?_;intro r3 c C s3 hc;refine(iD hc).Iy ?_;intro r4 v V s4 hv;exact eo hv
   rintro r3 m _ s3 rfl;dsimp only;by_cases c1:(decide (b.size<2)||decide ((b.size:Int) > m))=LI
   ·rw[if_pos c1];exact au
   ·rw[if_neg c1];by_cases c2:a.size ≥ 2 ^ 32-15
    ·rw[if_pos c2];exact au
    ·rw[if_neg c2];cases List.find? (λi=>a.extract i (i+b.size)==b) (List.range (a.size+1-b.size)) with
     | none=>exact .pure (.int _ _)
     | some i=>exact .pure (.int _ _)
 | _::_::_::_,_::_::_::_,_=>exact ag
end
open Go Go.Proofs
def Lm:dh:={ fs:=[4,9,10,11,12,13,14,15,16,17,18,19,21,24,26,27,28,29,30,31,32,33,34,35,36,37,38,39,41,42,43,44,45,46,47,48,49,50,51,52,54,55,57,58,59,60,61,62,63,64,65,66,67,68,69,70,71,72,73,74,75,76,77,78,81,82,83,84,85,86,87,88,89,90,91,92,93,94,95,96,97,98,99,100,101,102,103,104,105,106,107,108,109,110,111,112,113,114,115,116,117,118,119,120,121,122,123,126,128,129,130,131,132,133,134,136,137,138,139,140,141,142,143,144,145,146,147,148,149,150,151,152,153,154,155,156,157,158,159,160,161,162,165,166,167,168,169,170,171,172,173,175,176,177,178,179,180,181,182,183,184,185,186,187,188,189,190,191,192,193,194,195,196,197,198,199,200,201,202,203,204,205,206,207,208,209,210,211,212,213,214,215,216,217,218,219,220,221,222,223,224,225,226,227,228,229,230,231,232,233,234,235,236,237,238,239,240,241,242,243,244,245,246,247,248,249,250,251,252,253,254,255,256,257,258,259,260,261,262,263,264,265,266,267,268,269,270,271,272,273,274,275,276,277,278,279,280,281,282,283,284,285,286,287,306,307],ts:=[257,9,102],J5:=[53],JK:=[56],deep:=[135],ty:=[32,33,59,73,74,89,90,119,122,135,162],op:=λc=>Tt c||Db [56] [87] c }
set_option maxRecDepth 100000
variable {J:Lq->Lq->Prop}
theorem m0:prog.globals.size=gN:=by kernel_rfl
theorem m8:Lm.fs.all (λf=>!(Lm.J5.contains f)&&!(Lm.JK.contains f)&&!(Lm.deep.contains f))=LI:=by kernel_rfl
theorem m1:Lm.fs.all (xD ID Lm)=LI:=by kernel_rfl
theorem m2:Lm.ts.all (yh ID Lm)=LI:=by kernel_rfl
theorem m3:prog.types.toList.all tL=LI:=by kernel_rfl
theorem m5:Lm.deep.all (CS ID Lm)=LI:=by kernel_rfl
theorem m6 : ∀f ∈ Lm.J5, ∃fn, prog.funcs[f]? = Lw fn /\ fn.name ≠ "runtime.NumGoroutine" /\ fn.body = none /\ Extern.findNext fn = none /\ Extern.find fn = Lw (λ_ => do mark .disable; pure (.tuple #[])) := by
 intro f hf;simp only[Lm,Lo,K1,or_false] at hf;subst hf;exact⟨_,func53,by decide,by kernel_rfl,by kernel_rfl,by kernel_rfl⟩
theorem m7 : ∀f ∈ Lm.JK, ∃fn, prog.funcs[f]? = Lw fn /\ fn.name ≠ "runtime.NumGoroutine" /\ fn.body = none /\ Extern.findNext fn = none /\ Extern.find fn = Lw (λ_ => do mark .enable; pure (.tuple #[])) := by
 intro f hf;simp only[Lm,Lo,K1,or_false] at hf;subst hf;exact⟨_,func56,by decide,by kernel_rfl,by kernel_rfl,by kernel_rfl⟩
theorem m9 : ∀f ∈ [87], ∃fn, prog.funcs[f]? = Lw fn /\ fn.name ≠ "runtime.NumGoroutine" /\ fn.body = none /\ Extern.findNext fn = none /\ Extern.find fn = Lw (K2 .fatal) := by
 intro f hf;simp only[Lo,K1,or_false] at hf;subst hf;exact⟨_,func87,by decide,by kernel_rfl,by kernel_rfl,by kernel_rfl⟩
theorem OW:aV (env ID Lm J) f52:=⟨by kernel_rfl,IF .read,by kernel_rfl,λr x X hr hb h=>dL (λ_ _ _ h=>.read h) h⟩
theorem OV:aV (env ID Lm J) f55:=⟨by kernel_rfl,Jx,by kernel_rfl,λr x X hr hb h=>dQ h⟩
theorem OU:aV (env ID Lm J) f57:=⟨by kernel_rfl,IF .acquire,by kernel_rfl,λr x X hr hb h=>dL (λ_ _ _ h=>.acquire h) h⟩
theorem OT:aV (env ID Lm J) f58:=⟨by kernel_rfl,IF .releaseMerge,by kernel_rfl,λr x X hr hb h=>dL (λ_ _ _ h=>.releaseMerge h) h⟩
theorem OQ:aV (env ID Lm J) f86:=⟨by kernel_rfl,Kf (Op.intArith .add) .i32 LI,by kernel_rfl,λr x X hr hb h=>gJ (λr k a b=>gy _ _ _ _) _ _ h⟩
theorem OP:aV (env ID Lm J) f87:=⟨by kernel_rfl,K2 .fatal,by kernel_rfl,λr x X hr hb h=>ri (λ_=>by trivial) h⟩
theorem OO:aV (env ID Lm J) f88:=⟨by kernel_rfl,Ln,by kernel_rfl,λr x X hr hb h=>gh h⟩
theorem wD:aV (env ID Lm J) f112:=⟨by kernel_rfl,Jx,by kernel_rfl,λr x X hr hb h=>dQ h⟩
theorem vK:aV (env ID Lm J) f113:=⟨by kernel_rfl,IF .release,by kernel_rfl,λr x X hr hb h=>dL (λ_ _ _ h=>.release h) h⟩
theorem wI:aV (env ID Lm J) f133:=⟨by kernel_rfl,Extern.AbiNoEscape.same,by kernel_rfl,λr x X hr hb h=>D5 h⟩
theorem u7:aV (env ID Lm J) f134:=⟨by kernel_rfl,Ly (.int .i32),by kernel_rfl,λr x X hr hb h=>vt _ h⟩
theorem Hs:aV (env ID Lm J) f167:=⟨by kernel_rfl,I3,by kernel_rfl,λr x X hr hb h=>al⟩
theorem Ib:aV (env ID Lm J) f169:=⟨by kernel_rfl,I3,by kernel_rfl,λr x X hr hb h=>al⟩
theorem Hi:aV (env ID Lm J) f170:=⟨by kernel_rfl,IF .write,by kernel_rfl,λr x X hr hb h=>dL (λ_ _ _ h=>.write h) h⟩
theorem Ir:aV (env ID Lm J) f171:=⟨by kernel_rfl,λ_=>pure (.bool LN),by kernel_rfl,λr x X hr hb h=>.pure (.bool _)⟩
theorem Iu:aV (env ID Lm J) f172:=⟨by kernel_rfl,Jx,by kernel_rfl,λr x X hr hb h=>dQ h⟩
theorem Ii:aV (env ID Lm J) f183:=⟨by kernel_rfl,Extern.Sync.canSpin,by kernel_rfl,λr x X hr hb h=>vD h⟩
theorem Ia:aV (env ID Lm J) f184:=⟨by kernel_rfl,Extern.Sync.nothing,by kernel_rfl,λr x X hr hb h=>fL⟩
theorem Hc:aV (env ID Lm J) f185:=⟨by kernel_rfl,K2 .throw,by kernel_rfl,λr x X hr hb h=>ri (λ_=>by trivial) h⟩
theorem Hp:aV (env ID Lm J) f186:=⟨by kernel_rfl,Extern.OsHooks.nano,by kernel_rfl,λr x X hr hb h=>EP rfl⟩
theorem He:aV (env ID Lm J) f187:=⟨by kernel_rfl,Jx,by kernel_rfl,λr x X hr hb h=>dQ h⟩
theorem Ic:aV (env ID Lm J) f188:=⟨by kernel_rfl,K2 .fatal,by kernel_rfl,λr x X hr hb h=>ri (λ_=>by trivial) h⟩
theorem Io:aV (env ID Lm J) f189:=⟨by kernel_rfl,Ln,by kernel_rfl,λr x X hr hb h=>gh h⟩
theorem Hy:aV (env ID Lm J) f207:=⟨by kernel_rfl,I3,by kernel_rfl,λr x X hr hb h=>al⟩
theorem Is:aV (env ID Lm J) f211:=⟨by kernel_rfl,Ks (.int .u64),by kernel_rfl,λr x X hr hb h=>tR _ h⟩
theorem Hq:aV (env ID Lm J) f212:=⟨by kernel_rfl,Ly (.int .u64),by kernel_rfl,λr x X hr hb h=>vt _ h⟩
theorem Iw:aV (env ID Lm J) f216:=⟨by kernel_rfl,J0,by kernel_rfl,λr x X hr hb h=>yA (E:=env ID Lm J) (λg hg=>(⟨rfl,hg⟩:Lm.gl=LI/\g<prog.globals.size)) hb h⟩
theorem Hk:aV (env ID Lm J) f234:=⟨by kernel_rfl,Extern.BytealgCompare.compare,by kernel_rfl,λr x X hr hb h=>vX h⟩
theorem Ih:aV (env ID Lm J) f244:=⟨by kernel_rfl,Kf (Op.intBits .or) .u64 LN,by kernel_rfl,λr x X hr hb h=>gJ (λr k a b=>nb _ _ _ _) _ _ h⟩
theorem Ix:aV (env ID Lm J) f245:=⟨by kernel_rfl,Kf (Op.intArith .add) .u64 LI,by kernel_rfl,λr x X hr hb h=>gJ (λr k a b=>gy _ _ _ _) _ _ h⟩
theorem It:aV (env ID Lm J) f246:=⟨by kernel_rfl,J1,by kernel_rfl,λr x X hr hb h=>pX h⟩
theorem Ip:aV (env ID Lm J) f247:=⟨by kernel_rfl,IH,by kernel_rfl,λr x X hr hb h=>rA h⟩
theorem Hm:aV (env ID Lm J) f263:=⟨by kernel_rfl,Extern.BytealgMakeNoZero.makeNoZero f263.params f263.resultTypes,by kernel_rfl,λr x X hr hb h=>yI _ _ h⟩
theorem G8:aV (env ID Lm J) f265:=⟨by kernel_rfl,Extern.SlicesOverlaps.overlaps f265.params f265.resultTypes,by kernel_rfl,λr x X hr hb h=>tA hr _ _ h⟩
theorem Ds:(Lm.fs.filter λf=>match prog.funcs[f]? with|some fn=>fn.body.isNone|none=>LI)=[52,55,57,58,86,87,88,112,113,133,134,167,169,170,171,172,183,184,185,186,187,188,189,207,211,212,216,234,244,245,246,247,263,265]:=by kernel_rfl
theorem FD:aS (env ID Lm J):=by
 refine Bi m0 m8 m1 m2 m3 m5 (by kernel_rfl) m6 m7 λf hf fn hfn hb=>?_;have hm:f∈Lm.fs.filter λf=>match prog.funcs[f]? with|some fn=>fn.body.isNone|none=>LI:=by rw[LL];exact⟨hf,by rw[hfn];simp[hb]⟩
 rw[Ds] at hm;simp only[Lo,K1,or_false] at hm;rcases hm with rfl|rfl|rfl|rfl|rfl|rfl|rfl|rfl|rfl|rfl|rfl|rfl|rfl|rfl|rfl|rfl|rfl|rfl|rfl|rfl|rfl|rfl|rfl|rfl|rfl|rfl|rfl|rfl|rfl|rfl|rfl|rfl|rfl|rfl
 ·have e:=func52.symm.trans hfn;cases e;exact OW
 ·have e:=func55.symm.trans hfn;cases e;exact OV
 ·have e:=func57.symm.trans hfn;cases e;exact OU
 ·have e:=func58.symm.trans hfn;cases e;exact OT
 ·have e:=func86.symm.trans hfn;cases e;exact OQ
 ·have e:=func87.symm.trans hfn;cases e;exact OP
 ·have e:=func88.symm.trans hfn;cases e;exact OO
 ·have e:=func112.symm.trans hfn;cases e;exact wD
 ·have e:=func113.symm.trans hfn;cases e;exact vK
 ·have e:=func133.symm.trans hfn;cases e;exact wI
 ·have e:=func134.symm.trans hfn;cases e;exact u7
 ·have e:=func167.symm.trans hfn;cases e;exact Hs
 ·have e:=func169.symm.trans hfn;cases e;exact Ib
 ·have e:=func170.symm.trans hfn;cases e;exact Hi
 ·have e:=func171.symm.trans hfn;cases e;exact Ir
 ·have e:=func172.symm.trans hfn;cases e;exact Iu
 ·have e:=func183.symm.trans hfn;cases e;exact Ii
 ·have e:=func184.symm.trans hfn;cases e;exact Ia
 ·have e:=func185.symm.trans hfn;cases e;exact Hc
 ·have e:=func186.symm.trans hfn;cases e;exact Hp
 ·have e:=func187.symm.trans hfn;cases e;exact He
 ·have e:=func188.symm.trans hfn;cases e;exact Ic
 ·have e:=func189.symm.trans hfn;cases e;exact Io
 ·have e:=func207.symm.trans hfn;cases e;exact Hy
 ·have e:=func211.symm.trans hfn;cases e;exact Is
 ·have e:=func212.symm.trans hfn;cases e;exact Hq
 ·have e:=func216.symm.trans hfn;cases e;exact Iw
 ·have e:=func234.symm.trans hfn;cases e;exact Hk
 ·have e:=func244.symm.trans hfn;cases e;exact Ih
 ·have e:=func245.symm.trans hfn;cases e;exact Ix
 ·have e:=func246.symm.trans hfn;cases e;exact It
 ·have e:=func247.symm.trans hfn;cases e;exact Ip
 ·have e:=func263.symm.trans hfn;cases e;exact Hm
 ·have e:=func265.symm.trans hfn;cases e;exact G8
theorem H9:Mm (env ID Lm J):=by
 refine Gw (JK:=[56]) (die:=[87]) (λc hc=>?_) m7 m9;have hc:(Tt c||Db [56] [87] c)=LI:=hc;simpa using hc
end Go.Proofs.Rn
namespace Go.Proofs.Rn
open Go Go.Proofs
def Lg:dh:={ fs:=[52,53,56,57,58,87,88,122,162,165,166,167,168,169,170,171,172,207,208,209,210,211,212,244,245,246],ts:=[9],gl:=LN,lv:=LN }
set_option maxRecDepth 100000
theorem g0:prog.globals.size=gN:=by kernel_rfl
theorem g8:Lg.fs.all (λf=>!(Lg.J5.contains f)&&!(Lg.JK.contains f)&&!(Lg.deep.contains f))=LI:=by kernel_rfl
theorem g1:Lg.fs.all (xD ID Lg)=LI:=by kernel_rfl
theorem g2:Lg.ts.all (yh ID Lg)=LI:=by kernel_rfl
theorem g3:prog.types.toList.all tL=LI:=by kernel_rfl
theorem F9:¬ (env ID Lg).lv:=λh=>by cases h
theorem g_G:∀i,¬ (env ID Lg).G i:=λi h=>by cases h.1
theorem g_O:∀c,¬ (env ID Lg).Op c:=λc h=>by cases h
theorem z52:aV (env ID Lg) f52:=⟨by kernel_rfl,IF .read,by kernel_rfl,λr x X hr hb h=>dL (λ_ _ _ h=>.read h) h⟩
theorem z53:aV (env ID Lg) f53:=⟨by kernel_rfl,(λ_=>do mark .disable;pure (.tuple #[])),by kernel_rfl,λr x X hr hb h=>.free F9 (.inl rfl) fL⟩
theorem z56:aV (env ID Lg) f56:=⟨by kernel_rfl,(λ_=>do mark .enable;pure (.tuple #[])),by kernel_rfl,λr x X hr hb h=>.free F9 (.inr rfl) fL⟩
theorem z57:aV (env ID Lg) f57:=⟨by kernel_rfl,IF .acquire,by kernel_rfl,λr x X hr hb h=>dL (λ_ _ _ h=>.acquire h) h⟩
theorem z58:aV (env ID Lg) f58:=⟨by kernel_rfl,IF .releaseMerge,by kernel_rfl,λr x X hr hb h=>dL (λ_ _ _ h=>.releaseMerge h) h⟩
theorem z87:aV (env ID Lg) f87:=⟨by kernel_rfl,K2 .fatal,by kernel_rfl,λr x X hr hb h=>ri (λ_=>by trivial) h⟩
theorem z88:aV (env ID Lg) f88:=⟨by kernel_rfl,Ln,by kernel_rfl,λr x X hr hb h=>gh h⟩
theorem z167:aV (env ID Lg) f167:=⟨by kernel_rfl,I3,by kernel_rfl,λr x X hr hb h=>al⟩
theorem Hu:aV (env ID Lg) f169:=⟨by kernel_rfl,I3,by kernel_rfl,λr x X hr hb h=>al⟩
theorem Hg:aV (env ID Lg) f170:=⟨by kernel_rfl,IF .write,by kernel_rfl,λr x X hr hb h=>dL (λ_ _ _ h=>.write h) h⟩
theorem z171:aV (env ID Lg) f171:=⟨by kernel_rfl,λ_=>pure (.bool LN),by kernel_rfl,λr x X hr hb h=>.pure (.bool _)⟩
theorem Ij:aV (env ID Lg) f172:=⟨by kernel_rfl,Jx,by kernel_rfl,λr x X hr hb h=>dQ h⟩
theorem Hj:aV (env ID Lg) f207:=⟨by kernel_rfl,I3,by kernel_rfl,λr x X hr hb h=>al⟩
theorem Im:aV (env ID Lg) f211:=⟨by kernel_rfl,Ks (.int .u64),by kernel_rfl,λr x X hr hb h=>tR _ h⟩
theorem z212:aV (env ID Lg) f212:=⟨by kernel_rfl,Ly (.int .u64),by kernel_rfl,λr x X hr hb h=>vt _ h⟩
theorem G7:aV (env ID Lg) f244:=⟨by kernel_rfl,Kf (Op.intBits .or) .u64 LN,by kernel_rfl,λr x X hr hb h=>gJ (λr k a b=>nb _ _ _ _) _ _ h⟩
theorem G6:aV (env ID Lg) f245:=⟨by kernel_rfl,Kf (Op.intArith .add) .u64 LI,by kernel_rfl,λr x X hr hb h=>gJ (λr k a b=>gy _ _ _ _) _ _ h⟩
theorem Hr:aV (env ID Lg) f246:=⟨by kernel_rfl,J1,by kernel_rfl,λr x X hr hb h=>pX h⟩
theorem Ec:(Lg.fs.filter λf=>match prog.funcs[f]? with|some fn=>fn.body.isNone|none=>LI)=[52,53,56,57,58,87,88,167,169,170,171,172,207,211,212,244,245,246]:=by kernel_rfl
theorem Hl:aS (env ID Lg):=by
 refine Bi g0 g8 g1 g2 g3 rfl (by kernel_rfl) (λf hf=>by cases hf) (λf hf=>by cases hf) λf hf fn hfn hb=>?_;have hm:f∈Lg.fs.filter λf=>match prog.funcs[f]? with|some fn=>fn.body.isNone|none=>LI:=by rw[LL];exact⟨hf,by rw[hfn];simp[hb]⟩
 rw[Ec] at hm;simp only[Lo,K1,or_false] at hm;rcases hm with rfl|rfl|rfl|rfl|rfl|rfl|rfl|rfl|rfl|rfl|rfl|rfl|rfl|rfl|rfl|rfl|rfl|rfl
 ·have e:=func52.symm.trans hfn;cases e;exact z52
 ·have e:=func53.symm.trans hfn;cases e;exact z53
 ·have e:=func56.symm.trans hfn;cases e;exact z56
 ·have e:=func57.symm.trans hfn;cases e;exact z57
 ·have e:=func58.symm.trans hfn;cases e;exact z58
 ·have e:=func87.symm.trans hfn;cases e;exact z87
 ·have e:=func88.symm.trans hfn;cases e;exact z88
 ·have e:=func167.symm.trans hfn;cases e;exact z167
 ·have e:=func169.symm.trans hfn;cases e;exact Hu
 ·have e:=func170.symm.trans hfn;cases e;exact Hg
 ·have e:=func171.symm.trans hfn;cases e;exact z171
 ·have e:=func172.symm.trans hfn;cases e;exact Ij
 ·have e:=func207.symm.trans hfn;cases e;exact Hj
 ·have e:=func211.symm.trans hfn;cases e;exact Im
 ·have e:=func212.symm.trans hfn;cases e;exact z212
 ·have e:=func244.symm.trans hfn;cases e;exact G7
 ·have e:=func245.symm.trans hfn;cases e;exact G6
 ·have e:=func246.symm.trans hfn;cases e;exact Hr
open Go Go.Conc
def Atom:Lq->Prop
 | .bool _|.int ..|.string _=>True
 | _=>False
section
variable {E:Env} {r:Rel}
theorem Ac {P:Nat->Lq->Lq->Prop}(X:Array Lq)(h:∀(i:Nat) V,X[i]?=Lw V->∃v,P i v V):∃x:Array Lq,x.size=X.size/\∀(i:Nat) v V,x[i]?=Lw v->X[i]?=Lw V->P i v V:=by
 have h':∀i:Fin X.size,∃v,P i.1 v X[i.1]:=λi=>h i.1 X[i.1] (by simp);refine⟨Array.ofFn λi:Fin X.size=>Kx (h' i),by simp,λi v V h1 h2=>?_⟩;obtain⟨hi,e⟩:=IR.1 h2;subst e;have e1:(Array.ofFn λi:Fin X.size=>Kx (h' i))[i]?=Lw (Kx (h' ⟨i,hi⟩)):=by simp[hi]
 rw[h1] at e1;cases e1;exact K0 (h' ⟨i,hi⟩)
theorem BH (hJ:∀V,E.J V V):∀(n:Nat) (V:Lq),SizeOf.sizeOf V<=n->∃v,VR E r v V/\(Atom V->v=V):=by
 intro n;induction n with
 | zero=>intro V h;cases V<;>simp at h
 | succ n ih =>
   intro V h;have A0:∀X:Array Lq,SizeOf.sizeOf X<=n->∃x:Array Lq,x.size=X.size/\∀(i:Nat) v V,x[i]?=Lw v->X[i]?=Lw V->VR E r v V:=λX hX =>
    Ac X λi V hV=>by obtain⟨hi,e⟩:=IR.1 hV;(have:SizeOf.sizeOf V<SizeOf.sizeOf X:=by rw[<-e];exact Array.sizeOf_getElem X i hi);exact(ih V (by omega)).imp λv hv=>hv.1
   cases V with
   | bool b=>exact⟨_,.bool b,λ_=>rfl⟩
   | int k m=>exact⟨_,.int k m,λ_=>rfl⟩
   | string s=>exact⟨_,.string s,λ_=>rfl⟩
   | agg X =>obtain⟨x,h1,h2⟩:=A0 X (by simp at h;omega);exact⟨.agg x,.agg h1 h2,λh=>h.elim⟩
   | tuple X =>obtain⟨x,h1,h2⟩:=A0 X (by simp at h;omega);exact⟨.tuple x,.tuple h1 h2,λh=>h.elim⟩
   | _=>exact⟨_,.jf (hJ _) (λh=>h),λh=>h.elim⟩
theorem yy (hJ:∀V,E.J V V)(X:Array Lq):∃x,AR E r x X/\∀(i:Nat) V,X[i]?=Lw V->Atom V->x[i]?=Lw V:=by
 obtain⟨x,h1,h2⟩:=Ac (P:=λ_ v V=>VR E r v V/\(Atom V->v=V)) X λi V _=>BH hJ _ V (Nat.le_refl _);refine⟨x,⟨h1,λi v V a b=>(h2 i v V a b).1⟩,λi V hV ha=>?_⟩;have hi:i<x.size:=by rw[h1];exact(IR.1 hV).1
 have e1:x[i]?=Lw x[i]:=by simp[hi]
 rw[e1,(h2 i _ V e1 hV).2 ha]
def on (D:Nat->Prop):Rel:=λa b=>a=b/\D a
theorem C3 {D:Nat->Prop}:cP (on D):=λ_ _ h=>h.1
theorem GY {D:Nat->Prop}:(on D).OK:=⟨λx y=>x.1.symm.trans y.1,λx y=>x.1.trans y.1.symm,λx=>by rw[x.1]⟩
open Classical in
theorem tw (hJ:∀V,E.J V V)(W:World)(D:Nat->Prop)(hG:∀g,E.G g->D g)(hb:gN<=W.heap.size)(hD:∀b,D b->∃X e z,W.heap[b]?=Lw (.cells X e z)) :
 ∃w:World,WR E (on D) w W/\w.heap.size=W.heap.size/\w.tape=W.tape/\w.drawn=W.drawn/\w.os=W.os/\w.output=W.output/\(∀b:Nat,¬ D b->w.heap[b]?=W.heap[b]?) /\
  ∀(b:Nat) (X:Array Lq) (e:TypeId) (z:Nat×Nat),W.heap[b]?=Lw (.cells X e z)->∃x:Array Lq,w.heap[b]?=Lw (.cells x e z)/\x.size=X.size/\∀(i:Nat) V,X[i]?=Lw V->Atom V->x[i]?=Lw V:=by
 have A1:∀b:Fin W.heap.size,∃o:Obj,(D b.1->OR E (on D) o W.heap[b.1])/\(¬ D b.1->o=W.heap[b.1])/\∀X e z,W.heap[b.1]=Obj.cells X e z->∃x:Array Lq,o=Obj.cells x e z/\x.size=X.size/\∀(i:Nat) V,X[i]?=Lw V->Atom V->x[i]?=Lw V:=by
  intro b;by_cases h:D b.1
  ·obtain⟨X,e,z,hX⟩:=hD b.1 h;(have A3:W.heap[b.1]=.cells X e z:=by simpa using hX);obtain⟨x,h1,h2⟩:=yy (E:=E) (r:=on D) hJ X;refine⟨.cells x e z,λ_=>by rw[A3];exact .cells h1,λh'=>absurd h h',λX' e' z' hc=>?_⟩;rw[A3] at hc;cases hc;exact⟨x,rfl,h1.1,h2⟩
  ·exact⟨W.heap[b.1],λh'=>absurd h' h,λ_=>rfl,λX e z hc=>⟨X,hc,rfl,λi V a _=>a⟩⟩
 have A2:∀(b:Nat) (h:b<W.heap.size),(Array.ofFn λb:Fin W.heap.size=>Kx (A1 b))[b]?=Lw (Kx (A1 ⟨b,h⟩)):=λb h=>by simp[h]
 generalize hF:(Array.ofFn λb:Fin W.heap.size=>Kx (A1 b))=F at A2;have A4:F.size=W.heap.size:=by rw[<-hF];simp
 refine⟨{ W with heap:=F },?_,A4,rfl,rfl,rfl,rfl,λb hb=>?_,λb X e z hX=>?_⟩
 ·refine⟨λb B hbB=>?_,λ_=>rfl,λg hg=>⟨rfl,hG g hg⟩,GY,rfl,⟨by show gN<=F.size;omega,hb⟩⟩;obtain⟨rfl,h⟩:=hbB;obtain⟨X,e,z,hX⟩:=hD b h;have A0:=(IR.1 hX).1;exact⟨_,W.heap[b],A2 b A0,by simp[A0],(K0 (A1 ⟨b,A0⟩)).1 h⟩
 ·show F[b]?=_;by_cases A0:b<W.heap.size
  ·rw[A2 b A0,(K0 (A1 ⟨b,A0⟩)).2.1 hb];simp[A0]
  ·rw[Lz (by omega),Lz (by omega)]
 ·obtain⟨A0,he⟩:=IR.1 hX;obtain⟨x,h1,h2,h3⟩:=(K0 (A1 ⟨b,A0⟩)).2.2 X e z he;exact⟨x,by show F[b]?=_;rw[A2 b A0,h1],h2,h3⟩
theorem Ck (hE:aS E){r:Rel}(hd:cP r){w W:World}(hW:WR E r w W)(hs:w.heap.size=W.heap.size)(ht:W.tape=w.tape)(hdr:W.drawn=w.drawn){f:FuncId}(hf:E.F f){fn:Func}(hfn:E.P.funcs[f]?=Lw fn)(hb:fn.body.isSome){args ARGS:Array Lq}(ha:AR E r args ARGS) :
 Tw E 0 r (Frame.enter E.P f args .normal) [] w (Frame.enter E.P f ARGS .normal) [] W :=
 ⟨⟨0,0,fu hE hf ha (.inl rfl) λfn' e=>by rw[hfn] at e;cases e;exact hb,.nil,rfl⟩,hW,⟨λx hx=>by simp at hx;subst hx;exact⟨rfl,trivial⟩,trivial⟩,hd,hs,ht,hdr⟩
end
end Go.Proofs.Rn

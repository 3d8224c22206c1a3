/-part 11-/
import Derived.Test.YtmehkneofinmiabGreatDoorP10
import Derived.Laws.Sem
open Go renaming Value->ID,TypeId->IH,callFunc->Ln,resolve->Lq,Addr->LR,invoke->L2,IntKind->L3,execOp->Mn,Operand->Mz
open Bool renaming false_eq_true->IF,not_false->Lw,not_true->LI,false->L5
open Go.Builtin renaming unsafeString_->IR,unsafeSliceData_->Kf,zeroCells->Ly,append_->LO,clear_->LS,copy_->L4
open Go.Deferred renaming ofValue->I3
open Option renaming some->Jx,map_eq_some_iff->LL,isNone_none->Mb,none->Mp
open Go.Conv renaming bytesToString->J0
open Classical renaming not_forall->J1,not_not->K0
open Array renaming foldl_toList->Ks,range->K1
open LawfulMonad renaming bind_assoc->Kx
open Go.Op renaming equal->K2,stringOp->Mu
open Go.Extern renaming findNext->Lo,find->L1
open Option.some renaming injEq->Lz
open Pure renaming pure->LN
set_option maxHeartbeats 4000000
namespace Go.Proofs.Rn
open Go
variable {r':Rel}{α β:Type}{PS ps:Array (Nat×ID)}{B:LR}{N n:ID}{m:Nat}{s:IH}{op:BinOp}{S:Sem ID}{P p:Option LR}{ρ ρ':Mz->ID}{c:Call}{o:Oper}
section
variable {E:Env} {r:Rel}
theorem AR.fold (o:Nat):∀(l L:List (ID×Nat)) {x X:Array ID},l.length=L.length->(∀(i:Nat) p P,l[i]?=Jx p->L[i]?=Jx P->VR E r p.1 P.1/\P.2=p.2)->AR E r x X ->
 AR E r (l.foldl (λcs p=>cs.setIfInBounds (o+p.2) p.1) x) (L.foldl (λcs p=>cs.setIfInBounds (o+p.2) p.1) X):=by
 intro l;induction l with
 | nil=>intro L x X hl _ h;cases L with|nil=>exact h|cons _ _=>simp at hl
 | cons p l ih =>
   intro L x X hl hp h;cases L with
   | nil=>simp at hl
   | cons P L =>have h0:=hp 0 p P rfl rfl;simp only[List.foldl_cons];refine ih L (by simpa using hl) (λi p P h1 h2=>hp (i+1) p P (by simpa using h1) (by simpa using h2)) ?_;rw[h0.2];exact h.set _ h0.1
def Qz (E:Env)(r:Rel)(l L:List (Nat×ID)):Prop:=l.length=L.length/\∀(i:Nat) p P,l[i]?=Jx p->L[i]?=Jx P->P.1=p.1/\VR E r p.2 P.2
theorem Qz.mono (s:Sub r r'){l L:List (Nat×ID)}(h:Qz E r l L):Qz E r' l L:=⟨h.1,λi p P a b=>⟨(h.2 i p P a b).1,(h.2 i p P a b).2.mono s⟩⟩
theorem np (place:Nat->Option (Nat×Nat)):∀(l L:List (Nat×ID)) {x X:Array ID},Qz E r l L->AR E r x X ->
 (Instr.fill place x l=Mp/\Instr.fill place X L=Mp)\/∃y Y,Instr.fill place x l=Jx y/\Instr.fill place X L=Jx Y/\AR E r y Y:=by
 intro l;induction l with
 | nil=>intro L x X hp h;cases L with|nil=>exact .inr ⟨_,_,rfl,rfl,h⟩|cons _ _=>have:=hp.1;simp at this
 | cons p l ih =>
   intro L x X hp h;cases L with
   | nil=>have:=hp.1;simp at this
   | cons P L =>
     obtain⟨i,v⟩:=p;obtain⟨I,V⟩:=P;have h0:=hp.2 0 _ _ rfl rfl;obtain⟨A0,A1⟩:=h0;simp only at A0 A1;subst A0;simp only[Instr.fill];cases place I with
     | none=>exact .inl ⟨rfl,rfl⟩
     | some q =>
       obtain⟨o,n⟩:=q;have hc:=AR.cells A1;simp only[<-hc.1,<-h.1];split
       ·exact .inl ⟨rfl,rfl⟩
       ·refine ih L ⟨by have:=hp.1;simpa using this,λi p P h1 h2=>hp.2 (i+1) p P (by simpa using h1) (by simpa using h2)⟩ ?_;have:=AR.fold (E:=E) (r:=r) o v.cells.zipIdx.toList V.cells.zipIdx.toList (x:=x) (X:=X) (by simp[hc.1]) (λj p P h1 h2=>?_) h
        ·rw[<-Ks,<-Ks];exact this
        ·simp only[Array.toList_zipIdx,List.getElem?_zipIdx,LL] at h1 h2;obtain⟨a,ha,rfl⟩:=h1;obtain⟨b,hb,rfl⟩:=h2;exact⟨hc.2 j a b (by simpa using ha) (by simpa using hb),rfl⟩
theorem DO {f:α->Sem β}(hf:∀a r,SR E bc r (f a) (f a))(l:Array α):∀r,SR E bc r (l.mapM f) (l.mapM f):=by
 have:∀(l:List α) r,SR E bc r (l.mapM f) (l.mapM f):=by
  intro l;induction l with
  | nil=>intro r;exact .pure rfl
  | cons a l ih =>intro r;simp only[List.mapM_cons];refine(hf a r).Iy ?_;rintro r1 x _ s1 rfl;refine(ih r1).Iy ?_;rintro r2 y _ s2 rfl;exact .pure rfl
 intro r;rw[Array.mapM_eq_mapM_toList];refine SR.Iy (A:=bc) (this l.toList r) ?_;rintro r1 x _ s1 rfl;exact .pure rfl
theorem AJ (hz:fi E)(t:IH)(h:Qz E r ps.toList PS.toList):SR E (aO E) r (Instr.build t ps) (Instr.build t PS):=by
 unfold Instr.build;refine(cM hz t).Iy ?_;intro r1 v V s1 hv;refine(aE t).Iy ?_;rintro r2 d _ s2 ⟨rfl,-⟩;rename_i d;have hc:=(AR.cells hv).mono s2;have h2:=(h.mono s1).mono s2;cases d with
 | struct fs =>
   dsimp only;refine SR.Iy (A:=bc) ?_ ?_
   ·refine DO (λf r=>(bE _).Iy ?_) fs r2;rintro r3 a _ s3 rfl;exact .pure rfl
   rintro r3 pl _ s3 rfl;rcases np (λx=>pl[x]?) _ _ (h2.mono s3) (hc.mono s3) with⟨a,b⟩|⟨y,Y,a,b,c⟩
   ·rw[a,b];exact ag
   ·rw[a,b];exact .pure (.agg c.1 c.2)
 | array n e =>
   dsimp only;refine(bE e).Iy ?_;rintro r3 n _ s3 rfl;rcases np (λi=>Jx (i*n,n)) _ _ (h2.mono s3) (hc.mono s3) with⟨a,b⟩|⟨y,Y,a,b,c⟩
   ·rw[a,b];exact ag
   ·rw[a,b];exact .pure (.agg c.1 c.2)
 | _=>exact ag
theorem AR.zeros {x X:Array ID}(h:AR E r x X)(n:Nat):AR E r ((K1 n).map (x[·%x.size]!)) ((K1 n).map (X[·%X.size]!)):=by
 refine AR.map λi _=>?_;rw[<-h.1];simp only[getElem!_def];rcases h.get (i%x.size) with⟨a,b⟩|⟨v,V,a,b,c⟩
 ·simp only[a,b];exact VR.bool _
 ·simp only[a,b];exact c
theorem oW (hz:fi E)(t:IH)(n:Nat)(h:Qz E r ps.toList PS.toList):SR E (aO E) r (Instr.buildSlice t n ps) (Instr.buildSlice t n PS):=by
 unfold Instr.buildSlice;refine(aE t).Iy ?_;rintro r1 d _ s1 ⟨rfl,-⟩;rename_i d;cases d with
 | slice e =>
   dsimp only;refine(bE e).Iy ?_;rintro r2 z _ s2 rfl;split
   ·exact au
   ·have A0:∀r3 (x X:Array ID),Sub r2 r3->AR E r3 x X->SR E (aO E) r3
     (match Instr.fill (λi=>Jx (i*z,z)) ((K1 (n*z)).map (x[·%x.size]!)) ps.toList with
       | some cells=>do LN (.slice (Jx (<-newRow e cells)) n n)
       | _ => stuck "buildSlice: a part of the wrong size")
     (match Instr.fill (λi=>Jx (i*z,z)) ((K1 (n*z)).map (X[·%X.size]!)) PS.toList with
       | some cells=>do LN (.slice (Jx (<-newRow e cells)) n n)
       | _ => stuck "buildSlice: a part of the wrong size") := by
     intro r3 x X s3 hx;rcases np (λi=>Jx (i*z,z)) _ _ (((h.mono s1).mono s2).mono s3) (hx.zeros (n*z)) with⟨a,b⟩|⟨y,Y,a,b,c⟩
     ·rw[a,b];exact ag
     ·rw[a,b];refine(cY e c).Iy ?_;intro r4 a A s4 ha;exact .pure (.slice _ _ ha)
    split
    ·exact A0 _ _ _ .rfl .nil
    ·refine SR.Iy (A:=aO E) (cM hz e) λr3 v V s3 hv=>?_;exact A0 r3 _ _ s3 (AR.cells hv)
 | _=>exact ag
theorem aA {γ δ:Type}{A:Rel->γ->δ->Prop}(e:RuntimeError)(he:∀a b c d,e≠.typeAssertion a b c d/\∀t,e≠.unhashable t){f:α->Sem γ}{F:β->Sem δ} :
 SR E A r ((runtimePanic e:Sem α) >>= f) ((runtimePanic e:Sem β) >>= F):=(bh (A:=λ_ _ _=>False) e he).Iy λ_ _ _ _ h=>h.elim
theorem dD (n:Nat):SR E bc r (askRoom n) (askRoom n):=by
 unfold askRoom;split
 ·exact iG .noRoom
 ·exact .pure rfl
theorem rC (hz:fi E)(t:IH){l L c C:ID}(hl:VR E r l L)(hc:VR E r c C):SR E (aO E) r (Instr.makeSlice t l c) (Instr.makeSlice t L C):=by
 unfold Instr.makeSlice;refine(aE t).Iy ?_;rintro r1 d _ s1 ⟨rfl,-⟩;rename_i d;cases d with
 | slice e =>
   dsimp only;refine(eo (hl.mono s1)).Iy ?_;rintro r2 n _ s2 rfl;refine(eo ((hc.mono s1).mono s2)).Iy ?_;rintro r3 m _ s3 rfl;refine(ba e).Iy ?_;rintro r4 i _ s4 ⟨rfl,-⟩;rename_i i;split
   ·split
    ·exact aA _ (by simp)
    ·split
     ·exact aA _ (by simp)
     ·refine bw.Iy ?_;rintro r5 q _ s5 rfl;exact aA _ (by simp)
   ·refine(dD _).Iy ?_;rintro r5 _ _ s5 -
    refine(bE e).Iy ?_;rintro r6 z _ s6 rfl;have A0:∀r7 (x X:Array ID),AR E r7 x X->SR E (aO E) r7
     (do LN (.slice (Jx (<-newRow e ((K1 ((IntKind.i64.wrap m).toNat*z)).map (x[·%x.size]!)))) (IntKind.i64.wrap n).toNat (IntKind.i64.wrap m).toNat))
     (do LN (.slice (Jx (<-newRow e ((K1 ((IntKind.i64.wrap m).toNat*z)).map (X[·%X.size]!)))) (IntKind.i64.wrap n).toNat (IntKind.i64.wrap m).toNat)):=by
     intro r7 x X hx;refine(cY e (hx.zeros _)).Iy ?_;intro r8 a A s8 ha;exact .pure (.slice _ _ ha)
    split
    ·exact A0 _ _ _ .nil
    ·refine SR.Iy (A:=aO E) (cM hz e) λr7 v V s7 hv=>?_;exact A0 r7 _ _ (AR.cells hv)
 | _=>exact ag
end
section
variable {E:Env} {r:Rel}
theorem sH {v V:ID}(h:VR E r v V):SR E bc r (Builtin.lenOf v) (Builtin.lenOf V):=by
 cases h with
 | IU n c=>exact .pure rfl
 | slice n c _=>exact .pure rfl
 | string s=>exact .pure rfl
 | _=>exact .bad (by trivial)
theorem AR.bytes (s:ByteArray):AR E r (s.data.map λb=>.int .u8 b.toNat) (s.data.map λb=>.int .u8 b.toNat):=AR.map λ_ _=>.int _ _
theorem bO (z n:Nat){v V:ID}(h:VR E r v V):SR E (iX E) r (Builtin.firstCells z n v) (Builtin.firstCells z n V):=by
 cases h with
 | IU _ _=>exact .pure .nil
 | slice _ _ ha=>exact gQ ha _
 | string s=>exact .pure (AR.bytes _)
 | _=>exact .bad (by trivial)
theorem AR.zeroCells {x X:Array ID}(h:AR E r x X)(n:Nat):AR E r (Ly x n) (Ly X n):=by
 unfold Ly;rw[<-h.1];have:=h.zeros (n*x.size);rw[<-h.1] at this;exact this
theorem FK (t:Array IH)(u:IH){x X:Array ID}(h:AR E r x X):SR E (aO E) r (Builtin.len_ t u x) (Builtin.len_ t u X):=by
 unfold Builtin.len_;rcases h.get 0 with⟨a,b⟩|⟨v,V,a,b,hv⟩
 ·rw[a,b];cases t[0]?<;>exact ag
 rw[a,b];cases ht:t[0]? with
 | none=>exact ag
 | some t =>
   dsimp only;refine(aE t).Iy ?_;rintro r1 d _ s1 ⟨rfl,-⟩;rename_i d;cases d with
   | string=>cases hv<;>first|exact .pure (.int _ _)|exact ag
   | array n e=>exact .pure (.int _ _)
   | pointer e =>dsimp only;refine(aE e).Iy ?_;rintro r2 d _ s2 ⟨rfl,-⟩;rename_i d;cases d<;>first|exact .pure (.int _ _)|exact ag
   | slice e=>cases hv<;>first|exact .pure (.int _ _)|exact ag
   | map a b=>cases hv<;>first|exact .pure (.int _ _)|exact ag
   | chan a b=>cases hv<;>first|exact .pure (.int _ _)|exact ag
   | _=>exact ag
theorem Gc (t:Array IH)(u:IH){x X:Array ID}(h:AR E r x X):SR E (aO E) r (Builtin.cap_ t u x) (Builtin.cap_ t u X):=by
 unfold Builtin.cap_;rcases h.get 0 with⟨a,b⟩|⟨v,V,a,b,hv⟩
 ·rw[a,b];cases t[0]?<;>exact ag
 rw[a,b];cases ht:t[0]? with
 | none=>exact ag
 | some t =>
   dsimp only;refine(aE t).Iy ?_;rintro r1 d _ s1 ⟨rfl,-⟩;rename_i d;cases d with
   | array n e=>exact .pure (.int _ _)
   | pointer e =>dsimp only;refine(aE e).Iy ?_;rintro r2 d _ s2 ⟨rfl,-⟩;rename_i d;cases d<;>first|exact .pure (.int _ _)|exact ag
   | slice e=>cases hv<;>first|exact .pure (.int _ _)|exact ag
   | chan a b=>cases hv<;>first|exact .pure (.int _ _)|exact ag
   | _=>exact ag
theorem D2 (t:Array IH)(u:IH){x X:Array ID}(h:AR E r x X):SR E (aO E) r (L4 t u x) (L4 t u X):=by
 unfold L4;rcases h.get 0 with⟨a,b⟩|⟨v,V,a,b,hv⟩
 ·rw[a,b];cases t[0]?<;>exact ag
 rcases h.get 1 with⟨a1,b1⟩|⟨v1,V1,a1,b1,A0⟩
 ·rw[a,b,a1,b1];cases t[0]?<;>exact ag
 rw[a,b,a1,b1];cases ht:t[0]? with
 | none=>exact ag
 | some t =>
   dsimp only;refine(aE t).Iy ?_;rintro r1 d _ s1 ⟨rfl,-⟩;rename_i d;have A0:=A0.mono s1;cases d with
   | slice e =>
     cases hv with
     | IU n c =>dsimp only;refine(sH A0).Iy ?_;rintro r2 m _ s2 rfl;refine(bE e).Iy ?_;rintro r3 z _ s3 rfl;refine(bO _ _ ((A0.mono s2).mono s3)).Iy ?_;intro r4 x X s4 hx;exact .pure (.int _ _)
     | slice n c ha =>
       dsimp only;refine(sH A0).Iy ?_;rintro r2 m _ s2 rfl;refine(bE e).Iy ?_;rintro r3 z _ s3 rfl;refine(bO _ _ ((A0.mono s2).mono s3)).Iy ?_;intro r4 x X s4 hx;refine(dt 0 ((((ha.mono s1).mono s2).mono s3).mono s4) hx).Iy ?_;rintro r5 _ _ s5 -
       exact .pure (.int _ _)
     | _=>exact ag
   | _=>exact ag
theorem BO (hz:fi E)(t:Array IH)(u:IH){x X:Array ID}(h:AR E r x X):SR E (aO E) r (LS t u x) (LS t u X):=by
 unfold LS;rcases h.get 0 with⟨a,b⟩|⟨v,V,a,b,hv⟩
 ·rw[a,b];cases t[0]?<;>exact ag
 rw[a,b];cases ht:t[0]? with
 | none=>exact ag
 | some t =>
   dsimp only;refine(aE t).Iy ?_;rintro r1 d _ s1 ⟨rfl,-⟩;rename_i d;have hv:=hv.mono s1;have A0:∀r',SR E (aO E) r' (LN (.tuple #[])) (LN (.tuple #[])):=λr'=>.pure (.tuple rfl (by simp));cases hv with
   | KT=>exact A0 r1
   | IU n c=>exact A0 r1
   | slice n c ha =>
     cases n with
     | zero=>exact A0 r1
     | succ n =>
       cases d with
       | slice e =>
         refine(cM hz e).Iy ?_;intro r2 v V s2 hv;refine(dt 0 (ha.mono s2) ((AR.cells hv).zeroCells (n+1))).Iy ?_;rintro r3 _ _ s3 -
         exact A0 r3
       | _=>exact aB
   | _=>exact aB
theorem AR.toList {x X:Array ID}(h:AR E r x X):∃l L,x=⟨l⟩/\X=⟨L⟩/\l.length=L.length/\∀(i:Nat) v V,l[i]?=Jx v->L[i]?=Jx V->VR E r v V:=by
 obtain⟨l⟩:=x;obtain⟨L⟩:=X;exact⟨l,L,rfl,rfl,by simpa using h.1,λi v V a b=>h.2 i v V (by simpa using a) (by simpa using b)⟩
theorem jS (t:Array IH)(u:IH){x X:Array ID}(h:AR E r x X):SR E (aO E) r (Kf t u x) (Kf t u X):=by
 unfold Kf;obtain⟨l,L,rfl,rfl,hl,hp⟩:=h.toList
 match l,L,hl with
 | [],[],_=>exact ag
 | [v],[V],_ =>
   have hv:=hp 0 v V rfl rfl;cases hv with
   | IU n c=>exact .pure .Ji
   | slice n c ha =>
     change SR E (aO E) r (ite (c≠0) _ _) (ite (c≠0) _ _);split
     ·exact .pure (.ptr ha)
     ·refine(gB ha.1).Iy ?_;rintro r1 x X s1 (⟨rfl,rfl⟩|⟨_,_,_,rfl,rfl,_⟩)
      ·refine(rI u).Iy ?_;rintro r2 e _ s2 rfl;refine SR.Iy (A:=λr a A=>r a A) (.new (.view ((ha.mono s1).mono s2)) λ_ _ _ _ _ _=>.pure (.inr ⟨rfl,rfl⟩)) ?_;intro r3 b B s3 hb;exact .pure (.ptr ⟨hb,rfl,rfl⟩)
      ·exact .pure (.ptr (ha.mono s1))
   | _=>exact ag
 | _::_::_,_::_::_,_=>exact ag
theorem qu:∀n {r:Rel} {a A:LR} (s:ByteArray),IX r a A->SR E bc r (loadBytes a s n) (loadBytes A s n):=by
 intro n;induction n with
 | zero=>intro r a A s h;exact .pure rfl
 | succ n ih =>
   intro r a A s h;unfold loadBytes;refine(iD h).Iy ?_;intro r1 v V s1 hv;cases hv with
   | int k m=>cases k<;>first|exact ih _ ((h.mono s1).add 1)|exact ag
   | _=>exact ag
theorem mE (t:Array IH)(u:IH){x X:Array ID}(h:AR E r x X):SR E (aO E) r (IR t u x) (IR t u X):=by
 unfold IR;obtain⟨l,L,rfl,rfl,hl,hp⟩:=h.toList
 match l,L,hl with
 | [],[],_=>exact ag
 | [v],[V],_=>cases hp 0 v V rfl rfl<;>exact ag
 | [v,n],[V,N],_ =>
   have hv:=hp 0 v V rfl rfl;have hn:=hp 1 n N rfl rfl;have A0:∀{p P:Option LR},VR E r (.pointer p) (.pointer P)->SR E (aO E) r (IR t u #[.pointer p,n]) (IR t u #[.pointer P,N]):=by
    intro p P A1;unfold IR;dsimp only;refine(eo hn).Iy ?_;rintro r1 n _ s1 rfl;have A1:=A1.mono s1;cases ht:t[0]? with
    | none=>exact ag
    | some pt =>
      dsimp only;split
      ·exact aA _ (by simp)
      ·split
       ·exact au
       ·cases A1 with
        | Ji =>
          dsimp only;split
          ·exact .pure (.string _)
          ·exact bh _ (by simp)
        | ptr ha =>
          dsimp only;split
          ·exact .pure (.string _)
          ·refine(rI pt).Iy ?_;rintro r2 e _ s2 rfl;refine(iP (ha.mono s2) _ _).Iy ?_;rintro r3 b _ s3 rfl;split
           ·refine(qu _ _ ((ha.mono s2).mono s3)).Iy ?_;rintro r4 s _ s4 rfl;refine(yV (((ha.mono s2).mono s3).mono s4) _).Iy ?_;rintro r5 _ _ s5 -
            exact .pure (.string _)
           ·exact al
   cases hv with
   | Ji=>exact A0 .Ji
   | ptr ha=>exact A0 (.ptr ha)
   | _=>exact ag
 | v::n::m::l,V::N::M::L,_=>cases hp 0 v V rfl rfl<;>exact ag
theorem iS (op:BinOp)(a b:ByteArray):SR E (aO E) r (Mu op a b) (Mu op a b):=by
 unfold Mu;cases op<;>dsimp only<;>first
  | exact .pure (.bool _)
  | exact ag
  | (split<;>first|exact al|exact .pure (.string _))
theorem Eu {v V u U:ID}(h:VR E r v V)(h':VR E r u U):SR E (aO E) r (Builtin.min2 v u) (Builtin.min2 V U):=by
 cases h<;>cases h'<;>first
  | exact .pure (.int _ _)
  | exact ag
  | exact al
  | skip
 rename_i a b;refine(iS .leq a b).Iy λr1 x X s1 hx=>?_;refine(lO hx).Iy ?_;rintro r2 y _ s2 rfl;refine .pure ?_;exact .string _
theorem D1 {v V u U:ID}(h:VR E r v V)(h':VR E r u U):SR E (aO E) r (Builtin.max2 v u) (Builtin.max2 V U):=by
 cases h<;>cases h'<;>first
  | exact .pure (.int _ _)
  | exact ag
  | exact al
  | skip
 rename_i a b;refine(iS .geq a b).Iy λr1 x X s1 hx=>?_;refine(lO hx).Iy ?_;rintro r2 y _ s2 rfl;refine .pure ?_;exact .string _
theorem sT {f:ID->ID->Sem ID}(hf:∀r v V u U,VR E r v V->VR E r u U->SR E (aO E) r (f v u) (f V U)):∀(l L:List ID) {r:Rel} {v V:ID},l.length=L.length ->
 (∀(i:Nat) v V,l[i]?=Jx v->L[i]?=Jx V->VR E r v V)->VR E r v V->SR E (aO E) r (l.foldlM f v) (L.foldlM f V):=by
 intro l;induction l with
 | nil=>intro L r v V hl _ h;cases L with|nil=>exact .pure h|cons _ _=>simp at hl
 | cons u l ih =>
   intro L r v V hl hp h;cases L with
   | nil=>simp at hl
   | cons U L =>simp only[List.foldlM_cons];refine(hf r v V u U h (hp 0 u U rfl rfl)).Iy ?_;intro r1 x X s1 hx;exact ih L (by simpa using hl) (λi v V a b=>(hp (i+1) v V (by simpa using a) (by simpa using b)).mono s1) hx
theorem F6 (t:Array IH)(u:IH){x X:Array ID}(h:AR E r x X):SR E (aO E) r (Builtin.min_ t u x) (Builtin.min_ t u X):=by
 unfold Builtin.min_;obtain⟨l,L,rfl,rfl,hl,hp⟩:=h.toList
 match l,L,hl with
 | [],[],_=>exact ag
 | v::l,V::L,hl=>exact sT (λ_ _ _ _ _=>Eu) l L (by simpa using hl) (λi v V a b=>hp (i+1) v V (by simpa using a) (by simpa using b)) (hp 0 v V rfl rfl)
theorem Fe (t:Array IH)(u:IH){x X:Array ID}(h:AR E r x X):SR E (aO E) r (Builtin.max_ t u x) (Builtin.max_ t u X):=by
 unfold Builtin.max_;obtain⟨l,L,rfl,rfl,hl,hp⟩:=h.toList
 match l,L,hl with
 | [],[],_=>exact ag
 | v::l,V::L,hl=>exact sT (λ_ _ _ _ _=>D1) l L (by simpa using hl) (λi v V a b=>hp (i+1) v V (by simpa using a) (by simpa using b)) (hp 0 v V rfl rfl)
theorem eS (hr:r.OK){a A b:LR}(h:IX r a A)(h':IX r b B):(A.block==B.block)=(a.block==b.block):=by
 by_cases e:a.block=b.block
 ·(have h2:r a.block B.block:=by rw[e];exact h'.1);have:A.block=B.block:=hr.fn h.1 h2;rw[beq_iff_eq.2 e,beq_iff_eq.2 this]
 ·have:A.block≠B.block:=λx=>e (hr.inj h.1 (by rw[x];exact h'.1));rw[beq_eq_false_iff_ne.2 e,beq_eq_false_iff_ne.2 this]
theorem oO {a A:LR}(h:IX r a A)(n:Nat):SR E bc r (Builtin.holdsCells a n) (Builtin.holdsCells A n):=by
 unfold Builtin.holdsCells;refine(cJ h.1).Iy ?_;rintro r1 x _ s1 rfl;split
 ·rw[h.2.1,h.2.2];exact .pure rfl
 ·exact .pure rfl
end
section
variable {E:Env} {r:Rel}
def ObR (r:Rel)(x X:Option LR):Prop:=(x=Mp/\X=Mp)\/∃a A,x=Jx a/\X=Jx A/\IX r a A
theorem jl {v V:ID}(h:VR E r v V):SR E (λ_ a b=>b=a/\NJ v) r (Builtin.lenOf v) (Builtin.lenOf V):=by
 cases h with
 | IU=>exact .pure ⟨rfl,λ_=>by simp⟩
 | slice=>exact .pure ⟨rfl,λ_=>by simp⟩
 | string=>exact .pure ⟨rfl,λ_=>by simp⟩
 | _=>exact ag
theorem fT (hr:r.OK){z n:Nat}{b B:Option LR}(hb:ObR r b B){v V:ID}(hv:VR E r v V)(hj:NJ v):SR E bc r (Builtin.mayShare z n m b v) (Builtin.mayShare z n m B V):=by
 unfold Builtin.mayShare;rcases hb with⟨rfl,rfl⟩|⟨y,Y,rfl,rfl,hy⟩
 ·simp only[pure_bind,LI,IF,if_false];cases hv with
  | slice l c ha =>refine(oO ha _).Iy ?_;rintro r2 x _ s2 rfl;exact .pure rfl
  | jf=>exact absurd rfl (hj _)
  | _=>exact .pure rfl
 ·dsimp only;refine(oO hy _).Iy ?_;rintro r2 x _ s2 rfl;refine(dK ((hy.mono s2).add _)).Iy ?_;rintro r3 w _ s3 rfl;simp only[pure_bind];split
  ·exact .pure rfl
  ·cases hv with
   | slice l c ha =>refine(oO ((ha.mono s2).mono s3) _).Iy ?_;rintro r4 x _ s4 rfl;simp only[Option.any_some,eS hr hy ha];exact .pure rfl
   | jf=>exact absurd rfl (hj _)
   | _=>exact .pure rfl
theorem zG (hz:fi E)(hr:r.OK)(t:Array IH)(u:IH){x X:Array ID}(h:AR E r x X):SR E (aO E) r (LO t u x) (LO t u X):=by
 unfold LO;rcases h.get 0 with⟨a,b⟩|⟨v,V,a,b,hv⟩
 ·rw[a,b];cases t[0]?<;>exact ag
 rcases h.get 1 with⟨a1,b1⟩|⟨v1,V1,a1,b1,Ad⟩
 ·rw[a,b,a1,b1];cases t[0]?<;>exact ag
 rw[a,b,a1,b1];cases ht:t[0]? with
 | none=>exact ag
 | some t0 =>
   dsimp only;refine(aE t0).Iy ?_;rintro r1 d _ s1 ⟨rfl,-⟩;rename_i d;have Ad:=Ad.mono s1;have hv:=hv.mono s1;cases d with
   | slice e =>
     have H1:∀r',Sub r1 r'->VR E r' v1 V1:=λr' s=>Ad.mono s;have H0:∀r',Sub r1 r'->VR E r' v V:=λr' s=>hv.mono s;cases hv with
     | IU n c =>
       have hs:Sub r1 r1:=.rfl;dsimp only;refine(bE e).Iy ?_;rintro r2 z _ s2 rfl
       replace hs:=hs.trans s2
       cases h1:t[1]? with
       | none =>
         refine SR.Iy (A:=λ_ a b=>a=L5/\b=L5) (.pure ⟨rfl,rfl⟩) ?_;rintro r3 _ _ s3 ⟨rfl,rfl⟩
         replace hs:=hs.trans s3
         simp only[IF,if_false,Lw,if_true,false_or];refine(jl (H1 _ hs)).Iy ?_;rintro r4 m _ s4 ⟨rfl,hj⟩
         replace hs:=hs.trans s4
         split
         ·refine SR.Iy (A:=iX E) ?_ ?_
          ·exact bO _ _ (H1 _ hs)
          intro r7 x X s7 hn
          replace hs:=hs.trans s7
          exact .pure (.IU _ _)
         ·refine(ba e).Iy ?_;rintro r7 i _ s7 ⟨rfl,-⟩
          replace hs:=hs.trans s7
          split
          ·exact aA _ (by simp)
          ·refine(ba e).Iy ?_;rintro r8 i2 _ s8 ⟨rfl,-⟩
           replace hs:=hs.trans s8
           split
           ·simp only[Kx];refine(fT (hs.2 (s1.2 hr)) (.inl ⟨rfl,rfl⟩) (H1 _ hs) hj).Iy ?_;rintro r9 q _ s9 rfl;split
            ·refine SR.Iy (A:=λ_ _ _=>False) ((iG .noRoom).Iy λ_ _ _ _ _=>al) λ_ _ _ _ h=>h.elim
            ·exact au
           ·refine bw.Iy ?_;rintro r9 q _ s9 rfl
            replace hs:=hs.trans s9
            refine(ba e).Iy ?_;rintro A6 i3 _ A2 ⟨rfl,-⟩
            replace hs:=hs.trans A2
            refine(dD _).Iy ?_;rintro A7 _ _ A4 -
            replace hs:=hs.trans A4
            refine(bO _ _ (H0 _ hs)).Iy ?_;intro Ab o O A3 ho
            replace hs:=hs.trans A3
            refine SR.Iy (A:=iX E) ?_ ?_
            ·exact bO _ _ (H1 _ hs)
            intro A8 x X A1 hn
            replace hs:=hs.trans A1
            refine(cM hz e).Iy ?_;intro A9 y Y A0 hy
            replace hs:=hs.trans A0
            refine(cY e ((((ho.mono A1).mono A0).append (hn.mono A0)).append ((AR.cells hy).zeroCells _))).Iy ?_;intro A5 a A Ac ha;exact .pure (.slice _ _ ha)
       | some xt =>
         refine(aE xt).Iy ?_;rintro r5 d _ s5 ⟨rfl,hd⟩
         replace hs:=hs.trans s5
         rename_i d;by_cases hint:∃k,d=.int k
         ·obtain⟨k,rfl⟩:=hint;refine SR.Iy (A:=λ_ a b=>a=true/\b=true) (.pure ⟨rfl,rfl⟩) ?_;rintro r3 _ _ s3 ⟨rfl,rfl⟩
          replace hs:=hs.trans s3
          simp (config:={ maxSteps:=1000000 }) only[if_true,LI,IF,if_false,true_or,and_true];refine(eo (H1 _ hs)).Iy ?_;rintro r4 m _ s4 rfl
          replace hs:=hs.trans s4
          by_cases c1:IntKind.i64.wrap m<0
          ·rw[if_pos c1];(try rw[if_pos c1]);exact aA _ (by simp)
          ·rw[if_neg c1];(try rw[if_neg c1]);refine(ba e).Iy ?_;rintro r6 i0 I0 s6 ⟨e0,-⟩;subst e0
           replace hs:=hs.trans s6
           by_cases c2:IntKind.i64.wrap m*(I0.bytes:Int) > 2 ^ 48
           ·rw[if_pos c2];(try rw[if_pos c2]);refine bw.Iy ?_;rintro r7 q _ s7 rfl;exact aA _ (by simp)
           ·rw[if_neg c2];(try rw[if_neg c2]);simp only[pure_bind];split
            ·refine SR.Iy (A:=iX E) ?_ ?_
             ·split
              ·exact .pure .nil
              ·refine(cM hz e).Iy ?_;intro r9 q Q s9 hq;exact .pure ((AR.cells hq).zeroCells _)
             intro r7 x X s7 hn
             replace hs:=hs.trans s7
             exact .pure (.IU _ _)
            ·refine(ba e).Iy ?_;rintro r7 i _ s7 ⟨rfl,-⟩
             replace hs:=hs.trans s7
             split
             ·exact aA _ (by simp)
             ·refine(ba e).Iy ?_;rintro r8 i2 _ s8 ⟨rfl,-⟩
              replace hs:=hs.trans s8
              split
              ·exact aA _ (by simp)
              ·refine bw.Iy ?_;rintro r9 q _ s9 rfl
               replace hs:=hs.trans s9
               refine(ba e).Iy ?_;rintro A6 i3 _ A2 ⟨rfl,-⟩
               replace hs:=hs.trans A2
               refine(dD _).Iy ?_;rintro A7 _ _ A4 -
               replace hs:=hs.trans A4
               refine(bO _ _ (H0 _ hs)).Iy ?_;intro Ab o O A3 ho
               replace hs:=hs.trans A3
               refine SR.Iy (A:=iX E) ?_ ?_
               ·split
                ·exact .pure .nil
                ·refine(cM hz e).Iy ?_;intro r9 q Q s9 hq;exact .pure ((AR.cells hq).zeroCells _)
               intro A8 x X A1 hn
               replace hs:=hs.trans A1
               refine(cM hz e).Iy ?_;intro A9 y Y A0 hy
               replace hs:=hs.trans A0
               refine(cY e ((((ho.mono A1).mono A0).append (hn.mono A0)).append ((AR.cells hy).zeroCells _))).Iy ?_;intro A5 a A Ac ha;exact .pure (.slice _ _ ha)
         ·have Aa:∀k,d≠.int k:=λk hk=>hint ⟨k,hk⟩;refine SR.Iy (A:=λ_ a b=>a=L5/\b=L5) (.pure ⟨by cases d<;>first|rfl|exact absurd rfl (Aa _),by cases d<;>first|rfl|exact absurd rfl (Aa _)⟩) ?_;rintro r3 _ _ s3 ⟨rfl,rfl⟩
          replace hs:=hs.trans s3
          simp only[IF,if_false,Lw,if_true,false_or];refine(jl (H1 _ hs)).Iy ?_;rintro r4 m _ s4 ⟨rfl,hj⟩
          replace hs:=hs.trans s4
          split
          ·refine SR.Iy (A:=iX E) ?_ ?_
           ·exact bO _ _ (H1 _ hs)
           intro r7 x X s7 hn
           replace hs:=hs.trans s7
           exact .pure (.IU _ _)
          ·refine(ba e).Iy ?_;rintro r7 i _ s7 ⟨rfl,-⟩
           replace hs:=hs.trans s7
           split
           ·exact aA _ (by simp)
           ·refine(ba e).Iy ?_;rintro r8 i2 _ s8 ⟨rfl,-⟩
            replace hs:=hs.trans s8
            split
            ·simp only[Kx];refine(fT (hs.2 (s1.2 hr)) (.inl ⟨rfl,rfl⟩) (H1 _ hs) hj).Iy ?_;rintro r9 q _ s9 rfl;split
             ·refine SR.Iy (A:=λ_ _ _=>False) ((iG .noRoom).Iy λ_ _ _ _ _=>al) λ_ _ _ _ h=>h.elim
             ·exact au
            ·refine bw.Iy ?_;rintro r9 q _ s9 rfl
             replace hs:=hs.trans s9
             refine(ba e).Iy ?_;rintro A6 i3 _ A2 ⟨rfl,-⟩
             replace hs:=hs.trans A2
             refine(dD _).Iy ?_;rintro A7 _ _ A4 -
             replace hs:=hs.trans A4
             refine(bO _ _ (H0 _ hs)).Iy ?_;intro Ab o O A3 ho
             replace hs:=hs.trans A3
             refine SR.Iy (A:=iX E) ?_ ?_
             ·exact bO _ _ (H1 _ hs)
             intro A8 x X A1 hn
             replace hs:=hs.trans A1
             refine(cM hz e).Iy ?_;intro A9 y Y A0 hy
             replace hs:=hs.trans A0
             refine(cY e ((((ho.mono A1).mono A0).append (hn.mono A0)).append ((AR.cells hy).zeroCells _))).Iy ?_;intro A5 a A Ac ha;exact .pure (.slice _ _ ha)
     | slice n c ha =>
       have HA:∀r',Sub r1 r'->IX r' _ _:=λr' s=>ha.mono s;have hs:Sub r1 r1:=.rfl;dsimp only;refine(bE e).Iy ?_;rintro r2 z _ s2 rfl
       replace hs:=hs.trans s2
       cases h1:t[1]? with
       | none =>
         refine SR.Iy (A:=λ_ a b=>a=L5/\b=L5) (.pure ⟨rfl,rfl⟩) ?_;rintro r3 _ _ s3 ⟨rfl,rfl⟩
         replace hs:=hs.trans s3
         simp only[IF,if_false,Lw,if_true,false_or];refine(jl (H1 _ hs)).Iy ?_;rintro r4 m _ s4 ⟨rfl,hj⟩
         replace hs:=hs.trans s4
         split
         ·refine SR.Iy (A:=iX E) ?_ ?_
          ·exact bO _ _ (H1 _ hs)
          intro r7 x X s7 hn
          replace hs:=hs.trans s7
          refine(dt 0 ((HA _ hs).add _) hn).Iy ?_;rintro r8 _ _ s8 -
          exact .pure (.slice _ _ (HA _ (hs.trans s8)))
         ·refine(ba e).Iy ?_;rintro r7 i _ s7 ⟨rfl,-⟩
          replace hs:=hs.trans s7
          split
          ·exact aA _ (by simp)
          ·refine(ba e).Iy ?_;rintro r8 i2 _ s8 ⟨rfl,-⟩
           replace hs:=hs.trans s8
           split
           ·simp only[Kx];refine(fT (hs.2 (s1.2 hr)) (.inr ⟨_,_,rfl,rfl,HA _ hs⟩) (H1 _ hs) hj).Iy ?_;rintro r9 q _ s9 rfl;split
            ·refine SR.Iy (A:=λ_ _ _=>False) ((iG .noRoom).Iy λ_ _ _ _ _=>al) λ_ _ _ _ h=>h.elim
            ·exact au
           ·refine bw.Iy ?_;rintro r9 q _ s9 rfl
            replace hs:=hs.trans s9
            refine(ba e).Iy ?_;rintro A6 i3 _ A2 ⟨rfl,-⟩
            replace hs:=hs.trans A2
            refine(dD _).Iy ?_;rintro A7 _ _ A4 -
            replace hs:=hs.trans A4
            refine(bO _ _ (H0 _ hs)).Iy ?_;intro Ab o O A3 ho
            replace hs:=hs.trans A3
            refine SR.Iy (A:=iX E) ?_ ?_
            ·exact bO _ _ (H1 _ hs)
            intro A8 x X A1 hn
            replace hs:=hs.trans A1
            refine(cM hz e).Iy ?_;intro A9 y Y A0 hy
            replace hs:=hs.trans A0
            refine(cY e ((((ho.mono A1).mono A0).append (hn.mono A0)).append ((AR.cells hy).zeroCells _))).Iy ?_;intro A5 a A Ac ha;exact .pure (.slice _ _ ha)
       | some xt =>
         refine(aE xt).Iy ?_;rintro r5 d _ s5 ⟨rfl,hd⟩
         replace hs:=hs.trans s5
         rename_i d;by_cases hint:∃k,d=.int k
         ·obtain⟨k,rfl⟩:=hint;refine SR.Iy (A:=λ_ a b=>a=true/\b=true) (.pure ⟨rfl,rfl⟩) ?_;rintro r3 _ _ s3 ⟨rfl,rfl⟩
          replace hs:=hs.trans s3
          simp (config:={ maxSteps:=1000000 }) only[if_true,LI,IF,if_false,true_or,and_true];refine(eo (H1 _ hs)).Iy ?_;rintro r4 m _ s4 rfl
          replace hs:=hs.trans s4
          by_cases c1:IntKind.i64.wrap m<0
          ·rw[if_pos c1];(try rw[if_pos c1]);exact aA _ (by simp)
          ·rw[if_neg c1];(try rw[if_neg c1]);refine(ba e).Iy ?_;rintro r6 i0 I0 s6 ⟨e0,-⟩;subst e0
           replace hs:=hs.trans s6
           by_cases c2:IntKind.i64.wrap m*(I0.bytes:Int) > 2 ^ 48
           ·rw[if_pos c2];(try rw[if_pos c2]);refine bw.Iy ?_;rintro r7 q _ s7 rfl;exact aA _ (by simp)
           ·rw[if_neg c2];(try rw[if_neg c2]);simp only[pure_bind];split
            ·refine SR.Iy (A:=iX E) ?_ ?_
             ·split
              ·exact .pure .nil
              ·refine(cM hz e).Iy ?_;intro r9 q Q s9 hq;exact .pure ((AR.cells hq).zeroCells _)
             intro r7 x X s7 hn
             replace hs:=hs.trans s7
             refine(dt 0 ((HA _ hs).add _) hn).Iy ?_;rintro r8 _ _ s8 -
             exact .pure (.slice _ _ (HA _ (hs.trans s8)))
            ·refine(ba e).Iy ?_;rintro r7 i _ s7 ⟨rfl,-⟩
             replace hs:=hs.trans s7
             split
             ·exact aA _ (by simp)
             ·refine(ba e).Iy ?_;rintro r8 i2 _ s8 ⟨rfl,-⟩
              replace hs:=hs.trans s8
              split
              ·exact aA _ (by simp)
              ·refine bw.Iy ?_;rintro r9 q _ s9 rfl
               replace hs:=hs.trans s9
               refine(ba e).Iy ?_;rintro A6 i3 _ A2 ⟨rfl,-⟩
               replace hs:=hs.trans A2
               refine(dD _).Iy ?_;rintro A7 _ _ A4 -
               replace hs:=hs.trans A4
               refine(bO _ _ (H0 _ hs)).Iy ?_;intro Ab o O A3 ho
               replace hs:=hs.trans A3
               refine SR.Iy (A:=iX E) ?_ ?_
               ·split
                ·exact .pure .nil
                ·refine(cM hz e).Iy ?_;intro r9 q Q s9 hq;exact .pure ((AR.cells hq).zeroCells _)
               intro A8 x X A1 hn
               replace hs:=hs.trans A1
               refine(cM hz e).Iy ?_;intro A9 y Y A0 hy
               replace hs:=hs.trans A0
               refine(cY e ((((ho.mono A1).mono A0).append (hn.mono A0)).append ((AR.cells hy).zeroCells _))).Iy ?_;intro A5 a A Ac ha;exact .pure (.slice _ _ ha)
         ·have Aa:∀k,d≠.int k:=λk hk=>hint ⟨k,hk⟩;refine SR.Iy (A:=λ_ a b=>a=L5/\b=L5) (.pure ⟨by cases d<;>first|rfl|exact absurd rfl (Aa _),by cases d<;>first|rfl|exact absurd rfl (Aa _)⟩) ?_;rintro r3 _ _ s3 ⟨rfl,rfl⟩
          replace hs:=hs.trans s3
          simp only[IF,if_false,Lw,if_true,false_or];refine(jl (H1 _ hs)).Iy ?_;rintro r4 m _ s4 ⟨rfl,hj⟩
          replace hs:=hs.trans s4
          split
          ·refine SR.Iy (A:=iX E) ?_ ?_
           ·exact bO _ _ (H1 _ hs)
           intro r7 x X s7 hn
           replace hs:=hs.trans s7
           refine(dt 0 ((HA _ hs).add _) hn).Iy ?_;rintro r8 _ _ s8 -
           exact .pure (.slice _ _ (HA _ (hs.trans s8)))
          ·refine(ba e).Iy ?_;rintro r7 i _ s7 ⟨rfl,-⟩
           replace hs:=hs.trans s7
           split
           ·exact aA _ (by simp)
           ·refine(ba e).Iy ?_;rintro r8 i2 _ s8 ⟨rfl,-⟩
            replace hs:=hs.trans s8
            split
            ·simp only[Kx];refine(fT (hs.2 (s1.2 hr)) (.inr ⟨_,_,rfl,rfl,HA _ hs⟩) (H1 _ hs) hj).Iy ?_;rintro r9 q _ s9 rfl;split
             ·refine SR.Iy (A:=λ_ _ _=>False) ((iG .noRoom).Iy λ_ _ _ _ _=>al) λ_ _ _ _ h=>h.elim
             ·exact au
            ·refine bw.Iy ?_;rintro r9 q _ s9 rfl
             replace hs:=hs.trans s9
             refine(ba e).Iy ?_;rintro A6 i3 _ A2 ⟨rfl,-⟩
             replace hs:=hs.trans A2
             refine(dD _).Iy ?_;rintro A7 _ _ A4 -
             replace hs:=hs.trans A4
             refine(bO _ _ (H0 _ hs)).Iy ?_;intro Ab o O A3 ho
             replace hs:=hs.trans A3
             refine SR.Iy (A:=iX E) ?_ ?_
             ·exact bO _ _ (H1 _ hs)
             intro A8 x X A1 hn
             replace hs:=hs.trans A1
             refine(cM hz e).Iy ?_;intro A9 y Y A0 hy
             replace hs:=hs.trans A0
             refine(cY e ((((ho.mono A1).mono A0).append (hn.mono A0)).append ((AR.cells hy).zeroCells _))).Iy ?_;intro A5 a A Ac ha;exact .pure (.slice _ _ ha)
     | _=>exact ag
   | _=>exact ag
end
section
variable {E:Env} {r:Rel}
theorem gy (op:BinOp)(k:L3)(a b:Int):SR E (aO E) r (Op.intArith op k a b) (Op.intArith op k a b):=by
 unfold Op.intArith;cases op<;>first|exact .pure (.int _ _)|exact ag
theorem Ff (op:BinOp)(k:L3)(a b:Int):SR E (aO E) r (Op.intDiv op k a b) (Op.intDiv op k a b):=by
 unfold Op.intDiv;split
 ·exact bh _ (by simp)
 ·cases op<;>first|exact .pure (.int _ _)|exact ag
theorem nb (op:BinOp)(k:L3)(a b:Int):SR E (aO E) r (Op.intBits op k a b) (Op.intBits op k a b):=by
 unfold Op.intBits;cases op<;>first|exact .pure (.int _ _)|exact ag
theorem F4 (op:BinOp)(a b:Int):SR E (aO E) r (Op.intCmp op a b) (Op.intCmp op a b):=by
 unfold Op.intCmp;cases op<;>first|exact .pure (.bool _)|exact ag
theorem BG (op:BinOp)(k:L3)(a:Int)(k':L3)(b:Int):SR E (aO E) r (Op.shift op k a k' b) (Op.shift op k a k' b):=by
 unfold Op.shift;split
 ·exact bh _ (by simp)
 ·cases op<;>first|exact .pure (.int _ _)|exact ag
theorem BA (op:UnOp){v V:ID}(h:VR E r v V):SR E (aO E) r (Op.unary op v) (Op.unary op V):=by
 unfold Op.unary;cases op<;>cases h<;>first|exact gy _ _ _ _|exact nb _ _ _ _|exact .pure (.bool _)|exact al|exact ag
theorem fY:SR E (λ_ a b=>a=E.P/\b=E.P) r program program:=.program (.pure ⟨rfl,rfl⟩)
theorem td (hG:E.P.globals.size=gN)(hr:r.OK){a A:LR}(h:IX r a A):A.block<E.P.globals.size ↔ a.block<E.P.globals.size:=by
 rw[hG];exact hr.low h.1
theorem A6 {σ:Type}{f:ID->σ->Sem (ForInStep σ)}(hf:∀r v V s,VR E r v V->SR E bc r (f v s) (f V s)):∀(l L:List ID) {r:Rel} (s:σ),l.length=L.length ->
 (∀(i:Nat) v V,l[i]?=Jx v->L[i]?=Jx V->VR E r v V)->SR E bc r (forIn l s f) (forIn L s f):=by
 intro l;induction l with
 | nil=>intro L r s hl _;cases L with|nil=>exact .pure rfl|cons _ _=>simp at hl
 | cons v l ih =>
   intro L r s hl hp;cases L with
   | nil=>simp at hl
   | cons V L =>
     simp only[List.forIn_cons];refine(hf r v V s (hp 0 v V rfl rfl)).Iy ?_;rintro r1 x _ s1 rfl;cases x with
     | done b=>exact .pure rfl
     | yield b=>exact ih L b (by simpa using hl) λi v V a b=>(hp (i+1) v V (by simpa using a) (by simpa using b)).mono s1
theorem uM (hr:r.OK){a A b:LR}(h:IX r a A)(h':IX r b B):(A==B)=(a==b):=by
 have e1:=eS hr h h';obtain⟨x,y,z⟩:=a;obtain⟨X,Y,Z⟩:=A;obtain⟨u,v,t⟩:=b;obtain⟨U,V,T⟩:=B;obtain⟨-,e2,e3⟩:=h;obtain⟨-,e4,e5⟩:=h';simp only at e1 e2 e3 e4 e5;subst e2 e3 e4 e5;have e6:X=U ↔ x=u:=by
  constructor
  ·intro q;rw[beq_iff_eq.2 q] at e1;exact beq_iff_eq.1 e1.symm
  ·intro q;rw[beq_iff_eq.2 q] at e1;exact beq_iff_eq.1 e1
 rw[Bool.eq_iff_iff,beq_iff_eq,beq_iff_eq,Addr.mk.injEq,Addr.mk.injEq,e6]
theorem lR {v V:ID}(h:VR E r v V):SR E (aO E) r (J0 v) (J0 V):=by
 unfold J0;cases h with
 | IU _ _=>exact .pure (.string _)
 | slice n c ha =>
   dsimp only;refine(gQ ha n).Iy ?_;intro r1 x X s1 hx;refine SR.Iy (A:=bc) ?_ ?_
   ·rw[<-Array.forIn_toList,<-Array.forIn_toList];refine A6 (λr v V s hv=>?_) _ _ _ (by simpa using hx.1) (λi v V a b=>hx.2 i v V (by simpa using a) (by simpa using b));cases hv with
    | int k m=>cases k<;>first|exact .pure rfl|exact aB
    | _=>exact aB
   ·rintro r2 q _ s2 rfl;exact .pure (.string _)
 | _=>exact ag
theorem rU (hG:E.P.globals.size=gN)(hr:r.OK){t:IH}(ht:Flat E t){v V u U:ID}(h:VR E r v V)(h':VR E r u U):SR E bc r (K2 t v u) (K2 t V U):=by
 unfold K2 Op.maxDepth Op.equalIn;refine(aE t).Iy ?_;rintro r1 d _ s1 ⟨rfl,hd⟩;rename_i d;have hd:=ht d hd;have h:=h.mono s1;have h':=h'.mono s1;cases d with
 | bool=>cases h<;>cases h'<;>first|exact .pure rfl|exact ag
 | string=>cases h<;>cases h'<;>first|exact .pure rfl|exact ag
 | pointer e =>
   cases h with
   | Ji=>cases h'<;>first|exact .pure rfl|exact ag
   | ptr ha =>
     cases h' with
     | Ji=>exact .pure rfl
     | ptr hb' =>
       dsimp only;refine(bE e).Iy ?_;rintro r2 n _ s2 rfl;have A4:=s2.2 (s1.2 hr);split
       ·exact tF A4 (ha.mono s2) (hb'.mono s2)
       ·rw[uM A4 (ha.mono s2) (hb'.mono s2)];split
        ·exact .pure rfl
        ·refine bw.Iy ?_;rintro r3 q _ s3 rfl;exact .pure rfl
     | _=>exact ag
   | _=>exact ag
 | int k =>
   cases h with
   | int k1 n1 =>
     cases h' with
     | int k2 n2 =>
       dsimp only;split
       ·exact .pure rfl
       ·exact ag
     | Ji=>rcases n1 with(_|n)|n<;>exact al
     | ptr hb'=>rcases n1 with(_|n)|n<;>first|exact .pure rfl|exact al
     | _=>exact ag
   | Ji=>cases h'<;>first|exact al|exact ag
   | ptr ha =>
     cases h' with
     | int k2 n2=>rcases n2 with(_|n)|n<;>first|exact .pure rfl|exact al
     | ptr hb' =>
       dsimp only;refine(jx ha).Iy ?_;rintro r2 ⟨a,b⟩ ⟨A,B⟩ s2 ⟨A6,A9⟩;refine(jx (hb'.mono s2)).Iy ?_;rintro r3 ⟨c,d⟩ ⟨C,D⟩ s3 ⟨A5,A8⟩;have A3:=A6.mono s3;have A7:=s3.2 (s2.2 (s1.2 hr));dsimp only at A3 A5 ⊢;refine fY.Iy ?_;rintro r4 _ _ s4 ⟨rfl,rfl⟩;have A1:=s4.2 A7;have A0:=A3.mono s4;have A2:=A5.mono s4;simp only[eS A1 A0 A2,td hG A1 A0];split
       ·refine(eI A0).Iy ?_;rintro r5 q _ s5 rfl;refine(eI (A2.mono s5)).Iy ?_;rintro r6 q _ s6 rfl;exact .pure rfl
       ·refine(ba t).Iy ?_;rintro r5 i _ s5 ⟨rfl,-⟩;split
        ·rw[uM A1 A0 A2];split
         ·exact .pure rfl
         ·exact al
        ·exact al
     | _=>first|exact al|exact ag
   | _=>cases h'<;>first|exact al|exact ag
 | _=>exact hd.elim
theorem pN {a A:LR}(h:IX r a A):SR E (λr=>IX r) r (Conv.seenAt a) (Conv.seenAt A):=by
 unfold Conv.seenAt;refine(gB h.1).Iy ?_;rintro r1 x X s1 (⟨rfl,rfl⟩|⟨b,B,t,rfl,rfl,hb⟩)
 ·exact .pure (h.mono s1)
 ·dsimp only;rw[h.2.1,h.2.2,hb.2.2];split
  ·exact .pure hb
  ·split
   ·exact au
   ·refine cF.Iy ?_;rintro r2 p _ s2 rfl;split
    ·refine(cJ (s2.1 _ _ hb.1)).Iy ?_;rintro r3 q _ s3 rfl;split
     ·split
      ·exact au
      ·rw[hb.2.1];split
       ·exact .pure ⟨s3.1 _ _ (s2.1 _ _ hb.1),rfl,rfl⟩
       ·exact al
     ·exact al
    ·exact al
theorem gp {t:IH}{a b:TypeDesc}(hs:E.P.underlying s=Jx a)(ht:E.P.underlying t=Jx b)(hab:(∃e,a=.pointer e/\b=.unsafePointer)\/∃e,a=.unsafePointer/\b=.pointer e)
 {v V:ID}(h:VR E r v V):SR E (aO E) r (Conv.unsafePointer s t v) (Conv.unsafePointer s t V):=by
 unfold Conv.unsafePointer;refine(aE s).Iy ?_;rintro r1 d _ s1 ⟨rfl,hd⟩;refine(aE t).Iy ?_;rintro r2 d _ s2 ⟨rfl,A1⟩;rw[hs] at hd;rw[ht] at A1;simp only[Lz] at hd A1;subst hd A1;have h:=(h.mono s1).mono s2;rcases hab with⟨e,rfl,rfl⟩|⟨e,rfl,rfl⟩
 ·cases h with
  | Ji=>exact .pure .Ji
  | ptr ha =>
    dsimp only;refine(pN ha).Iy ?_;intro r3 x X s3 hx;refine(wV hx.1).Iy ?_;rintro r4 q _ s4 rfl;refine(bE e).Iy ?_;rintro r5 n _ s5 rfl;rw[hx.2.1,hx.2.2];have A0:=(hx.mono s4).mono s5;rcases q with _|q<;>(dsimp only;split);all_goals first
     | exact SR.pure (VR.ptr A0)
     | (refine SR.Iy (A:=λr a A=>r a A) (.new (.view A0) λ_ _ _ _ _ _=>.pure (.inr ⟨rfl,rfl⟩)) ?_
        intro r6 b B s6 hb
        exact SR.pure (VR.ptr ⟨hb,rfl,rfl⟩))
  | _=>exact ag
 ·cases h with
  | Ji=>exact .pure .Ji
  | ptr ha =>
    dsimp only;refine(pN ha).Iy ?_;intro r3 x X s3 hx;refine(bE e).Iy ?_;rintro r4 n _ s4 rfl;refine(iP (hx.mono s4) _ _).Iy ?_;rintro r5 b _ s5 rfl;have A0:=(hx.mono s4).mono s5;split
    ·exact .pure (.ptr A0)
    ·refine(cJ A0.1).Iy ?_;rintro r6 q _ s6 rfl;rcases q with _|⟨e',m⟩
     ·exact au
     ·dsimp only;refine cF.Iy ?_;rintro r7 p _ s7 rfl;refine cF.Iy ?_;rintro r8 p' _ s8 rfl;split
      ·exact au
      ·refine SR.Iy (A:=λr a A=>r a A) (.new (.view (((A0.mono s6).mono s7).mono s8)) λ_ _ _ _ _ _=>.pure (.inr ⟨rfl,rfl⟩)) ?_;intro r6 b B s6 hb;exact SR.pure (VR.ptr ⟨hb,rfl,rfl⟩)
  | _=>exact ag
theorem wH (_:gR E.P){t:IH}(hc:Gn E s t){v V:ID}(h:VR E r v V):SR E (aO E) r (convert s t v) (convert s t V):=by
 unfold convert;refine(aE s).Iy ?_;rintro r1 a _ s1 ⟨rfl,ha⟩;refine(aE t).Iy ?_;rintro r2 b _ s2 ⟨rfl,hb⟩;rename_i a b;have hc:=hc a b ha hb;have h:=(h.mono s1).mono s2;cases a with
 | int k =>
   cases b with
   | int k'=>cases h<;>first|exact .pure (.int _ _)|exact al
   | string=>cases h<;>first|exact .pure (.string _)|exact al|exact ag
   | _=>exact hc.elim
 | pointer e =>
   cases b with
   | unsafePointer=>have hk:=h;cases h<;>exact gp ha hb (.inl ⟨e,rfl,rfl⟩) hk
   | _=>exact hc.elim
 | unsafePointer =>
   cases b with
   | pointer e=>have hk:=h;cases h<;>exact gp ha hb (.inr ⟨e,rfl,rfl⟩) hk
   | _=>exact hc.elim
 | slice e =>
   cases b with
   | string =>
     have A0:∀r3,Sub r2 r3->SR E (aO E) r3 (J0 v) (J0 V):=λr3 s3=>lR (h.mono s3);dsimp only at hc;have A1:∀{x X:Sem ID},(∀r3,Sub r2 r3->SR E (aO E) r3 x X)->∀{y Y:Sem ID} {f F:Sem ID},SR E (aO E) r2
      (underlying e >>= λd=>match d with|.int .u8=>x|.int .i32=>y|_=>f) (underlying e >>= λd=>match d with|.int .u8=>X|.int .i32=>Y|_=>F):=by
      intro x X hx y Y f F;refine(aE e).Iy ?_;rintro r3 d _ s3 ⟨rfl,hd⟩;rw[hc] at hd;simp only[Lz] at hd;subst hd;exact hx r3 s3
     cases h with
     | int k n=>exact SR.pure (VR.string _)
     | string s=>exact .pure (.string _)
     | jf a b =>refine n9 λd hd=>?_;rw[hc] at hd;simp only[Lz] at hd;subst hd;exact ag
     | _=>exact A1 A0
   | _=>exact hc.elim
 | _=>exact hc.elim
theorem EH {t:IH}(ht:Flat E t)(x y:Mz){v u:ID}(hj:¬ NJ v\/¬ NJ u){A:Rel->ID->ID->Prop}:SR E A r (do eqGuard op t x y v u;binOp op t v u) S:=by
 have hd:∀d,E.P.underlying t=Jx d->(d=.bool\/(∃k,d=.int k)\/d=.string\/∃e,d=.pointer e):=λd hd=>by have:=ht d hd;cases d<;>first|exact this.elim|simp
 have hg:(eqGuard op t x y v u:Sem Unit)=LN ():=by
  unfold eqGuard;rcases hj with hj|hj<;>simp only[NJ,J1,K0] at hj<;>obtain⟨V,rfl⟩:=hj
  ·cases op<;>rfl
  ·cases op<;>first|rfl|(cases v<;>rfl)
 rw[hg];simp only[pure_bind];have A0:∀{α:Type} {f:Bool->Sem α} {β:Type} {A:Rel->α->β->Prop} {S:Sem β},SR E A r (K2 t v u >>= f) S:=by
  intro α f β A S;unfold K2 Op.maxDepth Op.equalIn;rw[Kx];refine n9 λd h=>?_;rcases hd d h with rfl|⟨k,rfl⟩|rfl|⟨e,rfl⟩ <;>
  ·rcases hj with hj|hj<;>simp only[NJ,J1,K0] at hj<;>obtain⟨V,rfl⟩:=hj
   ·cases u<;>first|exact aB|exact au|(rename_i q;cases q<;>first|exact aB|exact au)
   ·cases v<;>first|exact aB|exact au|(rename_i q;cases q<;>first|exact aB|exact au)
 rcases hj with hj|hj<;>simp only[NJ,J1,K0] at hj<;>obtain⟨V,rfl⟩:=hj
 ·cases op<;>first
   | exact A0
   | (cases u<;>first|exact ag|exact al)
 ·cases op<;>first
   | (cases v<;>first|exact ag|exact al|(rename_i q;cases q<;>first|exact ag|exact al)|exact A0)
theorem kU {t:IH}(ht:Flat E t){v V u U:ID}:SR E bc r (Op.eqGuardIn Op.maxDepth t v u) (Op.eqGuardIn Op.maxDepth t V U):=by
 unfold Op.maxDepth Op.eqGuardIn;refine(aE t).Iy ?_;rintro r1 d _ s1 ⟨rfl,hd⟩;rename_i d;have hd:=ht d hd;cases d<;>first|exact hd.elim|exact .pure rfl
theorem ve {t:IH}(ht:Flat E t)(x y:Mz){v V u U:ID}(h:VR E r v V)(h':VR E r u U)(hj:NJ v)(hj':NJ u):SR E bc r (eqGuard op t x y v u) (eqGuard op t x y V U):=by
 unfold eqGuard;cases op<;>first
  | exact .pure rfl
  | skip
 all_goals
  simp only[LI,IF,if_false];cases h with
  | nilIface =>
    cases h' with
    | nilIface =>
      cases x<;>cases y<;>first
       | exact .pure rfl
       | (refine(kU ht).Iy ?_
          rintro r1 q _ s1 rfl;split
          ·exact al
          ·exact .pure rfl)
    | jf=>exact absurd rfl (hj' _)
    | _=>exact .pure rfl
  | agg a b =>
    cases h' with
    | agg c d =>
      dsimp only;refine cF.Iy ?_;rintro r1 p _ s1 rfl;refine cF.Iy ?_;rintro r2 p' _ s2 rfl;split
      ·exact .pure rfl
      ·refine(kU ht).Iy ?_;rintro r3 q _ s3 rfl;split
       ·exact al
       ·exact .pure rfl
    | jf=>exact absurd rfl (hj' _)
    | _=>exact .pure rfl
  | jf=>exact absurd rfl (hj _)
  | _=>exact .pure rfl
theorem kO (t:IH)(hp:VR E r (.pointer p) (.pointer P))(hn:VR E r n N) :
 SR E (λr v V=>VR E r v V/\NJ v) r (Builtin.unsafeAdd_ #[] t #[.pointer p,n]) (Builtin.unsafeAdd_ #[] t #[.pointer P,N]):=by
 unfold Builtin.unsafeAdd_;dsimp only;refine(eo hn).Iy ?_;rintro r1 n _ s1 rfl;cases hp with
 | Ji =>
   dsimp only;split
   ·exact al
   ·split
    ·exact au
    ·exact al
 | ptr ha =>
   have ha:=ha.mono s1;dsimp only;split
   ·refine(gB ha.1).Iy ?_;rintro r2 x X s2 (⟨rfl,rfl⟩|⟨b,B,u,rfl,rfl,hb⟩)
    ·exact .pure ⟨.ptr (ha.mono s2),λ_=>by simp⟩
    ·exact au
   ·split
    ·exact au
    ·refine(cJ ha.1).Iy ?_;rintro r2 q _ s2 rfl;rcases q with _|⟨e,c⟩
     ·exact al
     ·dsimp only;refine cF.Iy ?_;rintro r3 p _ s3 rfl;rw[ha.2.1];split
      ·exact .pure ⟨.ptr ⟨s3.1 _ _ (s2.1 _ _ ha.1),rfl,ha.2.2⟩,λ_=>by simp⟩
      ·exact al
end
section
variable {E:Env} {r:Rel}
theorem gA {t:IH}(ht:Flat E t)(hp:VR E r (.pointer p) (.pointer P))(hn:VR E r n N) :
 SR E (aO E) r (movedNumber t (.pointer p) n) (movedNumber t (.pointer P) N):=by
 unfold movedNumber;refine(aE t).Iy ?_;rintro r1 d _ s1 ⟨rfl,hd⟩;rename_i d;have hd:=ht d hd;have hp:=hp.mono s1;have hn:=hn.mono s1;cases d<;>first
  | exact hd.elim
  | skip
 all_goals
  cases hp with
  | Ji =>have:=(kO t .Ji hn).Iy (f:=LN) (F:=LN) (B:=aO E) λ_ _ _ _ h=>.pure h.1;simpa using this
  | ptr ha =>
    dsimp only;refine(jx ha).Iy ?_;rintro r2 ⟨a,b⟩ ⟨A,B⟩ s2 ⟨A0,A1⟩;dsimp only at A0 A1 ⊢;subst A1;refine(kO t (.ptr A0) (hn.mono s2)).Iy ?_;rintro r3 v V s3 ⟨hv,hj⟩;cases hv with
    | jf=>exact absurd rfl (hj _)
    | ptr hc =>refine SR.Iy (A:=λr a A=>r a A) (.new (.number hc) λ_ _ _ _ _ _=>.pure (.inr ⟨rfl,rfl⟩)) ?_;intro r4 b B s4 hb;exact SR.pure (VR.ptr ⟨hb,rfl,rfl⟩)
    | bool b=>exact .pure (.bool b)
    | int k n=>exact .pure (.int k n)
    | string b=>exact .pure (.string b)
    | Ji=>exact .pure .Ji
    | IU a b=>exact .pure (.IU a b)
    | slice a b h=>exact .pure (.slice a b h)
    | KT=>exact .pure .KT
    | Ki=>exact .pure .Ki
    | func a b c d e=>exact .pure (.func a b c d e)
    | nilFunc=>exact .pure .nilFunc
    | iface a b=>exact .pure (.iface a b)
    | nilIface=>exact .pure .nilIface
    | agg a b=>exact .pure (.agg a b)
    | tuple a b=>exact .pure (.tuple a b)
theorem CI (hG:E.P.globals.size=gN)(hr:r.OK){a A b:LR}(h:IX r a A)(h':IX r b B):SR E bc r (Op.twoPlaces a b) (Op.twoPlaces A B):=by
 unfold Op.twoPlaces;refine fY.Iy ?_;rintro r1 _ _ s1 ⟨rfl,rfl⟩;have e1:(A.block != B.block)=(a.block != b.block):=by rw[bne,bne,eS hr h h']
 have e2:(A.block ≥ E.P.globals.size) ↔ (a.block ≥ E.P.globals.size):=by have:=td hG hr h;constructor<;>intro q<;>(have:=this;omega)
 simp only[e1,e2];split
 ·exact au
 ·refine(eI (h.mono s1)).Iy ?_;rintro r2 x _ s2 rfl;refine(eI ((h'.mono s1).mono s2)).Iy ?_;rintro r3 y _ s3 rfl;exact .pure rfl
theorem eJ {a A:LR}(h:IX r a A){B:Rel->α->β->Prop}{f:LR->Sem α}{F:LR->Sem β}(hf:∀r' a A,Sub r r'->IX r' a A->SR E B r' (f a) (F A)) :
 SR E B r (behindNumber a >>= λx=>f x.1) (behindNumber A >>= λx=>F x.1) :=
 (jx h).Iy λr' _ _ s hx=>hf r' _ _ s hx.1
theorem wh (hG:E.P.globals.size=gN)(hr:r.OK)(k:L3){a A b:LR}(h:IX r a A)(h':IX r b B):SR E (aO E) r (Op.addrSub k a b) (Op.addrSub k A B):=by
 unfold Op.addrSub;refine(CI hG hr h h').Iy ?_;rintro r1 x _ s1 rfl;exact .pure (.int _ _)
theorem vS (hG:E.P.globals.size=gN)(hr:r.OK)(op:BinOp){a A b:LR}(h:IX r a A)(h':IX r b B):SR E (aO E) r (Op.addrCmp op a b) (Op.addrCmp op A B):=by
 unfold Op.addrCmp;refine(CI hG hr h h').Iy ?_;rintro r1 x _ s1 rfl;cases op<;>first|exact .pure (.bool _)|exact al
theorem nQ (k:L3){a A:LR}(h:IX r a A)(n:Int):SR E (aO E) r (Op.addrMod k a n) (Op.addrMod k A n):=by
 unfold Op.addrMod;refine(cJ h.1).Iy ?_;rintro r1 q _ s1 rfl;rcases q with _|⟨e,m⟩
 ·exact al
 ·dsimp only;refine(ba e).Iy ?_;rintro r2 i _ s2 ⟨rfl,-⟩;split
  ·exact au
  ·refine(eI ((h.mono s1).mono s2)).Iy ?_;rintro r3 q _ s3 rfl;exact .pure (.int _ _)
end
section
variable {E:Env} {r:Rel}
theorem BP (hG:E.P.globals.size=gN)(hr:r.OK)(op:BinOp){t:IH}(ht:Flat E t){v V u U:ID}(h:VR E r v V)(h':VR E r u U)(hj:NJ v)(hj':NJ u) :
 SR E (aO E) r (binOp op t v u) (binOp op t V U):=by
 have eq:SR E (aO E) r (do LN (.bool (<-K2 t v u))) (do LN (.bool (<-K2 t V U))):=(rU hG hr ht h h').Iy λ_ _ _ _ e=>by subst e;exact .pure (.bool _)
 have ne:SR E (aO E) r (do LN (.bool (!(<-K2 t v u)))) (do LN (.bool (!(<-K2 t V U)))):=(rU hG hr ht h h').Iy λ_ _ _ _ e=>by subst e;exact .pure (.bool _)
 unfold binOp;cases h with
 | int k n =>
   cases h' with
   | int k' n' =>
     cases op<;>dsimp only<;>first
      | exact BG _ _ _ _ _
      | (split<;>first|exact ag|exact gy _ _ _ _|exact Ff _ _ _ _|exact nb _ _ _ _|exact F4 _ _ _)
   | ptr ha =>
     cases op<;>first
      | exact eq|exact ne
      | exact gA ht (.ptr ha) (.int _ _)
      | exact eJ ha λr' a A s ha=>nQ _ ha _
      | exact al
      | exact ag
   | Ji =>
     cases op<;>first
      | exact eq|exact ne
      | exact gA ht .Ji (.int _ _)
      | exact al
      | exact ag
   | jf=>exact absurd rfl (hj' _)
   | _=>cases op<;>first|exact eq|exact ne|exact al|exact ag
 | string s =>
   cases h' with
   | string s'=>cases op<;>exact iS _ _ _
   | jf=>exact absurd rfl (hj' _)
   | _=>cases op<;>first|exact eq|exact ne|exact al|exact ag
 | Ji =>
   cases h' with
   | int k n =>
     cases op<;>first
      | exact eq|exact ne
      | exact gA ht .Ji (.int _ _)
      | (refine(aE t).Iy ?_
         rintro r1 d _ s1 ⟨rfl,hd⟩;rename_i d;have hd:=ht d hd
         cases d<;>first|exact hd.elim|exact gA ht .Ji (.int _ _))
      | exact al
      | exact ag
   | jf=>exact absurd rfl (hj' _)
   | _=>cases op<;>first|exact eq|exact ne|exact al|exact ag
 | ptr ha =>
   cases h' with
   | int k n =>
     cases op<;>first
      | exact eq|exact ne
      | exact gA ht (.ptr ha) (.int _ _)
      | exact eJ ha λr' a A s ha=>nQ _ ha _
      | (refine(aE t).Iy ?_
         rintro r1 d _ s1 ⟨rfl,hd⟩;rename_i d;have hd:=ht d hd
         cases d<;>first|exact hd.elim|exact gA ht (.ptr (ha.mono s1)) (.int _ _))
      | exact al
      | exact ag
   | ptr hb' =>
     cases op<;>first
      | exact eq|exact ne
      | exact eJ ha λr1 a A s1 ha=>eJ (hb'.mono s1) λr2 b B s2 hb=>wh hG ((s1.trans s2).2 hr) _ (ha.mono s2) hb
      | exact eJ ha λr1 a A s1 ha=>eJ (hb'.mono s1) λr2 b B s2 hb=>vS hG ((s1.trans s2).2 hr) _ (ha.mono s2) hb
      | exact al
      | exact ag
   | jf=>exact absurd rfl (hj' _)
   | _=>cases op<;>first|exact eq|exact ne|exact al|exact ag
 | jf=>exact absurd rfl (hj _)
 | _=>cases h'<;>first|exact absurd rfl (hj' _)|(cases op<;>first|exact eq|exact ne|exact al|exact ag)
end
inductive QA (E:Env) (r:Rel):Next->Next->Prop
 | value {v V}:VR E r v V->QA E r (.value v) (.value V)
 | skip:QA E r .skip .skip
 | enter {f x X}:E.F f->(∀fn,E.P.funcs[f]?=Jx fn->fn.body.isSome)->AR E r x X->QA E r (.enter f x) (.enter f X)
 | round {l L f t T a b}:r l L->(∃x,E.P.funcs[f]?=Jx x)->AR E r t T->aU E a->aU E b->QA E r (.round l f t a b) (.round L f T a b)
 | defer {d D}:Lu E r d D->QA E r (.defer d) (.defer D)
abbrev nY (E:Env):Rel->Next->Next->Prop:=λr=>QA E r
structure aS (E:Env):Prop where
 Jq:gR E.P
 zeros:fi E
 gn:E.P.globals.size=gN
 sep:∀f,E.F f->E.K f=.plain
 funcs : ∀f, E.F f -> ∃fn, E.P.funcs[f]? = Jx fn /\ fn.name ≠ "runtime.NumGoroutine" /\ (∀c, fn.body = Jx c -> Fy E f c) /\
  (fn.body=Mp->Lo fn=Mp/\∃e,L1 fn=Jx e/\∀r x X,r.OK->(∀g,E.G g->r g g)->AR E r x X->SR E (aO E) r (e x) (e X))
 types:∀t i,E.T t->E.P.info? t=Jx i->∀m∈i.methods,∀f b,m.func=Jx (f,b)->E.F f
 J5 : ∀f, E.K f = .disable -> ∃fn, E.P.funcs[f]? = Jx fn /\ fn.name ≠ "runtime.NumGoroutine" /\ fn.body = Mp /\ Lo fn = Mp /\ L1 fn = Jx λ_ => do mark .disable; LN (.tuple #[])
 JK : ∀f, E.K f = .enable -> ∃fn, E.P.funcs[f]? = Jx fn /\ fn.name ≠ "runtime.NumGoroutine" /\ fn.body = Mp /\ Lo fn = Mp /\ L1 fn = Jx λ_ => do mark .enable; LN (.tuple #[])
 deep : ∀f, E.K f = .deep -> ∃fn c, E.P.funcs[f]? = Jx fn /\ fn.name ≠ "runtime.NumGoroutine" /\ fn.body = Jx c /\ CT E (λ_ => Mp) c 0 1 /\ E.lv /\ E.Ty f
 dead : ∀i, E.P.info? 0 = Jx i -> i.methods.find? (·.name == "") = Mp
section
variable {E:Env} {r:Rel}
inductive Ot (E:Env) (r:Rel):Place->Place->Prop
 | val {v V}:VR E r v V->Ot E r (.val v) (.val V)
 | var {a A}:IX r a A->Ot E r (.var a) (.var A)
theorem Ot.mono (s:Sub r r'){p P:Place}(h:Ot E r p P):Ot E r' p P:=by
 cases h with
 | val h=>exact .val (h.mono s)
 | var h=>exact .var (h.mono s)
theorem vi (t:IH){p P:Place}(h:Ot E r p P):SR E (aO E) r (p.get t) (P.get t):=by
 cases h with
 | val h=>exact .pure h
 | var h=>exact fN t h
theorem yw:∀(l:List FieldStep) (t:IH) {r:Rel} {p P:Place},Ot E r p P->SR E (λr x X=>X.1=x.1/\Ot E r x.2 X.2) r (follow l t p) (follow l t P):=by
 intro l;induction l with
 | nil=>intro t r p P h;exact .pure ⟨rfl,h⟩
 | cons s l ih =>
   intro t r p P h;unfold follow;refine(aE _).Iy ?_;rintro r1 d _ s1 ⟨rfl,-⟩;rename_i d;cases d with
   | struct fs =>
     dsimp only;cases hf:fs[s.index]? with
     | none=>exact ag
     | some f =>
       dsimp only;split
       ·refine(vi t (h.mono s1)).Iy ?_;intro r2 v V s2 hv;refine(dI hv).Iy ?_;intro r3 a A s3 ha;refine(gm ha f).Iy ?_;intro r4 b B s4 hb;exact ih _ (.var hb)
       ·cases h.mono s1 with
        | val hv =>
          cases hv with
          | agg a b =>refine(rL _ (show AR E r1 _ _ from⟨a,b⟩) _).Iy ?_;intro r2 v V s2 hv;exact ih _ (.val hv)
          | _=>exact ag
        | var ha =>refine(gm ha f).Iy ?_;intro r4 b B s4 hb;exact ih _ (.var hb)
   | _=>exact ag
theorem wS (xt:IH){v V:ID}(h:VR E r v V)(a b:ByteArray):SR E (aO E) r (Builtin.ssaWrapNilChk_ #[xt] xt #[v,.string a,.string b]) (Builtin.ssaWrapNilChk_ #[xt] xt #[V,.string a,.string b]):=by
 unfold Builtin.ssaWrapNilChk_;cases h with
 | ptr ha=>exact .pure (.ptr ha)
 | Ji =>
   dsimp only;refine bw.Iy ?_;rintro r1 q _ s1 rfl;split
   ·exact aA _ (by simp)
   ·refine SR.Iy (aE xt) ?_;rintro r2 d _ s2 ⟨rfl,-⟩;split
    ·refine(ba _).Iy ?_;rintro r3 i _ s3 ⟨rfl,-⟩;split
     ·split
      ·split
       ·exact bh _ (by simp)
       ·exact al
      ·exact ag
     ·exact ag
    ·exact ag
 | _=>exact ag
theorem po (xt:IH){p P:Place}(h:Ot E r p P)(b:Bool)(n:Option String):SR E (aO E) r (receiverAt xt p b n) (receiverAt xt P b n):=by
 unfold receiverAt;refine(aE xt).Iy ?_;rintro r1 d _ s1 ⟨rfl,-⟩;rename_i d;have h:=h.mono s1;have get:∀r',Sub r1 r'->SR E (aO E) r' (p.get xt) (P.get xt):=λr' s=>vi xt (h.mono s);cases d with
 | pointer e =>
   cases b with
   | true=>exact get r1 .rfl
   | false =>
     dsimp only;refine(get r1 .rfl).Iy ?_;intro r2 v V s2 hv;cases n with
     | none =>dsimp only;refine SR.Iy (A:=aO E) (.pure hv) ?_;intro r3 v V s3 hv;refine(dI hv).Iy ?_;intro r4 a A s4 ha;exact fN _ ha
     | some n =>dsimp only;refine(wS xt hv _ _).Iy ?_;intro r3 v V s3 hv;refine(dI hv).Iy ?_;intro r4 a A s4 ha;exact fN _ ha
 | _ =>
   cases b with
   | true =>
     cases h with
     | val _=>exact ag
     | var ha=>exact .pure (.ptr ha)
   | false=>exact get r1 .rfl
theorem yK (hE:aS E)(n:Nat):∀{r:Rel} {t:IH} {v V:ID} (s:String),E.T t->VR E r v V->SR E (λr x X=>X.1=x.1/\E.F x.1/\VR E r x.2 X.2) r (method n t v s) (method n t V s):=by
 induction n with
 | zero=>intro r t v V s _ _;exact al
 | succ n ih =>
   intro r t v V s ht hv;unfold method;refine(ba t).Iy ?_;rintro r1 i _ s1 ⟨rfl,hi⟩;rename_i i;cases hm:i.methods.find? (·.name==s) with
   | none=>exact ag
   | some m =>
     dsimp only;have A0:=Array.mem_of_find?_eq_some hm;refine(yw _ _ (.val (hv.mono s1))).Iy ?_;rintro r2 ⟨xt,x⟩ ⟨XT,X⟩ s2 ⟨h1,h2⟩;dsimp only at h1 h2 ⊢;subst h1;cases hf:m.func with
     | none =>
       dsimp only;refine(vi _ h2).Iy ?_;intro r3 u U s3 hu;cases hu with
       | iface ht' hu'=>exact ih _ ht' hu'
       | nilIface=>exact bh _ (by simp)
       | _=>exact ag
     | some q =>obtain⟨f,b⟩:=q;dsimp only;refine(po _ h2 _ _).Iy ?_;intro r3 u U s3 hu;exact .pure ⟨rfl,hE.types t i ht hi m A0 f b hf,hu⟩
end
section
variable {E:Env} {r:Rel}
def Base (E:Env)(r:Rel):Prop:=∀g,E.G g->r g g
theorem Base.mono (s:Sub r r')(h:Base E r):Base E r':=λg hg=>s.1 _ _ (h g hg)
theorem l9 (hE:aS E)(hr:r.OK)(hb:Base E r){f:FuncId}(hf:E.F f){x X:Array ID}(h:AR E r x X):SR E (nY E) r (Ln f x) (Ln f X):=by
 obtain⟨fn,h1,h2,h3,h4⟩:=hE.funcs f hf;unfold Ln;refine fY.Iy ?_;rintro r1 _ _ s1 ⟨rfl,rfl⟩;rw[h1];dsimp only;have A0 : (fn.name == "runtime.NumGoroutine") = L5 := by simpa using h2
 rw[A0];simp only[IF,if_false];cases hbd:fn.body with
 | some c =>simp only[Option.isNone_some,IF,if_false];refine .pure (.enter hf (λfn' hfn=>?_) (h.mono s1));rw[h1] at hfn;cases hfn;simp[hbd]
 | none =>
   obtain⟨h5,e,h6,h7⟩:=h4 hbd;simp only[Mb,if_true,h5,h6];refine(iG .extern).Iy ?_;rintro r2 _ _ s2 -
   refine(h7 r2 x X (s2.2 (s1.2 hr)) ((hb.mono s1).mono s2) ((h.mono s1).mono s2)).Iy ?_;intro r3 v V s3 hv;exact .pure (.value hv)
theorem pK (hE:aS E)(hr:r.OK)(hb:Base E r){v V:ID}(hv:VR E r v V)(n:String){x X:Array ID}(h:AR E r x X):SR E (nY E) r (callMethod v n x) (callMethod V n X):=by
 unfold callMethod;cases hv with
 | iface ht hv =>dsimp only;refine cF.Iy ?_;rintro r1 p _ s1 rfl;refine(yK hE _ _ ht (hv.mono s1)).Iy ?_;rintro r2 ⟨f,u⟩ ⟨F,U⟩ s2 ⟨h1,h2,h3⟩;dsimp only at h1 h2 h3 ⊢;subst h1;exact l9 hE (s2.2 (s1.2 hr)) ((hb.mono s1).mono s2) h2 ((AR.one h3).append ((h.mono s1).mono s2))
 | nilIface=>exact bh _ (by simp)
 | _=>exact ag
theorem bC {s:Sem ID}(h:SR E (aO E) r s S):SR E (nY E) r (do LN (.value (<-s))) (do LN (.value (<-S))):=h.Iy λ_ _ _ _ hv=>.pure (.value hv)
theorem EK {s S:Sem Unit}(h:SR E bc r s S):SR E (nY E) r (do s;LN .skip) (do S;LN .skip):=h.Iy λ_ _ _ _ _=>.pure .skip
theorem vQ (hE:aS E)(hr:r.OK){b:Builtin}{t:Array IH}(hb:Dr E t b)(u:IH)(c:Array Bool){x X:Array ID}(h:AR E r x X):SR E (nY E) r (builtin b t u c x) (builtin b t u c X):=by
 unfold builtin;cases b with
 | append=>exact bC (zG hE.zeros hr t u h)
 | cap=>exact bC (Gc t u h)
 | clear=>exact bC (BO hE.zeros t u h)
 | copy=>exact bC (D2 t u h)
 | len=>exact bC (FK t u h)
 | max=>exact bC (Fe t u h)
 | min=>exact bC (F6 t u h)
 | unsafeSliceData=>exact bC (jS t u h)
 | unsafeString=>exact bC (mE t u h)
 | _=>exact hb.elim
theorem AR.Om:∀(p:List Tmp) (l L:List ID) {x X:Array ID},l.length=L.length->(∀(i:Nat) v V,l[i]?=Jx v->L[i]?=Jx V->VR E r v V)->AR E r x X ->
 AR E r ((p.zip l).foldl (λt (a,b)=>t.setIfInBounds a b) x) ((p.zip L).foldl (λt (a,b)=>t.setIfInBounds a b) X):=by
 intro p;induction p with
 | nil=>intro l L x X _ _ h;exact h
 | cons q p ih =>
   intro l L x X hl hp h;cases l with
   | nil=>cases L with|nil=>exact h|cons _ _=>simp at hl
   | cons v l =>
     cases L with
     | nil=>simp at hl
     | cons V L =>simp only[List.zip_cons_cons,List.foldl_cons];exact ih l L (by simpa using hl) (λi v V a b=>hp (i+1) v V (by simpa using a) (by simpa using b)) (h.set _ (hp 0 v V rfl rfl))
theorem Am {l L:Nat}(h:r l L){x X:Array ID}(hx:AR E r x X):SR E (nY E) r (Instr.yield l x) (Instr.yield L X):=by
 unfold Instr.yield Instr.getLoop;simp only[Kx];refine(dX h).Iy ?_;intro r1 o O s1 ho;cases ho with
 | loop hl =>
   simp only[pure_bind];have hx:=hx.mono s1;rw[<-hx.1,hl.params,hl.fn,hl.assign,hl.body];split
   ·exact aB
   ·refine .pure (.round (s1.1 _ _ h) hl.has ?_ hl.TE hl.TD);obtain⟨a,A,rfl,rfl,e1,e2⟩:=hx.toList;rw[<-Ks,<-Ks,Array.toList_zip,Array.toList_zip];exact AR.Om _ a A e1 e2 hl.tmps
 | _=>exact aB
theorem jv (hE:aS E)(hr:r.OK)(hb:Base E r){t T:Target}(ht:Kl E r t T){x X:Array ID}(h:AR E r x X):SR E (nY E) r (L2 t x) (L2 T X):=by
 unfold L2;cases ht with
 | nil=>exact bh _ (by simp)
 | builtin hb'=>exact vQ hE hr hb' _ _ h
 | method =>
   dsimp only;rcases h.get 0 with⟨a,b⟩|⟨v,V,a,b,hv⟩
   ·rw[a,b];exact ag
   ·rw[a,b];dsimp only;rw[<-h.1];exact pK hE hr hb hv _ (h.extract 1 x.size)
 | fn hf hy =>
   cases hf with
   | func hf=>exact l9 hE hr hb hf (h.append hy)
   | yield hl=>exact Am hl h
 | collected _=>exact ag
theorem sa (hE : aS E)  {A : Rel -> α -> β -> Prop} (n : Nat) {v : ID} {f : FuncId × ID -> Sem α} {S : Sem β} : SR E A r (method n 0 v "" >>= f) S := by
 cases n with
 | zero=>exact au
 | succ n =>unfold method;rw[Kx];refine pU λi hi=>?_;rw[hE.dead i hi];exact aB
theorem xj (hE : aS E)  {A : Rel -> α -> β -> Prop} (n : Nat) {v : ID} {f : Option Bool -> Sem α} {S : Sem β} (hf : SR E A r (f Mp) S) : SR E A r (nilAhead n 0 v "" >>= f) S := by
 cases n with
 | zero=>unfold nilAhead;exact hf
 | succ n =>unfold nilAhead;rw[Kx];refine pU λi hi=>?_;rw[hE.dead i hi];exact aB
theorem pY (hE:aS E){A:Rel->Next->β->Prop}{V:ID}{x:Array ID}{S:Sem β}:SR E A r (I3 (jf V) x >>= λd=>L2 d.target d.args) S:=by
 have e:((#[Value.iface 0 (.agg #[V])]:Array ID)++x)[0]?=Jx (.iface 0 (.agg #[V])):=by rw[Array.getElem?_append_left (by simp)];rfl
 have : (I3 (jf V) x >>= λd => L2 d.target d.args) = callMethod (.iface 0 (.agg #[V])) "" x := by simp[I3,L2,e]
 rw[this];unfold callMethod;dsimp only;refine .JA ?_;exact sa hE _
theorem jQ (hρ:∀x,aQ E x->VR E r (ρ x) (ρ' x))(hc:iF E c)(t:IH)(hj:∀f,c.callee=.value f->NJ (ρ f)) :
 SR E (λr d D=>Kl E r d.target D.target/\AR E r d.args D.args) r (Lq ρ c t) (Lq ρ' c t):=by
 unfold Lq;have ha:AR E r (c.args.map ρ) (c.args.map ρ'):=AR.map λx hx=>hρ x (hc.1 x hx);have h2:=hc.2;cases hcl:c.callee with
 | builtin b=>rw[hcl] at h2;exact .pure ⟨.builtin h2,ha⟩
 | invoke x n=>rw[hcl] at h2;exact .pure ⟨.method,(AR.one (hρ x h2)).append ha⟩
 | value f =>
   rw[hcl] at h2;dsimp only;unfold I3;have hv:=hρ f h2;have hj:=hj f hcl;revert hv hj;generalize ρ f=v;generalize ρ' f=V;intro hv hj;cases hv with
   | jf=>exact absurd rfl (hj _)
   | func a b c d e=>exact .pure ⟨.fn a ⟨d,e⟩,(show AR E r _ _ from⟨b,c⟩).append ha⟩
   | nilFunc=>exact .pure ⟨.nil,ha⟩
   | _=>exact ag
theorem vC (hρ:∀x,aQ E x->VR E r (ρ x) (ρ' x)){l:Option Mz}(hl:∀y∈l,aQ E y):Ls E r (l.map ρ) (l.map ρ'):=by
 cases l with
 | none=>exact .inl ⟨rfl,rfl⟩
 | some y=>exact .inr ⟨_,_,rfl,rfl,hρ y (hl y rfl)⟩
theorem uK (hρ:∀x,aQ E x->VR E r (ρ x) (ρ' x)){ps:Array (Nat×Mz)}(hp:∀p∈ps,aQ E p.2) :
 Qz E r (ps.map λ(i,x)=>(i,ρ x)).toList (ps.map λ(i,x)=>(i,ρ' x)).toList:=by
 refine⟨by simp,λi p P h1 h2=>?_⟩;simp only[Array.toList_map,List.getElem?_map,LL] at h1 h2;obtain⟨a,ha,rfl⟩:=h1;obtain⟨b,hb,rfl⟩:=h2;rw[ha] at hb;cases hb;exact⟨rfl,hρ _ (hp a (by simpa using List.mem_of_getElem? ha))⟩
theorem wz {v V:ID}(h:VR E r v V):SR E (aO E) r (Instr.panic v) (Instr.panic V):=by
 unfold Instr.panic;cases h with
 | iface a b=>exact .panic (.iface trivial b.top)
 | nilIface =>
   dsimp only;refine SR.Iy (A:=bc) ?_ ?_
   ·unfold Instr.panicnil;refine SR.Iy (A:=bc) (.JW λ_=>.pure rfl) ?_;rintro r1 x _ s1 rfl;split
    ·dsimp only;refine cF.Iy ?_;rintro r2 p _ s2 rfl;exact .pure rfl
    ·exact ag
   ·rintro r1 x _ s1 rfl;split
    ·exact .panic .nilIface
    ·exact bh _ (by simp)
 | _=>exact ag
theorem Ai {t:IH}(ht:∀d,E.P.underlying t=Jx d->d=.string){v V:ID}(h:VR E r v V):SR E (aO E) r (Instr.range t v) (Instr.range t V):=by
 unfold Instr.range;refine(aE t).Iy ?_;rintro r1 d _ s1 ⟨rfl,hd⟩;rename_i d;have:=ht d hd;subst this;cases h with
 | string s =>refine SR.Iy (A:=λr a A=>r a A) (.new .Jz λ_ _ _ _ _ _=>.pure (.inr ⟨rfl,rfl⟩)) ?_;intro r2 a A s2 ha;exact .pure (.ptr ⟨ha,rfl,rfl⟩)
 | _=>exact aB
theorem D8 {v V:ID}(h:VR E r v V)(t:IH):SR E (aO E) r (Instr.next v true t) (Instr.next V true t):=by
 unfold Instr.next;cases h with
 | ptr ha =>
   rename_i a A;obtain⟨b,o,z⟩:=a;obtain⟨B,O,Z⟩:=A;obtain⟨h1,h2,h3⟩:=ha;simp only at h1 h2 h3;subst h2 h3;cases O with
   | succ n=>exact ag
   | zero =>
     dsimp only;refine(dX h1).Iy ?_;intro r1 o O s1 ho;cases ho with
     | Jz =>
       rename_i s p;dsimp only;split
       ·refine(fx (s1.1 _ _ h1) .Jz).Iy ?_;rintro r2 _ _ s2 -
        refine .pure (.tuple rfl λi v V a b=>?_);rw[a] at b;cases b
        match i with
        | 0=>simp at a;subst a;exact .bool _
        | 1=>simp at a;subst a;exact .int _ _
        | 2=>simp at a;subst a;exact .int _ _
        | i+3=>simp at a
       ·refine .pure (.tuple rfl λi v V a b=>?_);rw[a] at b;cases b
        match i with
        | 0=>simp at a;subst a;exact .bool _
        | i+1=>simp at a
     | _=>exact ag
 | _=>exact ag
theorem G3 (hE:aS E)(hr:r.OK)(hb:Base E r)(hρ:∀x,aQ E x->VR E r (ρ x) (ρ' x))(hfn:∀f,ρ (.func f)=.func (.func f) #[] #[])(ho:oV E o.op):SR E (nY E) r (Mn ρ o) (Mn ρ' o):=by
 obtain⟨A3,op,A0,A4,A2,A1⟩:=o;unfold Mn;dsimp only at ho ⊢;cases op with
 | move x=>exact .pure (.value (hρ x ho))
 | assign x=>exact .pure (.value (hρ x ho))
 | pick c a b =>
   refine(lO (hρ c ho.1)).Iy ?_;rintro r1 q _ s1 rfl;refine .pure (.value ?_);split
   ·exact(hρ a ho.2.1).mono s1
   ·exact(hρ b ho.2.2).mono s1
 | alloc e=>exact bC (Cq hE.zeros e)
 | box e x=>exact bC (FG e (hρ x ho))
 | build t ps=>exact bC (AJ hE.zeros t (uK hρ ho))
 | buildSlice t n ps=>exact bC (oW hE.zeros t n (uK hρ ho))
 | load t a=>exact bC (yn t (hρ a ho))
 | store t a x=>exact EK (vN t (hρ a ho.1) (hρ x ho.2))
 | nilCheck x =>
   dsimp only;have hv:=hρ x ho;revert hv;generalize ρ x=v;generalize ρ' x=V;intro hv;have hk:=hv;cases hv with
   | Ji=>exact bh _ (by simp)
   | nilIface=>exact bh _ (by simp)
   | nilFunc=>exact bh _ (by simp)
   | func a b c d e=>cases a<;>exact .pure (.value hk)
   | jf a b =>refine .JA ?_;exact xj hE _ au
   | _=>exact .pure (.value hk)
 | binOp op t x y u =>
   refine bC ?_;by_cases hj:NJ (ρ x)/\NJ (ρ y)
   ·refine(ve ho.2.2 x y (hρ x ho.1) (hρ y ho.2.1) hj.1 hj.2).Iy λr1 _ _ s1 _=>?_;exact BP hE.gn (s1.2 hr) op ho.2.2 ((hρ x ho.1).mono s1) ((hρ y ho.2.1).mono s1) hj.1 hj.2
   ·exact EH ho.2.2 x y (Classical.not_and_iff_not_or_not.1 hj)
 | unOp op t x=>exact bC (BA op (hρ x ho))
 | convert s t x=>exact bC (wH hE.Jq ho.2 (hρ x ho.1))
 | makeInterface t x =>
   refine bC ?_;unfold Instr.makeInterface;refine(aE t).Iy ?_;rintro r1 d _ s1 ⟨rfl,-⟩;split
   ·exact ag
   ·exact .pure (.iface ho.2 ((hρ x ho.1).mono s1))
 | makeFunc f first captured =>
   cases f with
   | func f =>have h1:AR E r (first.map ρ) (first.map ρ'):=AR.map λx hx=>hρ x (ho.2.1 x hx);have h2:AR E r (captured.map ρ) (captured.map ρ'):=AR.map λx hx=>hρ x (ho.2.2 x hx);exact .pure (.value (.func (.func ho.1) h1.1 h1.2 h2.1 h2.2))
   | _=>exact ho.elim
 | makeSlice t l c=>exact bC (rC hE.zeros t (hρ l ho.1) (hρ c ho.2))
 | slice t x l h m=>exact bC (xi t (hρ x ho.1) (vC hρ ho.2.1) (vC hρ ho.2.2.1) (vC hρ ho.2.2.2))
 | fieldAddr s x f=>exact bC (wN s (hρ x ho) f)
 | field s x f=>exact bC (B6 s (hρ x ho) f)
 | indexAddr t x i=>exact bC (u3 t (hρ x ho.1) (hρ i ho.2))
 | index t x i=>exact bC (AF t (hρ x ho.1) (hρ i ho.2))
 | extract x i=>exact bC (vo (hρ x ho) i)
 | call c =>
   by_cases hj:∀f,c.callee=.value f->NJ (ρ f)
   ·refine(jQ hρ ho _ hj).Iy ?_;rintro r1 d D s1 ⟨h1,h2⟩;exact jv hE (s1.2 hr) (hb.mono s1) h1 h2
   ·simp only[NJ,J1,K0] at hj;obtain⟨f,hc,V,hV⟩:=hj;(have e:Lq ρ c A0=I3 (jf V) (c.args.map ρ):=by unfold Lq;rw[hc];dsimp only;rw[hV]);show SR E (nY E) r (Lq ρ c A0 >>= λd=>L2 d.target d.args) _;rw[e];exact pY hE
 | defer c =>
   refine(jQ hρ ho.1 _ λv hv=>?_).Iy ?_
   ·obtain⟨f,rfl⟩:=ho.2 v hv;rw[hfn];exact λV=>by simp
   rintro r1 d D s1 ⟨h1,h2⟩;exact .pure (.defer ⟨h1,h2⟩)
 | panic x=>exact bC (wz (hρ x ho))
 | range t x=>exact bC (Ai ho.2 (hρ x ho.1))
 | next x q=>obtain⟨h1,rfl⟩:=ho;exact bC (D8 (hρ x h1) _)
 | _=>exact ho.elim
theorem Gp {l:Nat}:SL E bc (l+1) r l (mark .disable) (mark .disable):=.disable (.pure rfl)
theorem Fp {l:Nat}:SL E bc l r (l+1) (mark .enable) (mark .enable):=.enable (.pure rfl)
theorem wm (hE:aS E)(hρ:∀x,aQ E x->VR E r (ρ x) (ρ' x))(h1:∀f,ρ (.func f)=.func (.func f) #[] #[])(h2:∀f,ρ' (.func f)=.func (.func f) #[] #[])(ho:o.op=.call c){n:Nat}(hs:Ml E c n m) :
 (∃a b,n+b=m+a/\b<=m/\SL E (λ_ x X=>x=.value (.tuple #[])/\X=.value (.tuple #[])) a r b (Mn ρ o) (Mn ρ' o)) \/
   (m=n+1/\SR E (λr x X=>∃f a A,E.K f=.deep/\x=.enter f a/\X=.enter f A/\AR E r a A) r (Mn ρ o) (Mn ρ' o)):=by
 unfold Mn;rw[ho];dsimp only;have A1 : ∀{f : FuncId} {fn : Func} {g : Sem Unit} {a b : Nat}, c.callee = .value (.func f) -> E.P.funcs[f]? = Jx fn -> fn.name ≠ "runtime.NumGoroutine" -> fn.body = Mp -> Lo fn = Mp -> L1 fn = Jx (λ_ => do g; LN (.tuple #[])) -> SL E bc a r b g g ->
  SL E (λ_ x X=>x=.value (.tuple #[])/\X=.value (.tuple #[])) a r b (Lq ρ c o.type >>= λd=>L2 d.target d.args) (Lq ρ' c o.type >>= λd=>L2 d.target d.args):=by
  intro f fn g a b hc hf hn hb h3 h4 hg;(have A0 : (fn.name == "runtime.NumGoroutine") = L5 := by simpa using hn);unfold Lq;rw[hc];simp only[h1,h2,I3];show SL E _ a r b (Ln f _) (Ln f _);unfold Ln;refine SL.program ?_;show SL E _ a r b (match E.P.funcs[f]? with|none=>_|some fn=>_) (match E.P.funcs[f]? with|none=>_|some fn=>_);rw[hf];simp only[A0,hb,h3,h4,Mb,IF,if_false,if_true];refine SL.mark .extern (by simp) (by simp) ?_;show SL E _ a r b ((g >>= λ_=>_) >>= _) ((g >>= λ_=>_) >>= _);exact SL.Iy (SL.Iy hg λ_ _ _ _ _=>SL.pure (A:=λ_ x X=>x=Value.tuple #[]/\X=Value.tuple #[]) ⟨rfl,rfl⟩) λ_ _ _ _ hx=>.pure ⟨by rw[hx.1],by rw[hx.2]⟩
 cases hs with
 | J5 hc hk =>obtain⟨fn,x1,x2,x3,x4,x5⟩:=hE.J5 _ hk;exact .inl ⟨1,0,by omega,by omega,A1 hc x1 x2 x3 x4 x5 Gp⟩
 | JK hc hk =>obtain⟨fn,x1,x2,x3,x4,x5⟩:=hE.JK _ hk;exact .inl ⟨0,1,by omega,by omega,A1 hc x1 x2 x3 x4 x5 Fp⟩
 | deep hc hk ha =>rename_i f;obtain⟨fn,cd,x1,x2,x3,x4⟩:=hE.deep _ hk;refine .inr ⟨rfl,?_⟩;(have A0 : (fn.name == "runtime.NumGoroutine") = L5 := by simpa using x2);have hA:AR E r (c.args.map ρ) (c.args.map ρ'):=AR.map λx hx=>hρ x (ha x hx);unfold Lq;rw[hc];simp only[h1,h2,I3];show SL E _ 0 r 0 (Ln f _) (Ln f _);unfold Ln;refine SL.program ?_;show SL E _ 0 r 0 (match E.P.funcs[f]? with|none=>_|some fn=>_) (match E.P.funcs[f]? with|none=>_|some fn=>_);rw[x1];simp only[A0,x3,Option.isNone_some,IF,if_false];refine .pure ⟨f,_,_,hk,rfl,rfl,?_⟩;simpa using hA
end
end Go.Proofs.Rn

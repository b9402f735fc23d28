import Derived.Test.YtfbiffdmhcjhbaaGreatZa04
import Derived.Lib.SlTrimSet
set_option linter.all false
set_option maxHeartbeats 16000000
set_option maxRecDepth 100000
set_option synthInstance.maxSize 4000
set_option synthInstance.maxHeartbeats 0
namespace Go.Proofs.YtfbiffdmhcjhbaaGreat
def qy:=@Lib.size_eq
def zt:=@Lib.getD_get!'
namespace Sg
open Go.Lib
theorem ext_size(s:ByteArray)(a i:Nat)(h:i<=s.size):(s.extract a i).size=i-a:=by
 rw[Fu];omega
theorem ext_get(s:ByteArray)(a i j:Nat)(h:a+j<i):(s.extract a i).get! j=s.get! (a+j):=by
 rw[<-getD_get!',<-getD_get!',extract_data,jS,jS,LH,eT (by omega),qT]
end Sg
namespace Sc
open Sg
theorem ll(s:ByteArray):(fP s).length=s.size:=by
 unfold fP;rw[nP,qy]
theorem uD(s:ByteArray)(i:Nat):(fP s).getD i 0=(s.get! i).toNat:=by
 unfold fP;rw[jS,nO,<-zt,jS];cases s.data.toList[i]?<;>rfl
theorem qI(s:ByteArray)(i:Nat):((fP s).drop i).length=s.size-i:=by rw[iq,ll]
theorem rA(s:ByteArray)(i j:Nat):((fP s).drop i).getD j 0=(s.get! (i+j)).toNat:=by
 rw[jS,qT,<-jS,uD]
theorem drop_cons(s:ByteArray)(i:Nat)(h:i<s.size):(fP s).drop i=(s.get! i).toNat::(fP s).drop (i+1):=by
 rw[sM (by rw[ll];exact h)];congr 1;have h2:=uD s i;rw[jS,lU (by rw[ll];exact h)]at h2;exact h2
theorem CP(s:ByteArray)(i:Nat)(h:i<s.size):(s[i]'h)=s.get! i:=by
 have e:=zt s i;rw[<-e,jS,lU (by rw[<-qy];exact h)];rfl
theorem Ml(s:ByteArray):∀c∈fP s,c<256:=by
 intro c hc;unfold fP at hc;rw[vP]at hc;obtain⟨x,_,rfl⟩:=hc;exact Ib x
theorem Ep(s:ByteArray)(i:Nat):nx s i=jZ ((fP s).drop i):=by
 unfold nx jZ;rw[qI,rA,rA,rA,rA];rfl
theorem ow(p:Nat->Bool)(l:List Nat):run p l<=l.length:=by
 induction l with
 |nil=>exact fC _
 |cons c r ih=>rw[run];split<;>simp<;>omega
end Sc
namespace Sc
open Sg
theorem vG(c:Nat)(r:List Nat):1<=(jZ (c::r)).2:=by
 unfold jZ rO;rw[eQ (by simp)];have h:1<=(Lib.decodeN (c::r).length ((c::r).getD 0 0) ((c::r).getD 1 0) ((c::r).getD 2 0) ((c::r).getD 3 0)).2:=by
  unfold Lib.decodeN
  (repeat' split)<;>(dsimp only;omega)
 split<;>exact h
theorem IU(c:Nat)(r:List Nat):(jZ (c::r)).2<=(c::r).length:=by
 unfold jZ rO;rw[eQ (by simp)];have h:=IM (c::r).length ((c::r).getD 0 0) ((c::r).getD 1 0) ((c::r).getD 2 0) ((c::r).getD 3 0) (by simp);split<;>exact h
theorem uE(op:Bool):∀(f g p:Nat)(l:List Nat),l.length<=f->l.length<=g->goes op f p l=goes op g p l
 |0,g,p,l,h,_=>by
  obtain rfl:l=[]:=oD (by omega);cases g<;>rfl
 |f+1,0,p,l,_,h=>by
  obtain rfl:l=[]:=oD (by omega);rfl
 |f+1,g+1,p,l,hf,hg=>by
  rw[goes,goes];by_cases hs:stop op (blk p) l=true
  ·rw[eT hs,eT hs]
  rw[eQ hs,eQ hs];cases l with
  |nil=>exact absurd rfl hs
  |cons c r=>
   have h1:=vG c r;rw[uE op f g _ _ (by rw[iq];omega) (by rw[iq];omega)]
def lD(op:Bool)(p:Nat)(l:List Nat):Nat:=goes op l.length p l
theorem Di(op:Bool)(p:Nat)(l:List Nat)(h:stop op (blk p) l=true):lD op p l=0:=by
 unfold lD;cases hl:l.length with
 |zero=>rfl
 |succ n=>rw[goes,eT h]
theorem Jt(op:Bool)(p:Nat)(l:List Nat)(h:stop op (blk p) l=false):lD op p l=(jZ l).2+lD op (l.getD ((jZ l).2-1) 0) (l.drop (jZ l).2):=by
 cases l with
 |nil=>cases h
 |cons c r=>
  have h1:=vG c r;unfold lD;rw[gy,goes,eQ (by rw[h];simp)];rw[uE op r.length _ _ _ (by rw[iq,gy];omega) (fC _)]
theorem uF(op:Bool)(r:List Nat):pG op r=trim (r.take ((jZ r).2+lD op (r.getD ((jZ r).2-1) 0) (r.drop (jZ r).2))):=by
 unfold pG lD;rw[uE op r.length _ _ _ (by rw[iq];omega) (fC _)]
theorem Mm(l:List Nat):trim l<=l.length:=by
 induction l with
 |nil=>exact fC _
 |cons c r ih=>rw[trim,gy];(repeat' split)<;>omega
theorem Pf(s:ByteArray)(p:Nat):bad ((fP s).drop p)=decide ((nx s p).1<0):=by rw[bad,<-Ep]
end Sc
namespace Sc
open Sg
theorem Er(l:List Nat):oF l<=l.length:=by
 fun_induction oF l<;>simp_all<;>omega
theorem Eu(l:List Nat):mV l<=l.length:=by
 fun_induction mV l<;>simp_all<;>omega
theorem Ju(l:List Nat)(h:0<(named l).1):0<(named l).2/\(named l).2<=l.length:=by
 cases l with
 |nil=>exact absurd h (by decide)
 |cons c r=>
  have h1:=ow uy r;have h2:=ow Hq r;unfold named at h⊢
  (repeat' split at h)<;>(repeat' split)<;>simp_all<;>omega
theorem FY(l:List Nat)(h:0<(quoted l).1):0<(quoted l).2/\(quoted l).2<=l.length:=by
 cases l with
 |nil=>exact absurd h (by decide)
 |cons c r=>
  have h1:=Er r;have h2:=Eu r;unfold quoted at h⊢
  (repeat' split at h)<;>(repeat' split)<;>simp_all<;>omega
theorem wL(r:List Nat):nU r<=r.length+1:=by
 cases r with
 |nil=>decide
 |cons c t=>rw[nU];(repeat' split)<;>simp
theorem A9(l:List Nat):oI l<=l.length:=by
 cases l with
 |nil=>decide
 |cons c r=>
  have:=wL r;rw[oI];split
  ·split
   ·simpa using this
   exact gG _
  exact gG _
theorem Jv(c:Nat)(r:List Nat)(h:blk c=false):0<trim (c::r):=by
 rw[trim];by_cases h1:trim r=0
 ·rw[eT h1,h];decide
 rw[eQ h1];omega
theorem Dj(op:Bool)(c:Nat)(r:List Nat)(h:blk c=false):0<pG op (c::r):=by
 rw[uF];obtain⟨k,hk⟩:∃k,(jZ (c::r)).2+lD op ((c::r).getD ((jZ (c::r)).2-1) 0) ((c::r).drop (jZ (c::r)).2)=k+1:=⟨_,(Nat.succ_pred_eq_of_pos (by have:=vG c r;omega)).symm⟩
 rw[hk,vR];exact Jv c _ h
theorem FZ(op:Bool)(r:List Nat):pG op r<=r.length:=by
 rw[uF];refine jN (Mm _) ?_;rw[jQ];exact Nat.min_le_right _ _
theorem Mo(op:Nat)(dash:Bool)(c:Nat)(r:List Nat)(h:blk c=false):0<(word op dash (c::r)).2/\(word op dash (c::r)).2<=(c::r).length:=by
 have h1:=Ju (c::r);have h2:=FY (c::r);have h3:=A9 (c::r);have h4:=Dj (decide (0<op)) c r h;have h5:=FZ (decide (0<op)) (c::r);unfold word
 (repeat' split)<;>simp_all
theorem wM(r:List Nat)(h:0<mark r):3<=r.length:=by
 unfold mark at h;have key:∀l:List Nat,l.length=3->r.take 3=l->3<=r.length:=by
  intro l hl e;have:(r.take 3).length=3:=by rw[e,hl]
  rw[jQ]at this;omega
 split at h
 ·rename_i e;exact key _ rfl e
 split at h
 ·rename_i e;exact key _ rfl e
 exact absurd h (by decide)
theorem Jw(p:Nat->Bool)(c:Nat)(r:List Nat)(h:¬0<run p (c::r)):p c=false:=by
 cases hp:p c with
 |false=>rfl
 |true=>rw[run,eT hp]at h;omega
theorem Ev(op:Nat)(dash blank first:Bool)(c:Nat)(r:List Nat):0<(next op dash blank first (c::r)).2/\(next op dash blank first (c::r)).2<=(c::r).length:=by
 have h1:=wM (c::r);have h2:=ow qw (c::r);have h3:=ow blk (c::r);unfold next;split
 ·rename_i h;exact⟨(by decide:(0:Nat)<3),h1 h.2⟩
 split
 ·rename_i h;exact⟨h.2,h2⟩
 split
 ·rename_i h;exact⟨h,h3⟩
 split
 ·exact⟨by simp,fC _⟩
 rename_i h _;exact Mo op dash c r (Jw blk c r h)
theorem kC(l:List Nat):gL l<=l.length:=ow _ _
theorem iV(l:List Nat):(fO l).length=gL l:=by
 rw[fO,jQ];have:=kC l;omega
theorem yF(l:List Nat)(j:Nat)(h:j<=gL l):gL (l.drop j)=gL l-j:=by
 induction l generalizing j with
 |nil=>
  have:j=0:=by have:=kC ([]:List Nat);simp at this;omega
  subst this;rfl
 |cons c r ih=>
  cases j with
  |zero=>rfl
  |succ j=>
   have hc:(!brk c)=true:=by
    unfold gL at h;rw[run]at h;split at h
    ·assumption
    omega
   have e:gL (c::r)=gL r+1:=by unfold gL;rw[run,eT hc]
   rw[Hw,e,ih j (by omega)];omega
theorem Ba(l:List Nat)(h:l≠[])(h0:gL l=0):0<kF l:=by
 cases l with
 |nil=>exact absurd rfl h
 |cons c r=>
  have hc:brk c=true:=by
   cases hb:brk c with
   |true=>rfl
   |false=>
    unfold gL at h0;rw[run,eT (by rw[hb];rfl)]at h0;omega
  have:c=10\/c=13:=by simpa [brk]using hc
  cases r with
  |nil=>rcases this with rfl|rfl<;>decide
  |cons d t=>rcases this with rfl|rfl<;>simp[kF]<;>split<;>omega
theorem zJ(l:List Nat):kF l<=l.length:=by
 cases l with
 |nil=>decide
 |cons c r=>
  cases r with
  |nil=>rw[kF];(repeat' split)<;>simp
  |cons d t=>rw[kF];(repeat' split)<;>simp
theorem Ew(s:St)(l:List Nat)(h:l≠[]):0<(mid s l).2.1/\(mid s l).2.1<=l.length:=by
 unfold mid;split
 ·rename_i h0;exact⟨Ba l h h0,zJ l⟩
 rename_i h0;have hl:=iV l;have hle:=kC l;cases hr:fO l with
 |nil=>rw[hr]at hl;exact absurd hl.symm h0
 |cons c r=>
  have:=Ev s.op s.dash s.blank (s.fo==0) c r;rw[<-hr]at this⊢;exact⟨this.1,by rw[hl]at this;exact jN this.2 hle⟩
theorem step_pos(s:St)(l:List Nat)(h:l≠[]):0<(step s l).2.1/\(step s l).2.1<=l.length:=by
 unfold step;split
 ·split
  ·have h1:=kC l;have h2:=zJ (l.drop (gL l));rw[iq]at h2;refine⟨?_,by simp only;omega⟩;by_cases h0:gL l=0
   ·have:=Ba l h h0;simp only[h0,xU];omega
   simp only;omega
  exact Ew _ l h
 exact Ew _ l h
theorem yG:∀(f g:Nat)(s:St)(at':Nat)(l:List Nat),l.length<=f->l.length<=g->toks f s at' l=toks g s at' l
 |0,g,s,at',l,h,_=>by
  obtain rfl:l=[]:=oD (by omega);cases g<;>rfl
 |f+1,0,s,at',l,_,h=>by
  obtain rfl:l=[]:=oD (by omega);rfl
 |f+1,g+1,s,at',l,hf,hg=>by
  rw[toks,toks];by_cases hl:l=[]
  ·rw[eT hl,eT hl]
  rw[eQ hl,eQ hl];have:=step_pos s l hl;rw[yG f g _ _ _ (by rw[iq];omega) (by rw[iq];omega)]
def qz(s:St)(at':Nat)(l:List Nat):List (Nat×Nat×Nat):=toks l.length s at' l
theorem uG(s:St)(at':Nat):qz s at' []=[]:=rfl
theorem lW(s:St)(at':Nat)(l:List Nat)(h:l≠[]):qz s at' l=((step s l).1,at',at'+(step s l).2.1)::qz (step s l).2.2 (at'+(step s l).2.1) (l.drop (step s l).2.1):=by
 unfold qz;cases hl:l.length with
 |zero=>exact absurd (oD hl) h
 |succ n=>
  have:=step_pos s l h;rw[toks,eQ h,yG n (l.drop (step s l).2.1).length _ _ _ (by rw[iq];omega) (fC _)]
theorem uH(l:List Nat):tokens l=if 16384<l.length then[]else qz (fresh 0 (-1)) 0 l:=rfl
end Sc
namespace Rw
abbrev Tk:=Nat×Nat×Nat
structure R where
 kind:Nat
 from':Nat
 au:Nat
 fo:Int
def ends(x:Tk):Bool:=x.1==1||x.1==19
def kG:List Tk->Nat
 |[]=>0
 |x::r=>if ends x=true then 1 else kG r+1
def ql(op:Nat)(ts:List Tk):Nat:=ts.foldl (λo x=>Sc.opens o x.1) op
def jd:List Tk->Option Tk
 |[]=>none
 |x::r=>if Sc.counts x.1=true then some x else jd r
def si(k:Nat):Bool:=k==20||k==21
def iQ:List Tk->Nat
 |[]=>0
 |x::_=>x.1
def qA:List Tk->Nat
 |[]=>0
 |x::_=>x.2.1
def kindOf(begun:Bool)(ts:List Tk):Nat:=
 if iQ ts=19 then 2
 else match jd ts with
  |none=>if begun=true then 3 else 1
  |some x=>if si x.1=true then 4 else if begun=true then 3 else 5
def ni(ts:List Tk):Int:=match jd ts with
 |none=>-1
 |some x=>(x.2.1:Int)-(qA ts:Int)
def jf:Nat->Nat->Nat->List Tk->List R
 |0,_,_,_=>[]
 |f+1,op,at',l=>if l=[]then[]else⟨kindOf (decide (0<op)) (l.take (kG l)),at',at'+kG l,ni (l.take (kG l))⟩::jf f (ql op (l.take (kG l))) (at'+kG l) (l.drop (kG l))
def fE(l:List Tk):List R:=jf l.length 0 0 l
theorem zK(l:List Tk):kG l<=l.length:=by
 induction l with
 |nil=>exact fC _
 |cons x r ih=>rw[kG];split<;>simp<;>omega
theorem qJ(l:List Tk)(h:l≠[]):0<kG l:=by
 cases l with
 |nil=>exact absurd rfl h
 |cons x r=>rw[kG];split<;>omega
theorem Mq(l:List Tk)(n:Nat)(h0:0<n)(h:∀j x,j+1<n->l[j]?=some x->ends x=false)(hn:n=l.length\/∃x,l[n-1]?=some x/\ends x=true):kG l=n:=by
 induction l generalizing n with
 |nil=>
  rcases hn with h1|⟨x,h1,_⟩
  ·exact h1.symm
  simp at h1
 |cons y r ih=>
  rw[kG];by_cases he:ends y=true
  ·rw[eT he];rcases lu 1 n with h1|h1
   ·have:=h 0 y (by omega) rfl;rw[he]at this;cases this
   omega
  rw[eQ he];rcases lu 1 n with h1|h1
  ·rw[ih (n-1) (by omega) (λj x hj hx=>h (j+1) x (by omega) (by simpa using hx)) (by
    rcases hn with h2|⟨x,h2,h3⟩
    ·left;rw[gy]at h2;omega
    right;refine⟨x,?_,h3⟩;rw[show n-1=(n-1-1)+1 by omega,Ql]at h2
    exact h2)]
   omega
  obtain rfl:n=1:=by omega
  rcases hn with h2|⟨x,h2,h3⟩
  ·rw[gy]at h2;obtain rfl:r=[]:=oD (by omega);rfl
  obtain rfl:y=x:=by simpa using h2
  exact absurd h3 he
theorem F3(op:Nat)(ts:List Tk)(x:Tk):ql op (ts++[x])=Sc.opens (ql op ts) x.1:=by unfold ql;rw[List.foldl_append];rfl
theorem vg(ts:List Tk)(x:Tk):jd (ts++[x])=match jd ts with
 |some y=>some y
 |none=>if Sc.counts x.1=true then some x else none:=by
 induction ts with
 |nil=>rfl
 |cons y r ih=>
  rw[LA,jd,jd];split
  ·rfl
  exact ih
theorem BZ(ts:List Tk)(x:Tk)(h:jd ts=some x):x∈ts/\Sc.counts x.1=true:=by
 induction ts with
 |nil=>cases h
 |cons y r ih=>
  rw[jd]at h;by_cases hc:Sc.counts y.1=true
  ·rw[eT hc]at h;injection h with h;subst h;exact⟨by simp,hc⟩
  rw[eQ hc]at h;have:=ih h;exact⟨by simp[this.1],this.2⟩
theorem xC:∀(f g op at':Nat)(l:List Tk),l.length<=f->l.length<=g->jf f op at' l=jf g op at' l
 |0,g,_,_,l=>λh _=>by
  obtain rfl:l=[]:=oD (by omega);cases g with
  |zero=>rfl
  |succ g=>rw[jf,jf,eT rfl]
 |f+1,0,_,_,l=>λ_ h=>by
  obtain rfl:l=[]:=oD (by omega);rw[jf,jf,eT rfl]
 |f+1,g+1,op,at',l=>λh1 h2=>by
  rw[jf,jf];by_cases hl:l=[]
  ·rw[eT hl,eT hl]
  rw[eQ hl,eQ hl];have hp:=qJ l hl;rw[xC f g _ _ _ (by rw[iq];omega) (by rw[iq];omega)]
def oz(op at':Nat)(l:List Tk):List R:=jf l.length op at' l
theorem vk(op at':Nat)(l:List Tk)(h:l≠[]):oz op at' l=⟨kindOf (decide (0<op)) (l.take (kG l)),at',at'+kG l,ni (l.take (kG l))⟩::oz (ql op (l.take (kG l))) (at'+kG l) (l.drop (kG l)):=by
 unfold oz;cases hl:l.length with
 |zero=>exact absurd (oD hl) h
 |succ f=>
  rw[jf,eQ h];have hp:=qJ l h;rw[xC f (l.drop (kG l)).length _ _ _ (by rw[iq];omega) (fC _)]
theorem rC:∀(f op at':Nat)(l:List Tk),(jf f op at' l).length<=l.length
 |0,_,_,_=>gG _
 |f+1,op,at',l=>by
  rw[jf];split
  ·exact gG _
  rename_i h;have hp:=qJ l h;have:=rC f (ql op (l.take (kG l))) (at'+kG l) (l.drop (kG l));rw[iq]at this;have:=zK l;rw[gy];omega
def jl:Nat->List Tk->Prop
 |_,[]=>True
 |p,x::r=>x.2.1=p/\p<x.2.2/\jl x.2.2 r
theorem jl.le{p:Nat}{l:List Tk}(h:jl p l):∀(j:Nat)(x:Tk),l[j]?=some x->p<=x.2.1/\x.2.1<x.2.2:=by
 induction l generalizing p with
 |nil=>intro j x hx;simp at hx
 |cons y r ih=>
  obtain⟨h1,h2,h3⟩:=h;intro j x hx;cases j with
  |zero=>
   obtain rfl:y=x:=by simpa using hx
   exact⟨by omega,by omega⟩
  |succ j=>
   have:=ih h3 j x (by simpa using hx);exact⟨by omega,this.2⟩
theorem jl.lt{p:Nat}{l:List Tk}(h:jl p l):∀(i j:Nat)(x y:Tk),i<j->l[i]?=some x->l[j]?=some y->x.2.2<=y.2.1:=by
 induction l generalizing p with
 |nil=>intro i j x y _ hx;simp at hx
 |cons z r ih=>
  obtain⟨h1,h2,h3⟩:=h;intro i j x y hij hx hy;cases j with
  |zero=>omega
  |succ j=>
   cases i with
   |zero=>
    obtain rfl:z=x:=by simpa using hx
    exact(h3.le j y (by simpa using hy)).1
   |succ i=>exact ih h3 i j x y (by omega) (by simpa using hx) (by simpa using hy)
theorem yH:∀(n:Nat)(s:Sc.St)(p:Nat)(l:List Nat),l.length<=n->jl p (Sc.qz s p l)
 |0,s,p,l=>λh=>by
  obtain rfl:l=[]:=oD (by omega);rw[Sc.uG];trivial
 |n+1,s,p,l=>λh=>by
  by_cases hl:l=[]
  ·subst hl;rw[Sc.uG];trivial
  rw[Sc.lW s p l hl];have:=Sc.step_pos s l hl;exact⟨rfl,by show p<p+_;omega,yH n _ _ _ (by rw[iq];omega)⟩
theorem qN(l:List Nat):jl 0 (Sc.tokens l):=by
 rw[Sc.uH];split
 ·trivial
 exact yH _ _ _ _ (fC _)
theorem jl.drop{p:Nat}{l:List Tk}(h:jl p l)(n:Nat):∃q,jl q (l.drop n):=by
 induction n generalizing p l with
 |zero=>exact⟨p,h⟩
 |succ n ih=>
  cases l with
  |nil=>exact⟨p,h⟩
  |cons x r=>obtain⟨_,_,h3⟩:=h;exact ih h3
theorem yI{l:List Tk}:∀(n p:Nat),jl p l->jl p (l.take n):=by
 induction l with
 |nil=>intro n p _;rw[List.take_nil];trivial
 |cons x r ih=>
  intro n p h;cases n with
  |zero=>trivial
  |succ n=>exact⟨h.1,h.2.1,ih n _ h.2.2⟩
theorem Pg{p:Nat}{ts:List Tk}(h:jl p ts):(0<=ni ts↔(jd ts).isSome=true):=by
 unfold ni;cases hf:jd ts with
 |none=>simp
 |some x=>
  have hm:=(BZ ts x hf).1;obtain⟨j,hj⟩:=rT hm;cases ts with
  |nil=>simp at hm
  |cons y r=>
   have h0:(y::r)[0]?=some y:=rfl;have hle:y.2.1<=x.2.1:=by
    rcases FD j with rfl|hp
    ·rw[h0]at hj;injection hj with hj;subst hj;exact fC _
    have h1:=h.lt 0 j y x hp h0 hj;have h2:=(h.le 0 y h0).2;omega
   simp[qA];omega
structure E where
 dash:Bool
 fo:Int
 from':Nat
 au:Nat
def blanks:List Tk->Nat
 |[]=>0
 |x::r=>if x.1=3 then blanks r+1 else 0
def jU:Nat->List Tk->List Nat
 |0,_=>[]
 |f+1,l=>if iQ l=5 then 0::(jU f (l.drop (blanks (l.drop 1)+1))).map (·+(blanks (l.drop 1)+1))else[]
def jw:Nat->List Tk->Nat
 |0,_=>0
 |f+1,l=>if iQ l=5 then jw f (l.drop (blanks (l.drop 1)+1))+(blanks (l.drop 1)+1)else 0
def isProp(k:Nat):Bool:=k==12||k==14
def gF(k:Nat):Bool:=k==15||k==16||k==17||k==13
def l7:Nat->List Tk->Nat
 |0,_=>0
 |f+1,l=>if isProp (iQ l)=true then l7 f (l.drop (blanks (l.drop 1)+1))+(blanks (l.drop 1)+1)else 0
def uS(l:List Tk):Nat:=if gF (iQ l)=true then blanks (l.drop 1)+1 else 0
def pJ(l:List Tk):Nat:=l7 l.length l+uS (l.drop (l7 l.length l))
def nS(l:List Tk):Option Nat:=if iQ (l.drop (pJ l))=6 then some (pJ l+1)else none
def ik:List Tk->Nat
 |[]=>0
 |x::r=>if Sc.counts x.1=true then 0 else ik r+1
def sj(l:List Tk)(i:Nat):Nat:=qA (l.drop i)
def kT(at':Nat)(ts:List Tk):List E:=
 (jU (ts.drop (ik ts)).length (ts.drop (ik ts))).map (λi=>⟨true,(sj ts (ik ts+i):Int)-(qA ts:Int),at'+ik ts+i,at'+ik ts+i+1⟩)++
 (match nS (ts.drop (ik ts+jw (ts.drop (ik ts)).length (ts.drop (ik ts))))with
  |some n=>[⟨false,(sj ts (ik ts+jw (ts.drop (ik ts)).length (ts.drop (ik ts))):Int)-(qA ts:Int),at'+ik ts+jw (ts.drop (ik ts)).length (ts.drop (ik ts)),at'+ik ts+jw (ts.drop (ik ts)).length (ts.drop (ik ts))+n⟩]
  |none=>[])
def oJ(at':Nat)(ts:List Tk):Nat:=match(kT at' ts).getLast? with
 |some e=>e.au
 |none=>at'+ik ts
def lC(l:List Tk)(r:R):List E×Nat:=if r.kind=5 then(kT r.from' ((l.drop r.from').take (r.au-r.from')),oJ r.from' ((l.drop r.from').take (r.au-r.from')))else([],r.from')
end Rw
namespace Sc
open Sg
theorem F4(op:Nat)(least:Int)(l:List Nat)(h:isText least (fO l)=true):step (fresh op least) l=(19,gL l+kF (l.drop (gL l)),fresh op least):=by
 unfold step;rw[eT (show(fresh op least).fo=0 from rfl),eT (show isText (fresh op least).least (fO l)=true from h)];rfl
theorem wN(s:St)(l:List Nat)(h:s.fo=0->s.least=-1):step s l=mid s l:=by
 unfold step;by_cases hc:s.fo=0
 ·have hl:=h hc;rw[eT hc,eQ (by rw[hl];simp[isText])];congr 1;cases s;simp only at hl;rw[hl]
 rw[eQ hc]
theorem Dk(op:Nat)(least:Int)(l:List Nat)(h:isText least (fO l)=false):step (fresh op least) l=step (fresh op (-1)) l:=by
 rw[wN (fresh op (-1)) l (λ_=>rfl)];unfold step;rw[eT (show(fresh op least).fo=0 from rfl),eQ (by rw[show(fresh op least).least=least from rfl,h];simp)];rfl
theorem B6(op:Nat)(least:Int)(p:Nat)(l:List Nat)(h:isText least (fO l)=false):qz (fresh op least) p l=qz (fresh op (-1)) p l:=by
 cases l with
 |nil=>rfl
 |cons c r=>rw[lW (fresh op least) p (c::r) (by simp),lW (fresh op (-1)) p (c::r) (by simp),Dk op least _ h]
theorem Ph(s:St)(l:List Nat)(h:gL l≠0):mid s l=((next s.op s.dash s.blank (s.fo==0) (fO l)).1,(next s.op s.dash s.blank (s.fo==0) (fO l)).2,take s (next s.op s.dash s.blank (s.fo==0) (fO l)).1 (next s.op s.dash s.blank (s.fo==0) (fO l)).2):=by
 unfold mid;rw[eQ h]
theorem mid_end(s:St)(l:List Nat)(h:gL l=0):mid s l=(1,kF l,fresh s.op s.least):=by
 unfold mid;rw[eT h]
theorem wO(op k:Nat):opens op k<=op+1:=by
 unfold opens;(repeat' split)<;>omega
structure bu(L:List Nat)(Tot l:List (Nat×Nat×Nat))(st:St)(at':Nat):Prop where
 tot:l++qz st at' (L.drop at')=Tot
 zero:st.fo=0->st.least=-1
 op:st.op<=at'
 base:-1<=st.base/\st.base<=at'
 least:-1<=st.least
 len:l.length<=at'
 fo:st.fo<=at'
 last:st.fo≠0->∃l0 x,l=l0++[x]/\st.blank=(x.1==2||x.1==3)
structure qB(L:List Nat)(Tot l:List (Nat×Nat×Nat))(op:Nat)(least:Int)(p:Nat):Prop where
 tot:l++qz (fresh op least) p (L.drop p)=Tot
 op:op<=p
 least:-1<=least
 len:l.length<=p
theorem qB.text{L:List Nat}{aa l:List (Nat×Nat×Nat)}{op:Nat}{least:Int}{p n:Nat}(h:qB L aa l op least p)(hp:p<L.length)(ht:isText least (fO (L.drop p))=true)(hn:gL (L.drop p)+kF ((L.drop p).drop (gL (L.drop p)))=n):
 qB L aa (l++[(19,p,p+n)]) op least (p+n)/\0<n/\p+n<=L.length:=by
 have hne:L.drop p≠[]:=λe=>by have:=congrArg List.length e;rw[iq]at this;simp at this;omega
 have hs:=F4 op least (L.drop p) ht;rw[hn]at hs;have hp2:=step_pos (fresh op least) (L.drop p) hne;rw[hs,iq]at hp2;obtain⟨q1,q2⟩:0<n/\n<=L.length-p:=hp2
 have h1:=h.op;have h2:=h.len;refine⟨⟨?_,by omega,h.least,by simp;omega⟩,q1,by omega⟩;rw[lT,OG,<-h.tot,lW _ _ _ hne,hs,lH]
theorem qB.row{L:List Nat}{aa l:List (Nat×Nat×Nat)}{op:Nat}{least:Int}{p:Nat}(h:qB L aa l op least p)(ht:isText least (fO (L.drop p))=false):bu L aa l (fresh op (-1)) p:=
 ⟨by rw[<-h.tot,B6 op least p _ ht],λ_=>rfl,h.op,⟨ji _,by show(-1:Int)<=(p:Int);omega⟩,ji _,h.len,gG _,λhc=>absurd rfl hc⟩
theorem bu.on{L:List Nat}{aa l:List (Nat×Nat×Nat)}{st:St}{at' k n:Nat}(h:bu L aa l st at')(hr:gL (L.drop at')≠0)(hn:next st.op st.dash st.blank (st.fo==0) (fO (L.drop at'))=(k,n)):
 bu L aa (l++[(k,at',at'+n)]) (take st k n) (at'+n)/\0<n/\n<=gL (L.drop at'):=by
 have hne:L.drop at'≠[]:=λe=>by rw[e]at hr;exact hr rfl
 have hs:=wN st (L.drop at') h.zero;rw[Ph st _ hr,hn]at hs;have hle:0<n/\n<=gL (L.drop at'):=by
  have hl:=iV (L.drop at');cases hrl:fO (L.drop at')with
  |nil=>rw[hrl]at hl;exact absurd hl.symm hr
  |cons c r=>
   rw[hrl]at hn hl;have:=Ev st.op st.dash st.blank (st.fo==0) c r;rw[hn,hl]at this;exact this
 have h1:=h.op;have h2:=h.len;have h3:=wO st.op k;have h4:=h.base;have h5:=h.least;have h6:=h.fo;refine⟨⟨?_,λhc=>?_,?_,?_,?_,by simp;omega,?_,λ_=>⟨l,_,rfl,rfl⟩⟩,hle⟩
 ·rw[lT,OG,<-h.tot,lW _ _ _ hne,hs,lH]
 ·have:st.fo+n=0:=hc;omega
 ·show opens st.op k<=at'+n;omega
 ·show -1<=(if st.base=-1/\counts k=true then(st.fo:Int)else st.base)/\(if st.base=-1/\counts k=true then(st.fo:Int)else st.base)<=((at'+n:Nat):Int);split<;>omega
 ·show -1<=(if k=18 then(if st.base=-1 then(st.fo:Int)else st.base+1)else st.least)
  (repeat' split)<;>omega
 show st.fo+n<=at'+n;omega
theorem bu.brk{L:List Nat}{aa l:List (Nat×Nat×Nat)}{st:St}{at':Nat}(h:bu L aa l st at')(hr:gL (L.drop at')=0)(hb:0<kF (L.drop at')):
 qB L aa (l++[(1,at',at'+kF (L.drop at'))]) st.op st.least (at'+kF (L.drop at'))/\at'+kF (L.drop at')<=L.length:=by
 have hne:L.drop at'≠[]:=λe=>by rw[e]at hb;exact absurd hb (by decide)
 have hs:=wN st (L.drop at') h.zero;rw[mid_end st _ hr]at hs;have h1:=h.op;have h2:=h.len;have h3:=zJ (L.drop at');rw[iq]at h3;refine⟨⟨?_,by omega,h.least,by simp;omega⟩,by omega⟩;rw[lT,OG,<-h.tot,lW _ _ _ hne,hs,lH]
end Sc
namespace Rw
open Sc (qz fresh gL fO)
theorem F5(l:List Tk):blanks l<=l.length:=by
 induction l with
 |nil=>exact fC _
 |cons x r ih=>rw[blanks];split<;>simp<;>omega
theorem rD(l:List Tk)(k:Nat)(h:iQ l=k)(hk:k≠0):l≠[]:=λe=>by rw[e]at h;exact hk h.symm
def Ord:Nat->Int->List E->Prop
 |_,_,[]=>True
 |p,c,e::r=>p<=e.from'/\e.from'<e.au/\c<e.fo/\(e.dash=true\/r=[])/\Ord e.au e.fo r
def x9(ts:List Tk)(i:Nat):Int:=(sj ts i:Int)-(qA ts:Int)
theorem sF(ts:List Tk)(i:Nat)(x:Tk)(h:ts[i]?=some x):sj ts i=x.2.1:=by
 have hi:=(fT.1 h).1;have e:ts[i]=x:=(fT.1 h).2;unfold sj;rw[sM hi,e];rfl
theorem IV{p:Nat}{ts:List Tk}(h:jl p ts)(i j:Nat)(hij:i<j)(hj:j<ts.length):x9 ts i<x9 ts j:=by
 have hx:=lU (show i<ts.length by omega);have hy:=lU hj;unfold x9;rw[sF ts i _ hx,sF ts j _ hy];have h1:=h.lt i j _ _ hij hx hy;have h2:=(h.le i _ hx).2;omega
theorem Mr{p:Nat}{ts:List Tk}(h:jl p ts)(i:Nat)(hi:i<ts.length):-1<x9 ts i:=by
 rcases FD i with rfl|hp
 ·unfold x9 sj;rw[xU];omega
 have:=IV h 0 i hp hi;have e:x9 ts 0=0:=by unfold x9 sj;rw[xU];omega
 omega
def nz(at':Nat)(ts:List Tk)(i:Nat):E:=⟨true,x9 ts i,at'+i,at'+i+1⟩
theorem Bb{q:Nat}{ts:List Tk}(ht:jl q ts)(at':Nat)(tail:List E):∀(f p:Nat)(a:Nat)(c:Int),a<=at'+p->(p<ts.length->c<x9 ts p)->
 (∀(a:Nat)(c:Int),a<=at'+(p+jw f (ts.drop p))->(p+jw f (ts.drop p)<ts.length->c<x9 ts (p+jw f (ts.drop p)))->Ord a c tail)->
 Ord a c ((jU f (ts.drop p)).map (λi=>nz at' ts (p+i))++tail)
 |0,p,a,c=>λh1 h2 h3=>by
  rw[jU,xX,uk];exact h3 a c (by rw[jw];exact h1) (by rw[jw];exact h2)
 |f+1,p,a,c=>λh1 h2 h3=>by
  rw[jU];rw[jw]at h3;by_cases hk:iQ (ts.drop p)=5
  ·rw[eT hk]at h3⊢;have hp:p<ts.length:=by
    have:=rD _ 5 hk (by decide);rcases lu p ts.length with h|h
    ·exact h
    exact absurd (nM h) this
   obtain⟨n,hn⟩:=eX (blanks ((ts.drop p).drop 1)+1);have hn1:1<=n:=by omega
   rw[hn]at h3⊢;rw[qi,LA,sO,Ou];have e1:(ts.drop p).drop n=ts.drop (p+n):=by rw[lH]
   rw[e1]at h3⊢;have e2:((λi=>nz at' ts (p+i))∘λx=>x+n)=λi=>nz at' ts (p+n+i):=by
    funext i;show nz at' ts (p+(i+n))=_;rw[show p+(i+n)=p+n+i by omega]
   rw[e2];refine⟨h1,by show at'+p<at'+p+1;omega,h2 hp,.inl rfl,Bb ht at' tail f (p+n) _ _ (by show at'+p+1<=_;omega) (λhlt=>IV ht p (p+n) (by omega) hlt) ?_⟩;intro a2 c2 g1 g2;rw[show p+n+jw f (ts.drop (p+n))=p+(jw f (ts.drop (p+n))+n)by omega]at g1 g2;exact h3 a2 c2 g1 g2
  rw[eQ hk]at h3⊢;rw[xX,uk];exact h3 a c h1 h2
theorem Ex(ts:List Tk):∀(f p:Nat),∀i∈jU f (ts.drop p),p+i<ts.length
 |0,_=>λi hi=>by cases hi
 |f+1,p=>λi hi=>by
  rw[jU]at hi;by_cases hk:iQ (ts.drop p)=5
  ·rw[eT hk]at hi;have hp:p<ts.length:=by
    have:=rD _ 5 hk (by decide);rcases lu p ts.length with h|h
    ·exact h
    exact absurd (nM h) this
   rcases qV.1 hi with rfl|hi
   ·omega
   obtain⟨j,hj,rfl⟩:=vP.1 hi;rw[lH]at hj;have:=Ex ts f _ j hj;omega
  rw[eQ hk]at hi;cases hi
theorem pI(l:List Tk)(n:Nat)(h:nS l=some n):1<=n/\n<=l.length/\l≠[]:=by
 unfold nS at h;by_cases hk:iQ (l.drop (pJ l))=6
 ·rw[eT hk]at h;injection h with h
  have hne:=rD _ 6 hk (by decide);have hlt:pJ l<l.length:=by
   rcases lu (pJ l) l.length with g|g
   ·exact g
   exact absurd (nM g) hne
  refine⟨by omega,by omega,λe=>by rw[e]at hlt;exact absurd hlt (uY _)⟩
 rw[eQ hk]at h;cases h
theorem Ey(l:List Tk):ik l<=l.length:=by
 induction l with
 |nil=>exact fC _
 |cons x r ih=>rw[ik];split<;>simp<;>omega
def qm(ts:List Tk):Nat:=ik ts+jw (ts.drop (ik ts)).length (ts.drop (ik ts))
def Av(at':Nat)(ts:List Tk):List E:=match nS (ts.drop (qm ts))with
 |some n=>[⟨false,x9 ts (qm ts),at'+qm ts,at'+qm ts+n⟩]
 |none=>[]
theorem mW(at':Nat)(ts:List Tk):kT at' ts=(jU (ts.drop (ik ts)).length (ts.drop (ik ts))).map (λi=>nz at' ts (ik ts+i))++Av at' ts:=by
 unfold kT Av;congr 1
 ·refine Qr λi _=>?_
  unfold nz x9;congr 1<;>omega
 show(match nS (ts.drop (qm ts))with|some n=>_|none=>_)=_;cases nS (ts.drop (qm ts))with
 |none=>rfl
 |some n=>
  dsimp only;congr 2
  ·unfold qm;omega
  unfold qm;omega
theorem Jy{q:Nat}{ts:List Tk}(ht:jl q ts)(at':Nat):Ord at' (-1) (kT at' ts):=by
 rw[mW];refine Bb ht at' (Av at' ts) _ (ik ts) at' (-1) (by omega) (λh=>Mr ht _ h) ?_;intro a c h1 h2
 change a<=at'+qm ts at h1
 change qm ts<ts.length->c<x9 ts (qm ts)at h2
 unfold Av;cases hk:nS (ts.drop (qm ts))with
 |none=>trivial
 |some n=>
  obtain⟨k1,k2,k3⟩:=pI _ n hk;have hq:qm ts<ts.length:=by
   rcases lu (qm ts) ts.length with g|g
   ·exact g
   exact absurd (nM g) k3
  exact⟨h1,by show at'+qm ts<at'+qm ts+n;omega,h2 hq,.inr rfl,trivial⟩
theorem Ms(at':Nat)(ts:List Tk):∀e∈kT at' ts,e.au<=at'+ts.length:=by
 rw[mW];intro e he;rcases kS.1 he with he|he
 ·obtain⟨i,hi,rfl⟩:=vP.1 he;have:=Ex ts _ _ i hi;show at'+(ik ts+i)+1<=_;omega
 unfold Av at he;cases hk:nS (ts.drop (qm ts))with
 |none=>rw[hk]at he;cases he
 |some n=>
  rw[hk]at he;obtain rfl:=sN.1 he;obtain⟨k1,k2,k3⟩:=pI _ n hk;have hq:qm ts<ts.length:=by
   rcases lu (qm ts) ts.length with g|g
   ·exact g
   exact absurd (nM g) k3
  rw[iq]at k2;show at'+qm ts+n<=_;omega
theorem zL(at':Nat)(ts:List Tk):(kT at' ts=[]->oJ at' ts=at'+ik ts)/\(∀e,(kT at' ts).getLast?=some e->oJ at' ts=e.au)/\oJ at' ts<=at'+ts.length:=by
 have hl:=Ey ts;refine⟨λh=>by unfold oJ;rw[h];rfl,λe h=>by unfold oJ;rw[h],?_⟩;unfold oJ;cases h:(kT at' ts).getLast? with
 |none=>show at'+ik ts<=_;omega
 |some e=>exact Ms at' ts e (Oz h)
end Rw
end Go.Proofs.YtfbiffdmhcjhbaaGreat

import Derived.Test.YtfbiffdmhcjhbaaZa04
import Derived.Test.YtfbiffdmhcjhbaaZa07
import Derived.Laws.BitsLemmas
import Derived.Laws.RangeAny
import Derived.Lib.Strings
set_option linter.all false
set_option maxHeartbeats 16000000
set_option maxRecDepth 100000
namespace Go.Proofs.Ytfbiffdmhcjhbaa
open Go.RowKit Try
namespace Rw
abbrev Tk:=Nat×Nat×Nat
structure R where
 kind:Nat
 from':Nat
 au:Nat
 mE:Int
def ends(x:Tk):Bool:=x.1==1||x.1==19
def rC:List Tk->Nat
 |[]=>0
 |x::r=>if ends x=true then 1 else rC r+1
def wV(op:Nat)(ts:List Tk):Nat:=ts.foldl (λo x=>Sc.opens o x.1) op
def pX:List Tk->Option Tk
 |[]=>none
 |x::r=>if Sc.counts x.1=true then some x else pX r
def yP(k:Nat):Bool:=k==20||k==21
def pz:List Tk->Nat
 |[]=>0
 |x::_=>x.1
def xw:List Tk->Nat
 |[]=>0
 |x::_=>x.2.1
def kindOf(begun:Bool)(ts:List Tk):Nat:=
 if pz ts=19 then 2
 else match pX ts with
  |none=>if begun=true then 3 else 1
  |some x=>if yP x.1=true then 4 else if begun=true then 3 else 5
def uC(ts:List Tk):Int:=match pX ts with
 |none=>-1
 |some x=>(x.2.1:Int)-(xw ts:Int)
def p8:Nat->Nat->Nat->List Tk->List R
 |0,_,_,_=>[]
 |f+1,op,at',l=>if l=[]then[]else⟨kindOf (decide (0<op)) (l.take (rC l)),at',at'+rC l,uC (l.take (rC l))⟩::p8 f (wV op (l.take (rC l))) (at'+rC l) (l.drop (rC l))
def mQ(l:List Tk):List R:=p8 l.length 0 0 l
theorem FF(l:List Tk):rC l<=l.length:=by
 induction l with
 |nil=>exact mJ _
 |cons x r ih=>rw[rC];split<;>simp<;>omega
theorem xI(l:List Tk)(h:l≠[]):0<rC l:=by
 cases l with
 |nil=>exact absurd rfl h
 |cons x r=>rw[rC];split<;>omega
theorem Sn(l:List Tk)(n:Nat)(h0:0<n)(h:∀j x,j+1<n->l[j]?=some x->ends x=false)(hn:n=l.length\/∃x,l[n-1]?=some x/\ends x=true):rC l=n:=by
 induction l generalizing n with
 |nil=>
  rcases hn with h1|⟨x,h1,_⟩
  ·exact h1.symm
  simp at h1
 |cons y r ih=>
  rw[rC];by_cases he:ends y=true
  ·rw[gu he];rcases sJ 1 n with h1|h1
   ·have:=h 0 y (by omega) rfl;rw[he]at this;cases this
   omega
  rw[fu he];rcases sJ 1 n with h1|h1
  ·rw[ih (n-1) (by omega) (λj x hj hx=>h (j+1) x (by omega) (by simpa using hx)) (by
    rcases hn with h2|⟨x,h2,h3⟩
    ·left;rw[nI]at h2;omega
    right;refine⟨x,?_,h3⟩;rw[show n-1=(n-1-1)+1 by omega,V6]at h2
    exact h2)]
   omega
  obtain rfl:n=1:=by omega
  rcases hn with h2|⟨x,h2,h3⟩
  ·rw[nI]at h2;obtain rfl:r=[]:=uV (by omega);rfl
  obtain rfl:y=x:=by simpa using h2
  exact absurd h3 he
theorem LZ(op:Nat)(ts:List Tk)(x:Tk):wV op (ts++[x])=Sc.opens (wV op ts) x.1:=by unfold wV;rw[Q9];rfl
theorem Bd(ts:List Tk)(x:Tk):pX (ts++[x])=match pX ts with
 |some y=>some y
 |none=>if Sc.counts x.1=true then some x else none:=by
 induction ts with
 |nil=>rfl
 |cons y r ih=>
  rw[Q5,pX,pX];split
  ·rfl
  exact ih
theorem H6(ts:List Tk)(x:Tk)(h:pX ts=some x):x∈ts/\Sc.counts x.1=true:=by
 induction ts with
 |nil=>cases h
 |cons y r ih=>
  rw[pX]at h;by_cases hc:Sc.counts y.1=true
  ·rw[gu hc]at h;injection h with h;subst h;exact⟨by simp,hc⟩
  rw[fu hc]at h;have:=ih h;exact⟨by simp[this.1],this.2⟩
theorem Da:∀(f g op at':Nat)(l:List Tk),l.length<=f->l.length<=g->p8 f op at' l=p8 g op at' l
 |0,g,_,_,l=>λh _=>by
  obtain rfl:l=[]:=uV (by omega);cases g with
  |zero=>rfl
  |succ g=>rw[p8,p8,gu rfl]
 |f+1,0,_,_,l=>λ_ h=>by
  obtain rfl:l=[]:=uV (by omega);rw[p8,p8,gu rfl]
 |f+1,g+1,op,at',l=>λh1 h2=>by
  rw[p8,p8];by_cases hl:l=[]
  ·rw[gu hl,gu hl]
  rw[fu hl,fu hl];have hp:=xI l hl;rw[Da f g _ _ _ (by rw[oz];omega) (by rw[oz];omega)]
def vz(op at':Nat)(l:List Tk):List R:=p8 l.length op at' l
theorem Be(op at':Nat)(l:List Tk)(h:l≠[]):vz op at' l=⟨kindOf (decide (0<op)) (l.take (rC l)),at',at'+rC l,uC (l.take (rC l))⟩::vz (wV op (l.take (rC l))) (at'+rC l) (l.drop (rC l)):=by
 unfold vz;cases hl:l.length with
 |zero=>exact absurd (uV hl) h
 |succ f=>
  rw[p8,fu h];have hp:=xI l h;rw[Da f (l.drop (rC l)).length _ _ _ (by rw[oz];omega) (mJ _)]
theorem yn:∀(f op at':Nat)(l:List Tk),(p8 f op at' l).length<=l.length
 |0,_,_,_=>nO _
 |f+1,op,at',l=>by
  rw[p8];split
  ·exact nO _
  rename_i h;have hp:=xI l h;have:=yn f (wV op (l.take (rC l))) (at'+rC l) (l.drop (rC l));rw[oz]at this;have:=FF l;rw[nI];omega
def pI:Nat->List Tk->Prop
 |_,[]=>True
 |p,x::r=>x.2.1=p/\p<x.2.2/\pI x.2.2 r
theorem pI.le{p:Nat}{l:List Tk}(h:pI p l):∀(j:Nat)(x:Tk),l[j]?=some x->p<=x.2.1/\x.2.1<x.2.2:=by
 induction l generalizing p with
 |nil=>intro j x hx;simp at hx
 |cons y r ih=>
  obtain⟨h1,h2,h3⟩:=h;intro j x hx;cases j with
  |zero=>
   obtain rfl:y=x:=by simpa using hx
   exact⟨by omega,by omega⟩
  |succ j=>
   have:=ih h3 j x (by simpa using hx);exact⟨by omega,this.2⟩
theorem pI.lt{p:Nat}{l:List Tk}(h:pI p l):∀(i j:Nat)(x y:Tk),i<j->l[i]?=some x->l[j]?=some y->x.2.2<=y.2.1:=by
 induction l generalizing p with
 |nil=>intro i j x y _ hx;simp at hx
 |cons z r ih=>
  obtain⟨h1,h2,h3⟩:=h;intro i j x y hij hx hy;cases j with
  |zero=>omega
  |succ j=>
   cases i with
   |zero=>
    obtain rfl:z=x:=by simpa using hx
    exact(h3.le j y (by simpa using hy)).1
   |succ i=>exact ih h3 i j x y (by omega) (by simpa using hx) (by simpa using hy)
theorem Eu:∀(n:Nat)(s:Sc.St)(p:Nat)(l:List Nat),l.length<=n->pI p (Sc.xn s p l)
 |0,s,p,l=>λh=>by
  obtain rfl:l=[]:=uV (by omega);rw[Sc.Ak];trivial
 |n+1,s,p,l=>λh=>by
  by_cases hl:l=[]
  ·subst hl;rw[Sc.Ak];trivial
  rw[Sc.sV s p l hl];have:=Sc.step_pos s l hl;exact⟨rfl,by show p<p+_;omega,Eu n _ _ _ (by rw[oz];omega)⟩
theorem xM(l:List Nat):pI 0 (Sc.tokens l):=by
 rw[Sc.Al];split
 ·trivial
 exact Eu _ _ _ _ (mJ _)
theorem pI.drop{p:Nat}{l:List Tk}(h:pI p l)(n:Nat):∃q,pI q (l.drop n):=by
 induction n generalizing p l with
 |zero=>exact⟨p,h⟩
 |succ n ih=>
  cases l with
  |nil=>exact⟨p,h⟩
  |cons x r=>obtain⟨_,_,h3⟩:=h;exact ih h3
theorem Ev{l:List Tk}:∀(n p:Nat),pI p l->pI p (l.take n):=by
 induction l with
 |nil=>intro n p _;rw[List.take_nil];trivial
 |cons x r ih=>
  intro n p h;cases n with
  |zero=>trivial
  |succ n=>exact⟨h.1,h.2.1,ih n _ h.2.2⟩
theorem Vg{p:Nat}{ts:List Tk}(h:pI p ts):(0<=uC ts↔(pX ts).isSome=true):=by
 unfold uC;cases hf:pX ts with
 |none=>simp
 |some x=>
  have hm:=(H6 ts x hf).1;obtain⟨j,hj⟩:=yG hm;cases ts with
  |nil=>simp at hm
  |cons y r=>
   have h0:(y::r)[0]?=some y:=rfl;have hle:y.2.1<=x.2.1:=by
    rcases DK j with rfl|hp
    ·rw[h0]at hj;injection hj with hj;subst hj;exact mJ _
    have h1:=h.lt 0 j y x hp h0 hj;have h2:=(h.le 0 y h0).2;omega
   simp[xw];omega
structure E where
 dash:Bool
 mE:Int
 from':Nat
 au:Nat
def blanks:List Tk->Nat
 |[]=>0
 |x::r=>if x.1=3 then blanks r+1 else 0
def qO:Nat->List Tk->List Nat
 |0,_=>[]
 |f+1,l=>if pz l=5 then 0::(qO f (l.drop (blanks (l.drop 1)+1))).map (·+(blanks (l.drop 1)+1))else[]
def qj:Nat->List Tk->Nat
 |0,_=>0
 |f+1,l=>if pz l=5 then qj f (l.drop (blanks (l.drop 1)+1))+(blanks (l.drop 1)+1)else 0
def isProp(k:Nat):Bool:=k==12||k==14
def nL(k:Nat):Bool:=k==15||k==16||k==17||k==13
def tF:Nat->List Tk->Nat
 |0,_=>0
 |f+1,l=>if isProp (pz l)=true then tF f (l.drop (blanks (l.drop 1)+1))+(blanks (l.drop 1)+1)else 0
def AJ(l:List Tk):Nat:=if nL (pz l)=true then blanks (l.drop 1)+1 else 0
def wD(l:List Tk):Nat:=tF l.length l+AJ (l.drop (tF l.length l))
def uS(l:List Tk):Option Nat:=if pz (l.drop (wD l))=6 then some (wD l+1)else none
def ou:List Tk->Nat
 |[]=>0
 |x::r=>if Sc.counts x.1=true then 0 else ou r+1
def yQ(l:List Tk)(i:Nat):Nat:=xw (l.drop i)
def rT(at':Nat)(ts:List Tk):List E:=
 (qO (ts.drop (ou ts)).length (ts.drop (ou ts))).map (λi=>⟨true,(yQ ts (ou ts+i):Int)-(xw ts:Int),at'+ou ts+i,at'+ou ts+i+1⟩)++
 (match uS (ts.drop (ou ts+qj (ts.drop (ou ts)).length (ts.drop (ou ts))))with
  |some n=>[⟨false,(yQ ts (ou ts+qj (ts.drop (ou ts)).length (ts.drop (ou ts))):Int)-(xw ts:Int),at'+ou ts+qj (ts.drop (ou ts)).length (ts.drop (ou ts)),at'+ou ts+qj (ts.drop (ou ts)).length (ts.drop (ou ts))+n⟩]
  |none=>[])
def vH(at':Nat)(ts:List Tk):Nat:=match(rT at' ts).getLast? with
 |some e=>e.au
 |none=>at'+ou ts
def su(l:List Tk)(r:R):List E×Nat:=if r.kind=5 then(rT r.from' ((l.drop r.from').take (r.au-r.from')),vH r.from' ((l.drop r.from').take (r.au-r.from')))else([],r.from')
end Rw
namespace Es
open Go.Lib Go.RowKit
def F7(c:Int):Option Int:=if 48<=c/\c<=57 then some (c-48)else if 97<=c/\c<=102 then some (c-97+10)else if 65<=c/\c<=70 then some (c-65+10)else none
theorem FH{c d:Int}(h:F7 c=some d):48<=c/\c<=102/\0<=d/\d<=15:=by
 unfold F7 at h
 (repeat' split at h)<;>simp at h<;>omega
def wE(c:Int):Option Int:=
 if c=48 then some 0 else if c=116 then some 9 else if c=110 then some 10 else if c=114 then some 13 else if c=101 then some 27
 else if c=34\/c=47\/c=92\/c=32 then some c else none
def ql(c:Int):Nat:=if c=85 then 8 else if c=117 then 4 else if c=120 then 2 else 0
theorem Pj(c:Int):ql c=0\/ql c=2\/ql c=4\/ql c=8:=by
 unfold ql
 (repeat' split)<;>simp
def num:List UInt8->Int->Option Int
 |[],v=>some v
 |c::l,v=>match F7 c.toNat with
  |none=>none
  |some d=>num l (16*v+d)
def sign(l:List UInt8):Option Int:=match num l 0 with
 |none=>none
 |some v=>if Utf8.valid v then some v else none
def esc:List UInt8->Option (Int×Nat)
 |a::c::rest=>
  if a.toNat=92 then
   match wE c.toNat with
   |some v=>some (v,2)
   |none=>if ql c.toNat=0\/rest.length<ql c.toNat then none else match sign (rest.take (ql c.toNat))with
    |none=>none
    |some v=>some (v,2+ql c.toNat)
  else none
 |_=>none
def WH:Option (Int×Nat)->ByteArray
 |none=>⟨#[]⟩
 |some (v,_)=>Utf8.encode v
def lenOf:Option (Int×Nat)->Int
 |none=>0
 |some (_,n)=>n
theorem L5{s:List UInt8}(h:s.length<2):esc s=none:=by
 match s,h with
 |[],_=>rfl
 |[_],_=>rfl
theorem Ew{a c:UInt8}{r:List UInt8}(h:a.toNat≠92):esc (a::c::r)=none:=by rw[esc,fu h]
theorem Db{a c:UInt8}{r:List UInt8}{v:Int}(h:a.toNat=92)(hs:wE c.toNat=some v):esc (a::c::r)=some (v,2):=by rw[esc,gu h,hs]
theorem vT{a c:UInt8}{r:List UInt8}(h:a.toNat=92)(hs:wE c.toNat=none)(hd:ql c.toNat=0\/r.length<ql c.toNat):esc (a::c::r)=none:=by rw[esc,gu h,hs];simp only;rw[gu hd]
theorem Bw{a c:UInt8}{r:List UInt8}(h:a.toNat=92)(hs:wE c.toNat=none)(hd:ql c.toNat≠0)(hl:ql c.toNat<=r.length)(hn:sign (r.take (ql c.toNat))=none):esc (a::c::r)=none:=by
 rw[esc,gu h,hs];simp only;rw[fu (by omega),hn]
theorem zG{a c:UInt8}{r:List UInt8}{v:Int}(h:a.toNat=92)(hs:wE c.toNat=none)(hd:ql c.toNat≠0)(hl:ql c.toNat<=r.length)(hn:sign (r.take (ql c.toNat))=some v):esc (a::c::r)=some (v,2+ql c.toNat):=by
 rw[esc,gu h,hs];simp only;rw[fu (by omega),hn]
theorem get_at(s:ByteArray)(k:Nat)(h:k<s.size):s[k]=s.get! k:=by
 simp[ByteArray.get!,getElem!_pos,h];rfl
theorem Pk(s:ByteArray)(h:2<=s.size):s.data.toList=s[0]'(by omega)::s[1]'(by omega)::s.data.toList.drop 2:=by
 have hl:s.data.toList.length=s.size:=(size_eq s).symm;generalize hL:s.data.toList=L at*
 match L,hl with
 |a::b::r,_=>
  have e0:s[0]'(by omega)=a:=by
   rw[get_at,<-getD_get!',hL];rfl
  have e1:s[1]'(by omega)=b:=by
   rw[get_at,<-getD_get!',hL];rfl
  rw[e0,e1];rfl
 |[],hl=>simp at hl;omega
 |[_],hl=>simp at hl;omega
theorem ext_list(s:ByteArray)(a b:Nat):(s.extract a b).data.toList=(s.data.toList.drop a).take (b-a):=by
 rw[extract_data]
end Es
namespace Qo
open Es
open Go.Lib Go.RowKit
def yA:List UInt8->List UInt8×Bool
 |[]=>([],false)
 |[c]=>if c=39 then([],true)else([c],false)
 |c::d::r=>if c=39 then(if d=39 then(39::(yA r).1,(yA r).2)else([],true))else(c::(yA (d::r)).1,(yA (d::r)).2)
theorem Vh(c:UInt8)(r:List UInt8)(h:c≠39):yA (c::r)=(c::(yA r).1,(yA r).2):=by
 cases r with
 |nil=>simp[yA,h]
 |cons d t=>rw[yA,fu h]
theorem Sr(r:List UInt8):yA (39::39::r)=(39::(yA r).1,(yA r).2):=by rw[yA,gu rfl,gu rfl]
theorem Ss(d:UInt8)(r:List UInt8)(h:d≠39):yA (39::d::r)=([],true):=by rw[yA,gu rfl,fu h]
def BK:Nat->Nat->List UInt8->List UInt8×List Nat×Bool
 |0,_,_=>([],[],false)
 |_+1,_,[]=>([],[],false)
 |f+1,p,c::r=>
  if c=34 then([],[],true)
  else if c=92 then(match esc (c::r)with
   |some (v,k)=>((Utf8.encode v).data.toList++(BK f (p+k) ((c::r).drop k)).1,(BK f (p+k) ((c::r).drop k)).2)
   |none=>(c::(BK f (p+1) r).1,p::(BK f (p+1) r).2.1,(BK f (p+1) r).2.2))
  else(c::(BK f (p+1) r).1,(BK f (p+1) r).2)
theorem BA{l:List UInt8}{v:Int}{k:Nat}(h:esc l=some (v,k)):2<=k/\k<=l.length:=by
 match l with
 |[]=>cases h
 |[_]=>cases h
 |a::c::rest=>
  by_cases ha:a.toNat=92
  ·cases hs:wE c.toNat with
   |some u=>
    rw[Db ha hs]at h;injection h with h;injection h with h1 h2;subst h2;simp
   |none=>
    by_cases hd:ql c.toNat=0\/rest.length<ql c.toNat
    ·rw[vT ha hs hd]at h;cases h
    cases hn:sign (rest.take (ql c.toNat))with
    |none=>rw[Bw ha hs (by omega) (by omega) hn]at h;cases h
    |some u=>
     rw[zG ha hs (by omega) (by omega) hn]at h;injection h with h;injection h with h1 h2;subst h2;simp;omega
  rw[Ew ha]at h;cases h
theorem CE:∀(f g p:Nat)(l:List UInt8),l.length<=f->l.length<=g->BK f p l=BK g p l
 |0,g,p,l,h,_=>by
  obtain rfl:l=[]:=uV (by omega);cases g<;>rfl
 |f+1,0,p,l,_,h=>by
  obtain rfl:l=[]:=uV (by omega);rfl
 |f+1,g+1,p,[],_,_=>rfl
 |f+1,g+1,p,c::r,hf,hg=>by
  have h1:=CE f g (p+1) r (by simp at hf;omega) (by simp at hg;omega);rw[BK,BK,h1];by_cases q:c=34
  ·rw[gu q,gu q]
  rw[fu q,fu q];by_cases q2:c=92
  ·rw[gu q2,gu q2];cases he:esc (c::r)with
   |none=>rfl
   |some x=>
    obtain⟨v,k⟩:=x;have:=BA he;have h2:=CE f g (p+k) ((c::r).drop k) (by rw[oz];omega) (by rw[oz];omega);simp only[h2]
  rw[fu q2,fu q2]
def wX(p:Nat)(l:List UInt8):List UInt8×List Nat×Bool:=BK l.length p l
theorem Su(p:Nat):wX p []=([],[],false):=rfl
theorem Sw(p:Nat)(r:List UInt8):wX p (34::r)=([],[],true):=by
 unfold wX;rw[nI,BK,gu rfl]
theorem Vi(p:Nat)(c:UInt8)(r:List UInt8)(h1:c≠34)(h2:c≠92):wX p (c::r)=(c::(wX (p+1) r).1,(wX (p+1) r).2):=by
 unfold wX;rw[nI,BK,fu h1,fu h2]
theorem Sy(p:Nat)(r:List UInt8)(v:Int)(k:Nat)(h:esc (92::r)=some (v,k)):wX p (92::r)=((Utf8.encode v).data.toList++(wX (p+k) ((92::r).drop k)).1,(wX (p+k) ((92::r).drop k)).2):=by
 have hl:=BA h;have e:=CE r.length ((92::r).drop k).length (p+k) ((92::r).drop k) (by rw[oz,nI];omega) (mJ _);unfold wX;rw[nI,BK,fu (by decide),gu rfl,h];simp only[e]
theorem Sz(p:Nat)(r:List UInt8)(h:esc (92::r)=none):wX p (92::r)=(92::(wX (p+1) r).1,p::(wX (p+1) r).2.1,(wX (p+1) r).2.2):=by
 unfold wX;rw[nI,BK,fu (by decide),gu rfl,h]
def rU(kind:Int)(l:List UInt8):List UInt8×List Nat×Bool:=
 if l=[]then([],[],false)
 else if kind=15 then(l,[],true)
 else if kind=16 then((yA (l.drop 1)).1,[],(yA (l.drop 1)).2)
 else if kind=17 then wX 1 (l.drop 1)
 else([],[],false)
theorem JL(c:UInt8)(n:Nat)(h:c.toNat=n):c=UInt8.ofNat n:=by
 subst h;exact UInt8.ofNat_toNat.symm
end Qo
namespace Ps
open Ar Fl
open Rw (R E)
structure Op where
 node:Int
 kind:Nat
 mE:Int
 cur:Int
 has:Bool
structure PS where
 s:St
 doc:Int
 root:Bool
 st:List Op
 read:Nat
def limit(l:List Tk)(i:Nat):Nat:=p9 (λj=>raw l j !=20&&raw l j !=21) (l.length-i) i
def lo(l:List Tk)(a b:Nat):Nat:=p9 (λj=>!cnt (raw l j)) (b-a) a
def wT(rs:List R)(next:Nat)(none':Bool):Nat:=match rs.find? (λr=>!(decide (r.au<next)||(none' &&r.au==next)))with
 |some r=>r.au
 |none=>0
def qf(l:List Tk)(s:St)(up:Int)(a b code:Nat):St:=if a<b then err l s up a b code else s
def rest(l:List Tk)(rs:List R)(p:PS)(up:Int)(next:Nat)(none':Bool):PS:=
 let r:=wT rs next none'
 let a:=lo l next r
 {p with s:=qf l p.s up a (back l r a) 8,read:=r}
def value(l:List Tk)(rs:List R)(depth:Nat)(p:PS)(up:Int)(i:Nat):PS×Bool:=
 let v:=nM l (limit l i) (depth-p.st.length) up i p.s
 (rest l rs {p with s:=v.2.2} up (if v.1<0 then i else max v.2.1 i) (decide (v.1<0)),decide (0<=v.1))
def nH(p:PS)(i:Nat):PS:=if p.doc<0 then{p with s:=(add p.s 0 2 i i).1,doc:=(add p.s 0 2 i i).2,root:=false,st:=[]}else p
def holder(p:PS):Int:=match p.st with
 |[]=>p.doc
 |t::_=>if t.has=true then t.node else t.cur
def mark(l:List Tk)(rs:List R)(depth:Nat)(p:PS)(r:R):PS:=
 let a:=lo l r.from' r.au
 let b:=back l r.au a
 if raw l a=20 then
  let q:=add p.s 0 2 a (a+1)
  let p1:PS:={p with s:=q.1,doc:=q.2,root:=false,st:=[]}
  let x:=lo l (a+1) r.au
  if x<back l r.au x then
   let v:=value l rs depth p1 p1.doc x
   {v.1 with root:=v.2}
  else p1
 else
  let s1:St:=if 0<=p.doc then⟨nN p.s.t p.doc ((a+1:Nat):Int),p.s.d⟩else p.s
  let x:=lo l (a+1) b
  {p with s:=qf l s1 0 x (back l b x) 8,doc:=-1,st:=[]}
def kindOf(e:E):Nat:=if e.dash=true then 3 else 5
def cur(l:List Tk)(s:St)(node:Int)(e:E):St×Int:=if e.dash=true then add s node 4 e.from' e.au else pair l s node e.from' e.au
def again(l:List Tk)(p:PS)(o:Op)(r:List Op)(e:E):Nat×PS:=
 (0,{p with s:=(cur l p.s o.node e).1,st:={o with cur:=(cur l p.s o.node e).2,has:=false}::r})
def fresh(l:List Tk)(depth:Nat)(p:PS)(up:Int)(root:Bool)(st:List Op)(e:E):Nat×PS:=
 if depth<st.length+1 then(10,p)
 else
  let a:=add p.s up (kindOf e) e.from' e.au
  let c:=cur l a.1 a.2 e
  (0,{p with s:=c.1,root:=root,st:=⟨a.2,kindOf e,e.mE,c.2,false⟩::st})
def place(l:List Tk)(depth:Nat)(p:PS)(e:E):Nat×PS:=
 match p.st.dropWhile (λo=>decide (e.mE<o.mE))with
 |[]=>if p.root=true then(7,p)else fresh l depth p p.doc true [] e
 |o::r=>
  if o.mE=e.mE then
   if o.kind=kindOf e then again l p o r e
   else if kindOf e=3 then(if o.has=true then(5,p)else fresh l depth p o.cur p.root ({o with has:=true}::r) e)
   else match r with
    |o2::r2=>if o2.mE=e.mE/\o2.kind=5 then again l p o2 r2 e else(5,p)
    |[]=>(5,p)
  else if o.has=true then(6,p)else fresh l depth p o.cur p.root ({o with has:=true}::r) e
def bare(l:List Tk)(rs:List R)(depth:Nat)(p:PS)(r:R)(a b:Nat):PS:=
 match p.st.dropWhile (λo=>decide (r.mE<=o.mE))with
 |[]=>if p.root=true then{p with s:=err l p.s (holder p) a b 7}
  else
   let v:=value l rs depth {p with st:=[]} p.doc a
   {v.1 with root:=v.2}
 |o::q=>if o.has=true then{p with s:=err l p.s (holder p) a b 7}
  else
   let v:=value l rs depth {p with st:=o::q} o.cur a
   {v.1 with st:={o with has:=v.2}::q}
def Fj:List Op->Int
 |t::_=>t.cur
 |[]=>0
def places(l:List Tk)(depth b:Nat):PS->Int->List E->Bool×PS
 |p,_,[]=>(true,p)
 |p,up,e::es=>
  let q:=place l depth p e
  if q.1=0 then places l depth b q.2 (Fj q.2.st) es
  else(false,{p with s:=err l p.s up e.from' b q.1})
def body(l:List Tk)(rs:List R)(depth:Nat)(p:PS)(r:R):PS:=
 let a:=lo l r.from' r.au
 let b:=back l r.au a
 let p1:=nH p a
 let es:=Rw.su l r
 if es.1=[]then bare l rs depth p1 r a b
 else
  let q:=places l depth b p1 (holder p1) es.1
  if q.1=true then
   let x:=lo l es.2 r.au
   if x<back l r.au x then
    match q.2.st with
    |t::k=>
     let v:=value l rs depth q.2 t.cur x
     {v.1 with st:={t with has:=v.2}::k}
    |[]=>q.2
   else q.2
  else q.2
def row(l:List Tk)(rs:List R)(depth:Nat)(p0:PS)(r:R):PS:=
 let p:PS:={p0 with read:=r.au}
 if r.kind=4 then mark l rs depth p r
 else if r.kind=5 then body l rs depth p r
 else if r.kind=2\/r.kind=3 then
  let a:=lo l r.from' r.au
  let b:=back l r.au a
  if a<b then{nH p a with s:=err l (nH p a).s (holder (nH p a)) a b 8}else p
 else p
def p8(l:List Tk)(rs:List R)(depth:Nat):PS->List R->PS
 |p,[]=>p
 |p,r::k=>p8 l rs depth (if p.read<=r.from' then row l rs depth p r else p) k
def start(l:List Tk):PS:=⟨⟨um l.length,[]⟩,-1,false,[],0⟩
def read(l:List Tk)(depth:Nat):St:=(p8 l (Rw.mQ l) depth (start l) (Rw.mQ l)).s
def less(a b:Dg):Bool:=if a.f=b.f then(if a.t=b.t then decide (a.code<b.code)else decide (a.t<b.t))else decide (a.f<b.f)
def same(a b:Dg):Bool:=a.code==b.code&&a.f==b.f&&a.t==b.t
def sM(x:Dg):List Dg->List Dg
 |[]=>[x]
 |y::r=>if less x y=true then x::y::r else if same x y=true then y::r else y::sM x r
def sD(l:List Dg):List Dg:=l.foldl (λo x=>sM x o) []
def tX:Nat->Nat->List Nat->List Nat
 |0,_,_=>[]
 |f+1,p,l=>if l=[]then[]else if Sc.bad l=true then p::tX f (p+(Sc.qV l).2) (l.drop (Sc.qV l).2)else tX f (p+(Sc.qV l).2) (l.drop (Sc.qV l).2)
def part(b:List Nat)(f t:Nat):List Nat:=(b.drop f).take (t-f)
def tabs(b:List Nat)(l:List Tk)(r:R):List Dg:=
 if r.kind=5 then(List.range (lo l r.from' r.au-r.from')).filterMap (λi=>
  if raw l (r.from'+i)=3/\(part b (wu l (r.from'+i)) (too l (r.from'+i))).contains 9=true then some ⟨2,wu l (r.from'+i),too l (r.from'+i)⟩else none)
 else[]
def qU(b:List Nat)(x:Tk):List Dg:=
 if x.1=16\/x.1=17 then
  let q:=Qo.rU (x.1:Nat) ((part b x.2.1 x.2.2).map UInt8.ofNat)
  (if q.2.2=true then[]else[⟨3,x.2.1,x.2.2⟩])++q.2.1.map (λk=>⟨4,x.2.1+k,x.2.1+k+1⟩)
 else[]
def zf(b:List Nat)(l:List Tk):List Dg:=
 (tX b.length 0 b).map (λp=>⟨1,p,p+1⟩)++(Rw.mQ l).flatMap (tabs b l)++l.flatMap (qU b)
def tree(b:List Nat)(depth:Nat):List Tk×List Nd×List Dg:=
 if depth<1\/50<depth then([],[],[])
 else(Sc.tokens b,(read (Sc.tokens b) depth).t,sD ((read (Sc.tokens b) depth).d++zf b (Sc.tokens b)))
end Ps
namespace Rw
open Sc (xn fresh nP ni)
theorem Ma(l:List Tk):blanks l<=l.length:=by
 induction l with
 |nil=>exact mJ _
 |cons x r ih=>rw[blanks];split<;>simp<;>omega
theorem yo(l:List Tk)(k:Nat)(h:pz l=k)(hk:k≠0):l≠[]:=λe=>by rw[e]at h;exact hk h.symm
def Ord:Nat->Int->List E->Prop
 |_,_,[]=>True
 |p,c,e::r=>p<=e.from'/\e.from'<e.au/\c<e.mE/\(e.dash=true\/r=[])/\Ord e.au e.mE r
def DU(ts:List Tk)(i:Nat):Int:=(yQ ts i:Int)-(xw ts:Int)
theorem yX(ts:List Tk)(i:Nat)(x:Tk)(h:ts[i]?=some x):yQ ts i=x.2.1:=by
 have hi:=(nC.1 h).1;have e:ts[i]=x:=(nC.1 h).2;unfold yQ;rw[yE hi,e];rfl
theorem Ow{p:Nat}{ts:List Tk}(h:pI p ts)(i j:Nat)(hij:i<j)(hj:j<ts.length):DU ts i<DU ts j:=by
 have hx:=qQ (show i<ts.length by omega);have hy:=qQ hj;unfold DU;rw[yX ts i _ hx,yX ts j _ hy];have h1:=h.lt i j _ _ hij hx hy;have h2:=(h.le i _ hx).2;omega
theorem SA{p:Nat}{ts:List Tk}(h:pI p ts)(i:Nat)(hi:i<ts.length):-1<DU ts i:=by
 rcases DK i with rfl|hp
 ·unfold DU yQ;rw[Dz];omega
 have:=Ow h 0 i hp hi;have e:DU ts 0=0:=by unfold DU yQ;rw[Dz];omega
 omega
def uD(at':Nat)(ts:List Tk)(i:Nat):E:=⟨true,DU ts i,at'+i,at'+i+1⟩
theorem GA{q:Nat}{ts:List Tk}(ht:pI q ts)(at':Nat)(tail:List E):∀(f p:Nat)(a:Nat)(c:Int),a<=at'+p->(p<ts.length->c<DU ts p)->
 (∀(a:Nat)(c:Int),a<=at'+(p+qj f (ts.drop p))->(p+qj f (ts.drop p)<ts.length->c<DU ts (p+qj f (ts.drop p)))->Ord a c tail)->
 Ord a c ((qO f (ts.drop p)).map (λi=>uD at' ts (p+i))++tail)
 |0,p,a,c=>λh1 h2 h3=>by
  rw[qO,DD,zU];exact h3 a c (by rw[qj];exact h1) (by rw[qj];exact h2)
 |f+1,p,a,c=>λh1 h2 h3=>by
  rw[qO];rw[qj]at h3;by_cases hk:pz (ts.drop p)=5
  ·rw[gu hk]at h3⊢;have hp:p<ts.length:=by
    have:=yo _ 5 hk (by decide);rcases sJ p ts.length with h|h
    ·exact h
    exact absurd (uQ h) this
   obtain⟨n,hn⟩:=my (blanks ((ts.drop p).drop 1)+1);have hn1:1<=n:=by omega
   rw[hn]at h3⊢;rw[wU,Q5,xh,Ut];have e1:(ts.drop p).drop n=ts.drop (p+n):=by rw[sG]
   rw[e1]at h3⊢;have e2:((λi=>uD at' ts (p+i))∘λx=>x+n)=λi=>uD at' ts (p+n+i):=by
    funext i;show uD at' ts (p+(i+n))=_;rw[show p+(i+n)=p+n+i by omega]
   rw[e2];refine⟨h1,by show at'+p<at'+p+1;omega,h2 hp,.inl rfl,GA ht at' tail f (p+n) _ _ (by show at'+p+1<=_;omega) (λhlt=>Ow ht p (p+n) (by omega) hlt) ?_⟩;intro a2 c2 g1 g2;rw[show p+n+qj f (ts.drop (p+n))=p+(qj f (ts.drop (p+n))+n)by omega]at g1 g2;exact h3 a2 c2 g1 g2
  rw[fu hk]at h3⊢;rw[DD,zU];exact h3 a c h1 h2
theorem Kj(ts:List Tk):∀(f p:Nat),∀i∈qO f (ts.drop p),p+i<ts.length
 |0,_=>λi hi=>by cases hi
 |f+1,p=>λi hi=>by
  rw[qO]at hi;by_cases hk:pz (ts.drop p)=5
  ·rw[gu hk]at hi;have hp:p<ts.length:=by
    have:=yo _ 5 hk (by decide);rcases sJ p ts.length with h|h
    ·exact h
    exact absurd (uQ h) this
   rcases xg.1 hi with rfl|hi
   ·omega
   obtain⟨j,hj,rfl⟩:=AO.1 hi;rw[sG]at hj;have:=Kj ts f _ j hj;omega
  rw[fu hk]at hi;cases hi
theorem wB(l:List Tk)(n:Nat)(h:uS l=some n):1<=n/\n<=l.length/\l≠[]:=by
 unfold uS at h;by_cases hk:pz (l.drop (wD l))=6
 ·rw[gu hk]at h;injection h with h
  have hne:=yo _ 6 hk (by decide);have hlt:wD l<l.length:=by
   rcases sJ (wD l) l.length with g|g
   ·exact g
   exact absurd (uQ g) hne
  refine⟨by omega,by omega,λe=>by rw[e]at hlt;exact absurd hlt (BM _)⟩
 rw[fu hk]at h;cases h
theorem Kk(l:List Tk):ou l<=l.length:=by
 induction l with
 |nil=>exact mJ _
 |cons x r ih=>rw[ou];split<;>simp<;>omega
def wY(ts:List Tk):Nat:=ou ts+qj (ts.drop (ou ts)).length (ts.drop (ou ts))
def F8(at':Nat)(ts:List Tk):List E:=match uS (ts.drop (wY ts))with
 |some n=>[⟨false,DU ts (wY ts),at'+wY ts,at'+wY ts+n⟩]
 |none=>[]
theorem uu(at':Nat)(ts:List Tk):rT at' ts=(qO (ts.drop (ou ts)).length (ts.drop (ou ts))).map (λi=>uD at' ts (ou ts+i))++F8 at' ts:=by
 unfold rT F8;congr 1
 ·refine Wi λi _=>?_
  unfold uD DU;congr 1<;>omega
 show(match uS (ts.drop (wY ts))with|some n=>_|none=>_)=_;cases uS (ts.drop (wY ts))with
 |none=>rfl
 |some n=>
  dsimp only;congr 2
  ·unfold wY;omega
  unfold wY;omega
theorem Pm{q:Nat}{ts:List Tk}(ht:pI q ts)(at':Nat):Ord at' (-1) (rT at' ts):=by
 rw[uu];refine GA ht at' (F8 at' ts) _ (ou ts) at' (-1) (by omega) (λh=>SA ht _ h) ?_;intro a c h1 h2
 change a<=at'+wY ts at h1
 change wY ts<ts.length->c<DU ts (wY ts)at h2
 unfold F8;cases hk:uS (ts.drop (wY ts))with
 |none=>trivial
 |some n=>
  obtain⟨k1,k2,k3⟩:=wB _ n hk;have hq:wY ts<ts.length:=by
   rcases sJ (wY ts) ts.length with g|g
   ·exact g
   exact absurd (uQ g) k3
  exact⟨h1,by show at'+wY ts<at'+wY ts+n;omega,h2 hq,.inr rfl,trivial⟩
theorem SE(at':Nat)(ts:List Tk):∀e∈rT at' ts,e.au<=at'+ts.length:=by
 rw[uu];intro e he;rcases rQ.1 he with he|he
 ·obtain⟨i,hi,rfl⟩:=AO.1 he;have:=Kj ts _ _ i hi;show at'+(ou ts+i)+1<=_;omega
 unfold F8 at he;cases hk:uS (ts.drop (wY ts))with
 |none=>rw[hk]at he;cases he
 |some n=>
  rw[hk]at he;obtain rfl:=za.1 he;obtain⟨k1,k2,k3⟩:=wB _ n hk;have hq:wY ts<ts.length:=by
   rcases sJ (wY ts) ts.length with g|g
   ·exact g
   exact absurd (uQ g) k3
  rw[oz]at k2;show at'+wY ts+n<=_;omega
theorem FI(at':Nat)(ts:List Tk):(rT at' ts=[]->vH at' ts=at'+ou ts)/\(∀e,(rT at' ts).getLast?=some e->vH at' ts=e.au)/\vH at' ts<=at'+ts.length:=by
 have hl:=Kk ts;refine⟨λh=>by unfold vH;rw[h];rfl,λe h=>by unfold vH;rw[h],?_⟩;unfold vH;cases h:(rT at' ts).getLast? with
 |none=>show at'+ou ts<=_;omega
 |some e=>exact SE at' ts e (Uv h)
end Rw
namespace Ps
open Ar Fl
open Rw (R E)
theorem qD(l:List Tk)(a b:Nat):a<=lo l a b:=rX _ _ _
theorem lo_le(l:List Tk){a b:Nat}(h:a<=b):lo l a b<=b:=by
 have:=oW (λj=>!cnt (raw l j)) (b-a) a;unfold lo;omega
theorem Ce(l:List Tk){a b:Nat}(h:lo l a b<b):cnt (raw l (lo l a b))=true:=by
 have:=uJ (λj=>!cnt (raw l j)) (b-a) a;unfold lo at h⊢;rcases this with h1|h1
 ·have:=rX (λj=>!cnt (raw l j)) (b-a) a;omega
 simpa using h1
theorem wK(l:List Tk):∀(j m i:Nat),m<=i->i<j->cnt (raw l i)=true->i<back l j m
 |0,_,_=>λ_ h=>absurd h (BM _)
 |j+1,m,i=>λh1 h2 h3=>by
  rw[back];by_cases e:i=j
  ·subst e;rw[fu (by rw[h3];simp)];omega
  split
  ·exact wK l j m i h1 (by omega) h3
  omega
theorem Fp{l:List Tk}{i:Nat}{x:Tk}(h:l[i]?=some x):raw l i=x.1:=by unfold raw;rw[h]
theorem GB(l:List Tk):∀(n a:Nat)(x:Tk),Rw.pX ((l.drop a).take n)=some x->p9 (λj=>!cnt (raw l j)) n a<a+n/\l[p9 (λj=>!cnt (raw l j)) n a]?=some x/\cnt x.1=true
 |0,a,x=>λh=>by rw[AU]at h;cases h
 |n+1,a,x=>λh=>by
  rw[p9];cases hy:l[a]? with
  |none=>
   rw[uQ (by rw[F5]at hy;exact hy),List.take_nil]at h;cases h
  |some y=>
   have ha:=(nC.1 hy).1;have e:l[a]=y:=(nC.1 hy).2;rw[yE ha,e,AR,Rw.pX]at h;rw[Fp hy];by_cases hc:Sc.counts y.1=true
   ·rw[gu hc]at h;injection h with h;subst h
    have hc':cnt y.1=true:=hc;rw[hc',fu (by simp)];exact⟨by omega,hy,rfl⟩
   rw[fu hc]at h;have hc':cnt y.1=false:=by
    have:¬cnt y.1=true:=hc
    simpa using this
   rw[hc',gu (by simp)];have:=GB l n (a+1) x h;exact⟨by omega,this.2⟩
structure tH(l:List Tk)(r:R):Prop where
 lt:r.from'<r.au
 le:r.au<=l.length
 body:r.kind=5->lo l r.from' r.au<r.au
 mark:r.kind=4->lo l r.from' r.au<r.au/\(raw l (lo l r.from' r.au)=20\/raw l (lo l r.from' r.au)=21)
theorem vk(l:List Tk):∀(n op fr:Nat),l.length-fr<=n->(∀r∈Rw.vz op fr (l.drop fr),tH l r/\fr<=r.from')/\(fr<l.length->∃r∈Rw.vz op fr (l.drop fr),r.au=l.length)
 |0,op,fr=>λh=>by
  rw[uQ (by omega)];exact⟨λr hr=>(by cases hr),λh=>(by omega)⟩
 |n+1,op,fr=>λh=>by
  by_cases hfr:fr<l.length
  ·have hne:l.drop fr≠[]:=λe=>by
    have:=congrArg List.length e;rw[oz,sH]at this;omega
   rw[Rw.Be _ _ _ hne];have hp:=Rw.xI _ hne;have hle:=Rw.FF (l.drop fr);rw[oz]at hle;obtain⟨k,hk⟩:=my (Rw.rC (l.drop fr));rw[hk]at hp hle⊢;rw[sG];have aa:fr<fr+k:=by omega
   have hkl:fr+k<=l.length:=by omega
   obtain⟨h1,h2⟩:=vk l n (Rw.wV op ((l.drop fr).take k)) (fr+k) (by omega);have hkind:Rw.kindOf (decide (0<op)) ((l.drop fr).take k)=5\/Rw.kindOf (decide (0<op)) ((l.drop fr).take k)=4->
    lo l fr (fr+k)<fr+k/\(Rw.kindOf (decide (0<op)) ((l.drop fr).take k)=4->raw l (lo l fr (fr+k))=20\/raw l (lo l fr (fr+k))=21):=by
    intro hq;unfold Rw.kindOf at hq⊢;by_cases h19:Rw.pz ((l.drop fr).take k)=19
    ·rw[gu h19]at hq;rcases hq with hq|hq<;>cases hq
    rw[fu h19]at hq⊢;cases hf:Rw.pX ((l.drop fr).take k)with
    |none=>
     rw[hf]at hq;dsimp only at hq;split at hq<;>rcases hq with hq|hq<;>cases hq
    |some x=>
     obtain⟨g1,g2,g3⟩:=GB l k fr x hf;have e:lo l fr (fr+k)=p9 (λj=>!cnt (raw l j)) k fr:=by unfold lo;rw[UC]
     rw[e];refine⟨g1,λh4=>?_⟩;dsimp only at h4;rw[Fp g2];by_cases hm:Rw.yP x.1=true
     ·unfold Rw.yP at hm;simpa using hm
     rw[fu hm]at h4;split at h4<;>cases h4
   refine⟨λr hr=>?_,λ_=>?_⟩
   ·rcases xg.1 hr with rfl|hr
    ·exact⟨⟨aa,hkl,λh5=>(hkind (.inl h5)).1,λh4=>⟨(hkind (.inr h4)).1,(hkind (.inr h4)).2 h4⟩⟩,mJ _⟩
    exact⟨(h1 r hr).1,by have:=(h1 r hr).2;clear h2;omega⟩
   by_cases he:fr+k<l.length
   ·obtain⟨r,hr,hr2⟩:=h2 he;exact⟨r,Re _ hr,hr2⟩
   exact⟨_,Nr ..,by clear h2;show fr+k=_;omega⟩
  rw[uQ (by omega)];exact⟨λr hr=>(by cases hr),λh=>absurd h hfr⟩
theorem rows_ok(l:List Tk):∀r∈Rw.mQ l,tH l r:=λr hr=>((vk l l.length 0 0 (by omega)).1 r (by rw[Dz];exact hr)).1
theorem CF(l:List Tk)(h:0<l.length):∃r∈Rw.mQ l,r.au=l.length:=by
 have:=(vk l l.length 0 0 (by omega)).2 h;rw[Dz]at this;exact this
theorem IM(l:List Tk)(next:Nat)(none':Bool)(h1:next<=l.length)(h2:none'=true->next<l.length)(h3:0<l.length):next<=wT (Rw.mQ l) next none'/\wT (Rw.mQ l) next none'<=l.length:=by
 unfold wT;cases hf:(Rw.mQ l).find? (λr=>!(decide (r.au<next)||(none' &&r.au==next)))with
 |some r=>
  have hm:=List.mem_of_find?_eq_some hf;have hp:=List.find?_some hf;simp at hp;exact⟨hp.1,(rows_ok l r hm).le⟩
 |none=>
  exfalso;rw[List.find?_eq_none]at hf;obtain⟨r,hr,he⟩:=CF l h3;have:=hf r hr;simp[he]at this;have h4:=this h1;have:=h2 h4.1;omega
theorem Kl(ts:List Tk):∀(f p:Nat),∀i∈Rw.qO f (ts.drop p),∃x,ts[p+i]?=some x/\x.1=5
 |0,_=>λi hi=>by cases hi
 |f+1,p=>λi hi=>by
  rw[Rw.qO]at hi;by_cases hk:Rw.pz (ts.drop p)=5
  ·rw[gu hk]at hi;rcases xg.1 hi with rfl|hi
   ·rw[xh];cases hx:ts[p]? with
    |none=>
     rw[uQ (by rw[F5]at hx;exact hx)]at hk;cases hk
    |some x=>
     have hp:=(nC.1 hx).1;have e:ts[p]=x:=(nC.1 hx).2;rw[yE hp,e]at hk;exact⟨x,rfl,hk⟩
   obtain⟨j,hj,rfl⟩:=AO.1 hi;rw[sG]at hj;obtain⟨x,h1,h2⟩:=Kl ts f _ j hj;exact⟨x,by rw[<-h1];congr 1;omega,h2⟩
  rw[fu hk]at hi;cases hi
theorem Pn(at':Nat)(ts:List Tk):∀e∈Rw.rT at' ts,at'<e.au/\∃x,ts[e.au-1-at']?=some x/\(x.1=5\/x.1=6):=by
 rw[Rw.uu];intro e he;rcases rQ.1 he with he|he
 ·obtain⟨i,hi,rfl⟩:=AO.1 he;obtain⟨x,h1,h2⟩:=Kl ts _ _ i hi;refine⟨by show at'<at'+_+1;omega,x,?_,.inl h2⟩;show ts[at'+(Rw.ou ts+i)+1-1-at']?=_;rw[show at'+(Rw.ou ts+i)+1-1-at'=Rw.ou ts+i by omega];exact h1
 unfold Rw.F8 at he;cases hk:Rw.uS (ts.drop (Rw.wY ts))with
 |none=>rw[hk]at he;cases he
 |some n=>
  rw[hk]at he;obtain rfl:=za.1 he;unfold Rw.uS at hk;by_cases h6:Rw.pz ((ts.drop (Rw.wY ts)).drop (Rw.wD (ts.drop (Rw.wY ts))))=6
  ·rw[gu h6]at hk;injection hk with hk
   obtain⟨a,ha⟩:=my (Rw.wD (ts.drop (Rw.wY ts)));rw[ha]at hk h6;rw[sG]at h6;refine⟨by show at'<at'+_+n;omega,?_⟩;show∃x,ts[at'+Rw.wY ts+n-1-at']?=some x/\_;rw[show at'+Rw.wY ts+n-1-at'=Rw.wY ts+a by omega];cases hx:ts[Rw.wY ts+a]? with
   |none=>
    rw[uQ (by rw[F5]at hx;exact hx)]at h6;cases h6
   |some x=>
    have hp:=(nC.1 hx).1;have e:ts[Rw.wY ts+a]=x:=(nC.1 hx).2;rw[yE hp,e]at h6;exact⟨x,rfl,.inr h6⟩
  rw[fu h6]at hk;cases hk
def xA(l:List Tk)(b:Nat):Nat->List E->Prop
 |_,[]=>True
 |p,e::r=>p<=e.from'/\e.from'<e.au/\e.au<=b/\xA l b e.au r
theorem Dc(l:List Tk)(b:Nat):∀(es:List E)(p:Nat)(c:Int),Rw.Ord p c es->(∀e∈es,e.au<=b)->xA l b p es
 |[],_,_=>λ_ _=>trivial
 |e::r,p,c=>fun⟨h1,h2,_,_,h5⟩ hb=>⟨h1,h2,hb e (by simp),Dc l b r _ _ h5 (λx hx=>hb x (by simp[hx]))⟩
theorem zq{l:List Tk}{r:R}(ht:Rw.pI 0 l)(h:tH l r)(h5:r.kind=5):
 xA l (back l r.au (lo l r.from' r.au)) (lo l r.from' r.au) (Rw.su l r).1/\(∀e,(Rw.su l r).1.getLast?=some e->(Rw.su l r).2=e.au)/\((Rw.su l r).1=[]->(Rw.su l r).2=lo l r.from' r.au)/\(Rw.su l r).2<=r.au:=by
 have hlt:=h.lt;have hle:=h.le;obtain⟨ts,hts⟩:=my ((l.drop r.from').take (r.au-r.from'));have af:Rw.su l r=(Rw.rT r.from' ts,Rw.vH r.from' ts):=by unfold Rw.su;rw[gu h5,hts]
 have hlen:ts.length=r.au-r.from':=by rw[<-hts,qx,oz];omega
 have hget:∀i x,ts[i]?=some x->l[r.from'+i]?=some x/\i<r.au-r.from':=by
  intro i x hx;have hi:=(nC.1 hx).1;rw[<-hts,Lg (by omega),xP]at hx;exact⟨hx,by omega⟩
 obtain⟨q,hq⟩:=Rw.pI.drop ht r.from';have ag:Rw.pI q ts:=by rw[<-hts];exact Rw.Ev _ _ hq
 have hlead:r.from'+Rw.ou ts=lo l r.from' r.au:=by
  have key:∀(n a:Nat),a+n<=l.length->a+Rw.ou ((l.drop a).take n)=p9 (λj=>!cnt (raw l j)) n a:=by
   intro n
   induction n with
   |zero=>intro a _;rw[AU];rfl
   |succ n ih=>
    intro a ha;have hx:l[a]?=some l[a]:=qQ (by omega);rw[yE (by omega),AR,Rw.ou,p9,Fp hx];by_cases hc:Sc.counts (l[a]).1=true
    ·have hc':cnt (l[a]).1=true:=hc;rw[gu hc,hc',fu (by simp)];rfl
    have hc':cnt (l[a]).1=false:=by
     have:¬cnt (l[a]).1=true:=hc
     simpa using this
    rw[fu hc,hc',gu (by simp),<-ih (a+1) (by omega)];omega
  have:=key (r.au-r.from') r.from' (by omega);rw[hts]at this;exact this
 rw[af];obtain⟨a,ha⟩:=my (lo l r.from' r.au);rw[ha]at hlead⊢;have ae:=Rw.Pm ag r.from';refine⟨Dc l _ _ a (-1) ?_ (λe he=>?_),(Rw.FI r.from' ts).2.1,λhe=>by rw[<-hlead];exact(Rw.FI r.from' ts).1 he,by have:=(Rw.FI r.from' ts).2.2;show Rw.vH r.from' ts<=_;omega⟩
 ·
  show Rw.Ord a (-1) (Rw.rT r.from' ts);have aa:∀e,(Rw.rT r.from' ts).head?=some e->a<=e.from':=by
   intro e he;have he:e∈Rw.rT r.from' ts:=List.mem_of_head? he;rw[Rw.uu]at he;rcases rQ.1 he with he|he
   ·obtain⟨i,_,rfl⟩:=AO.1 he;show a<=r.from'+(Rw.ou ts+i);omega
   unfold Rw.F8 at he;cases hk:Rw.uS (ts.drop (Rw.wY ts))with
   |none=>rw[hk]at he;cases he
   |some n=>
    rw[hk]at he;obtain rfl:=za.1 he;show a<=r.from'+Rw.wY ts;unfold Rw.wY;omega
  cases hes:Rw.rT r.from' ts with
  |nil=>trivial
  |cons e k=>
   rw[hes]at ae aa;obtain⟨h1,h2,h3⟩:=ae;exact⟨aa e rfl,h2,h3⟩
 obtain⟨c1,x,c2,c3⟩:=Pn r.from' ts e he;obtain⟨g1,g2⟩:=hget _ x c2
 have:=wK l r.au a (e.au-1) (by
  have hmem:a<=e.au-1:=by
   rw[Rw.uu]at he;rcases rQ.1 he with he|he
   ·obtain⟨i,_,rfl⟩:=AO.1 he;show a<=r.from'+(Rw.ou ts+i)+1-1;omega
   unfold Rw.F8 at he;cases hk:Rw.uS (ts.drop (Rw.wY ts))with
   |none=>rw[hk]at he;cases he
   |some n=>
    rw[hk]at he;obtain rfl:=za.1 he;have:=Rw.wB _ n hk;show a<=r.from'+Rw.wY ts+n-1;unfold Rw.wY;omega
  exact hmem) (by omega) (by
  rw[show e.au-1=r.from'+(e.au-1-r.from')by omega,Fp g1]
  rcases c3 with c3|c3<;>rw[c3]<;>rfl)
 omega
end Ps
namespace Rw
def qI(ts:List Tk):Nat:=match pX ts with
 |none=>1
 |some x=>if yP x.1=true then 4 else 5
theorem Po(b:Bool)(ts:List Tk):kindOf b ts=if pz ts=19 then 2 else if b=true/\qI ts≠4 then 3 else qI ts:=by
 unfold kindOf qI;split
 ·rfl
 cases pX ts with
 |none=>cases b<;>rfl
 |some x=>
  dsimp only;by_cases hm:yP x.1=true<;>cases b<;>simp[hm]
theorem Mb(l:List Tk)(fr i:Nat)(x:Tk)(h:l[fr+i]?=some x):(l.drop fr).take (i+1)=(l.drop fr).take i++[x]:=by
 rw[Ir,xP,h];rfl
theorem Jg(l:List Tk)(fr i:Nat)(y:Tk)(h:l[fr]?=some y)(hi:0<i):xw ((l.drop fr).take i)=y.2.1:=by
 have hf:=(nC.1 h).1;have e:l[fr]=y:=(nC.1 h).2;obtain⟨j,rfl⟩:∃j,i=j+1:=⟨i-1,by omega⟩
 rw[yE hf,e,AR];rfl
theorem Jh(l:List Tk)(fr i:Nat)(y:Tk)(h:l[fr]?=some y)(hi:0<i):pz ((l.drop fr).take i)=y.1:=by
 have hf:=(nC.1 h).1;have e:l[fr]=y:=(nC.1 h).2;obtain⟨j,rfl⟩:∃j,i=j+1:=⟨i-1,by omega⟩
 rw[yE hf,e,AR];rfl
theorem Mc(ts:List Tk)(x:Tk):qI (ts++[x])=if(pX ts).isNone=true/\Sc.counts x.1=true then(if yP x.1=true then 4 else 5)else qI ts:=by
 unfold qI;rw[Bd];cases pX ts with
 |some y=>simp
 |none=>
  dsimp only;by_cases hc:Sc.counts x.1=true
  ·rw[gu hc,gu ⟨rfl,hc⟩]
  rw[fu hc,fu (λh=>hc h.2)]
theorem rH(ts:List Tk)(x:Tk):uC (ts++[x])=if(pX ts).isNone=true/\Sc.counts x.1=true then(x.2.1:Int)-(xw (ts++[x]):Int)else uC ts:=by
 unfold uC;rw[Bd];cases hf:pX ts with
 |some y=>
  have hne:ts≠[]:=λe=>by rw[e]at hf;cases hf
  have:xw (ts++[x])=xw ts:=by
   cases ts with
   |nil=>exact absurd rfl hne
   |cons z r=>rfl
  simp[this]
 |none=>
  dsimp only;by_cases hc:Sc.counts x.1=true
  ·rw[gu hc,gu ⟨rfl,hc⟩]
  rw[fu hc,fu (λh=>hc h.2)]
theorem SF{p:Nat}{ts:List Tk}(h:pI p ts):(uC ts<0)↔(pX ts).isNone=true:=by
 have:=Vg h;cases hf:pX ts with
 |none=>rw[hf]at this;simp at this;simp;omega
 |some x=>rw[hf]at this;simp at this;simp;omega
theorem Pp(l:List Tk)(fr i:Nat)(hi:0<i)(h:∀j x,j+1<i->l[fr+j]?=some x->ends x=false)(hn:fr+i=l.length\/∃x,l[fr+i-1]?=some x/\ends x=true):rC (l.drop fr)=i:=by
 refine Sn _ i hi (λj x hj hx=>h j x hj (by rw[xP]at hx;exact hx)) ?_;rcases hn with h1|⟨x,h1,h2⟩
 ·left;rw[oz];omega
 right;refine⟨x,?_,h2⟩;rw[xP,show fr+(i-1)=fr+i-1 by omega];exact h1
theorem Md(l:List Tk)(op fr:Nat)(h:fr<l.length):vz op fr (l.drop fr)=
 ⟨kindOf (decide (0<op)) ((l.drop fr).take (rC (l.drop fr))),fr,fr+rC (l.drop fr),uC ((l.drop fr).take (rC (l.drop fr)))⟩::vz (wV op ((l.drop fr).take (rC (l.drop fr)))) (fr+rC (l.drop fr)) (l.drop (fr+rC (l.drop fr))):=by
 rw[Be op fr (l.drop fr) (by intro e;have:=congrArg List.length e;rw[oz]at this;simp at this;omega),sG]
theorem Me(l:List Tk)(op fr:Nat)(h:l.length<=fr):vz op fr (l.drop fr)=[]:=by
 rw[uQ h];rfl
theorem SG(l:List Tk)(n:Nat)(h:∀j x,j<n->l[j]?=some x->Sc.counts x.1=false)(hn:n=l.length\/∃x,l[n]?=some x/\Sc.counts x.1=true):ou l=n:=by
 induction l generalizing n with
 |nil=>
  rcases hn with h1|⟨x,h1,_⟩
  ·exact h1.symm
  simp at h1
 |cons y r ih=>
  rw[ou];cases n with
  |zero=>
   rcases hn with h1|⟨x,h1,h2⟩
   ·simp at h1
   obtain rfl:y=x:=by simpa using h1
   rw[gu h2]
  |succ n=>
   rw[fu (by rw[h 0 y (by omega) rfl];decide),ih n (λj x hj hx=>h (j+1) x (by omega) (by simpa using hx)) (by
    rcases hn with h1|⟨x,h1,h2⟩
    ·left;rw[nI]at h1;omega
    right;exact⟨x,by simpa using h1,h2⟩)]
theorem Ex:∀(f g:Nat)(l:List Tk),l.length<=f->l.length<=g->qO f l=qO g l/\qj f l=qj g l
 |0,g,l=>λh _=>by
  obtain rfl:l=[]:=uV (by omega);cases g with
  |zero=>exact⟨rfl,rfl⟩
  |succ g=>rw[qO,qO,qj,qj];exact⟨by rw[fu (by decide)],by rw[fu (by decide)]⟩
 |f+1,0,l=>λ_ h=>by
  obtain rfl:l=[]:=uV (by omega);rw[qO,qO,qj,qj];exact⟨by rw[fu (by decide)],by rw[fu (by decide)]⟩
 |f+1,g+1,l=>λh1 h2=>by
  rw[qO,qO,qj,qj];by_cases hk:pz l=5
  ·rw[gu hk,gu hk,gu hk,gu hk];have ih:=Ex f g (l.drop (blanks (l.drop 1)+1)) (by rw[oz];omega) (by rw[oz];omega);rw[ih.1,ih.2];exact⟨rfl,rfl⟩
  rw[fu hk,fu hk,fu hk,fu hk];exact⟨rfl,rfl⟩
theorem Ey:∀(f g:Nat)(l:List Tk),l.length<=f->l.length<=g->tF f l=tF g l
 |0,g,l=>λh _=>by
  obtain rfl:l=[]:=uV (by omega);cases g with
  |zero=>rfl
  |succ g=>rw[tF,tF,fu (by decide)]
 |f+1,0,l=>λ_ h=>by
  obtain rfl:l=[]:=uV (by omega);rw[tF,tF,fu (by decide)]
 |f+1,g+1,l=>λh1 h2=>by
  rw[tF,tF];by_cases hk:isProp (pz l)=true
  ·rw[gu hk,gu hk,Ey f g _ (by rw[oz];omega) (by rw[oz];omega)]
  rw[fu hk,fu hk]
theorem Mf(l:List Tk)(h:pz l=5):qO l.length l=0::(qO (l.drop (blanks (l.drop 1)+1)).length (l.drop (blanks (l.drop 1)+1))).map (·+(blanks (l.drop 1)+1))/\qj l.length l=qj (l.drop (blanks (l.drop 1)+1)).length (l.drop (blanks (l.drop 1)+1))+(blanks (l.drop 1)+1):=by
 have hne:=yo l 5 h (by decide);cases hl:l.length with
 |zero=>exact absurd (uV hl) hne
 |succ f=>
  rw[qO,qj,gu h,gu h];have:=Ex f (l.drop (blanks (l.drop 1)+1)).length (l.drop (blanks (l.drop 1)+1)) (by rw[oz];omega) (mJ _);rw[this.1,this.2];exact⟨rfl,rfl⟩
theorem Mg(l:List Tk)(h:pz l≠5):qO l.length l=[]/\qj l.length l=0:=by
 cases hl:l.length with
 |zero=>exact⟨rfl,rfl⟩
 |succ f=>rw[qO,qj,fu h,fu h];exact⟨rfl,rfl⟩
theorem Mh(l:List Tk)(h:isProp (pz l)=true):tF l.length l=tF (l.drop (blanks (l.drop 1)+1)).length (l.drop (blanks (l.drop 1)+1))+(blanks (l.drop 1)+1):=by
 have hne:l≠[]:=λe=>by rw[e]at h;exact absurd h (by decide)
 cases hl:l.length with
 |zero=>exact absurd (uV hl) hne
 |succ f=>rw[tF,gu h,Ey f (l.drop (blanks (l.drop 1)+1)).length _ (by rw[oz];omega) (mJ _)]
theorem Mi(l:List Tk)(h:isProp (pz l)=false):tF l.length l=0:=by
 cases hl:l.length with
 |zero=>rfl
 |succ f=>rw[tF,fu (by rw[h];decide)]
end Rw
section
open Rw (Tk)
theorem yn:∀(f op at':Nat)(l:List Tk),(Rw.p8 f op at' l).length<=f
 |0,_,_,_=>nO _
 |f+1,op,at',l=>by
  rw[Rw.p8];by_cases hl:l=[]
  ·rw[gu hl];exact nO _
  rw[fu hl,nI];have:=yn f;exact Nat.succ_le_succ (this _ _ _)
theorem Ez(l:List Tk):(Rw.mQ l).length<=l.length:=yn _ _ _ _
end
end Go.Proofs.Ytfbiffdmhcjhbaa

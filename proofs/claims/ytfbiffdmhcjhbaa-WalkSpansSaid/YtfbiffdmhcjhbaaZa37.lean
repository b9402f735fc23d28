import Derived.Test.YtfbiffdmhcjhbaaZa31
import Derived.Test.YtfbiffdmhcjhbaaZa33
set_option linter.all false
set_option maxHeartbeats 16000000
set_option maxRecDepth 100000
set_option synthInstance.maxSize 4000
set_option synthInstance.maxHeartbeats 0
namespace Go.Proofs.Ytfbiffdmhcjhbaa
open Go.RowKit Try
namespace Ar
def vI(l:List Nd)(i:Nat)(x:Nd):Int->List Int->Bool
 |_,[]=>true
 |p,n::r=>if n<=0\/(l.length:Int)<=n then false else match l[n.toNat]? with
  |none=>false
  |some c=>if c.u≠(i:Int)\/c.f<p\/x.t<c.t\/c.t<c.f then false else vI l i x c.t r
def yC(l:List Nd)(i:Nat):Bool:=match l[i]? with
 |none=>false
 |some x=>vI l i x x.f x.ks
def yD(l:List Nd)(i:Nat)(n:Nat):Nat:=((l.take i).flatMap (·.ks)).countP (λz=>z==(n:Int))
def yf(l:List Nd)(n:Int):Bool:=match l with
 |[]=>false
 |x::_=>!(decide (x.k≠1)||decide (x.f≠0)||decide (x.t≠n)||decide (x.u≠-1)||decide (n<0))
def tT(l:List Nd)(i:Nat):Bool:=match l[i]? with
 |none=>false
 |some x=>!(decide (0<i)&&(decide (x.u<0)||decide ((i:Int)<=x.u)))&&yC l i
def checkN(l:List Nd)(n:Int):Bool:=yf l n&&(List.range l.length).all (tT l)&&(List.range l.length).all (λi=>i==0||yD l l.length i==1)
end Ar
namespace Ar
theorem KU(l:List Nd)(i:Nat)(x:Nd):∀(ks:List Int)(p:Int),(∀z∈ks,∃(j:Nat)(y:Nd),z=(j:Int)/\0<j/\l[j]?=some y/\y.u=(i:Int)/\p<=y.f/\y.f<=y.t/\y.t<=x.t)->
 ks.Pairwise (Gc l)->vI l i x p ks=true
 |[],p=>λ_ _=>rfl
 |z::r,p=>λhk ho=>by
  obtain⟨j,y,rfl,h0,hy,h1,h2,h3,h4⟩:=hk z (by simp);have hj:=(nC.1 hy).1;rw[vI,fu (by omega),oN,hy];dsimp only;rw[fu (by omega)];rw[AQ]at ho;refine KU l i x r y.t (λz hz=>?_) ho.2;obtain⟨j',y',rfl,g0,gy,g1,g2,g3,g4⟩:=hk z (by simp[hz]);exact⟨j',y',rfl,g0,gy,g1,(ho.1 _ hz).2 y y' (by rw[oN];exact hy) (by rw[oN];exact gy),g3,g4⟩
theorem JO.check{l:List Nd}{n:Int}(h:Ck l n):checkN l n=true:=by
 unfold checkN;rw[vY,vY];refine⟨⟨?_,?_⟩,?_⟩
 ·obtain⟨x,r,rfl,h1,h2,h3,h4,h5⟩:=h.first;simp[yf,h1,h2,h3,h4,h5]
 ·rw[Io];intro i hi;rw[AP]at hi;obtain⟨x,hx⟩:=pG l i hi;have hk:yC l i=true:=by
   unfold yC;rw[hx];exact KU l i x x.ks x.f (λz hz=>by obtain⟨j,y,h1,h2,h3,h4,h5,h6,h7⟩:=h.kid i x hx z hz;exact⟨j,y,h1,h2,h3,h4,h5,h6,h7.elim id False.elim⟩) (h.ord i x hx)
  unfold tT;rw[hx];dsimp only;rw[hk];rcases DK i with rfl|h0
  ·simp
  have:=h.up i x h0 hx;rw[show decide (x.u<0)=false from nK (by omega),show decide ((i:Int)<=x.u)=false from nK (by omega)];simp
 rw[Io];intro i hi;rw[AP]at hi;rcases DK i with rfl|h0
 ·rfl
 have:=h.seen i h0 hi;unfold yD;rw[Iu,this];simp
end Ar
namespace Sq
open Go.RowKit
variable {α:Type}
variable {E:qP α}{w w':World}{v:Value}{l:List α}
theorem MX{a:Option Addr}{cap lo hi:Nat}(h:Reads E w (.slice a l.length cap) l)(h1:lo<=hi)(h2:hi<=l.length):
 Reads E w (.slice (if cap=lo then a else a.map λx=>x.add (lo*E.k)) (hi-lo) (cap-lo)) ((l.drop lo).take (hi-lo)):=by
 have hz:((l.drop lo).take (hi-lo)).length=hi-lo:=by rw[qx,oz];omega
 rcases h with⟨hv,h0⟩|⟨b,off,cap',hv,g2,g3,g4⟩
 ·obtain⟨rfl,-,rfl⟩:=sK hv;subst h0;obtain rfl:hi=0:=by simpa using h2
  obtain rfl:lo=0:=by omega
  exact .inl ⟨rfl,rfl⟩
 obtain⟨rfl,-,rfl⟩:=sK hv;by_cases hc:cap=lo
 ·rw[gu hc];refine .inr ⟨b,off,cap-lo,by rw[hz],by omega,by omega,λj x hj=>?_⟩;have:=(nC.1 hj).1;omega
 rw[fu hc];refine .inr ⟨b,off+lo*E.k,cap-lo,?_,by omega,by omega,λj x hj i u hu=>?_⟩
 ·rw[hz,Lp,nX]
 have hj1:=(nC.1 hj).1;rw[Nn,gu (by omega),xP]at hj;rw[show off+lo*E.k+j*E.k+i=off+(lo+j)*E.k+i from by rw[xR];omega];exact g4 (lo+j) x hj i u hu
theorem Xc{P:Program}{t e:TypeId}{bytes:Nat}(T:Ty P E t e bytes){a:Option Addr}{cap n:Nat}(h:Reads E w (.slice a l.length cap) l)(hn:n<=l.length):
 ∃v,(∀W:World,(Instr.slice t (.slice a l.length cap) (some (.int .i64 (n:Int))) none none).run P W=.ok v W)/\Reads E w v (l.drop n):=by
 have hb:=MX h hn (mJ _);have hc:=h.B6;rw[DI (by rw[oz];exact mJ _)]at hb;refine⟨_,λW=>?_,hb⟩;rw[UQ W _ a l.length cap (by rw[T.he];exact T.ht) .i64 n (by omega) (by omega),T.he,T.size];simp[Result.andThen,sliced]
end Sq
section
open Go.RowKit
open Sq
open Ar
def Iz(l:List Nd)(i:Nat)(x:Nd)(p n:Int):Bool:=decide (n<=0)||decide ((l.length:Int)<=n)||match l[n.toNat]? with
 |none=>true
 |some c=>decide (c.u≠(i:Int))||decide (c.f<p)||decide (x.t<c.t)||decide (c.t<c.f)
theorem EW{l:List Nd}{i:Nat}{x:Nd}{p n:Int}{r:List Int}(h:Iz l i x p n=true):vI l i x p (n::r)=false:=by
 rw[vI];unfold Iz at h;split
 ·rfl
 rename_i hn;have h1:decide (n<=0)=false:=nK (λe=>hn (.inl e));have h2:decide ((l.length:Int)<=n)=false:=nK (λe=>hn (.inr e));rw[h1,h2]at h;split
 ·rfl
 rename_i c hc;rw[hc]at h;simp only[Nh,Nj,Nv]at h;rw[gu (by omega)]
theorem Dm{l:List Nd}{i:Nat}{x:Nd}{p n:Int}{r:List Int}(h:Iz l i x p n=false):∃c,0<n/\n<l.length/\l[n.toNat]?=some c/\vI l i x p (n::r)=vI l i x c.t r:=by
 unfold Iz at h;simp only[VY,Ws]at h;obtain⟨⟨h1,h2⟩,h3⟩:=h;cases hc:l[n.toNat]? with
 |none=>rw[hc]at h3;cases h3
 |some c=>
  rw[hc]at h3;simp only[VY,Ws]at h3;refine⟨c,by omega,by omega,rfl,?_⟩;rw[vI,fu (by omega),hc];dsimp only;rw[fu (by omega)]
theorem Hg{l:List Nd}{i:Nat}{x:Nd}:∀(ks:List Int)(p:Int),vI l i x p ks=true->∀z∈ks,0<=z/\z<l.length
 |[],p=>λ_ z hz=>by cases hz
 |n::r,p=>λh z hz=>by
  cases hb:Iz l i x p n with
  |true=>rw[EW hb]at h;cases h
  |false=>
   obtain⟨c,h1,h2,_,h4⟩:=Dm (r:=r) hb;rw[h4]at h;rcases xg.1 hz with rfl|hz
   ·omega
   exact Hg r c.t h z hz
theorem Ie{l:List Nd}{n:Int}(h:yf l n=false):checkN l n=false:=by unfold checkN;rw[h];rfl
theorem Jy{l:List Nd}{n:Int}(i:Nat)(hi:i<l.length)(h:tT l i=false):checkN l n=false:=by
 unfold checkN;have:(List.range l.length).all (tT l)=false:=by
  rw[List.all_eq_false];exact⟨i,AP.2 hi,by rw[h];decide⟩
 rw[this];simp
theorem Jz{l:List Nd}{n:Int}(i:Nat)(h0:0<i)(hi:i<l.length)(h:yD l l.length i≠1):checkN l n=false:=by
 unfold checkN;have:(List.range l.length).all (λi=>i==0||yD l l.length i==1)=false:=by
  rw[List.all_eq_false];exact⟨i,AP.2 hi,by simp;omega⟩
 rw[this];simp
theorem QC{l:List Nd}{n:Int}(h1:yf l n=true)(h2:∀i,i<l.length->tT l i=true)(h3:∀i,0<i->i<l.length->yD l l.length i=1):checkN l n=true:=by
 unfold checkN;rw[h1,Io.2 (λi hi=>h2 i (AP.1 hi)),Io.2 (λi hi=>?_)]
 ·rfl
 by_cases e:i=0
 ·simp[e]
 have:=h3 i (by omega) (AP.1 hi);simp[this]
end
namespace Wk
open Ar
def pre(l:List Nd):Nat->Int->List Int
 |0,_=>[]
 |f+1,k=>match l[k.toNat]? with
  |none=>[]
  |some x=>k::x.ks.flatMap (pre l f)
inductive It where
 |one (k:Int)
 |row (ks:List Int)
end Wk
namespace Wk
open Ar
theorem Hl{l:List Nd}(hK:∀(i:Nat)(x:Nd),l[i]?=some x->∀z∈x.ks,(i:Int)<z):∀(f g:Nat)(k:Int),0<=k->l.length<=k.toNat+f->l.length<=k.toNat+g->pre l f k=pre l g k
 |0,0,k=>λ_ _ _=>rfl
 |0,g+1,k=>λ_ h1 _=>by rw[pre,pre,xQ (by omega)]
 |f+1,0,k=>λ_ _ h2=>by rw[pre,pre,xQ (by omega)]
 |f+1,g+1,k=>λh0 h1 h2=>by
  rw[pre,pre];cases hx:l[k.toNat]? with
  |none=>rfl
  |some x=>
   dsimp only;congr 1;have key:∀ks:List Int,(∀z∈ks,(k.toNat:Int)<z)->ks.flatMap (pre l f)=ks.flatMap (pre l g):=by
    intro ks
    induction ks with
    |nil=>intro _;rfl
    |cons z r ih=>
     intro hz;have h3:=hz z Nr;rw[uW,uW,ih (λy hy=>hz y (Re _ hy)),Hl hK f g z (by omega) (by omega) (by omega)]
   exact key x.ks (hK _ x hx)
def zY(l:List Nd)(k:Int):List Int:=pre l l.length k
theorem TH{l:List Nd}{n:Int}(h:Ck l n):∀(i:Nat)(x:Nd),l[i]?=some x->∀z∈x.ks,(i:Int)<z:=λi x hx z hz=>by
 obtain⟨j,y,e1,e2,e3,e4,_⟩:=h.kid i x hx z hz;have:=h.up j y e2 e3;omega
theorem pre_some{l:List Nd}{n:Int}(h:Ck l n){k:Nat}{x:Nd}(hx:l[k]?=some x):zY l k=(k:Int)::x.ks.flatMap (zY l):=by
 have hl:=(nC.1 hx).1;have hK:=TH h;unfold zY;obtain⟨f,hf⟩:∃f,l.length=f+1:=⟨l.length-1,by omega⟩
 rw[hf,pre,oN,hx];dsimp only;congr 1;have key:∀ks:List Int,(∀z∈ks,(k:Int)<z)->ks.flatMap (pre l f)=ks.flatMap (pre l (f+1)):=by
  intro ks
  induction ks with
  |nil=>intro _;rfl
  |cons z r ih=>
   intro hz;have h3:=hz z Nr;rw[uW,uW,ih (λy hy=>hz y (Re _ hy)),Hl hK f (f+1) z (by omega) (by omega) (by omega)]
 exact key x.ks (hK k x hx)
def XI(l:List Nd):It->List Int
 | .one k=>zY l k
 | .row ks=>ks.flatMap (zY l)
def VX:It->List Int
 | .one k=>[k]
 | .row ks=>ks
structure Ord(l:List Nd)(O:List Int)(st:List It):Prop where
 pre:O++st.flatMap (XI l)=zY l 0
 cnt:∀(i:Nat)(y:Nd),l[i]?=some y->(O++st.flatMap VX).count (i:Int)=if i=0\/y.u∈O then 1 else 0
 Uk:∀k∈O++st.flatMap VX,∃i:Nat,k=(i:Int)/\i<l.length
 F3:∀A k B,O=A++k::B->k≠0->∀x,l[k.toNat]?=some x->x.u∈A
theorem Ord.start{l:List Nd}{n:Int}(h:Ck l n):Ord l [] [.one 0]:=by
 refine⟨by simp[XI],λi y hy=>?_,λk hk=>?_,λA k B e=>?_⟩
 ·show[(0:Int)].count (i:Int)=_;rw[V5];by_cases h0:i=0
  ·subst h0;rfl
  have h1:(0:Int)≠(i:Int):=by omega
  simp[h0,h1]
 ·have hk:k∈[(0:Int)]:=hk;obtain rfl:=za.1 hk;exact⟨0,rfl,h.pos⟩
 simp at e
theorem MY{l:List Nd}{n:Int}(h:Ck l n){i j:Nat}{x y:Nd}(hx:l[i]?=some x)(hy:l[j]?=some y):x.ks.count (j:Int)=if 0<j/\y.u=(i:Int)then 1 else 0:=by
 have hnd:x.ks.Nodup:=(h.ord i x hx).imp (fun{a b} hab e=>by have:=hab.1;omega);by_cases hm:(j:Int)∈x.ks
 ·obtain⟨j',y',e1,e2,e3,e4,_⟩:=h.kid i x hx _ hm;obtain rfl:j=j':=by omega
  rw[hy]at e3;injection e3 with e3
  subst e3;rw[gu ⟨e2,e4⟩];have h1:=Uw.1 hnd (j:Int);have h2:=Lc.2 hm;omega
 rw[Nl.2 hm,fu];rintro⟨h0,hu⟩;obtain⟨j',p,e1,e2,e3,e4,_⟩:=Ef h h0 hy;obtain rfl:i=j':=by omega
 rw[hx]at e3;injection e3 with e3
 subst e3;exact hm e4
theorem Ord.fresh{l:List Nd}{O:List Int}{st:List It}{i:Nat}{x:Nd}(hx:l[i]?=some x)(hO:Ord l O (.one i::st)):(i:Int)∉O/\(i≠0->x.u∈O):=by
 have h1:=hO.cnt i x hx;rw[uW,Lb,Lb]at h1;have h2:(VX (.one (i:Int))).count (i:Int)=1:=by show[(i:Int)].count (i:Int)=1;rw[V5];simp
 rw[h2]at h1;refine⟨λhm=>?_,λh0=>?_⟩
 ·have:=Lc.2 hm;split at h1<;>omega
 by_cases hu:x.u∈O
 ·exact hu
 rw[fu (λh=>h.elim h0 hu)]at h1;omega
theorem Ord.tell{l:List Nd}{n:Int}(h:Ck l n){O:List Int}{st:List It}{i:Nat}{x:Nd}(hx:l[i]?=some x)(hO:Ord l O (.one i::st)):Ord l (O++[(i:Int)]) (.row x.ks::st):=by
 obtain⟨f1,f2⟩:=hO.fresh hx;have hl:=(nC.1 hx).1;refine⟨?_,λj y hy=>?_,λk hk=>?_,λA k B e hk z hz=>?_⟩
 ·have:=hO.pre;rw[uW]at this⊢;rw[<-this];show _=O++(zY l (i:Int)++_)
  rw[pre_some h hx];show O++[(i:Int)]++(x.ks.flatMap (zY l)++_)=_;simp
 ·have h1:=hO.cnt j y hy;have h2:=MY h hx hy;rw[uW,Lb,Lb]at h1⊢;rw[Lb];have h3:(VX (.row x.ks)).count (j:Int)=x.ks.count (j:Int):=rfl;have h4:(VX (.one (i:Int))).count (j:Int)=[(i:Int)].count (j:Int):=rfl;rw[h3];rw[h4]at h1;by_cases hj0:j=0
  ·rw[fu (λh=>by omega)]at h2;rw[gu (.inl hj0)]at h1;rw[gu (.inl hj0)];omega
  by_cases hu:y.u=(i:Int)
  ·have hn:y.u∉O:=by rw[hu];exact f1
   rw[gu ⟨by omega,hu⟩]at h2;rw[fu (λh=>h.elim hj0 hn)]at h1;rw[gu (.inr (by rw[hu];exact Iq _ (za.2 rfl)))];omega
  rw[fu (λh=>hu h.2)]at h2;have e:(j=0\/y.u∈O++[(i:Int)])↔(j=0\/y.u∈O):=by
   rw[rQ,za];constructor
   ·rintro(h|h|h)
    ·exact .inl h
    ·exact .inr h
    exact absurd h hu
   rintro(h|h)
   ·exact .inl h
   exact .inr (.inl h)
  by_cases hc:j=0\/y.u∈O
  ·rw[gu hc]at h1;rw[gu (e.2 hc)];omega
  rw[fu hc]at h1;rw[fu (λh=>hc (e.1 h))];omega
 ·rw[uW,rQ,rQ,rQ]at hk;rcases hk with(hk|hk)|hk|hk
  ·exact hO.Uk k (Li _ hk)
  ·obtain rfl:=za.1 hk;exact⟨i,rfl,hl⟩
  ·obtain⟨j,y,e1,e2,e3,_⟩:=h.kid i x hx k hk;exact⟨j,e1,(nC.1 e3).1⟩
  exact hO.Uk k (Iq _ (by rw[uW];exact Iq _ hk))
 rcases Uo B with rfl|⟨B',b,rfl⟩
 ·have e2:O++[(i:Int)]=A++[k]:=e;obtain⟨e3,e4⟩:=QZ e2 rfl;injection e4 with e4
  subst e3 e4;rw[oN,hx]at hz;injection hz with hz
  subst hz;exact f2 (by omega)
 have e2:O++[(i:Int)]=(A++k::B')++[b]:=by rw[e];simp
 obtain⟨e3,e4⟩:=QZ e2 rfl;exact hO.F3 A k B' e3 hk z hz
theorem Ord.drop{l:List Nd}{O:List Int}{st:List It}(hO:Ord l O (.row []::st)):Ord l O st:=⟨hO.pre,hO.cnt,hO.Uk,hO.F3⟩
theorem Ord.next{l:List Nd}{O ks:List Int}{st:List It}{z:Int}(hO:Ord l O (.row (z::ks)::st)):Ord l O (.one z::.row ks::st):=by
 refine⟨?_,hO.cnt,hO.Uk,hO.F3⟩;have:=hO.pre;rw[uW]at this⊢;rw[<-this,uW];show O++(zY l z++(ks.flatMap (zY l)++_))=O++((z::ks).flatMap (zY l)++_)
 rw[uW,sF]
structure All(l:List Nd)(O:List Int):Prop where
 is:O=zY l 0
 perm:O.Perm ((List.range l.length).map (fun(i:Nat)=>(i:Int)))
 F3:∀A k B,O=A++k::B->k≠0->∀x,l[k.toNat]?=some x->x.u∈A
theorem Ord.done{l:List Nd}{n:Int}(h:Ck l n){O:List Int}(hO:Ord l O []):All l O:=by
 have hm:∀(i:Nat)(y:Nd),l[i]?=some y->O.count (i:Int)=1:=by
  intro i
  induction i using Nat.strongRecOn with
  |ind i ih=>
   intro y hy;have h1:=hO.cnt i y hy;rw[Le,rD]at h1;rw[h1,gu];rcases DK i with h0|h0
   ·exact .inl h0
   obtain⟨j,p,e1,e2,e3,_⟩:=Ef h h0 hy;have:=ih j e2 p e3;exact .inr (by rw[e1];exact Lc.1 (by omega))
 refine⟨?_,?_,hO.F3⟩
 ·have:=hO.pre;rw[Le,rD]at this;exact this
 rw[Wl];intro a;have hnd:((List.range l.length).map (fun(i:Nat)=>(i:Int))).Nodup:=by
  rw[Wj,List.pairwise_map];exact Ux.imp (fun{a b} hab e=>hab (by omega))
 by_cases ha:∃i:Nat,a=(i:Int)/\i<l.length
 ·obtain⟨i,rfl,hi⟩:=ha;have hx:l[i]?=some l[i]:=qQ hi;rw[hm i _ hx];have h1:=Uw.1 hnd (i:Int);have h2:0<((List.range l.length).map (fun(i:Nat)=>(i:Int))).count (i:Int):=Lc.2 (AO.2 ⟨i,AP.2 hi,rfl⟩)
  omega
 rw[Nl.2 (λhm=>ha (hO.Uk a (Li _ hm))),Nl.2 (λhm=>ha (by
  obtain⟨i,hi,rfl⟩:=AO.1 hm
  exact⟨i,rfl,AP.1 hi⟩))]
def FN(l:List Nd)(k:Int):Nat:=match l[k.toNat]? with
 |some x=>x.ks.length
 |none=>0
def QV(l:List Nd)(k:Int):Nat:=((zY l k).map (λm=>2*FN l m+3)).sum
def XP(l:List Nd):It->Nat
 | .one k=>QV l k+1
 | .row ks=>2*ks.length+1+(ks.map (QV l)).sum
def stM(l:List Nd)(st:List It):Nat:=(st.map (XP l)).sum
theorem QD{l:List Nd}{n:Int}(h:Ck l n){k:Nat}{x:Nd}(hx:l[k]?=some x):QV l k=2*x.ks.length+3+(x.ks.map (QV l)).sum:=by
 unfold QV;rw[pre_some h hx,wU,E7];have e:FN l (k:Int)=x.ks.length:=by unfold FN;rw[oN,hx]
 rw[e];congr 1
 induction x.ks with
 |nil=>rfl
 |cons z r ih=>
  rw[uW,Ip,List.sum_append,ih,wU,E7]
theorem QE{l:List Nd}{n:Int}(h:Ck l n){k:Nat}{x:Nd}(hx:l[k]?=some x)(st:List It):stM l (.row x.ks::st)<stM l (.one k::st):=by
 unfold stM;rw[wU,wU,E7,E7];show 2*x.ks.length+1+(x.ks.map (QV l)).sum+_<QV l k+1+_
 rw[QD h hx];omega
theorem QF(l:List Nd)(st:List It):stM l st<stM l (.row []::st):=by
 unfold stM;rw[wU,E7];show _<2*0+1+0+_
 omega
theorem QG(l:List Nd)(z:Int)(ks:List Int)(st:List It):stM l (.one z::.row ks::st)<stM l (.row (z::ks)::st):=by
 unfold stM;rw[wU,wU,wU,E7,E7,E7];show QV l z+1+(2*ks.length+1+(ks.map (QV l)).sum+_)<2*(z::ks).length+1+((z::ks).map (QV l)).sum+_
 rw[nI,wU,E7];omega
end Wk
section
open Go.RowKit
open Sq
open Ar
open Fl (Tk)
theorem XA(w:World)(a:Option Addr)(n c:Nat)(k:Int)(hn:n<=1000000)(hk:0<=k):
 Calls prog 49 #[.agg #[.slice a n c],.int .i64 k] w λe w'=>e=.returned (.bool (decide (k<n)))/\Below w.heap.size w w':=by
 have HB:=eu (mr w (.cells #[.slice a n c] 34));by_cases h:k<n
 ·rw[oP h]
  go_enter func49,ntmps49
  go_wp2_with fail
  go_ret;exact⟨rfl,HB.out⟩
 rw[nK h]
 go_enter func49,ntmps49
 go_wp2_with fail
 go_ret;exact⟨rfl,HB.out⟩
end
section
open Go.RowKit
open Sq
open Ar
open Fl (Tk)
namespace Wk
def yM(O:List Int)(i j:Nat):Int:=if(j:Int)∈O.take i then((O.idxOf (j:Int):Nat):Int)+1 else 0
def A9(O:List Int)(N i:Nat):List Int:=(List.range N).map (yM O i)
theorem BJ(O:List Int)(N i:Nat):(A9 O N i).length=N:=by unfold A9;rw[tV,Nq]
theorem QH(O:List Int)(N:Nat):A9 O N 0=List.replicate N 0:=by
 apply zT;intro j;unfold A9 yM;rw[r9,V8];by_cases h:j<N
 ·rw[V7 h,gu h];simp
 rw[xQ (by rw[Nq];omega),fu h];rfl
theorem zy(O:List Int)(N i j:Nat)(h:j<N):(A9 O N i)[j]?=some (yM O i j):=by
 unfold A9;rw[r9,V7 h];rfl
theorem TI{O:List Int}(hn:O.Nodup){i j:Nat}(h:O[i]?=some (j:Int)):yM O i j=0:=by
 unfold yM;rw[fu];intro hm;obtain⟨m,hlt,he⟩:=List.mem_take_iff_getElem.1 hm;obtain⟨hi,hx⟩:=nC.1 h;have h1:=hn.idxOf_getElem m (by omega);have h2:=hn.idxOf_getElem i hi;rw[he]at h1;rw[hx]at h2;omega
theorem QI{O:List Int}(hn:O.Nodup){i j N:Nat}(h:O[i]?=some (j:Int))(hj:j<N):(A9 O N i).set j ((i:Int)+1)=A9 O N (i+1):=by
 obtain⟨hi,hx⟩:=nC.1 h;apply zT;intro m;rw[E5];by_cases hm:m<N
 ·rw[zy O N (i+1) m hm,zy O N i m hm,BJ];have ht:O.take (i+1)=O.take i++[(j:Int)]:=by rw[Ir,h];rfl
  by_cases e:j=m
  ·subst e;rw[gu rfl,gu hj];unfold yM;rw[ht,gu (Iq _ (by simp))];have h2:=hn.idxOf_getElem i hi;rw[hx]at h2;rw[h2]
  rw[fu e];unfold yM;rw[ht];have:((m:Int)∈O.take i++[(j:Int)])↔(m:Int)∈O.take i:=by
   rw[rQ];constructor
   ·rintro(h|h)
    ·exact h
    exact absurd (za.1 h) (by omega)
   exact Or.inl
  by_cases hq:(m:Int)∈O.take i
  ·rw[gu hq,gu (this.2 hq)]
  rw[fu hq,fu (λh=>hq (this.1 h))]
 have hz:¬(j=m):=by omega
 rw[fu hz,xQ (by rw[BJ];omega),xQ (by rw[BJ];omega)]
theorem MZ{l:List Nd}{O:List Int}(h:All l O):O.Nodup:=by
 rw[h.perm.nodup_iff];exact List.Pairwise.map _ (λa b hab e=>hab (by omega)) Ux
theorem pK{l:List Nd}{O:List Int}(h:All l O):O.length=l.length:=by
 rw[h.perm.length_eq,tV,Nq]
theorem KV{l:List Nd}{O:List Int}(h:All l O)(k:Int):k∈O↔∃j:Nat,j<l.length/\k=(j:Int):=by
 rw[h.perm.mem_iff,AO];constructor
 ·rintro⟨j,hj,rfl⟩;exact⟨j,AP.1 hj,rfl⟩
 rintro⟨j,hj,rfl⟩;exact⟨j,AP.2 hj,rfl⟩
theorem VA{l:List Nd}{O:List Int}(h:All l O){i:Nat}(hi:i<l.length):∃j:Nat,O[i]?=some (j:Int)/\j<l.length:=by
 obtain⟨x,hx⟩:=pG O i (by rw[pK h];exact hi);obtain⟨j,hj,rfl⟩:=(KV h x).1 (sI hx);exact⟨j,hx,hj⟩
theorem VB{l:List Nd}{O:List Int}(h:All l O){i u:Nat}{x:Nd}(hi:0<i)(hx:l[i]?=some x)(hu:x.u=(u:Int)):yM O l.length u<yM O l.length i:=by
 have hil:=(nC.1 hx).1;obtain⟨A,B,hO,hA⟩:=List.eq_append_cons_of_mem ((KV h (i:Int)).2 ⟨i,hil,rfl⟩);have hup:=h.F3 A i B hO (by omega) x (by rw[oN];exact hx);rw[hu]at hup;have ht:O.take l.length=O:=DI (by rw[pK h];exact mJ _);unfold yM;rw[ht,hO,gu (Li _ hup),gu (Iq _ Nr),List.idxOf_append,gu hup,List.idxOf_append,fu hA,List.idxOf_cons];have:=Wd.2 hup;simp;omega
end Wk
end
end Go.Proofs.Ytfbiffdmhcjhbaa

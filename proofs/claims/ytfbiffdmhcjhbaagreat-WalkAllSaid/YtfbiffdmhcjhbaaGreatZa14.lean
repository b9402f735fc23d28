import Derived.Test.YtfbiffdmhcjhbaaGreatZa08
import Derived.Test.YtfbiffdmhcjhbaaGreatZa09
import Derived.Test.YtfbiffdmhcjhbaaGreatZa11
set_option linter.all false
set_option maxHeartbeats 16000000
set_option maxRecDepth 100000
set_option synthInstance.maxSize 4000
set_option synthInstance.maxHeartbeats 0
namespace Go.Proofs.YtfbiffdmhcjhbaaGreat
open Go.RowKit Tryz
namespace Ps
open Ar Fl
open Rw (R E)
structure Op where
 node:Int
 kind:Nat
 fo:Int
 cur:Int
 has:Bool
structure PS where
 s:St
 doc:Int
 root:Bool
 st:List Op
 read:Nat
def limit(l:List Tk)(i:Nat):Nat:=jh (λj=>raw l j !=20&&raw l j !=21) (l.length-i) i
def lo(l:List Tk)(a b:Nat):Nat:=jh (λj=>!cnt (raw l j)) (b-a) a
def qg(rs:List R)(next:Nat)(none':Bool):Nat:=match rs.find? (λr=>!(decide (r.au<next)||(none' &&r.au==next)))with
 |some r=>r.au
 |none=>0
def jo(l:List Tk)(s:St)(up:Int)(a b code:Nat):St:=if a<b then err l s up a b code else s
def rest(l:List Tk)(rs:List R)(p:PS)(up:Int)(next:Nat)(none':Bool):PS:=
 let r:=qg rs next none'
 let a:=lo l next r
 {p with s:=jo l p.s up a (back l r a) 8,read:=r}
def value(l:List Tk)(rs:List R)(depth:Nat)(p:PS)(up:Int)(i:Nat):PS×Bool:=
 let v:=gI l (limit l i) (depth-p.st.length) up i p.s
 (rest l rs {p with s:=v.2.2} up (if v.1<0 then i else max v.2.1 i) (decide (v.1<0)),decide (0<=v.1))
def gu(p:PS)(i:Nat):PS:=if p.doc<0 then{p with s:=(add p.s 0 2 i i).1,doc:=(add p.s 0 2 i i).2,root:=false,st:=[]}else p
def holder(p:PS):Int:=match p.st with
 |[]=>p.doc
 |t::_=>if t.has=true then t.node else t.cur
def mark(l:List Tk)(rs:List R)(depth:Nat)(p:PS)(r:R):PS:=
 let a:=lo l r.from' r.au
 let b:=back l r.au a
 if raw l a=20 then
  let q:=add p.s 0 2 a (a+1)
  let p1:PS:={p with s:=q.1,doc:=q.2,root:=false,st:=[]}
  let x:=lo l (a+1) r.au
  if x<back l r.au x then
   let v:=value l rs depth p1 p1.doc x
   {v.1 with root:=v.2}
  else p1
 else
  let s1:St:=if 0<=p.doc then⟨gJ p.s.t p.doc ((a+1:Nat):Int),p.s.d⟩else p.s
  let x:=lo l (a+1) b
  {p with s:=jo l s1 0 x (back l b x) 8,doc:=-1,st:=[]}
def kindOf(e:E):Nat:=if e.dash=true then 3 else 5
def cur(l:List Tk)(s:St)(node:Int)(e:E):St×Int:=if e.dash=true then add s node 4 e.from' e.au else pair l s node e.from' e.au
def again(l:List Tk)(p:PS)(o:Op)(r:List Op)(e:E):Nat×PS:=
 (0,{p with s:=(cur l p.s o.node e).1,st:={o with cur:=(cur l p.s o.node e).2,has:=false}::r})
def fresh(l:List Tk)(depth:Nat)(p:PS)(up:Int)(root:Bool)(st:List Op)(e:E):Nat×PS:=
 if depth<st.length+1 then(10,p)
 else
  let a:=add p.s up (kindOf e) e.from' e.au
  let c:=cur l a.1 a.2 e
  (0,{p with s:=c.1,root:=root,st:=⟨a.2,kindOf e,e.fo,c.2,false⟩::st})
def place(l:List Tk)(depth:Nat)(p:PS)(e:E):Nat×PS:=
 match p.st.dropWhile (λo=>decide (e.fo<o.fo))with
 |[]=>if p.root=true then(7,p)else fresh l depth p p.doc true [] e
 |o::r=>
  if o.fo=e.fo then
   if o.kind=kindOf e then again l p o r e
   else if kindOf e=3 then(if o.has=true then(5,p)else fresh l depth p o.cur p.root ({o with has:=true}::r) e)
   else match r with
    |o2::r2=>if o2.fo=e.fo/\o2.kind=5 then again l p o2 r2 e else(5,p)
    |[]=>(5,p)
  else if o.has=true then(6,p)else fresh l depth p o.cur p.root ({o with has:=true}::r) e
def bare(l:List Tk)(rs:List R)(depth:Nat)(p:PS)(r:R)(a b:Nat):PS:=
 match p.st.dropWhile (λo=>decide (r.fo<=o.fo))with
 |[]=>if p.root=true then{p with s:=err l p.s (holder p) a b 7}
  else
   let v:=value l rs depth {p with st:=[]} p.doc a
   {v.1 with root:=v.2}
 |o::q=>if o.has=true then{p with s:=err l p.s (holder p) a b 7}
  else
   let v:=value l rs depth {p with st:=o::q} o.cur a
   {v.1 with st:={o with has:=v.2}::q}
def zA:List Op->Int
 |t::_=>t.cur
 |[]=>0
def places(l:List Tk)(depth b:Nat):PS->Int->List E->Bool×PS
 |p,_,[]=>(true,p)
 |p,up,e::es=>
  let q:=place l depth p e
  if q.1=0 then places l depth b q.2 (zA q.2.st) es
  else(false,{p with s:=err l p.s up e.from' b q.1})
def body(l:List Tk)(rs:List R)(depth:Nat)(p:PS)(r:R):PS:=
 let a:=lo l r.from' r.au
 let b:=back l r.au a
 let p1:=gu p a
 let es:=Rw.lC l r
 if es.1=[]then bare l rs depth p1 r a b
 else
  let q:=places l depth b p1 (holder p1) es.1
  if q.1=true then
   let x:=lo l es.2 r.au
   if x<back l r.au x then
    match q.2.st with
    |t::k=>
     let v:=value l rs depth q.2 t.cur x
     {v.1 with st:={t with has:=v.2}::k}
    |[]=>q.2
   else q.2
  else q.2
def row(l:List Tk)(rs:List R)(depth:Nat)(p0:PS)(r:R):PS:=
 let p:PS:={p0 with read:=r.au}
 if r.kind=4 then mark l rs depth p r
 else if r.kind=5 then body l rs depth p r
 else if r.kind=2\/r.kind=3 then
  let a:=lo l r.from' r.au
  let b:=back l r.au a
  if a<b then{gu p a with s:=err l (gu p a).s (holder (gu p a)) a b 8}else p
 else p
def jf(l:List Tk)(rs:List R)(depth:Nat):PS->List R->PS
 |p,[]=>p
 |p,r::k=>jf l rs depth (if p.read<=r.from' then row l rs depth p r else p) k
def start(l:List Tk):PS:=⟨⟨mU l.length,[]⟩,-1,false,[],0⟩
def read(l:List Tk)(depth:Nat):St:=(jf l (Rw.fE l) depth (start l) (Rw.fE l)).s
def less(a b:Dg):Bool:=if a.f=b.f then(if a.t=b.t then decide (a.code<b.code)else decide (a.t<b.t))else decide (a.f<b.f)
def same(a b:Dg):Bool:=a.code==b.code&&a.f==b.f&&a.t==b.t
def lK(x:Dg):List Dg->List Dg
 |[]=>[x]
 |y::r=>if less x y=true then x::y::r else if same x y=true then y::r else y::lK x r
def lF(l:List Dg):List Dg:=l.foldl (λo x=>lK x o) []
def mH:Nat->Nat->List Nat->List Nat
 |0,_,_=>[]
 |f+1,p,l=>if l=[]then[]else if Sc.bad l=true then p::mH f (p+(Sc.jZ l).2) (l.drop (Sc.jZ l).2)else mH f (p+(Sc.jZ l).2) (l.drop (Sc.jZ l).2)
def part(b:List Nat)(f t:Nat):List Nat:=(b.drop f).take (t-f)
def tabs(b:List Nat)(l:List Tk)(r:R):List Dg:=
 if r.kind=5 then(List.range (lo l r.from' r.au-r.from')).filterMap (λi=>
  if raw l (r.from'+i)=3/\(part b (pF l (r.from'+i)) (too l (r.from'+i))).contains 9=true then some ⟨2,pF l (r.from'+i),too l (r.from'+i)⟩else none)
 else[]
def jY(b:List Nat)(x:Tk):List Dg:=
 if x.1=16\/x.1=17 then
  let q:=Qo.kU (x.1:Nat) ((part b x.2.1 x.2.2).map UInt8.ofNat)
  (if q.2.2=true then[]else[⟨3,x.2.1,x.2.2⟩])++q.2.1.map (λk=>⟨4,x.2.1+k,x.2.1+k+1⟩)
 else[]
def sP(b:List Nat)(l:List Tk):List Dg:=
 (mH b.length 0 b).map (λp=>⟨1,p,p+1⟩)++(Rw.fE l).flatMap (tabs b l)++l.flatMap (jY b)
def tree(b:List Nat)(depth:Nat):List Tk×List Nd×List Dg:=
 if depth<1\/50<depth then([],[],[])
 else(Sc.tokens b,(read (Sc.tokens b) depth).t,lF ((read (Sc.tokens b) depth).d++sP b (Sc.tokens b)))
end Ps
namespace Ps
open Ar Fl
open Rw (R E)
theorem jJ(l:List Tk)(a b:Nat):a<=lo l a b:=lg _ _ _
theorem lo_le(l:List Tk){a b:Nat}(h:a<=b):lo l a b<=b:=by
 have:=iM (λj=>!cnt (raw l j)) (b-a) a;unfold lo;omega
theorem wE(l:List Tk){a b:Nat}(h:lo l a b<b):cnt (raw l (lo l a b))=true:=by
 have:=nE (λj=>!cnt (raw l j)) (b-a) a;unfold lo at h⊢;rcases this with h1|h1
 ·have:=lg (λj=>!cnt (raw l j)) (b-a) a;omega
 simpa using h1
theorem pW(l:List Tk):∀(j m i:Nat),m<=i->i<j->cnt (raw l i)=true->i<back l j m
 |0,_,_=>λ_ h=>absurd h (uY _)
 |j+1,m,i=>λh1 h2 h3=>by
  rw[back];by_cases e:i=j
  ·subst e;rw[eQ (by rw[h3];simp)];omega
  split
  ·exact pW l j m i h1 (by omega) h3
  omega
theorem zB{l:List Tk}{i:Nat}{x:Tk}(h:l[i]?=some x):raw l i=x.1:=by unfold raw;rw[h]
theorem Bi(l:List Tk):∀(n a:Nat)(x:Tk),Rw.jd ((l.drop a).take n)=some x->jh (λj=>!cnt (raw l j)) n a<a+n/\l[jh (λj=>!cnt (raw l j)) n a]?=some x/\cnt x.1=true
 |0,a,x=>λh=>by rw[vS]at h;cases h
 |n+1,a,x=>λh=>by
  rw[jh];cases hy:l[a]? with
  |none=>
   rw[nM (by rw[Aq]at hy;exact hy),List.take_nil]at h;cases h
  |some y=>
   have ha:=(fT.1 hy).1;have e:l[a]=y:=(fT.1 hy).2;rw[sM ha,e,vR,Rw.jd]at h;rw[zB hy];by_cases hc:Sc.counts y.1=true
   ·rw[eT hc]at h;injection h with h;subst h
    have hc':cnt y.1=true:=hc;rw[hc',eQ (by simp)];exact⟨by omega,hy,rfl⟩
   rw[eQ hc]at h;have hc':cnt y.1=false:=by
    have:¬cnt y.1=true:=hc
    simpa using this
   rw[hc',eT (by simp)];have:=Bi l n (a+1) x h;exact⟨by omega,this.2⟩
structure l8(l:List Tk)(r:R):Prop where
 lt:r.from'<r.au
 le:r.au<=l.length
 body:r.kind=5->lo l r.from' r.au<r.au
 mark:r.kind=4->lo l r.from' r.au<r.au/\(raw l (lo l r.from' r.au)=20\/raw l (lo l r.from' r.au)=21)
theorem og(l:List Tk):∀(n op fr:Nat),l.length-fr<=n->(∀r∈Rw.oz op fr (l.drop fr),l8 l r/\fr<=r.from')/\(fr<l.length->∃r∈Rw.oz op fr (l.drop fr),r.au=l.length)
 |0,op,fr=>λh=>by
  rw[nM (by omega)];exact⟨λr hr=>(by cases hr),λh=>(by omega)⟩
 |n+1,op,fr=>λh=>by
  by_cases hfr:fr<l.length
  ·have hne:l.drop fr≠[]:=λe=>by
    have:=congrArg List.length e;rw[iq,lI]at this;omega
   rw[Rw.vk _ _ _ hne];have hp:=Rw.qJ _ hne;have hle:=Rw.zK (l.drop fr);rw[iq]at hle;obtain⟨k,hk⟩:=eX (Rw.kG (l.drop fr));rw[hk]at hp hle⊢;rw[lH];have aa:fr<fr+k:=by omega
   have hkl:fr+k<=l.length:=by omega
   obtain⟨h1,h2⟩:=og l n (Rw.ql op ((l.drop fr).take k)) (fr+k) (by omega);have hkind:Rw.kindOf (decide (0<op)) ((l.drop fr).take k)=5\/Rw.kindOf (decide (0<op)) ((l.drop fr).take k)=4->
    lo l fr (fr+k)<fr+k/\(Rw.kindOf (decide (0<op)) ((l.drop fr).take k)=4->raw l (lo l fr (fr+k))=20\/raw l (lo l fr (fr+k))=21):=by
    intro hq;unfold Rw.kindOf at hq⊢;by_cases h19:Rw.iQ ((l.drop fr).take k)=19
    ·rw[eT h19]at hq;rcases hq with hq|hq<;>cases hq
    rw[eQ h19]at hq⊢;cases hf:Rw.jd ((l.drop fr).take k)with
    |none=>
     rw[hf]at hq;dsimp only at hq;split at hq<;>rcases hq with hq|hq<;>cases hq
    |some x=>
     obtain⟨g1,g2,g3⟩:=Bi l k fr x hf;have e:lo l fr (fr+k)=jh (λj=>!cnt (raw l j)) k fr:=by unfold lo;rw[Qx]
     rw[e];refine⟨g1,λh4=>?_⟩;dsimp only at h4;rw[zB g2];by_cases hm:Rw.si x.1=true
     ·unfold Rw.si at hm;simpa using hm
     rw[eQ hm]at h4;split at h4<;>cases h4
   refine⟨λr hr=>?_,λ_=>?_⟩
   ·rcases qV.1 hr with rfl|hr
    ·exact⟨⟨aa,hkl,λh5=>(hkind (.inl h5)).1,λh4=>⟨(hkind (.inr h4)).1,(hkind (.inr h4)).2 h4⟩⟩,fC _⟩
    exact⟨(h1 r hr).1,by have:=(h1 r hr).2;clear h2;omega⟩
   by_cases he:fr+k<l.length
   ·obtain⟨r,hr,hr2⟩:=h2 he;exact⟨r,Ow _ hr,hr2⟩
   exact⟨_,Ox ..,by clear h2;show fr+k=_;omega⟩
  rw[nM (by omega)];exact⟨λr hr=>(by cases hr),λh=>absurd h hfr⟩
theorem rows_ok(l:List Tk):∀r∈Rw.fE l,l8 l r:=λr hr=>((og l l.length 0 0 (by omega)).1 r (by rw[xU];exact hr)).1
theorem wT(l:List Tk)(h:0<l.length):∃r∈Rw.fE l,r.au=l.length:=by
 have:=(og l l.length 0 0 (by omega)).2 h;rw[xU]at this;exact this
theorem CV(l:List Tk)(next:Nat)(none':Bool)(h1:next<=l.length)(h2:none'=true->next<l.length)(h3:0<l.length):next<=qg (Rw.fE l) next none'/\qg (Rw.fE l) next none'<=l.length:=by
 unfold qg;cases hf:(Rw.fE l).find? (λr=>!(decide (r.au<next)||(none' &&r.au==next)))with
 |some r=>
  have hm:=List.mem_of_find?_eq_some hf;have hp:=List.find?_some hf;simp at hp;exact⟨hp.1,(rows_ok l r hm).le⟩
 |none=>
  exfalso;rw[List.find?_eq_none]at hf;obtain⟨r,hr,he⟩:=wT l h3;have:=hf r hr;simp[he]at this;have h4:=this h1;have:=h2 h4.1;omega
theorem EK(ts:List Tk):∀(f p:Nat),∀i∈Rw.jU f (ts.drop p),∃x,ts[p+i]?=some x/\x.1=5
 |0,_=>λi hi=>by cases hi
 |f+1,p=>λi hi=>by
  rw[Rw.jU]at hi;by_cases hk:Rw.iQ (ts.drop p)=5
  ·rw[eT hk]at hi;rcases qV.1 hi with rfl|hi
   ·rw[sO];cases hx:ts[p]? with
    |none=>
     rw[nM (by rw[Aq]at hx;exact hx)]at hk;cases hk
    |some x=>
     have hp:=(fT.1 hx).1;have e:ts[p]=x:=(fT.1 hx).2;rw[sM hp,e]at hk;exact⟨x,rfl,hk⟩
   obtain⟨j,hj,rfl⟩:=vP.1 hi;rw[lH]at hj;obtain⟨x,h1,h2⟩:=EK ts f _ j hj;exact⟨x,by rw[<-h1];congr 1;omega,h2⟩
  rw[eQ hk]at hi;cases hi
theorem JU(at':Nat)(ts:List Tk):∀e∈Rw.kT at' ts,at'<e.au/\∃x,ts[e.au-1-at']?=some x/\(x.1=5\/x.1=6):=by
 rw[Rw.mW];intro e he;rcases kS.1 he with he|he
 ·obtain⟨i,hi,rfl⟩:=vP.1 he;obtain⟨x,h1,h2⟩:=EK ts _ _ i hi;refine⟨by show at'<at'+_+1;omega,x,?_,.inl h2⟩;show ts[at'+(Rw.ik ts+i)+1-1-at']?=_;rw[show at'+(Rw.ik ts+i)+1-1-at'=Rw.ik ts+i by omega];exact h1
 unfold Rw.Av at he;cases hk:Rw.nS (ts.drop (Rw.qm ts))with
 |none=>rw[hk]at he;cases he
 |some n=>
  rw[hk]at he;obtain rfl:=sN.1 he;unfold Rw.nS at hk;by_cases h6:Rw.iQ ((ts.drop (Rw.qm ts)).drop (Rw.pJ (ts.drop (Rw.qm ts))))=6
  ·rw[eT h6]at hk;injection hk with hk
   obtain⟨a,ha⟩:=eX (Rw.pJ (ts.drop (Rw.qm ts)));rw[ha]at hk h6;rw[lH]at h6;refine⟨by show at'<at'+_+n;omega,?_⟩;show∃x,ts[at'+Rw.qm ts+n-1-at']?=some x/\_;rw[show at'+Rw.qm ts+n-1-at'=Rw.qm ts+a by omega];cases hx:ts[Rw.qm ts+a]? with
   |none=>
    rw[nM (by rw[Aq]at hx;exact hx)]at h6;cases h6
   |some x=>
    have hp:=(fT.1 hx).1;have e:ts[Rw.qm ts+a]=x:=(fT.1 hx).2;rw[sM hp,e]at h6;exact⟨x,rfl,.inr h6⟩
  rw[eQ h6]at hk;cases hk
def qD(l:List Tk)(b:Nat):Nat->List E->Prop
 |_,[]=>True
 |p,e::r=>p<=e.from'/\e.from'<e.au/\e.au<=b/\qD l b e.au r
theorem xH(l:List Tk)(b:Nat):∀(es:List E)(p:Nat)(c:Int),Rw.Ord p c es->(∀e∈es,e.au<=b)->qD l b p es
 |[],_,_=>λ_ _=>trivial
 |e::r,p,c=>fun⟨h1,h2,_,_,h5⟩ hb=>⟨h1,h2,hb e (by simp),xH l b r _ _ h5 (λx hx=>hb x (by simp[hx]))⟩
theorem tq{l:List Tk}{r:R}(ht:Rw.jl 0 l)(h:l8 l r)(h5:r.kind=5):
 qD l (back l r.au (lo l r.from' r.au)) (lo l r.from' r.au) (Rw.lC l r).1/\(∀e,(Rw.lC l r).1.getLast?=some e->(Rw.lC l r).2=e.au)/\((Rw.lC l r).1=[]->(Rw.lC l r).2=lo l r.from' r.au)/\(Rw.lC l r).2<=r.au:=by
 have hlt:=h.lt;have hle:=h.le;obtain⟨ts,hts⟩:=eX ((l.drop r.from').take (r.au-r.from'));have af:Rw.lC l r=(Rw.kT r.from' ts,Rw.oJ r.from' ts):=by unfold Rw.lC;rw[eT h5,hts]
 have hlen:ts.length=r.au-r.from':=by rw[<-hts,jQ,iq];omega
 have hget:∀i x,ts[i]?=some x->l[r.from'+i]?=some x/\i<r.au-r.from':=by
  intro i x hx;have hi:=(fT.1 hx).1;rw[<-hts,FB (by omega),qT]at hx;exact⟨hx,by omega⟩
 obtain⟨q,hq⟩:=Rw.jl.drop ht r.from';have ag:Rw.jl q ts:=by rw[<-hts];exact Rw.yI _ _ hq
 have hlead:r.from'+Rw.ik ts=lo l r.from' r.au:=by
  have key:∀(n a:Nat),a+n<=l.length->a+Rw.ik ((l.drop a).take n)=jh (λj=>!cnt (raw l j)) n a:=by
   intro n
   induction n with
   |zero=>intro a _;rw[vS];rfl
   |succ n ih=>
    intro a ha;have hx:l[a]?=some l[a]:=lU (by omega);rw[sM (by omega),vR,Rw.ik,jh,zB hx];by_cases hc:Sc.counts (l[a]).1=true
    ·have hc':cnt (l[a]).1=true:=hc;rw[eT hc,hc',eQ (by simp)];rfl
    have hc':cnt (l[a]).1=false:=by
     have:¬cnt (l[a]).1=true:=hc
     simpa using this
    rw[eQ hc,hc',eT (by simp),<-ih (a+1) (by omega)];omega
  have:=key (r.au-r.from') r.from' (by omega);rw[hts]at this;exact this
 rw[af];obtain⟨a,ha⟩:=eX (lo l r.from' r.au);rw[ha]at hlead⊢;have ae:=Rw.Jy ag r.from';refine⟨xH l _ _ a (-1) ?_ (λe he=>?_),(Rw.zL r.from' ts).2.1,λhe=>by rw[<-hlead];exact(Rw.zL r.from' ts).1 he,by have:=(Rw.zL r.from' ts).2.2;show Rw.oJ r.from' ts<=_;omega⟩
 ·
  show Rw.Ord a (-1) (Rw.kT r.from' ts);have aa:∀e,(Rw.kT r.from' ts).head?=some e->a<=e.from':=by
   intro e he;have he:e∈Rw.kT r.from' ts:=List.mem_of_head? he;rw[Rw.mW]at he;rcases kS.1 he with he|he
   ·obtain⟨i,_,rfl⟩:=vP.1 he;show a<=r.from'+(Rw.ik ts+i);omega
   unfold Rw.Av at he;cases hk:Rw.nS (ts.drop (Rw.qm ts))with
   |none=>rw[hk]at he;cases he
   |some n=>
    rw[hk]at he;obtain rfl:=sN.1 he;show a<=r.from'+Rw.qm ts;unfold Rw.qm;omega
  cases hes:Rw.kT r.from' ts with
  |nil=>trivial
  |cons e k=>
   rw[hes]at ae aa;obtain⟨h1,h2,h3⟩:=ae;exact⟨aa e rfl,h2,h3⟩
 obtain⟨c1,x,c2,c3⟩:=JU r.from' ts e he;obtain⟨g1,g2⟩:=hget _ x c2
 have:=pW l r.au a (e.au-1) (by
  have hmem:a<=e.au-1:=by
   rw[Rw.mW]at he;rcases kS.1 he with he|he
   ·obtain⟨i,_,rfl⟩:=vP.1 he;show a<=r.from'+(Rw.ik ts+i)+1-1;omega
   unfold Rw.Av at he;cases hk:Rw.nS (ts.drop (Rw.qm ts))with
   |none=>rw[hk]at he;cases he
   |some n=>
    rw[hk]at he;obtain rfl:=sN.1 he;have:=Rw.pI _ n hk;show a<=r.from'+Rw.qm ts+n-1;unfold Rw.qm;omega
  exact hmem) (by omega) (by
  rw[show e.au-1=r.from'+(e.au-1-r.from')by omega,zB g1]
  rcases c3 with c3|c3<;>rw[c3]<;>rfl)
 omega
end Ps
namespace Ps
open Ar Fl
open Rw (R E)
abbrev Bs:=Nat×St
abbrev OK(l:List Tk)(B:Bs)(k:Nat)(e:Nat)(s:St):Prop:=Fe.Ok l B.1 l.length k B.2 e e s
def xO(l:List Tk)(B:Bs)(k:Int)(e:Nat)(s:St):Prop:=∃m:Nat,k=(m:Int)/\OK l B m e s
theorem xO.le{l:List Tk}{B:Bs}{k:Int}{e e':Nat}{s:St}(h:xO l B k e s)(he:e<=e'):xO l B k e' s:=by
 obtain⟨m,h1,h2⟩:=h;exact⟨m,h1,h2.le (by omega) (by omega)⟩
def Up(t:List Nd)(c p:Nat):Prop:=0<c/\∃x,t[c]?=some x/\x.u=(p:Int)
theorem Up.keep{t t':List Nd}{c p:Nat}(h:Up t c p)(hk:lz t t'):Up t' c p:=by
 obtain⟨h0,x,h1,h2⟩:=h;obtain⟨x',g1,_,_,g2⟩:=hk.2 c x h1;exact⟨h0,x',g1,by omega⟩
theorem Ay{l:List Tk}{B:Bs}{c p:Nat}{e:Nat}{s:St}(h:OK l B c e s)(hu:Up s.t c p):OK l B p e s:=by
 obtain⟨h0,x,h1,h2⟩:=hu;exact h.out h1 h2 h0
def outer(d:Nat):List Op->Int
 |[]=>d
 |o::_=>o.cur
def kV(t:List Nd)(d:Nat):List Op->Prop
 |[]=>Up t d 0
 |o::r=>(∃nd c p:Nat,o.node=(nd:Int)/\o.cur=(c:Int)/\Up t c nd/\outer d r=(p:Int)/\Up t nd p)/\kV t d r
theorem kV.keep{t t':List Nd}(hk:lz t t'){d:Nat}:∀{st:List Op},kV t d st->kV t' d st
 |[],h=>Up.keep h hk
 |_::_,⟨⟨nd,c,p,h1,h2,h3,h4,h5⟩,h6⟩=>⟨⟨nd,c,p,h1,h2,h3.keep hk,h4,h5.keep hk⟩,kV.keep hk h6⟩
def hold(doc:Int):List Op->Int
 |[]=>doc
 |t::_=>if t.has=true then t.node else t.cur
theorem lS(p:PS):holder p=hold p.doc p.st:=by unfold holder hold;split<;>rename_i h<;>first|rfl|rw[h]
def jT(l:List Tk)(B:Bs)(e:Nat)(s:St)(d:Nat):List Op->Prop
 |[]=>xO l B d e s
 |o::_=>xO l B o.node e s/\(o.has=false->xO l B o.cur e s)
theorem tu{l:List Tk}{B:Bs}{e d:Nat}{s:St}{st:List Op}(hc:kV s.t d st)(h:xO l B (hold d st) e s):jT l B e s d st:=by
 cases st with
 |nil=>exact h
 |cons o r=>
  obtain⟨⟨nd,c,p,h1,h2,h3,_,_⟩,_⟩:=hc;have h:xO l B (if o.has=true then o.node else o.cur) e s:=h;by_cases ho:o.has=true
  ·rw[eT ho]at h;exact⟨h,λh=>by rw[ho]at h;cases h⟩
  rw[eQ ho]at h;refine⟨?_,λ_=>h⟩;obtain⟨m,e1,e2⟩:=h;obtain rfl:m=c:=by omega
  exact⟨nd,h1,Ay e2 h3⟩
theorem jT.hold{l:List Tk}{B:Bs}{e d:Nat}{s:St}{st:List Op}(h:jT l B e s d st):xO l B (hold d st) e s:=by
 cases st with
 |nil=>exact h
 |cons o r=>
  show xO l B (if o.has=true then o.node else o.cur) e s;split
  ·exact h.1
  rename_i ho;exact h.2 (by simpa using ho)
theorem jT.outer{l:List Tk}{B:Bs}{e d:Nat}{s:St}{o:Op}{r:List Op}(hc:kV s.t d (o::r))(h:jT l B e s d (o::r)):xO l B (outer d r) e s:=by
 obtain⟨⟨nd,c,p,h1,h2,_,h4,h5⟩,_⟩:=hc;obtain⟨m,e1,e2⟩:=h.1;obtain rfl:m=nd:=by omega
 exact⟨p,h4,Ay e2 h5⟩
theorem tV{l:List Tk}{B:Bs}{e d:Nat}{s:St}{r:List Op}(hc:kV s.t d r)(h:xO l B (outer d r) e s):jT l B e s d r:=by
 cases r with
 |nil=>exact h
 |cons o q=>
  obtain⟨⟨nd,c,p,h1,h2,h3,_,_⟩,_⟩:=hc;refine⟨?_,λ_=>h⟩;obtain⟨m,e1,e2⟩:=h;have e1:o.cur=(m:Int):=e1;obtain rfl:m=c:=by omega
  exact⟨nd,h1,Ay e2 h3⟩
theorem jT.drop{l:List Tk}{B:Bs}{e d:Nat}{s:St}(f:Op->Bool):∀{st:List Op},kV s.t d st->jT l B e s d st->kV s.t d (st.dropWhile f)/\jT l B e s d (st.dropWhile f)
 |[],hc,h=>⟨hc,h⟩
 |o::r,hc,h=>by
  rw[xS];split
  ·exact jT.drop f hc.2 (tV hc.2 (jT.outer hc h))
  exact⟨hc,h⟩
theorem jT.all{l:List Tk}{B:Bs}{e d:Nat}{s:St}:∀{st:List Op},kV s.t d st->jT l B e s d st->Up s.t d 0/\OK l B d e s
 |[],hc,h=>by
  obtain⟨m,e1,e2⟩:=h;obtain rfl:m=d:=by omega
  exact⟨hc,e2⟩
 |o::r,hc,h=>jT.all hc.2 (tV hc.2 (jT.outer hc h))
def sS(l:List Tk)(B:Bs)(e:Nat)(p:PS):Prop:=∃d:Nat,p.doc=(d:Int)/\kV p.s.t d p.st/\jT l B e p.s d p.st
def Inv(l:List Tk)(B:Bs)(e:Nat)(p:PS):Prop:=(p.doc=-1/\p.st=[]/\OK l B 0 e p.s)\/sS l B e p
theorem jT.le{l:List Tk}{B:Bs}{e e' d:Nat}{s:St}{st:List Op}(h:jT l B e s d st)(he:e<=e'):jT l B e' s d st:=by
 cases st with
 |nil=>exact xO.le h he
 |cons o r=>exact⟨xO.le h.1 he,λg=>xO.le (h.2 g) he⟩
theorem sS.le{l:List Tk}{B:Bs}{e e':Nat}{p:PS}(h:sS l B e p)(he:e<=e'):sS l B e' p:=by
 obtain⟨d,h1,h2,h3⟩:=h;exact⟨d,h1,h2,h3.le he⟩
theorem Inv.le{l:List Tk}{B:Bs}{e e':Nat}{p:PS}(h:Inv l B e p)(he:e<=e'):Inv l B e' p:=by
 rcases h with⟨h1,h2,h3⟩|h
 ·exact .inl ⟨h1,h2,h3.le (by omega) (by omega)⟩
 exact .inr (h.le he)
theorem Inv.root{l:List Tk}{B:Bs}{e:Nat}{p:PS}(h:Inv l B e p):OK l B 0 e p.s:=by
 rcases h with⟨h1,h2,h3⟩|⟨d,h1,h2,h3⟩
 ·exact h3
 obtain⟨g1,g2⟩:=jT.all h2 h3;exact Ay g2 g1
theorem zU{l:List Tk}{B:Bs}{e a b code:Nat}{p:PS}(h:sS l B e p)(hB:B.1<=a)(aa:e<=a)(hab:a<b)(hb:b<=l.length)(hc:code≠9)(h5:5<=code)(h10:code<=10):sS l B b {p with s:=err l p.s (holder p) a b code}:=by
 obtain⟨d,h1,h2,h3⟩:=h;obtain⟨m,e1,e2⟩:=h3.hold;have hh:holder p=(m:Int):=by rw[lS,h1];exact e1
 have h4:=(Fe.jL (f:=a) (t:=b) (code:=code) e2 (by omega) hab (by omega) hc hB h5 h10).1.le (e':=b) (b':=b) (ji _) (by omega);have hk:lz p.s.t (err l p.s (m:Int) a b code).t:=by
  have:=(Fe.jL (f:=a) (t:=b) (code:=code) (Fe.Ok.start (l:=l) (p0:=B.1) e2.ck e2.fits e2.lf e2.no) (by omega) hab (by omega) hc hB h5 h10).1.keep;exact this
 rw[hh];exact⟨d,h1,h2.keep hk,tu (h2.keep hk) ⟨m,e1,h4⟩⟩
theorem Bj{l:List Tk}{B:Bs}{k e a b:Nat}{s:St}(h:OK l B k e s)(hB:B.1<=a)(aa:e<=a)(hb:b<=l.length):OK l B k (max e b) (jo l s k a b 8)/\lz s.t (jo l s k a b 8).t:=by
 unfold jo;split
 ·rename_i hab;refine⟨(Fe.jL (f:=a) (t:=b) (code:=8) h (by omega) hab (by omega) (by omega) hB (by omega) (by omega)).1.le (by omega) (by omega),?_⟩;exact(Fe.jL (f:=a) (t:=b) (code:=8) (Fe.Ok.start (l:=l) (p0:=B.1) h.ck h.fits h.lf h.no) (by omega) hab (by omega) (by omega) hB (by omega) (by omega)).1.keep
 exact⟨h.le (by omega) (by omega),lz.refl _⟩
theorem tX{l:List Tk}{B:Bs}{k e i depth:Nat}{p:PS}(h:OK l B k e p.s)(hB:B.1<=i)(aa:e<=i)(hi:i<l.length):
 (value l (Rw.fE l) depth p k i).1.doc=p.doc/\(value l (Rw.fE l) depth p k i).1.st=p.st/\(value l (Rw.fE l) depth p k i).1.read<=l.length/\
 lz p.s.t (value l (Rw.fE l) depth p k i).1.s.t/\OK l B k (value l (Rw.fE l) depth p k i).1.read (value l (Rw.fE l) depth p k i).1.s:=by
 have hlim:i<=limit l i/\limit l i<=l.length:=by
  have h1:=lg (λj=>raw l j !=20&&raw l j !=21) (l.length-i) i;have h2:=iM (λj=>raw l j !=20&&raw l j !=21) (l.length-i) i;unfold limit;omega
 have hv:=Fe.rf l (limit l i) l.length (by omega) (depth-p.st.length) k i p.s e h.ck (h.fits.le (by omega) (ji _)) h.lf h.no (by omega) hlim.1;have key:∀(next:Nat)(none':Bool)(s':St),e<=next->B.1<=next->OK l B k next s'->lz p.s.t s'.t->next<=l.length->(none'=true->next<l.length)->
  (rest l (Rw.fE l) {p with s:=s' } k next none').doc=p.doc/\(rest l (Rw.fE l) {p with s:=s' } k next none').st=p.st/\(rest l (Rw.fE l) {p with s:=s' } k next none').read<=l.length/\
  lz p.s.t (rest l (Rw.fE l) {p with s:=s' } k next none').s.t/\OK l B k (rest l (Rw.fE l) {p with s:=s' } k next none').read (rest l (Rw.fE l) {p with s:=s' } k next none').s:=by
  intro next none' s' g1 g0 g2 g3 g4 g5;obtain⟨r1,r2⟩:=CV l next none' g4 g5 (by omega);unfold rest;dsimp only;obtain⟨r,hr⟩:=eX (qg (Rw.fE l) next none');rw[hr]at r1 r2⊢;have hb:=fQ l r (lo l next r);obtain⟨o1,o2⟩:=Bj g2 (by have:=jJ l next r;omega) (jJ l next r) (b:=back l r (lo l next r)) (by omega);exact⟨rfl,rfl,r2,g3.trans o2,o1.le (by omega) (by omega)⟩
 unfold value;dsimp only;rcases hv with⟨v1,_⟩|⟨next,s',v1,v2,v3,_,v5,_⟩
 ·rw[v1];dsimp only;rw[eT (by omega),show decide ((-1:Int)<0)=true from rfl];exact key i true p.s aa hB (h.le (by omega) (by omega)) (lz.refl _) (by omega) (λ_=>hi)
 rw[v1];dsimp only;rw[eQ (by omega),show decide (((p.s.t.length:Nat):Int)<0)=false from iF (by omega),Nat.max_eq_left (by omega)];exact key next false s' (by omega) (by omega) (h.trans (v5.low hB)) v5.keep (by omega) (λh=>by cases h)
theorem nK{l:List Tk}{B:Bs}{e i:Nat}{p:PS}(h:Inv l B e p)(aa:e<=i)(hi:i<=l.length):sS l B i (gu p i)/\(gu p i).read=p.read:=by
 unfold gu;split
 ·rename_i hd;obtain⟨s',a1,_,a3,⟨x,a4,a5⟩,a6⟩:=Fe.iW (kind:=2) (f:=i) (t:=i) h.root (by omega) (fC _) (by omega) (by omega) (by omega);have a1:add p.s 0 2 i i=(s',(p.s.t.length:Int)):=a1;rw[a1];dsimp only;have hu:Up s'.t p.s.t.length 0:=⟨a6,x,a4,a5⟩
  exact⟨⟨p.s.t.length,rfl,hu,⟨p.s.t.length,rfl,a3.le (by omega) (by omega)⟩⟩,rfl⟩
 rename_i hd;rcases h with⟨h1,_⟩|h
 ·omega
 exact⟨h.le aa,rfl⟩
theorem MW{l:List Tk}{B:Bs}{e depth:Nat}{p:PS}{r:R}(h:Inv l B e p)(hr:l8 l r)(h4:r.kind=4)(hB:B.1<=r.from')(he:e<=r.from')(hread:p.read=r.au):
 Inv l B (mark l (Rw.fE l) depth p r).read (mark l (Rw.fE l) depth p r)/\(mark l (Rw.fE l) depth p r).read<=l.length:=by
 have hlt:=hr.lt;have hle:=hr.le;obtain⟨m1,m2⟩:=hr.mark h4;have hge:=jJ l r.from' r.au;unfold mark;dsimp only;obtain⟨a,ha⟩:=eX (lo l r.from' r.au);rw[ha]at m1 m2 hge⊢;by_cases h20:raw l a=20
 ·rw[eT h20];obtain⟨s',a1,_,a3,⟨x,a4,a5⟩,a6⟩:=Fe.iW (kind:=2) (f:=a) (t:=a+1) h.root (by omega) (by omega) (by omega) (by omega) (by omega);have a1:add p.s 0 2 a (a+1)=(s',(p.s.t.length:Int)):=a1;rw[a1];dsimp only;have hu:Up s'.t p.s.t.length 0:=⟨a6,x,a4,a5⟩
  have a3':OK l B p.s.t.length (a+1) s':=a3.le (by omega) (by omega);have hb:=fQ l r.au (lo l (a+1) r.au);have aa:=jJ l (a+1) r.au;split
  ·rename_i hx;obtain⟨v1,v2,v3,v4,v5⟩:=tX (depth:=depth) (p:={p with s:=s',doc:=(p.s.t.length:Int),root:=false,st:=[]}) (i:=lo l (a+1) r.au) a3' (by omega) aa (by omega);refine⟨.inr ⟨p.s.t.length,v1,?_,?_⟩,v3⟩
   ·dsimp only;rw[v2];exact hu.keep v4
   dsimp only;rw[v2];exact⟨p.s.t.length,rfl,v5⟩
  exact⟨.inr ⟨p.s.t.length,rfl,hu,⟨p.s.t.length,rfl,a3'.le (by show((a+1:Nat):Int)<=(p.read:Nat);omega) (by show((a+1:Nat):Int)<=(p.read:Nat);omega)⟩⟩,by show p.read<=_;omega⟩
 rw[eQ h20];dsimp only;have hgrow:OK l B 0 (a+1) (if 0<=p.doc then(⟨gJ p.s.t p.doc ((a+1:Nat):Int),p.s.d⟩:St)else p.s):=by
  rcases h with⟨g1,_,g3⟩|⟨d,g1,g2,g3⟩
  ·rw[eQ (by omega)];exact g3.le (by omega) (by omega)
  rw[eT (by omega),g1];obtain⟨k1,k2⟩:=jT.all g2 g3;have k3:=Fe.nX (t:=a+1) k2 (by omega) (by omega) (by omega);have k4:=(Fe.nX (t:=a+1) (Fe.Ok.start (l:=l) (p0:=B.1) k2.ck k2.fits k2.lf k2.no) (by omega) (by omega) (by omega)).keep;exact Ay k3 (k1.keep k4)
 obtain⟨s1,hs1⟩:=eX ((if 0<=p.doc then(⟨gJ p.s.t p.doc ((a+1:Nat):Int),p.s.d⟩:St)else p.s));rw[hs1]at hgrow⊢;obtain⟨b,hb⟩:=eX (back l r.au a);have hbl:=fQ l r.au a;rw[hb]at hbl⊢;have hx:=jJ l (a+1) b;have hy:=fQ l b (lo l (a+1) b);obtain⟨o1,_⟩:=Bj hgrow (by omega) hx (b:=back l b (lo l (a+1) b)) (by omega);exact⟨.inl ⟨rfl,rfl,o1.le (by show((max (a+1) (back l b (lo l (a+1) b)):Nat):Int)<=(p.read:Nat);omega) (by show((max (a+1) (back l b (lo l (a+1) b)):Nat):Int)<=(p.read:Nat);omega)⟩,by show p.read<=_;omega⟩
end Ps
namespace Ps
open Ar Fl
open Rw (R E)
theorem uu{l:List Tk}{B:Bs}{up f t kind:Nat}{e b:Int}{s:St}(h:Fe.Ok l B.1 l.length up B.2 e b s)(he:e<=f)(hft:f<=t)(ht:t<=l.length)(hk1:1<=kind)(hk2:kind<=10):
 ∃s',add s up kind f t=(s',(s.t.length:Int))/\Fe.Ok l B.1 l.length s.t.length B.2 f (max b t) s'/\Up s'.t s.t.length up/\lz s.t s'.t:=by
 obtain⟨s',a1,_,a3,⟨x,a4,a5⟩,a6⟩:=Fe.iW (kind:=kind) h he hft (by omega) hk1 hk2;obtain⟨s2,b1,_,b3,_⟩:=Fe.iW (kind:=kind) (Fe.Ok.start (l:=l) (p0:=B.1) h.ck h.fits h.lf h.no) he hft (by omega) hk1 hk2;have e2:s2=s':=by rw[a1]at b1;exact(congrArg Prod.fst b1).symm
 subst e2;exact⟨s2,a1,a3,⟨a6,x,a4,a5⟩,b3.keep⟩
theorem Jb{l:List Tk}{B:Bs}{nd:Nat}{en:E}{s:St}{b:Int}(h:Fe.Ok l B.1 l.length nd B.2 en.from' b s)(hB:B.1<=en.from')(hb:b<=en.au)(hlt:en.from'<en.au)(hle:en.au<=l.length):
 ∃c:Nat,(cur l s nd en).2=(c:Int)/\OK l B c en.au (cur l s nd en).1/\Up (cur l s nd en).1.t c nd/\lz s.t (cur l s nd en).1.t:=by
 unfold cur;split
 ·obtain⟨s',a1,a2,a3,a4⟩:=uu (kind:=4) (f:=en.from') (t:=en.au) h (ji _) (by omega) hle (by omega) (by omega);have a1:add s nd 4 en.from' en.au=(s',(s.t.length:Int)):=a1;rw[a1];exact⟨_,rfl,a2.le (by omega) (by omega),a3,a4⟩
 obtain⟨s',a1,a2,⟨x,a3,a4⟩,a5⟩:=Fe.zM l l.length l.length (ji _) (c:=nd) (j:=en.from') (q:=en.au) (s:=s) (b:=b) h.ck h.fits h.lf h.no hb hlt hle;rw[a1];exact⟨_,rfl,h.trans (a2.low hB),⟨a5,x,a3,a4⟩,a2.keep⟩
def wF(l:List Tk)(B:Bs)(p:PS)(en:E)(q:PS):Prop:=sS l B en.au q/\q.read=p.read/\∃t k,q.st=t::k/\t.has=false
theorem Bn{l:List Tk}{B:Bs}{e d:Nat}{p:PS}{o:Op}{r:List Op}{en:E}(hd:p.doc=(d:Int))(hc:kV p.s.t d (o::r))(h:xO l B o.node e p.s)(hB:B.1<=en.from')(he:e<=en.from')(hlt:en.from'<en.au)(hle:en.au<=l.length):
 (again l p o r en).1=0/\wF l B p en (again l p o r en).2:=by
 obtain⟨⟨nd,c,q,h1,h2,h3,h4,h5⟩,h6⟩:=hc;obtain⟨m,e1,e2⟩:=h;obtain rfl:m=nd:=by omega
 unfold again;rw[h1];obtain⟨c',k1,k2,k3,k4⟩:=Jb (en:=en) (e2.le (e':=en.from') (b':=en.from') (by omega) (by omega)) hB (by omega) hlt hle;refine⟨rfl,⟨d,hd,⟨⟨m,c',q,rfl,k1,k3,h4,h5.keep k4⟩,h6.keep k4⟩,?_⟩,rfl,_,_,rfl,rfl⟩;exact tu ⟨⟨m,c',q,rfl,k1,k3,h4,h5.keep k4⟩,h6.keep k4⟩ ⟨c',k1,k2⟩
theorem JV{l:List Tk}{B:Bs}{e d depth:Nat}{p:PS}{up:Int}{root:Bool}{st:List Op}{en:E}(hd:p.doc=(d:Int))(hc:kV p.s.t d st)(hup:outer d st=up)(h:xO l B up e p.s)(hB:B.1<=en.from')(he:e<=en.from')(hlt:en.from'<en.au)(hle:en.au<=l.length):
 ((fresh l depth p up root st en).1=0/\wF l B p en (fresh l depth p up root st en).2)\/(fresh l depth p up root st en).1=10:=by
 obtain⟨m,e1,e2⟩:=h;unfold fresh;split
 ·exact .inr rfl
 refine .inl ?_;rw[e1];have hk:1<=kindOf en/\kindOf en<=10:=by unfold kindOf;split<;>omega
 obtain⟨s',a1,a2,a3,a4⟩:=uu (kind:=kindOf en) (f:=en.from') (t:=en.au) e2 (by omega) (by omega) hle hk.1 hk.2;rw[a1];dsimp only;obtain⟨c',k1,k2,k3,k4⟩:=Jb (en:=en) a2 hB (by omega) hlt hle;have hch:kV (cur l s' (p.s.t.length:Int) en).1.t d (⟨(p.s.t.length:Int),kindOf en,en.fo,(cur l s' (p.s.t.length:Int) en).2,false⟩::st):=
  ⟨⟨p.s.t.length,c',m,rfl,k1,k3,by rw[hup,e1],a3.keep k4⟩,(hc.keep a4).keep k4⟩
 exact⟨rfl,⟨d,hd,hch,tu hch ⟨c',k1,k2⟩⟩,rfl,_,_,rfl,rfl⟩
theorem wU{l:List Tk}{B:Bs}{e depth:Nat}{p:PS}{en:E}(h:sS l B e p)(hB:B.1<=en.from')(he:e<=en.from')(hlt:en.from'<en.au)(hle:en.au<=l.length):
 ((place l depth p en).1=0/\wF l B p en (place l depth p en).2)\/((place l depth p en).1≠0/\(place l depth p en).2=p/\5<=(place l depth p en).1/\(place l depth p en).1<=10/\(place l depth p en).1≠9):=by
 obtain⟨d,hd,hc,hh⟩:=h;obtain⟨hc',hh'⟩:=jT.drop (λo=>decide (en.fo<o.fo)) hc hh;have hf:∀(up:Int)(root:Bool)(st:List Op),kV p.s.t d st->outer d st=up->xO l B up e p.s->
  ((fresh l depth p up root st en).1=0/\wF l B p en (fresh l depth p up root st en).2)\/((fresh l depth p up root st en).1≠0/\(fresh l depth p up root st en).2=p/\5<=(fresh l depth p up root st en).1/\(fresh l depth p up root st en).1<=10/\(fresh l depth p up root st en).1≠9):=by
  intro up root st g1 g2 g3;rcases JV (depth:=depth) (root:=root) hd g1 g2 g3 hB he hlt hle with g|g
  ·exact .inl g
  refine .inr ⟨by omega,?_,by omega,by omega,by omega⟩;unfold fresh at g⊢;split
  ·rfl
  rename_i hdp;rw[eQ hdp]at g;cases g
 have bad:∀code:Nat,5<=code->code<=10->code≠9->((code,p).1=0/\wF l B p en (code,p).2)\/((code,p).1≠0/\(code,p).2=p/\5<=(code,p).1/\(code,p).1<=10/\(code,p).1≠9):=
  λcode g1 g2 g3=>.inr ⟨by show code≠0;omega,rfl,g1,g2,g3⟩
 have hr:(place l depth p en)=(match p.st.dropWhile (λo=>decide (en.fo<o.fo))with
  |[]=>if p.root=true then(7,p)else fresh l depth p p.doc true [] en
  |o::r=>
   if o.fo=en.fo then
    if o.kind=kindOf en then again l p o r en
    else if kindOf en=3 then(if o.has=true then(5,p)else fresh l depth p o.cur p.root ({o with has:=true}::r) en)
    else match r with
     |o2::r2=>if o2.fo=en.fo/\o2.kind=5 then again l p o2 r2 en else(5,p)
     |[]=>(5,p)
   else if o.has=true then(6,p)else fresh l depth p o.cur p.root ({o with has:=true}::r) en):=rfl
 rw[hr];cases hdw:p.st.dropWhile (λo=>decide (en.fo<o.fo))with
 |nil=>
  rw[hdw]at hc' hh';dsimp only;split
  ·exact bad 7 (by omega) (by omega) (by omega)
  exact hf p.doc true [] hc' hd.symm (by rw[hd];exact hh')
 |cons o r=>
  rw[hdw]at hc' hh';dsimp only;split
  ·split
   ·exact .inl (Bn hd hc' hh'.1 hB he hlt hle)
   split
   ·split
    ·exact bad 5 (by omega) (by omega) (by omega)
    rename_i ho;exact hf o.cur p.root _ hc' rfl (hh'.2 (by simpa using ho))
   cases r with
   |nil=>exact bad 5 (by omega) (by omega) (by omega)
   |cons o2 r2=>
    dsimp only;split
    ·have:=tV hc'.2 (jT.outer hc' hh');exact .inl (Bn hd hc'.2 this.1 hB he hlt hle)
    exact bad 5 (by omega) (by omega) (by omega)
  split
  ·exact bad 6 (by omega) (by omega) (by omega)
  rename_i ho;exact hf o.cur p.root _ hc' rfl (hh'.2 (by simpa using ho))
theorem rG{l:List Tk}{B:Bs}{depth b:Nat}(hb:b<=l.length):∀(es:List E)(e:Nat)(p:PS)(up:Int),sS l B e p->B.1<=e->up=holder p->qD l b e es->e<=b->
 ∃e',e<=e'/\e'<=b/\sS l B e' (places l depth b p up es).2/\(places l depth b p up es).2.read=p.read/\
  ((places l depth b p up es).1=true->(es=[]->e'=e)/\(∀x,es.getLast?=some x->e'=x.au)/\(es≠[]->∃t k,(places l depth b p up es).2.st=t::k/\t.has=false))
 |[],e,p,up=>λh _ _ _ he=>⟨e,fC _,he,h,rfl,λ_=>⟨λ_=>rfl,λx hx=>(by cases hx),λh=>absurd rfl h⟩⟩
 |en::es,e,p,up=>λh hB hup hes aa=>by
  obtain⟨h1,h2,h3,h4⟩:=hes;rw[places];rcases wU (depth:=depth) h (by omega) h1 h2 (by omega)with⟨g1,g2,g3,t,k,g4,g5⟩|⟨g1,g2,g3,g4,g5⟩
  ·rw[eT g1];obtain⟨q,hq⟩:=eX ((place l depth p en).2);rw[hq]at g2 g3 g4⊢;obtain⟨e',k1,k2,k3,k4,k5⟩:=rG hb es en.au q (zA q.st) g2 (by omega) (by rw[lS,g4];show t.cur=if t.has=true then t.node else t.cur;rw[eQ (by rw[g5];simp)]) h4 h3;refine⟨e',by omega,k2,k3,by rw[k4,g3],λhall=>?_⟩;obtain⟨m0,m1,m2⟩:=k5 hall;refine⟨λh=>(by cases h),λx hx=>?_,λ_=>?_⟩
   ·cases es with
    |nil=>
     obtain rfl:en=x:=by simpa using hx
     exact m0 rfl
    |cons y ys=>exact m1 x (by rw[Oq]at hx;exact hx)
   by_cases hes:es=[]
   ·subst hes;refine⟨t,k,?_,g5⟩;rw[places];exact g4
   exact m2 hes
  rw[eQ g1];dsimp only;have:=zU (a:=en.from') (b:=b) (code:=(place l depth p en).1) h (by omega) h1 (by omega) hb g5 g3 g4;rw[hup];exact⟨b,aa,fC _,this,rfl,λh=>by cases h⟩
end Ps
end Go.Proofs.YtfbiffdmhcjhbaaGreat

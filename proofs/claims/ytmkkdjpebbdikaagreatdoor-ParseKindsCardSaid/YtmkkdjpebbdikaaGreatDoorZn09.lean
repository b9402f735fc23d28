import Derived.Test.YtmkkdjpebbdikaaGreatDoorZn04
import Derived.Test.YtmkkdjpebbdikaaGreatDoorZn06
set_option linter.all false
set_option maxHeartbeats 16000000
set_option maxRecDepth 100000
namespace Go.Proofs.YtmkkdjpebbdikaaGreatDoor
open Go.RowKit Tryz
namespace Ps
open Ar Fl
open Rw (R E)
structure Op where
 node:Int
 kind:Nat
 fG:Int
 cur:Int
 has:Bool
structure PS where
 s:St
 doc:Int
 root:Bool
 st:List Op
 read:Nat
def limit(l:List Tk)(i:Nat):Nat:=iQ (λj=>raw l j !=20&&raw l j !=21) (l.length-i) i
def lo(l:List Tk)(a b:Nat):Nat:=iQ (λj=>!cnt (raw l j)) (b-a) a
def tF(rs:List R)(next:Nat)(none':Bool):Nat:=match rs.find? (λr=>!(decide (r.bu<next)||(none' &&r.bu==next)))with
 |some r=>r.bu
 |none=>0
def rO(l:List Tk)(s:St)(up:Int)(a b code:Nat):St:=if a<b then err l s up a b code else s
def rest(l:List Tk)(rs:List R)(p:PS)(up:Int)(next:Nat)(none':Bool):PS:=
 let r:=tF rs next none'
 let a:=lo l next r
 {p with s:=rO l p.s up a (back l r a) 8,read:=r}
def value(l:List Tk)(rs:List R)(depth:Nat)(p:PS)(up:Int)(i:Nat):PS×Bool:=
 let v:=jd l (limit l i) (depth-p.st.length) up i p.s
 (rest l rs {p with s:=v.2.2} up (if v.1<0 then i else max v.2.1 i) (decide (v.1<0)),decide (0<=v.1))
def jW(p:PS)(i:Nat):PS:=if p.doc<0 then{p with s:=(add p.s 0 2 i i).1,doc:=(add p.s 0 2 i i).2,root:=false,st:=[]}else p
def holder(p:PS):Int:=match p.st with
 |[]=>p.doc
 |t::_=>if t.has=true then t.node else t.cur
def mark(l:List Tk)(rs:List R)(depth:Nat)(p:PS)(r:R):PS:=
 let a:=lo l r.from' r.bu
 let b:=back l r.bu a
 if raw l a=20 then
  let q:=add p.s 0 2 a (a+1)
  let p1:PS:={p with s:=q.1,doc:=q.2,root:=false,st:=[]}
  let x:=lo l (a+1) r.bu
  if x<back l r.bu x then
   let v:=value l rs depth p1 p1.doc x
   {v.1 with root:=v.2}
  else p1
 else
  let s1:St:=if 0<=p.doc then⟨jg p.s.t p.doc ((a+1:Nat):Int),p.s.d⟩else p.s
  let x:=lo l (a+1) b
  {p with s:=rO l s1 0 x (back l b x) 8,doc:=-1,st:=[]}
def kindOf(e:E):Nat:=if e.dash=true then 3 else 5
def cur(l:List Tk)(s:St)(node:Int)(e:E):St×Int:=if e.dash=true then add s node 4 e.from' e.bu else pair l s node e.from' e.bu
def again(l:List Tk)(p:PS)(o:Op)(r:List Op)(e:E):Nat×PS:=
 (0,{p with s:=(cur l p.s o.node e).1,st:={o with cur:=(cur l p.s o.node e).2,has:=false}::r})
def fresh(l:List Tk)(depth:Nat)(p:PS)(up:Int)(root:Bool)(st:List Op)(e:E):Nat×PS:=
 if depth<st.length+1 then(10,p)
 else
  let a:=add p.s up (kindOf e) e.from' e.bu
  let c:=cur l a.1 a.2 e
  (0,{p with s:=c.1,root:=root,st:=⟨a.2,kindOf e,e.fG,c.2,false⟩::st})
def place(l:List Tk)(depth:Nat)(p:PS)(e:E):Nat×PS:=
 match p.st.dropWhile (λo=>decide (e.fG<o.fG))with
 |[]=>if p.root=true then(7,p)else fresh l depth p p.doc true [] e
 |o::r=>
  if o.fG=e.fG then
   if o.kind=kindOf e then again l p o r e
   else if kindOf e=3 then(if o.has=true then(5,p)else fresh l depth p o.cur p.root ({o with has:=true}::r) e)
   else match r with
    |o2::r2=>if o2.fG=e.fG/\o2.kind=5 then again l p o2 r2 e else(5,p)
    |[]=>(5,p)
  else if o.has=true then(6,p)else fresh l depth p o.cur p.root ({o with has:=true}::r) e
def bare(l:List Tk)(rs:List R)(depth:Nat)(p:PS)(r:R)(a b:Nat):PS:=
 match p.st.dropWhile (λo=>decide (r.fG<=o.fG))with
 |[]=>if p.root=true then{p with s:=err l p.s (holder p) a b 7}
  else
   let v:=value l rs depth {p with st:=[]} p.doc a
   {v.1 with root:=v.2}
 |o::q=>if o.has=true then{p with s:=err l p.s (holder p) a b 7}
  else
   let v:=value l rs depth {p with st:=o::q} o.cur a
   {v.1 with st:={o with has:=v.2}::q}
def Il:List Op->Int
 |t::_=>t.cur
 |[]=>0
def places(l:List Tk)(depth b:Nat):PS->Int->List E->Bool×PS
 |p,_,[]=>(true,p)
 |p,up,e::es=>
  let q:=place l depth p e
  if q.1=0 then places l depth b q.2 (Il q.2.st) es
  else(false,{p with s:=err l p.s up e.from' b q.1})
def body(l:List Tk)(rs:List R)(depth:Nat)(p:PS)(r:R):PS:=
 let a:=lo l r.from' r.bu
 let b:=back l r.bu a
 let p1:=jW p a
 let es:=Rw.iP l r
 if es.1=[]then bare l rs depth p1 r a b
 else
  let q:=places l depth b p1 (holder p1) es.1
  if q.1=true then
   let x:=lo l es.2 r.bu
   if x<back l r.bu x then
    match q.2.st with
    |t::k=>
     let v:=value l rs depth q.2 t.cur x
     {v.1 with st:={t with has:=v.2}::k}
    |[]=>q.2
   else q.2
  else q.2
def row(l:List Tk)(rs:List R)(depth:Nat)(p0:PS)(r:R):PS:=
 let p:PS:={p0 with read:=r.bu}
 if r.kind=4 then mark l rs depth p r
 else if r.kind=5 then body l rs depth p r
 else if r.kind=2\/r.kind=3 then
  let a:=lo l r.from' r.bu
  let b:=back l r.bu a
  if a<b then{jW p a with s:=err l (jW p a).s (holder (jW p a)) a b 8}else p
 else p
def jP(l:List Tk)(rs:List R)(depth:Nat):PS->List R->PS
 |p,[]=>p
 |p,r::k=>jP l rs depth (if p.read<=r.from' then row l rs depth p r else p) k
def start(l:List Tk):PS:=⟨⟨gV l.length,[]⟩,-1,false,[],0⟩
def read(l:List Tk)(depth:Nat):St:=(jP l (Rw.fA l) depth (start l) (Rw.fA l)).s
def less(a b:Dg):Bool:=if a.f=b.f then(if a.t=b.t then decide (a.code<b.code)else decide (a.t<b.t))else decide (a.f<b.f)
def same(a b:Dg):Bool:=a.code==b.code&&a.f==b.f&&a.t==b.t
def zJ(x:Dg):List Dg->List Dg
 |[]=>[x]
 |y::r=>if less x y=true then x::y::r else if same x y=true then y::r else y::zJ x r
def yF(l:List Dg):List Dg:=l.foldl (λo x=>zJ x o) []
def mW:Nat->Nat->List Nat->List Nat
 |0,_,_=>[]
 |f+1,p,l=>if l=[]then[]else if Sc.bad l=true then p::mW f (p+(Sc.xE l).2) (l.drop (Sc.xE l).2)else mW f (p+(Sc.xE l).2) (l.drop (Sc.xE l).2)
def part(b:List Nat)(f t:Nat):List Nat:=(b.drop f).take (t-f)
def tabs(b:List Nat)(l:List Tk)(r:R):List Dg:=
 if r.kind=5 then(List.range (lo l r.from' r.bu-r.from')).filterMap (λi=>
  if raw l (r.from'+i)=3/\(part b (mM l (r.from'+i)) (too l (r.from'+i))).contains 9=true then some ⟨2,mM l (r.from'+i),too l (r.from'+i)⟩else none)
 else[]
def je(b:List Nat)(x:Tk):List Dg:=
 if x.1=16\/x.1=17 then
  let q:=Qo.ma (x.1:Nat) ((part b x.2.1 x.2.2).map UInt8.ofNat)
  (if q.2.2=true then[]else[⟨3,x.2.1,x.2.2⟩])++q.2.1.map (λk=>⟨4,x.2.1+k,x.2.1+k+1⟩)
 else[]
def nM(b:List Nat)(l:List Tk):List Dg:=
 (mW b.length 0 b).map (λp=>⟨1,p,p+1⟩)++(Rw.fA l).flatMap (tabs b l)++l.flatMap (je b)
def tree(b:List Nat)(depth:Nat):List Tk×List Nd×List Dg:=
 if depth<1\/50<depth then([],[],[])
 else(Sc.tokens b,(read (Sc.tokens b) depth).t,yF ((read (Sc.tokens b) depth).d++nM b (Sc.tokens b)))
end Ps
namespace Pr
open Ar Fl
open Rw (R E)
open Ps (lo)
structure Lv where
 kind:Nat
 node:Nat
 fG:Int
 cur:Nat
 full:Bool
structure QS where
 s:St
 row:Nat
 en:Nat
 st:List Lv
def iR:Nat->List Nd->Nat->Int->List Nd
 |0,l,_,_=>l
 |f+1,l,k,z=>if k=0 then l else match l[k]? with
  |none=>l
  |some x=>iR f (l.set k {x with t:=max x.t z}) x.u.toNat z
def reach(l:List Nd)(k:Nat)(z:Int):List Nd:=iR (k+1) l k z
def oH(t:List Nd)(up:Nat):List Nd:=match t[up]? with
 |none=>t
 |some p=>t.set up {p with ks:=p.ks++[(t.length:Int)]}
def hold(t:List Nd)(up:Nat)(z:Int):List Nd:=reach (oH t up) up z
def add(t:List Nd)(up:Nat)(k f z:Int):List Nd:=hold t up z++[(⟨k,f,z,up,[],false⟩:Nd)]
def pY(t:List Nd)(up:Nat):List Nd->List Nd
 |[]=>t
 |v::r=>hold t up v.t++shift up (t.length-1) (v::r)
def fault(l:List Tk)(s:St)(up code a b:Nat):St:=
 let x:=lo l a b
 if x<b then⟨add s.t up 11 x (back l b x),s.d++[⟨code,mM l x,too l (back l b x-1)⟩]⟩else s
def free(v:Lv):Nat:=if v.full=true then v.node else v.cur
def mq:List Lv->Nat
 |[]=>0
 |v::_=>free v
def fM(q:QS)(i:Nat):QS:=match q.st with
 |[]=>{q with s:=⟨add q.s.t 0 2 i ((i+1:Nat):Int),q.s.d⟩,st:=[⟨2,q.s.t.length,-1,q.s.t.length,false⟩]}
 |_::_=>q
def ky(l:List Tk)(i:Nat):Nat:=Ps.limit l i
def rH(rs:List R)(i:Nat):Nat:=match rs[i]? with
 |some r=>r.bu
 |none=>0
def skip(rs:List R)(row next:Nat):Nat:=iQ (λi=>decide (rH rs i<next)) (rs.length-row) row
def value(l:List Tk)(rs:List R)(depth:Nat)(q:QS)(at':Nat):QS:=match q.st with
 |[]=>q
 |h::r=>
  let v:=jd l q.en (depth-r.length) 0 at' ⟨gV l.length,[]⟩
  let row:=skip rs q.row v.2.1
  {s:=fault l ⟨if v.1=-1 then q.s.t else pY q.s.t h.cur (v.2.2.t.drop v.1.toNat),q.s.d++v.2.2.d⟩ h.cur 8 v.2.1 (rH rs row),row:=row,en:=q.en,st:={h with full:=if v.1=-1 then h.full else true}::r}
def jY(l:List Tk)(q:QS)(r:R):QS:=
 let a:=lo l r.from' r.bu
 if a<r.bu then{fM q a with s:=fault l (fM q a).s (mq (fM q a).st) 8 a r.bu}else q
def wF(t:List Nd)(z:Nat):List Lv->List Nd
 |[]=>t
 |[v]=>reach t v.node z
 |_::v::r=>wF t z (v::r)
def mark(l:List Tk)(rs:List R)(depth:Nat)(q:QS)(r:R):QS:=
 let b:=r.from'+1
 if raw l r.from'=20 then value l rs depth (fM {q with en:=ky l b,st:=[]} r.from') b
 else{q with en:=ky l b,st:=[],s:=fault l ⟨wF q.s.t b q.st,q.s.d⟩ 0 8 b r.bu}
def enter(l:List Tk)(s:St)(h:Lv)(e:E):St×Lv:=
 if e.dash=true then(⟨add s.t h.node 4 e.from' e.bu,s.d⟩,{h with full:=false,cur:=s.t.length})
 else if e.bu-e.from'<2 then(⟨add s.t h.node 6 e.from' e.bu,s.d⟩,{h with full:=false,cur:=s.t.length})
 else(⟨add (keyed (add s.t h.node 6 e.from' e.bu) s.t.length) s.t.length (if(List.range (e.bu-1-e.from')).any (λx=>raw l (e.from'+x)==13)=true then 8 else 7) e.from' (back l (e.bu-1) (e.from'+1)),s.d⟩,{h with full:=false,cur:=s.t.length})
def Np:List Lv->Int
 |[]=>-1
 |o::_=>o.fG
def mX(depth n:Nat)(e:E):List Lv->Nat×List Lv
 |[]=>(0,[])
 |h::r=>
  if h.fG=e.fG/\h.kind=Ps.kindOf e then(0,h::r)
  else if e.fG<h.fG\/(h.fG=e.fG/\Np r=e.fG)then mX depth n e r
  else if h.fG=e.fG/\(h.full=true\/h.kind=3)then(5,[])
  else if h.full=true/\h.kind=2 then(7,[])
  else if h.full=true then(6,[])
  else if depth<n then(10,[])
  else(1,[])
def again(l:List Tk)(q:QS)(e:E)(h:Lv)(r:List Lv):QS:={q with s:=(enter l q.s h e).1,st:=(enter l q.s h e).2::r}
def fresh(l:List Tk)(q:QS)(e:E)(h:Lv)(r:List Lv):QS:=
 let n:=enter l ⟨add q.s.t h.cur (Ps.kindOf e) e.from' e.bu,q.s.d⟩ ⟨Ps.kindOf e,q.s.t.length,e.fG,0,false⟩ e
 {q with s:=n.1,st:=n.2::{h with full:=true}::r}
def act(l:List Tk)(q:QS)(e:E):Nat×List Lv->Nat×QS
 |(0,h::r)=>(0,again l q e h r)
 |(1,_)=>(match q.st with
  |h::r=>(0,fresh l q e h r)
  |[]=>(0,q))
 |(code,_)=>(code,q)
def place(l:List Tk)(depth:Nat)(q:QS)(e:E):Nat×QS:=act l q e (mX depth q.st.length e q.st)
def places(l:List Tk)(depth jr:Nat):QS->List E->Bool×QS
 |q,[]=>(true,q)
 |q,e::es=>
  let k:=place l depth q e
  if k.1=0 then places l depth jr k.2 es
  else(false,{q with s:=fault l q.s (mq q.st) k.1 e.from' jr })
def takes(c:Int):List Lv->Bool
 |[]=>false
 |h::_=>!h.full&&decide (h.fG<c)
def body(l:List Tk)(rs:List R)(depth:Nat)(q:QS)(r:R):QS:=
 let q1:=fM q (lo l r.from' r.bu)
 let es:=Rw.iP l r
 let k:=places l depth r.bu q1 es.1
 if k.1=true then
  if es.1=[]/\takes r.fG k.2.st=false then{k.2 with s:=fault l k.2.s (mq k.2.st) 7 es.2 r.bu}
  else value l rs depth k.2 es.2
 else k.2
def step(l:List Tk)(rs:List R)(depth:Nat)(q:QS)(r:R):QS:=
 if r.kind=4 then mark l rs depth q r else if r.kind=5 then body l rs depth q r else jY l q r
def Ia(l:List Tk)(rs:List R)(depth:Nat):Nat->QS->QS
 |0,q=>q
 |f+1,q=>match rs[q.row]? with
  |none=>q
  |some r=>Ia l rs depth f {step l rs depth q r with row:=(step l rs depth q r).row+1}
def start(l:List Tk):QS:=⟨⟨gV l.length,[]⟩,0,ky l 0,[]⟩
def read(l:List Tk)(depth:Nat):St:=(Ia l (Rw.fA l) depth (Rw.fA l).length (start l)).s
def tabs(l:List Tk)(r:R):List Dg:=
 if r.kind=5 then(List.range (lo l r.from' r.bu-r.from')).filterMap (λi=>if raw l (r.from'+i)=3 then some ⟨2,mM l (r.from'+i),too l (r.from'+i)⟩else none)
 else[]
def nM(b:List Nat)(l:List Tk):List Dg:=
 (Ps.mW b.length 0 b).map (λp=>⟨1,p,p+1⟩)++(Rw.fA l).flatMap (tabs l)++l.flatMap (Ps.je b)
end Pr
namespace Ps
open Ar Fl
open Rw (R E)
theorem kQ(l:List Tk)(a b:Nat):a<=lo l a b:=lD _ _ _
theorem lo_le(l:List Tk){a b:Nat}(h:a<=b):lo l a b<=b:=by
 have:=mi (λj=>!cnt (raw l j)) (b-a) a;unfold lo;omega
theorem qD(l:List Tk){a b:Nat}(h:lo l a b<b):cnt (raw l (lo l a b))=true:=by
 have:=ku (λj=>!cnt (raw l j)) (b-a) a;unfold lo at h⊢;rcases this with h1|h1
 ·have:=lD (λj=>!cnt (raw l j)) (b-a) a;omega
 simpa using h1
theorem oV(l:List Tk):∀(j m i:Nat),m<=i->i<j->cnt (raw l i)=true->i<back l j m
 |0,_,_=>λ_ h=>absurd h (qJ _)
 |j+1,m,i=>λh1 h2 h3=>by
  rw[back];by_cases e:i=j
  ·subst e;rw[eX (by rw[h3];simp)];omega
  split
  ·exact oV l j m i h1 (by omega) h3
  omega
theorem lM{l:List Tk}{i:Nat}{x:Tk}(h:l[i]?=some x):raw l i=x.1:=by unfold raw;rw[h]
theorem N6{l:List Tk}{i:Nat}(h:raw l i≠0):i<l.length:=by
 unfold raw at h;split at h
 ·rename_i x hx;exact(gD.1 hx).1
 exact absurd rfl h
theorem FD(l:List Tk):∀(n a:Nat)(x:Tk),Rw.jV ((l.drop a).take n)=some x->iQ (λj=>!cnt (raw l j)) n a<a+n/\l[iQ (λj=>!cnt (raw l j)) n a]?=some x/\cnt x.1=true
 |0,a,x=>λh=>by rw[vG]at h;cases h
 |n+1,a,x=>λh=>by
  rw[iQ];cases hy:l[a]? with
  |none=>
   rw[mI (by rw[wm]at hy;exact hy),Vv]at h;cases h
  |some y=>
   have ha:=(gD.1 hy).1;have e:l[a]=y:=(gD.1 hy).2;rw[vZ ha,e,uA,Rw.jV]at h;rw[lM hy];by_cases hc:Sc.counts y.1=true
   ·rw[eY hc]at h;injection h with h;subst h
    have hc':cnt y.1=true:=hc;rw[hc',eX (by simp)];exact⟨by omega,hy,rfl⟩
   rw[eX hc]at h;have hc':cnt y.1=false:=by
    have:¬cnt y.1=true:=hc
    simpa using this
   rw[hc',eY (by simp)];have:=FD l n (a+1) x h;exact⟨by omega,this.2⟩
structure oI(l:List Tk)(r:R):Prop where
 lt:r.from'<r.bu
 le:r.bu<=l.length
 body:r.kind=5->lo l r.from' r.bu<r.bu
 mark:r.kind=4->lo l r.from' r.bu<r.bu/\(raw l (lo l r.from' r.bu)=20\/raw l (lo l r.from' r.bu)=21)
theorem D3(l:List Tk):∀(n op fr:Nat),l.length-fr<=n->(∀r∈Rw.lF op fr (l.drop fr),oI l r/\fr<=r.from')/\(fr<l.length->∃r∈Rw.lF op fr (l.drop fr),r.bu=l.length)
 |0,op,fr=>λh=>by
  rw[mI (by omega)];exact⟨λr hr=>(by cases hr),λh=>(by omega)⟩
 |n+1,op,fr=>λh=>by
  by_cases hfr:fr<l.length
  ·have hne:l.drop fr≠[]:=λe=>by
    have:=congrArg List.length e;rw[iT,EL]at this;omega
   rw[Rw.qo _ _ _ hne];have hp:=Rw.ow _ hne;have hle:=Rw.wJ (l.drop fr);rw[iT]at hle;obtain⟨k,hk⟩:=fq (Rw.jy (l.drop fr));rw[hk]at hp hle⊢;rw[mQ];have aa:fr<fr+k:=by omega
   have hkl:fr+k<=l.length:=by omega
   obtain⟨h1,h2⟩:=D3 l n (Rw.nG op ((l.drop fr).take k)) (fr+k) (by omega);have hkind:Rw.kindOf (decide (0<op)) ((l.drop fr).take k)=5\/Rw.kindOf (decide (0<op)) ((l.drop fr).take k)=4->
    lo l fr (fr+k)<fr+k/\(Rw.kindOf (decide (0<op)) ((l.drop fr).take k)=4->raw l (lo l fr (fr+k))=20\/raw l (lo l fr (fr+k))=21):=by
    intro hq;unfold Rw.kindOf at hq⊢;by_cases h19:Rw.jO ((l.drop fr).take k)=19
    ·rw[eY h19]at hq;rcases hq with hq|hq<;>cases hq
    rw[eX h19]at hq⊢;cases hf:Rw.jV ((l.drop fr).take k)with
    |none=>
     rw[hf]at hq;dsimp only at hq;split at hq<;>rcases hq with hq|hq<;>cases hq
    |some x=>
     obtain⟨g1,g2,g3⟩:=FD l k fr x hf;have e:lo l fr (fr+k)=iQ (λj=>!cnt (raw l j)) k fr:=by unfold lo;rw[BB]
     rw[e];refine⟨g1,λh4=>?_⟩;dsimp only at h4;rw[lM g2];by_cases hm:Rw.vL x.1=true
     ·unfold Rw.vL at hm;simpa using hm
     rw[eX hm]at h4;split at h4<;>cases h4
   refine⟨λr hr=>?_,λ_=>?_⟩
   ·rcases l5.1 hr with rfl|hr
    ·exact⟨⟨aa,hkl,λh5=>(hkind (.inl h5)).1,λh4=>⟨(hkind (.inr h4)).1,(hkind (.inr h4)).2 h4⟩⟩,fB _⟩
    exact⟨(h1 r hr).1,by have:=(h1 r hr).2;clear h2;omega⟩
   by_cases he:fr+k<l.length
   ·obtain⟨r,hr,hr2⟩:=h2 he;exact⟨r,Rt _ hr,hr2⟩
   exact⟨_,List.mem_cons_self ..,by clear h2;show fr+k=_;omega⟩
  rw[mI (by omega)];exact⟨λr hr=>(by cases hr),λh=>absurd h hfr⟩
theorem rows_ok(l:List Tk):∀r∈Rw.fA l,oI l r:=λr hr=>((D3 l l.length 0 0 (by omega)).1 r (by rw[lQ];exact hr)).1
theorem Pm(l:List Tk)(h:0<l.length):∃r∈Rw.fA l,r.bu=l.length:=by
 have:=(D3 l l.length 0 0 (by omega)).2 h;rw[lQ]at this;exact this
theorem Wd(l:List Tk)(next:Nat)(none':Bool)(h1:next<=l.length)(h2:none'=true->next<l.length)(h3:0<l.length):next<=tF (Rw.fA l) next none'/\tF (Rw.fA l) next none'<=l.length:=by
 unfold tF;cases hf:(Rw.fA l).find? (λr=>!(decide (r.bu<next)||(none' &&r.bu==next)))with
 |some r=>
  have hm:=List.mem_of_find?_eq_some hf;have hp:=List.find?_some hf;simp at hp;exact⟨hp.1,(rows_ok l r hm).le⟩
 |none=>
  exfalso;rw[List.find?_eq_none]at hf;obtain⟨r,hr,he⟩:=Pm l h3;have:=hf r hr;simp[he]at this;have h4:=this h1;have:=h2 h4.1;omega
theorem D4(ts:List Tk):∀(f p:Nat),∀i∈Rw.lH f (ts.drop p),∃x,ts[p+i]?=some x/\x.1=5
 |0,_=>λi hi=>by cases hi
 |f+1,p=>λi hi=>by
  rw[Rw.lH]at hi;by_cases hk:Rw.jO (ts.drop p)=5
  ·rw[eY hk]at hi;rcases l5.1 hi with rfl|hi
   ·rw[qI];cases hx:ts[p]? with
    |none=>
     rw[mI (by rw[wm]at hx;exact hx)]at hk;cases hk
    |some x=>
     have hp:=(gD.1 hx).1;have e:ts[p]=x:=(gD.1 hx).2;rw[vZ hp,e]at hk;exact⟨x,rfl,hk⟩
   obtain⟨j,hj,rfl⟩:=xJ.1 hi;rw[mQ]at hj;obtain⟨x,h1,h2⟩:=D4 ts f _ j hj;exact⟨x,by rw[<-h1];congr 1;omega,h2⟩
  rw[eX hk]at hi;cases hi
theorem FE(at':Nat)(ts:List Tk):∀e∈Rw.l9 at' ts,at'<e.bu/\∃x,ts[e.bu-1-at']?=some x/\(x.1=5\/x.1=6):=by
 rw[Rw.nT];intro e he;rcases mU.1 he with he|he
 ·obtain⟨i,hi,rfl⟩:=xJ.1 he;obtain⟨x,h1,h2⟩:=D4 ts _ _ i hi;refine⟨by show at'<at'+_+1;omega,x,?_,.inl h2⟩;show ts[at'+(Rw.gZ ts+i)+1-1-at']?=_;rw[show at'+(Rw.gZ ts+i)+1-1-at'=Rw.gZ ts+i by omega];exact h1
 unfold Rw.Dc at he;cases hk:Rw.nY (ts.drop (Rw.r9 ts))with
 |none=>rw[hk]at he;cases he
 |some n=>
  rw[hk]at he;obtain rfl:=vF.1 he;unfold Rw.nY at hk;by_cases h6:Rw.jO ((ts.drop (Rw.r9 ts)).drop (Rw.qy (ts.drop (Rw.r9 ts))))=6
  ·rw[eY h6]at hk;injection hk with hk
   obtain⟨a,ha⟩:=fq (Rw.qy (ts.drop (Rw.r9 ts)));rw[ha]at hk h6;rw[mQ]at h6;refine⟨by show at'<at'+_+n;omega,?_⟩;show∃x,ts[at'+Rw.r9 ts+n-1-at']?=some x/\_;rw[show at'+Rw.r9 ts+n-1-at'=Rw.r9 ts+a by omega];cases hx:ts[Rw.r9 ts+a]? with
   |none=>
    rw[mI (by rw[wm]at hx;exact hx)]at h6;cases h6
   |some x=>
    have hp:=(gD.1 hx).1;have e:ts[Rw.r9 ts+a]=x:=(gD.1 hx).2;rw[vZ hp,e]at h6;exact⟨x,rfl,.inr h6⟩
  rw[eX h6]at hk;cases hk
def nR(l:List Tk)(b:Nat):Nat->List E->Prop
 |_,[]=>True
 |p,e::r=>p<=e.from'/\e.from'<e.bu/\e.bu<=b/\nR l b e.bu r
theorem AY(l:List Tk)(b:Nat):∀(es:List E)(p:Nat)(c:Int),Rw.Ord p c es->(∀e∈es,e.bu<=b)->nR l b p es
 |[],_,_=>λ_ _=>trivial
 |e::r,p,c=>fun⟨h1,h2,_,_,h5⟩ hb=>⟨h1,h2,hb e (by simp),AY l b r _ _ h5 (λx hx=>hb x (by simp[hx]))⟩
theorem wN{l:List Tk}{r:R}(ht:Rw.kK 0 l)(h:oI l r)(h5:r.kind=5):
 nR l (back l r.bu (lo l r.from' r.bu)) (lo l r.from' r.bu) (Rw.iP l r).1/\(∀e,(Rw.iP l r).1.getLast?=some e->(Rw.iP l r).2=e.bu)/\((Rw.iP l r).1=[]->(Rw.iP l r).2=lo l r.from' r.bu)/\(Rw.iP l r).2<=r.bu:=by
 have hlt:=h.lt;have hle:=h.le;obtain⟨ts,hts⟩:=fq ((l.drop r.from').take (r.bu-r.from'));have af:Rw.iP l r=(Rw.l9 r.from' ts,Rw.pX r.from' ts):=by unfold Rw.iP;rw[eY h5,hts]
 have hlen:ts.length=r.bu-r.from':=by rw[<-hts,kD,iT];omega
 have hget:∀i x,ts[i]?=some x->l[r.from'+i]?=some x/\i<r.bu-r.from':=by
  intro i x hx;have hi:=(gD.1 hx).1;rw[<-hts,rD (by omega),sJ]at hx;exact⟨hx,by omega⟩
 obtain⟨q,hq⟩:=Rw.kK.drop ht r.from';have ag:Rw.kK q ts:=by rw[<-hts];exact Rw.ym _ _ hq
 have hlead:r.from'+Rw.gZ ts=lo l r.from' r.bu:=by
  have key:∀(n a:Nat),a+n<=l.length->a+Rw.gZ ((l.drop a).take n)=iQ (λj=>!cnt (raw l j)) n a:=by
   intro n
   induction n with
   |zero=>intro a _;rw[vG];rfl
   |succ n ih=>
    intro a ha;have hx:l[a]?=some l[a]:=mR (by omega);rw[vZ (by omega),uA,Rw.gZ,iQ,lM hx];by_cases hc:Sc.counts (l[a]).1=true
    ·have hc':cnt (l[a]).1=true:=hc;rw[eY hc,hc',eX (by simp)];rfl
    have hc':cnt (l[a]).1=false:=by
     have:¬cnt (l[a]).1=true:=hc
     simpa using this
    rw[eX hc,hc',eY (by simp),<-ih (a+1) (by omega)];omega
  have:=key (r.bu-r.from') r.from' (by omega);rw[hts]at this;exact this
 rw[af];obtain⟨a,ha⟩:=fq (lo l r.from' r.bu);rw[ha]at hlead⊢;have ae:=Rw.Fx ag r.from';refine⟨AY l _ _ a (-1) ?_ (λe he=>?_),(Rw.DW r.from' ts).2.1,λhe=>by rw[<-hlead];exact(Rw.DW r.from' ts).1 he,by have:=(Rw.DW r.from' ts).2.2;show Rw.pX r.from' ts<=_;omega⟩
 ·
  show Rw.Ord a (-1) (Rw.l9 r.from' ts);have aa:∀e,(Rw.l9 r.from' ts).head?=some e->a<=e.from':=by
   intro e he;have he:e∈Rw.l9 r.from' ts:=List.mem_of_head? he;rw[Rw.nT]at he;rcases mU.1 he with he|he
   ·obtain⟨i,_,rfl⟩:=xJ.1 he;show a<=r.from'+(Rw.gZ ts+i);omega
   unfold Rw.Dc at he;cases hk:Rw.nY (ts.drop (Rw.r9 ts))with
   |none=>rw[hk]at he;cases he
   |some n=>
    rw[hk]at he;obtain rfl:=vF.1 he;show a<=r.from'+Rw.r9 ts;unfold Rw.r9;omega
  cases hes:Rw.l9 r.from' ts with
  |nil=>trivial
  |cons e k=>
   rw[hes]at ae aa;obtain⟨h1,h2,h3⟩:=ae;exact⟨aa e rfl,h2,h3⟩
 obtain⟨c1,x,c2,c3⟩:=FE r.from' ts e he;obtain⟨g1,g2⟩:=hget _ x c2
 have:=oV l r.bu a (e.bu-1) (by
  have hmem:a<=e.bu-1:=by
   rw[Rw.nT]at he;rcases mU.1 he with he|he
   ·obtain⟨i,_,rfl⟩:=xJ.1 he;show a<=r.from'+(Rw.gZ ts+i)+1-1;omega
   unfold Rw.Dc at he;cases hk:Rw.nY (ts.drop (Rw.r9 ts))with
   |none=>rw[hk]at he;cases he
   |some n=>
    rw[hk]at he;obtain rfl:=vF.1 he;have:=Rw.pF _ n hk;show a<=r.from'+Rw.r9 ts+n-1;unfold Rw.r9;omega
  exact hmem) (by omega) (by
  rw[show e.bu-1=r.from'+(e.bu-1-r.from')by omega,lM g1]
  rcases c3 with c3|c3<;>rw[c3]<;>rfl)
 omega
end Ps
namespace Fe
open Ar Fl
def VC(l:List Tk)(e:Nat)(n:Int)(val:Int->Nat->St->Int×Nat×St):Prop:=
 ∀(up p:Nat)(s:St)(b:Int),Ck s.t n->Fits s.t p b up->Lf s.t->No s.t up->b<=p+1->p<=e->
  (val up p s=(-1,p,s)/\begins (kd l e p)=false)\/
  (∃(next:Nat)(s':St),val up p s=((s.t.length:Int),next,s')/\p<next/\next<=e/\cnt (raw l (next-1))=true/\Ok l p n up s next next s')
theorem N7(l:List Tk)(e:Nat)(n:Int)(hn:(e:Int)<=n)(fG:Option (Int->Nat->St->Nat×St)):
 (∀k,fG=some k->∀(c op:Nat)(s:St)(b:Int),op<e->cnt (raw l op)=true->Ck s.t n->Fits s.t (op+1:Nat) b c->Lf s.t->No s.t c->b<=(op+1:Nat)->
  ∃(next:Nat)(s':St),k c op s=(next,s')/\op<next/\next<=e/\cnt (raw l (next-1))=true/\Ok l op n c s next next s')->VC l e n (pV l e fG):=by
 intro hk up p s b hck hf hlf hno hb hpe;have h0:=j6 (l:=l) hpe;obtain⟨i0,hi0⟩:=fq (blanks l e p);have hl:=uJ l e i0 (e-i0) none i0 (fB _) (by omega) (λa z h=>by simp at h);obtain⟨o,ho⟩:=fq ((lead l e (e-i0) none i0).1);obtain⟨i,hi⟩:=fq ((lead l e (e-i0) none i0).2);rw[hi0]at h0;rw[ho,hi]at hl;obtain⟨l1,l2,l3,l4⟩:=hl;obtain⟨fr,hfr⟩:=fq (kL o i);have af:p<=fr/\fr<=i:=by
  rw[<-hfr];cases o with
  |none=>exact⟨by show p<=i;omega,fB _⟩
  |some x=>obtain⟨a,z⟩:=x;have:=l3 a z rfl;show p<=a/\a<=i;omega
 have hs:Ok l p n up s p b s:=.start hck hf hlf hno;obtain⟨k,hkd⟩:=fq (kd l e i);have put:∀(kind t:Nat),fr<t->t<=e->cnt (raw l (t-1))=true->1<=kind->kind<=10->
  ∃(next:Nat)(s':St),((add s up kind fr t).2,t,(add s up kind fr t).1)=((s.t.length:Int),next,s')/\p<next/\next<=e/\cnt (raw l (next-1))=true/\Ok l p n up s next next s':=by
  intro kind t h1 h2 h3 h4 h5;obtain⟨s',a1,a2,_⟩:=kE (kind:=kind) hs (f:=fr) (t:=t) (by omega) (by omega) (by omega) h4 h5;exact⟨t,s',by rw[a1],by omega,h2,h3,a2.le (jq _) (by omega)⟩
 unfold pV;dsimp only;rw[hi0,ho,hi,hfr,hkd];have kin:k≠0->i<e/\raw l i=k:=λh=>by have:=jc (l:=l) (e:=e) (i:=i) (by omega);omega
 by_cases c1:k=13
 ·rw[eY c1];have hi2:=kin (by omega);exact .inr (put 8 (i+1) (by omega) (by omega) (by rw[jH,hi2.2,c1];rfl) (by omega) (by omega))
 rw[eX c1];by_cases c2:ig k=true
 ·rw[eY c2];have hi2:=kin (λh=>by rw[h]at c2;exact absurd c2 (by decide));exact .inr (put 7 (i+1) (by omega) (by omega) (by rw[jH,hi2.2];exact zY c2) (by omega) (by omega))
 rw[eX c2];by_cases c3:k=18
 ·rw[eY c3];have ht:=y8 (l:=l) (e:=e) (i:=i) (by omega);exact .inr (put 7 (text l e i) (by omega) ht.2.1 ht.2.2 (by omega) (by omega))
 rw[eX c3];by_cases c4:opens k=true
 ·rw[eY c4];have hi2:=kin (λh=>by rw[h]at c4;exact absurd c4 (by decide));cases aa:fG with
  |none=>
   have ht:=kV (l:=l) (e:=e) (i:=i) (by rw[hkd];exact c4);obtain⟨e1,e2⟩:=pG hs (f:=fr) (t:=balanced l e i) (code:=10) (by omega) (by omega) (by omega) (by omega) (by omega) (by omega) (by omega);exact .inr ⟨balanced l e i,_,by dsimp only;rw[e2],by omega,ht.2.1,ht.2.2,e1.le (jq _) (by omega)⟩
  |some q=>
   dsimp only;obtain⟨kind,hkind⟩:∃kind:Nat,kind=(if k=9 then 10 else 9):=⟨_,rfl⟩
   rw[<-hkind];have hk1:1<=kind/\kind<=10:=by rw[hkind];split<;>omega
   obtain⟨s',a1,a2,a3,⟨x,a4,a5⟩,a6⟩:=kE (kind:=kind) hs (f:=fr) (t:=i+1) (by omega) (by omega) (by omega) hk1.1 hk1.2;rw[a1];dsimp only;obtain⟨next,s2,k1,k2,k3,k4,k5⟩:=hk q aa s.t.length i s' (i+1:Nat) hi2.1 (by rw[hi2.2];exact qQ c4) a3.ck (a3.fits.le (by omega) (by omega)) a3.lf a3.no (jq _);rw[k1];obtain⟨x',b1,_,_,b2⟩:=k5.keep.2 _ x a4;exact .inr ⟨next,s2,rfl,by omega,k3,k4,(a2.trans (k5.low (by omega))).out b1 (by omega) a6⟩
 rw[eX c4];cases o with
 |some x=>
  obtain⟨a,z⟩:=x;have:=l3 a z rfl;have hfa:fr=a:=by rw[<-hfr];rfl
  exact .inr (put 7 (z+1) (by omega) (by omega) (by rw[jH];exact zX this.2.2.2) (by omega) (by omega))
 |none=>
  refine .inl ⟨rfl,?_⟩;obtain⟨_,m2,m3⟩:=l4 rfl;have ae:gW k=false:=by
   by_cases h:i0<e
   ·rw[<-hkd,m2];exact m3 (by omega)
   have:k=0:=by rw[<-hkd];unfold kd;rw[eY (.inl (by omega))]
   rw[this];rfl
  have hbk:begins k=false:=by
   unfold begins;rw[ae,show ig k=false by simpa using c2,show opens k=false by simpa using c4,show(k==18)=false by simpa using c3];rfl
  by_cases hp:i0=p
  ·rw[<-hp,<-m2,hkd];exact hbk
  have:=zM (λj=>raw l j==3) (e-p) p (by rw[<-hi0]at hp;exact hp);have h3:raw l p=3:=by simpa using this
  unfold kd;split
  ·rfl
  rw[h3];rfl
theorem D5(l:List Tk)(e:Nat)(n:Int)(hn:(e:Int)<=n){c j q:Nat}{s:St}{b:Int}(hck:Ck s.t n)(hf:Fits s.t j b c)(hlf:Lf s.t)(hno:No s.t c)(hb:b<=q)(hjq:j<q)(hqe:q<=e):
 ∃s',pair l s c j q=(s',(s.t.length:Int))/\Ok l j n s.t.length s q q s'/\(∃x,s'.t[s.t.length]?=some x/\x.u=(c:Int))/\0<s.t.length:=by
 obtain⟨s1,a1,_,a3,⟨x,a4,a5⟩,a6⟩:=kE (kind:=6) (Ok.start (l:=l) (p0:=j) hck hf hlf hno) (f:=j) (t:=q) (by omega) (by omega) (by omega) (by omega) (by omega);have a1:add s c 6 j q=(s1,(s.t.length:Int)):=a1;unfold pair;dsimp only;rw[a1];dsimp only;by_cases h:q-j<2
 ·rw[eY h];exact⟨s1,rfl,a3.le (by omega) (by omega),⟨x,a4,a5⟩,a6⟩
 rw[eX h];obtain⟨kind,hkind⟩:∃kind:Nat,kind=(if(List.range (q-j)).any (λx=>raw l (j+x)==13)=true then 8 else 7):=⟨_,rfl⟩
 rw[<-hkind];have hk1:1<=kind/\kind<=10:=by rw[hkind];split<;>omega
 have b1:=iV l (q-1) (j+1);have b2:=uI l (q-1) (j+1) (by omega);obtain⟨s2,d1,d2,_⟩:=kE (kind:=kind) (Ok.start (l:=l) (p0:=j) a3.ck a3.fits a3.lf a3.no) (f:=j) (t:=back l (q-1) (j+1)) (by omega) (by omega) (by omega) hk1.1 hk1.2;rw[d1];dsimp only;have d3:=ou (s.t.length:Int) d2;obtain⟨x',g1,_,_,g2⟩:=d3.keep.2 _ x a4;exact⟨_,rfl,(a3.trans d3).le (by omega) (by omega),⟨x',g1,by omega⟩,a6⟩
theorem JN(l:List Tk)(e:Nat)(n:Int)(hn:(e:Int)<=n)(val:Int->Nat->St->Int×Nat×St)(hv:VC l e n val)(aa:Bool){c j:Nat}{s:St}{b:Int}
 (hck:Ck s.t n) (hf:Fits s.t j b c) (hlf:Lf s.t) (hno:No s.t c) (hb:b<=j) (hj:kd l e j≠0) (ae:0<key l e j\/begins (kd l e j)=true):
 ∃(next:Nat)(s':St),item l e val aa c j s=(next,s')/\j<next/\next<=e/\cnt (raw l (next-1))=true/\Ok l j n c s next next s':=by
 have ag:=(jc hj).1;unfold item;dsimp only;by_cases hq:0<key l e j
 ·rw[eY hq];obtain⟨q1,q2,q3⟩:=pF (by omega) hq;obtain⟨q,af⟩:=fq (key l e j);rw[af]at q1 q2 q3⊢;obtain⟨s1,a1,a2,⟨x,a3,a4⟩,a5⟩:=D5 l e n hn hck hf hlf hno (by omega) q1 q2;rw[a1];dsimp only;have hcq:cnt (raw l (q-1))=true:=by rw[q3];rfl
  split
  ·exact⟨q,s1,rfl,q1,q2,hcq,a2.out a3 a4 a5⟩
  have ht:=iY (l:=l) (e:=e) (i:=q) q2;rcases hv s.t.length (fZ l e q) s1 q a2.ck (a2.fits.le (by omega) (jq _)) a2.lf a2.no (by omega) ht.2 with⟨v1,_⟩|⟨next,s2,v1,v2,v3,v4,v5⟩
  ·rw[v1];exact⟨q,s1,rfl,q1,q2,hcq,a2.out a3 a4 a5⟩
  rw[v1];dsimp only;rw[eX (by omega)];obtain⟨x',g1,_,_,g2⟩:=v5.keep.2 _ x a3;exact⟨next,s2,rfl,by omega,v3,v4,(a2.trans (v5.low (by omega))).out g1 (by omega) a5⟩
 rw[eX hq];have hbg:begins (kd l e j)=true:=ae.resolve_left hq;cases aa with
 |true=>
  rw[eY rfl];obtain⟨s1,a1,_,a3,⟨x,a4,a5⟩,a6⟩:=kE (kind:=6) (Ok.start (l:=l) (p0:=j) hck hf hlf hno) (f:=j) (t:=j+1) (by omega) (by omega) (by omega) (by omega) (by omega);have a1:add s c 6 j (j+1)=(s1,(s.t.length:Int)):=a1;rw[a1];dsimp only;have d3:=ou (s.t.length:Int) a3;obtain⟨x1,g1,_,_,g2⟩:=(ou (s.t.length:Int) (Ok.start (l:=l) (p0:=j) a3.ck a3.fits a3.lf a3.no)).keep.2 _ x a4;rcases hv s.t.length j _ (j+1:Nat) d3.ck (d3.fits.le (jq _) (by omega)) d3.lf d3.no (by omega) (by omega)with⟨_,v2⟩|⟨next,s2,v1,v2,v3,v4,v5⟩
  ·rw[hbg]at v2;exact absurd v2 (by decide)
  rw[v1];dsimp only;obtain⟨x2,k1,_,_,k2⟩:=v5.keep.2 _ x1 g1;exact⟨next,s2,rfl,v2,v3,v4,(d3.trans v5).out k1 (by omega) a6⟩
 |false=>
  rw[eX (by decide)];rcases hv c j s b hck hf hlf hno (by omega) (by omega)with⟨_,v2⟩|⟨next,s2,v1,v2,v3,v4,v5⟩
  ·rw[hbg]at v2;exact absurd v2 (by decide)
  rw[v1];exact⟨next,s2,rfl,v2,v3,v4,v5⟩
theorem N8(l:List Tk)(e:Nat)(n:Int)(hn:(e:Int)<=n)(val:Int->Nat->St->Int×Nat×St)(hv:VC l e n val)(c op:Nat):
 ∀(g p:Nat)(aa:Bool)(s:St)(b:Int),Ck s.t n->Fits s.t p b c->Lf s.t->No s.t c->b<=p->op<p->p<=e->cnt (raw l (p-1))=true->
 ∃(next:Nat)(s':St),lU l e val c op g p aa s=(next,s')/\op<next/\next<=e/\cnt (raw l (next-1))=true/\Ok l op n c s next next s'
 |0,p,aa,s,b=>λhck hf hlf hno hb hop hpe hcp=>⟨p,s,rfl,hop,hpe,hcp,(Ok.start hck hf hlf hno).le (jq _) hb⟩
 |g+1,p,aa,s,b=>λhck hf hlf hno hb hop hpe hcp=>by
  have ht:=iY (l:=l) (e:=e) (i:=p) hpe;have hs:Ok l op n c s p b s:=.start hck hf hlf hno;rw[lU];obtain⟨j,hj⟩:=fq (fZ l e p);rw[hj]at ht⊢;obtain⟨k,hk⟩:=fq (kd l e j);rw[hk];by_cases k0:k=0
  ·rw[eY k0,mJ l p (op+1) (by omega) hcp];exact⟨p,_,rfl,hop,hpe,hcp,DR (hs.le (jq _) hb) (fB _) (by omega)⟩
  rw[eX k0];have hjk:=jc (l:=l) (e:=e) (i:=j) (by omega);rw[hk]at hjk;have on:∀(p':Nat)(h':Bool)(s1:St),Ok l op n c s p' p' s1->j<p'->p'<=e->cnt (raw l (p'-1))=true->
   ∃(next:Nat)(s':St),lU l e val c op g p' h' s1=(next,s')/\op<next/\next<=e/\cnt (raw l (next-1))=true/\Ok l op n c s next next s':=by
   intro p' h' s1 h1 h2 h3 h4;obtain⟨next,s',g1,g2,g3,g4,g5⟩:=N8 l e n hn val hv c op g p' h' s1 p' h1.ck h1.fits h1.lf h1.no (jq _) (by omega) h3 h4;exact⟨next,s',g1,g2,g3,g4,h1.trans g5⟩
  have er:∀(t code:Nat),code=8->j<t->t<=e->Ok l op n c s t t (err l s c j t code):=by
   intro t code h1 h2 h3;exact(pG hs (f:=j) (t:=t) (code:=code) (by omega) (by omega) (by omega) (by omega) (by omega) (by omega) (by omega)).1.le (jq _) (by omega)
  have gr:Ok l op n c s (j+1:Nat) (j+1:Nat) ⟨jg s.t c ((j+1:Nat):Int),s.d⟩:=qd hs (by omega) (by omega) (by omega);have c1:cnt k=true->cnt (raw l (j+1-1))=true:=λh=>by rw[jH,hjk.2];exact h
  by_cases k1:k=(if raw l op=9 then 11 else 10)
  ·rw[eY k1];exact⟨j+1,_,rfl,by omega,by omega,c1 (by rw[k1];split<;>rfl),gr⟩
  rw[eX k1];by_cases k2:ends k=true
  ·rw[eY k2];exact on (j+1) aa _ (er (j+1) 8 rfl (by omega) (by omega)) (by omega) (by omega) (c1 (wG k2))
  rw[eX k2];by_cases k3:k=7
  ·rw[eY k3];have c7:=c1 (by rw[k3];rfl);split
   ·exact on (j+1) false _ gr (by omega) (by omega) c7
   exact on (j+1) aa _ (er (j+1) 8 rfl (by omega) (by omega)) (by omega) (by omega) c7
  rw[eX k3];have hcj:cnt (raw l j)=true:=by
   have hnt:j=e\/(λj=>!cnt (raw l j)) j=false:=by
    have:=ku (λj=>!cnt (raw l j)) (e-p) p;unfold fZ at hj;rw[hj]at this;rcases this with h|h
    ·exact .inl (by omega)
    exact .inr h
   rcases hnt with h|h
   ·omega
   simpa using h
  by_cases k4:aa=true
  ·rw[eY k4];obtain⟨t1,t2,t3⟩:=qR (l:=l) (e:=e) (j:=j) (by omega) hcj (by omega) (by rw[hk];simpa using k2);exact on _ aa _ (er _ 8 rfl t1 t2) t1 t2 t3
  rw[eX k4];by_cases k5:0<key l e j\/begins k=true
  ·rw[eY k5];obtain⟨next,s',i1,i2,i3,i4,i5⟩:=JN l e n hn val hv (raw l op==9) (c:=c) (j:=j) hck (hf.le (by omega) (jq _)) hlf hno (by omega) (by omega) (by rw[hk];exact k5);rw[i1];exact on next true s' (i5.low (by omega)) i2 i3 i4
  rw[eX k5];exact on (j+1) aa _ (er (j+1) 8 rfl (by omega) (by omega)) (by omega) (by omega) (c1 (by rw[<-hjk.2];exact hcj))
theorem zg(l:List Tk)(e:Nat)(n:Int)(hn:(e:Int)<=n):∀d:Nat,VC l e n (jd l e d)
 |0=>N7 l e n hn none (λk h=>by simp at h)
 |d+1=>N7 l e n hn _ (λk h c op s b ho hc hck hf hlf hno hb=>by
  injection h with h
  subst h
  exact N8 l e n hn _ (zg l e n hn d) c op (e-op) (op+1) false s b hck hf hlf hno hb (by omega) (by omega) (by rw[jH];exact hc))
end Fe
namespace Ps
open Ar Fl
open Rw (R E)
abbrev Bs:=Nat×St
abbrev OK(l:List Tk)(B:Bs)(k:Nat)(e:Nat)(s:St):Prop:=Fe.Ok l B.1 l.length k B.2 e e s
def sW(l:List Tk)(B:Bs)(k:Int)(e:Nat)(s:St):Prop:=∃m:Nat,k=(m:Int)/\OK l B m e s
theorem sW.le{l:List Tk}{B:Bs}{k:Int}{e e':Nat}{s:St}(h:sW l B k e s)(he:e<=e'):sW l B k e' s:=by
 obtain⟨m,h1,h2⟩:=h;exact⟨m,h1,h2.le (by omega) (by omega)⟩
def Up(t:List Nd)(c p:Nat):Prop:=0<c/\∃x,t[c]?=some x/\x.u=(p:Int)
theorem Up.keep{t t':List Nd}{c p:Nat}(h:Up t c p)(hk:nE t t'):Up t' c p:=by
 obtain⟨h0,x,h1,h2⟩:=h;obtain⟨x',g1,_,_,g2⟩:=hk.2 c x h1;exact⟨h0,x',g1,by omega⟩
theorem EU{l:List Tk}{B:Bs}{c p:Nat}{e:Nat}{s:St}(h:OK l B c e s)(hu:Up s.t c p):OK l B p e s:=by
 obtain⟨h0,x,h1,h2⟩:=hu;exact h.out h1 h2 h0
def outer(d:Nat):List Op->Int
 |[]=>d
 |o::_=>o.cur
def jQ(t:List Nd)(d:Nat):List Op->Prop
 |[]=>Up t d 0
 |o::r=>(∃nd c p:Nat,o.node=(nd:Int)/\o.cur=(c:Int)/\Up t c nd/\outer d r=(p:Int)/\Up t nd p)/\jQ t d r
theorem jQ.keep{t t':List Nd}(hk:nE t t'){d:Nat}:∀{st:List Op},jQ t d st->jQ t' d st
 |[],h=>Up.keep h hk
 |_::_,⟨⟨nd,c,p,h1,h2,h3,h4,h5⟩,h6⟩=>⟨⟨nd,c,p,h1,h2,h3.keep hk,h4,h5.keep hk⟩,jQ.keep hk h6⟩
def hold(doc:Int):List Op->Int
 |[]=>doc
 |t::_=>if t.has=true then t.node else t.cur
theorem pz(p:PS):holder p=hold p.doc p.st:=by unfold holder hold;split<;>rename_i h<;>first|rfl|rw[h]
def lJ(l:List Tk)(B:Bs)(e:Nat)(s:St)(d:Nat):List Op->Prop
 |[]=>sW l B d e s
 |o::_=>sW l B o.node e s/\(o.has=false->sW l B o.cur e s)
theorem wO{l:List Tk}{B:Bs}{e d:Nat}{s:St}{st:List Op}(hc:jQ s.t d st)(h:sW l B (hold d st) e s):lJ l B e s d st:=by
 cases st with
 |nil=>exact h
 |cons o r=>
  obtain⟨⟨nd,c,p,h1,h2,h3,_,_⟩,_⟩:=hc;have h:sW l B (if o.has=true then o.node else o.cur) e s:=h;by_cases ho:o.has=true
  ·rw[eY ho]at h;exact⟨h,λh=>by rw[ho]at h;cases h⟩
  rw[eX ho]at h;refine⟨?_,λ_=>h⟩;obtain⟨m,e1,e2⟩:=h;obtain rfl:m=c:=by omega
  exact⟨nd,h1,EU e2 h3⟩
theorem lJ.hold{l:List Tk}{B:Bs}{e d:Nat}{s:St}{st:List Op}(h:lJ l B e s d st):sW l B (hold d st) e s:=by
 cases st with
 |nil=>exact h
 |cons o r=>
  show sW l B (if o.has=true then o.node else o.cur) e s;split
  ·exact h.1
  rename_i ho;exact h.2 (by simpa using ho)
theorem lJ.outer{l:List Tk}{B:Bs}{e d:Nat}{s:St}{o:Op}{r:List Op}(hc:jQ s.t d (o::r))(h:lJ l B e s d (o::r)):sW l B (outer d r) e s:=by
 obtain⟨⟨nd,c,p,h1,h2,_,h4,h5⟩,_⟩:=hc;obtain⟨m,e1,e2⟩:=h.1;obtain rfl:m=nd:=by omega
 exact⟨p,h4,EU e2 h5⟩
theorem wW{l:List Tk}{B:Bs}{e d:Nat}{s:St}{r:List Op}(hc:jQ s.t d r)(h:sW l B (outer d r) e s):lJ l B e s d r:=by
 cases r with
 |nil=>exact h
 |cons o q=>
  obtain⟨⟨nd,c,p,h1,h2,h3,_,_⟩,_⟩:=hc;refine⟨?_,λ_=>h⟩;obtain⟨m,e1,e2⟩:=h;have e1:o.cur=(m:Int):=e1;obtain rfl:m=c:=by omega
  exact⟨nd,h1,EU e2 h3⟩
theorem lJ.drop{l:List Tk}{B:Bs}{e d:Nat}{s:St}(f:Op->Bool):∀{st:List Op},jQ s.t d st->lJ l B e s d st->jQ s.t d (st.dropWhile f)/\lJ l B e s d (st.dropWhile f)
 |[],hc,h=>⟨hc,h⟩
 |o::r,hc,h=>by
  rw[EK];split
  ·exact lJ.drop f hc.2 (wW hc.2 (lJ.outer hc h))
  exact⟨hc,h⟩
theorem lJ.all{l:List Tk}{B:Bs}{e d:Nat}{s:St}:∀{st:List Op},jQ s.t d st->lJ l B e s d st->Up s.t d 0/\OK l B d e s
 |[],hc,h=>by
  obtain⟨m,e1,e2⟩:=h;obtain rfl:m=d:=by omega
  exact⟨hc,e2⟩
 |o::r,hc,h=>lJ.all hc.2 (wW hc.2 (lJ.outer hc h))
def xG(l:List Tk)(B:Bs)(e:Nat)(p:PS):Prop:=∃d:Nat,p.doc=(d:Int)/\jQ p.s.t d p.st/\lJ l B e p.s d p.st
def Inv(l:List Tk)(B:Bs)(e:Nat)(p:PS):Prop:=(p.doc=-1/\p.st=[]/\OK l B 0 e p.s)\/xG l B e p
theorem lJ.le{l:List Tk}{B:Bs}{e e' d:Nat}{s:St}{st:List Op}(h:lJ l B e s d st)(he:e<=e'):lJ l B e' s d st:=by
 cases st with
 |nil=>exact sW.le h he
 |cons o r=>exact⟨sW.le h.1 he,λg=>sW.le (h.2 g) he⟩
theorem xG.le{l:List Tk}{B:Bs}{e e':Nat}{p:PS}(h:xG l B e p)(he:e<=e'):xG l B e' p:=by
 obtain⟨d,h1,h2,h3⟩:=h;exact⟨d,h1,h2,h3.le he⟩
theorem Inv.le{l:List Tk}{B:Bs}{e e':Nat}{p:PS}(h:Inv l B e p)(he:e<=e'):Inv l B e' p:=by
 rcases h with⟨h1,h2,h3⟩|h
 ·exact .inl ⟨h1,h2,h3.le (by omega) (by omega)⟩
 exact .inr (h.le he)
theorem Inv.root{l:List Tk}{B:Bs}{e:Nat}{p:PS}(h:Inv l B e p):OK l B 0 e p.s:=by
 rcases h with⟨h1,h2,h3⟩|⟨d,h1,h2,h3⟩
 ·exact h3
 obtain⟨g1,g2⟩:=lJ.all h2 h3;exact EU g2 g1
theorem D6{l:List Tk}{B:Bs}{e a b code:Nat}{p:PS}(h:xG l B e p)(hB:B.1<=a)(aa:e<=a)(hab:a<b)(hb:b<=l.length)(hc:code≠9)(h5:5<=code)(h10:code<=10):xG l B b {p with s:=err l p.s (holder p) a b code}:=by
 obtain⟨d,h1,h2,h3⟩:=h;obtain⟨m,e1,e2⟩:=h3.hold;have hh:holder p=(m:Int):=by rw[pz,h1];exact e1
 have h4:=(Fe.pG (f:=a) (t:=b) (code:=code) e2 (by omega) hab (by omega) hc hB h5 h10).1.le (e':=b) (b':=b) (jq _) (by omega);have hk:nE p.s.t (err l p.s (m:Int) a b code).t:=by
  have:=(Fe.pG (f:=a) (t:=b) (code:=code) (Fe.Ok.start (l:=l) (p0:=B.1) e2.ck e2.fits e2.lf e2.no) (by omega) hab (by omega) hc hB h5 h10).1.keep;exact this
 rw[hh];exact⟨d,h1,h2.keep hk,wO (h2.keep hk) ⟨m,e1,h4⟩⟩
theorem FF{l:List Tk}{B:Bs}{k e a b:Nat}{s:St}(h:OK l B k e s)(hB:B.1<=a)(aa:e<=a)(hb:b<=l.length):OK l B k (max e b) (rO l s k a b 8)/\nE s.t (rO l s k a b 8).t:=by
 unfold rO;split
 ·rename_i hab;refine⟨(Fe.pG (f:=a) (t:=b) (code:=8) h (by omega) hab (by omega) (by omega) hB (by omega) (by omega)).1.le (by omega) (by omega),?_⟩;exact(Fe.pG (f:=a) (t:=b) (code:=8) (Fe.Ok.start (l:=l) (p0:=B.1) h.ck h.fits h.lf h.no) (by omega) hab (by omega) (by omega) hB (by omega) (by omega)).1.keep
 exact⟨h.le (by omega) (by omega),nE.refl _⟩
theorem lX{l:List Tk}{B:Bs}{k e i depth:Nat}{p:PS}(h:OK l B k e p.s)(hB:B.1<=i)(aa:e<=i)(hi:i<l.length):
 (value l (Rw.fA l) depth p k i).1.doc=p.doc/\(value l (Rw.fA l) depth p k i).1.st=p.st/\(value l (Rw.fA l) depth p k i).1.read<=l.length/\
 nE p.s.t (value l (Rw.fA l) depth p k i).1.s.t/\OK l B k (value l (Rw.fA l) depth p k i).1.read (value l (Rw.fA l) depth p k i).1.s:=by
 have hlim:i<=limit l i/\limit l i<=l.length:=by
  have h1:=lD (λj=>raw l j !=20&&raw l j !=21) (l.length-i) i;have h2:=mi (λj=>raw l j !=20&&raw l j !=21) (l.length-i) i;unfold limit;omega
 have hv:=Fe.zg l (limit l i) l.length (by omega) (depth-p.st.length) k i p.s e h.ck (h.fits.le (by omega) (jq _)) h.lf h.no (by omega) hlim.1;have key:∀(next:Nat)(none':Bool)(s':St),e<=next->B.1<=next->OK l B k next s'->nE p.s.t s'.t->next<=l.length->(none'=true->next<l.length)->
  (rest l (Rw.fA l) {p with s:=s' } k next none').doc=p.doc/\(rest l (Rw.fA l) {p with s:=s' } k next none').st=p.st/\(rest l (Rw.fA l) {p with s:=s' } k next none').read<=l.length/\
  nE p.s.t (rest l (Rw.fA l) {p with s:=s' } k next none').s.t/\OK l B k (rest l (Rw.fA l) {p with s:=s' } k next none').read (rest l (Rw.fA l) {p with s:=s' } k next none').s:=by
  intro next none' s' g1 g0 g2 g3 g4 g5;obtain⟨r1,r2⟩:=Wd l next none' g4 g5 (by omega);unfold rest;dsimp only;obtain⟨r,hr⟩:=fq (tF (Rw.fA l) next none');rw[hr]at r1 r2⊢;have hb:=iV l r (lo l next r);obtain⟨o1,o2⟩:=FF g2 (by have:=kQ l next r;omega) (kQ l next r) (b:=back l r (lo l next r)) (by omega);exact⟨rfl,rfl,r2,g3.trans o2,o1.le (by omega) (by omega)⟩
 unfold value;dsimp only;rcases hv with⟨v1,_⟩|⟨next,s',v1,v2,v3,_,v5⟩
 ·rw[v1];dsimp only;rw[eY (by omega),show decide ((-1:Int)<0)=true from rfl];exact key i true p.s aa hB (h.le (by omega) (by omega)) (nE.refl _) (by omega) (λ_=>hi)
 rw[v1];dsimp only;rw[eX (by omega),show decide (((p.s.t.length:Nat):Int)<0)=false from jE (by omega),Vw (by omega)];exact key next false s' (by omega) (by omega) (h.trans (v5.low hB)) v5.keep (by omega) (λh=>by cases h)
theorem uh{l:List Tk}{B:Bs}{e i:Nat}{p:PS}(h:Inv l B e p)(aa:e<=i)(hi:i<=l.length):xG l B i (jW p i)/\(jW p i).read=p.read:=by
 unfold jW;split
 ·rename_i hd;obtain⟨s',a1,_,a3,⟨x,a4,a5⟩,a6⟩:=Fe.kE (kind:=2) (f:=i) (t:=i) h.root (by omega) (fB _) (by omega) (by omega) (by omega);have a1:add p.s 0 2 i i=(s',(p.s.t.length:Int)):=a1;rw[a1];dsimp only;have hu:Up s'.t p.s.t.length 0:=⟨a6,x,a4,a5⟩
  exact⟨⟨p.s.t.length,rfl,hu,⟨p.s.t.length,rfl,a3.le (by omega) (by omega)⟩⟩,rfl⟩
 rename_i hd;rcases h with⟨h1,_⟩|h
 ·omega
 exact⟨h.le aa,rfl⟩
theorem Tj{l:List Tk}{B:Bs}{e depth:Nat}{p:PS}{r:R}(h:Inv l B e p)(hr:oI l r)(h4:r.kind=4)(hB:B.1<=r.from')(he:e<=r.from')(hread:p.read=r.bu):
 Inv l B (mark l (Rw.fA l) depth p r).read (mark l (Rw.fA l) depth p r)/\(mark l (Rw.fA l) depth p r).read<=l.length:=by
 have hlt:=hr.lt;have hle:=hr.le;obtain⟨m1,m2⟩:=hr.mark h4;have hge:=kQ l r.from' r.bu;unfold mark;dsimp only;obtain⟨a,ha⟩:=fq (lo l r.from' r.bu);rw[ha]at m1 m2 hge⊢;by_cases h20:raw l a=20
 ·rw[eY h20];obtain⟨s',a1,_,a3,⟨x,a4,a5⟩,a6⟩:=Fe.kE (kind:=2) (f:=a) (t:=a+1) h.root (by omega) (by omega) (by omega) (by omega) (by omega);have a1:add p.s 0 2 a (a+1)=(s',(p.s.t.length:Int)):=a1;rw[a1];dsimp only;have hu:Up s'.t p.s.t.length 0:=⟨a6,x,a4,a5⟩
  have a3':OK l B p.s.t.length (a+1) s':=a3.le (by omega) (by omega);have hb:=iV l r.bu (lo l (a+1) r.bu);have aa:=kQ l (a+1) r.bu;split
  ·rename_i hx;obtain⟨v1,v2,v3,v4,v5⟩:=lX (depth:=depth) (p:={p with s:=s',doc:=(p.s.t.length:Int),root:=false,st:=[]}) (i:=lo l (a+1) r.bu) a3' (by omega) aa (by omega);refine⟨.inr ⟨p.s.t.length,v1,?_,?_⟩,v3⟩
   ·dsimp only;rw[v2];exact hu.keep v4
   dsimp only;rw[v2];exact⟨p.s.t.length,rfl,v5⟩
  exact⟨.inr ⟨p.s.t.length,rfl,hu,⟨p.s.t.length,rfl,a3'.le (by show((a+1:Nat):Int)<=(p.read:Nat);omega) (by show((a+1:Nat):Int)<=(p.read:Nat);omega)⟩⟩,by show p.read<=_;omega⟩
 rw[eX h20];dsimp only;have hgrow:OK l B 0 (a+1) (if 0<=p.doc then(⟨jg p.s.t p.doc ((a+1:Nat):Int),p.s.d⟩:St)else p.s):=by
  rcases h with⟨g1,_,g3⟩|⟨d,g1,g2,g3⟩
  ·rw[eX (by omega)];exact g3.le (by omega) (by omega)
  rw[eY (by omega),g1];obtain⟨k1,k2⟩:=lJ.all g2 g3;have k3:=Fe.qd (t:=a+1) k2 (by omega) (by omega) (by omega);have k4:=(Fe.qd (t:=a+1) (Fe.Ok.start (l:=l) (p0:=B.1) k2.ck k2.fits k2.lf k2.no) (by omega) (by omega) (by omega)).keep;exact EU k3 (k1.keep k4)
 obtain⟨s1,hs1⟩:=fq ((if 0<=p.doc then(⟨jg p.s.t p.doc ((a+1:Nat):Int),p.s.d⟩:St)else p.s));rw[hs1]at hgrow⊢;obtain⟨b,hb⟩:=fq (back l r.bu a);have hbl:=iV l r.bu a;rw[hb]at hbl⊢;have hx:=kQ l (a+1) b;have hy:=iV l b (lo l (a+1) b);obtain⟨o1,_⟩:=FF hgrow (by omega) hx (b:=back l b (lo l (a+1) b)) (by omega);exact⟨.inl ⟨rfl,rfl,o1.le (by show((max (a+1) (back l b (lo l (a+1) b)):Nat):Int)<=(p.read:Nat);omega) (by show((max (a+1) (back l b (lo l (a+1) b)):Nat):Int)<=(p.read:Nat);omega)⟩,by show p.read<=_;omega⟩
end Ps
namespace Pr
open Ar Fl
open Rw (R E)
open Ps (lo)
structure UE(l:List Nd)(z:Int):Prop where
 zero:∀x,l[0]?=some x->x.u=-1/\z<=x.t
 up:∀(i:Nat)(x:Nd),0<i->l[i]?=some x->0<=x.u/\x.u<i
theorem UE.set{l:List Nd}{z:Int}(h:UE l z)(k:Nat)(x y:Nd)(hx:l[k]?=some x)(hu:y.u=x.u)(ht:x.t<=y.t):UE (l.set k y) z:=by
 have hk:=(gD.1 hx).1;refine⟨λa ha=>?_,λi a hi ha=>?_⟩
 ·rw[nW]at ha;split at ha
  ·rename_i e;subst e;injection ha with ha
   subst ha;have:=h.zero x hx;omega
  exact h.zero a ha
 rw[nW]at ha;split at ha
 ·rename_i e;subst e;injection ha with ha
  subst ha;have:=h.up k x hi hx;omega
 exact h.up i a hi ha
theorem Oa{l:List Nd}{n z:Int}(h:Ck l n)(hz:z<=n):UE l z:=by
 obtain⟨x,h1,h2,h3,_⟩:=h.zero;exact⟨λy hy=>by rw[h1]at hy;injection hy with hy;subst hy;omega,h.up⟩
theorem Tm{l:List Nd}{z:Int}(h:UE l z)(p:Nat)(x:Nd)(hx:l[p]?=some x)(ks:List Int):UE (l.set p {x with ks:=ks}) z:=h.set p x {x with ks:=ks} hx rfl (jq _)
theorem Pn{l:List Nd}{k:Nat}{x:Nd}(h:l[k]?=some x):l.set k x=l:=by
 refine sN (λi=>?_);rw[nW];split
 ·rename_i e;subst e;rw[eY (gD.1 h).1,h]
 rfl
theorem FH:∀(k f g:Nat)(l:List Nd)(z:Int),UE l z->k<l.length->k<f->k<g->lC f l k z=iR g l k z:=by
 intro k
 induction k using Nat.strongRecOn with
 |_ k ih=>
  intro f g l z h hk hf hg;obtain⟨f,rfl⟩:∃f',f=f'+1:=⟨f-1,by omega⟩
  obtain⟨g,rfl⟩:∃g',g=g'+1:=⟨g-1,by omega⟩
  obtain⟨x,hx⟩:=jB l k hk;rw[lC,iR,eX (by omega),jk,hx];dsimp only;rcases uB k with rfl|h0
  ·rw[eY rfl];obtain⟨h1,h2⟩:=h.zero x hx;have e:({x with t:=max x.t z}:Nd)=x:=by rw[Int.max_eq_left h2]
   rw[e,Pn hx,h1];cases f with
   |zero=>rfl
   |succ f=>rw[lC,eY (by decide)]
  rw[eX (by omega)];obtain⟨h1,h2⟩:=h.up k x h0 hx;obtain⟨m,hm⟩:=Vi h1;have hU:=h.set k x {x with t:=max x.t z} hx rfl (Hm _ _);have hl:(l.set k {x with t:=max x.t z}).length=l.length:=lT ..;obtain⟨L,hL⟩:=fq (l.set k {x with t:=max x.t z});rw[hL]at hU hl⊢;rw[hm,jk];exact ih m (by omega) f g L z hU (by omega) (by omega) (by omega)
theorem vS:∀(f:Nat)(l:List Nd)(k:Nat)(z:Int),(iR f l k z).length=l.length
 |0,_,_,_=>rfl
 |f+1,l,k,z=>by
  rw[iR];split
  ·rfl
  split
  ·rfl
  rw[vS f,lT]
theorem ry(l:List Nd)(k:Nat)(z:Int):(reach l k z).length=l.length:=vS _ _ _ _
theorem Cu(t:List Nd)(up:Nat):(oH t up).length=t.length:=by
 unfold oH;split
 ·rfl
 rw[lT]
theorem lY(t:List Nd)(up:Nat)(z:Int):(hold t up z).length=t.length:=by unfold hold;rw[ry,Cu]
theorem kZ(t:List Nd)(up:Nat)(k f z:Int):(add t up k f z).length=t.length+1:=by unfold add;rw[iJ,lY];rfl
def Ib(l:List Nd):Prop:=∀(i:Nat)(x:Nd),0<i->l[i]?=some x->0<=x.u/\x.u<i
theorem Ib.set{l:List Nd}(h:Ib l)(k:Nat)(x y:Nd)(hx:l[k]?=some x)(hu:y.u=x.u):Ib (l.set k y):=λi a hi ha=>by
 rw[nW]at ha;split at ha
 ·split at ha
  ·rename_i e _;subst e;injection ha with ha
   subst ha;have:=h k x hi hx;omega
  cases ha
 exact h i a hi ha
theorem GM:∀(k f g:Nat)(l:List Nd)(z:Int),Ib l->k<l.length->k<f->k<g->iR f l k z=iR g l k z:=by
 intro k
 induction k using Nat.strongRecOn with
 |_ k ih=>
  intro f g l z h hk hf hg;obtain⟨f,rfl⟩:∃f',f=f'+1:=⟨f-1,by omega⟩
  obtain⟨g,rfl⟩:∃g',g=g'+1:=⟨g-1,by omega⟩
  rw[iR,iR];by_cases h0:k=0
  ·rw[eY h0,eY h0]
  rw[eX h0,eX h0];cases hx:l[k]? with
  |none=>rfl
  |some x=>
   dsimp only;have:=h k x (by omega) hx;have hU:=h.set k x {x with t:=max x.t z} hx rfl;have hl:(l.set k {x with t:=max x.t z}).length=l.length:=lT ..;exact ih x.u.toNat (by omega) f g _ z hU (by omega) (by omega) (by omega)
theorem I5:∀(k g:Nat)(l r:List Nd)(z:Int),UE l z->k<l.length->iR g (l++r) k z=iR g l k z++r:=by
 intro k
 induction k using Nat.strongRecOn with
 |_ k ih=>
  intro g l r z h hk;cases g with
  |zero=>rfl
  |succ g=>
   obtain⟨x,hx⟩:=jB l k hk;rw[iR,iR,oD hk,hx];dsimp only;rcases uB k with rfl|h0
   ·rw[eY rfl,eY rfl]
   rw[eX (by omega),eX (by omega),RA _ _ hk];obtain⟨h1,h2⟩:=h.up k x h0 hx;obtain⟨m,hm⟩:=Vi h1;have hU:=h.set k x {x with t:=max x.t z} hx rfl (Hm _ _);have hl:(l.set k {x with t:=max x.t z}).length=l.length:=lT ..;obtain⟨L,hL⟩:=fq (l.set k {x with t:=max x.t z});rw[hL]at hU hl⊢;rw[hm,jk];exact ih m (by omega) g L r z hU (by omega)
theorem X3{l:List Nd}{up kind f t:Int}(h:iH l up kind f t=true):t<=firstT l:=by
 unfold iH at h;rw[qH]at h;have h1:=h.1;simp at h1;omega
theorem Im{l:List Nd}{n:Int}(hck:Ck l n){up:Nat}{k f z:Int}(hm:iH l up k f z=true):addN l up k f z=(add l up k f z,(l.length:Int)):=by
 obtain⟨h0,h1,p,hp⟩:=xP hm;have hz:=X3 hm;rw[hck.firstT]at hz;unfold addN;rw[eY hm,hp];rw[jk]at hp⊢;have hl:up<l.length:=by omega
 dsimp only;refine congrArg (λx=>(x,(l.length:Int))) ?_;have hU:=Tm (Oa hck hz) up p hp (p.ks++[(l.length:Int)]);unfold add hold reach oH;rw[hp];dsimp only;rw[RA _ _ hl,<-I5 _ _ _ _ _ hU (by rw[lT];exact hl)];unfold iG;refine FH _ _ _ _ _ ?_ (by simp;omega) (by simp;omega) (by omega);refine⟨λx hx=>hU.zero x (by rw[oD (by rw[lT];omega)]at hx;exact hx),λi x hi hx=>?_⟩;rcases kS i l.length with hil|hil
 ·exact hU.up i x hi (by rw[oD (by rw[lT];omega)]at hx;exact hx)
 rw[oM (by rw[lT];omega),lT]at hx;obtain⟨hi1,hx1⟩:=gD.1 hx;simp at hi1;obtain rfl:i=l.length:=by omega
 simp at hx1;subst hx1;dsimp only;omega
theorem We{l:List Nd}{up k f z:Int}(h:(addN l up k f z).2=(l.length:Int)):iH l up k f z=true:=by
 by_cases hm:iH l up k f z=true
 ·exact hm
 unfold addN at h;rw[eX hm]at h;dsimp only at h;omega
theorem Tn{l:List Nd}{n:Int}(hck:Ck l n){i:Nat}{z:Int}(hi:i<l.length)(hz:z<=n):jg l i z=reach l i z:=by
 unfold jg yX;rw[hck.firstT,show decide ((i:Int)<0)=false from jE (by omega),show decide ((l.length:Int)<=(i:Int))=false from jE (by omega),show decide (n<z)=false from jE (by omega)];rw[eY (by rfl)];unfold iG reach;exact FH _ _ _ _ _ (Oa hck hz) hi (by omega) (by omega)
theorem rV{l:List Tk}{p0:Nat}{n e b:Int}{up f t kind:Nat}{s0 s:St}(h:Fe.Ok l p0 n up s0 e b s)(he:e<=f)(hft:f<=t)(htn:(t:Int)<=n)(hk1:1<=kind)(hk2:kind<=11)(hk3:kind=11->f<t):
 Fl.add s up kind f t=(⟨add s.t up kind f t,s.d⟩,(s.t.length:Int))/\addN s.t up kind f t=(add s.t up kind f t,(s.t.length:Int)):=by
 obtain⟨r,h1,_⟩:=Fe.xQ h he hft htn hk1 hk2 hk3;have hm:=We (l:=s.t) (up:=up) (k:=kind) (f:=f) (z:=t) (by rw[h1]);have e:=Im h.ck hm;refine⟨?_,e⟩;unfold Fl.add;rw[e]
theorem JO{l:List Tk}{p0:Nat}{n e b:Int}{up f t code:Nat}{s0 s:St}(h:Fe.Ok l p0 n up s0 e b s)(he:e<=f)(hft:f<t)(htn:(t:Int)<=n):
 err l s up f t code=⟨add s.t up 11 f t,s.d++[⟨code,mM l f,too l (t-1)⟩]⟩:=by
 have h2:=(rV (kind:=11) h he (by omega) htn (by omega) (by omega) (λ_=>hft)).2;have h2:addN s.t up 11 f t=(add s.t up 11 f t,(s.t.length:Int)):=h2;unfold err;rw[h2]
structure HS(up:Nat)(v:Int)(a b:List Nd):Prop where
 len:a.length=b.length
 eq:∀z,v<=z->hold a up z=hold b up z
theorem HS.refl(up:Nat)(v:Int)(a:List Nd):HS up v a a:=⟨rfl,λ_ _=>rfl⟩
theorem HS.put{up:Nat}{v:Int}{a b:List Nd}(h:HS up v a b){k f z:Int}(hz:v<=z):add a up k f z=add b up k f z:=by unfold add;rw[h.eq z hz]
theorem Wh{t:List Nd}(h0:0<t.length)(i:Nat):HS t.length ((i+1:Nat):Int) (t++[(⟨2,(i:Int),((i+1:Nat):Int),0,[],false⟩:Nd)]) (t++[(⟨2,(i:Int),(i:Int),0,[],false⟩:Nd)]):=by
 refine⟨by simp,λz hz=>?_⟩;have key:∀j:Int,j<=z->hold (t++[(⟨2,(i:Int),j,0,[],false⟩:Nd)]) t.length z=t++[(⟨2,(i:Int),z,0,[((t.length+1:Nat):Int)],false⟩:Nd)]:=by
  intro j hj;have e1:(t++[(⟨2,(i:Int),j,0,[],false⟩:Nd)])[t.length]?=some ⟨2,(i:Int),j,0,[],false⟩:=by rw[oM (fB _),uC];rfl
  unfold hold oH;rw[e1];dsimp only;rw[Ht _ _ (fB _),uC];unfold reach;rw[iR,eX (by omega)];have e2:(t++[(⟨2,(i:Int),j,0,[],false⟩:Nd)].set 0 ({(⟨2,(i:Int),j,0,[],false⟩:Nd)with ks:=[]++[(((t++[(⟨2,(i:Int),j,0,[],false⟩:Nd)]).length:Nat):Int)]}))[t.length]?=some ⟨2,(i:Int),j,0,[((t.length+1:Nat):Int)],false⟩:=by
   rw[oM (fB _),uC];simp
  rw[e2];dsimp only;rw[Ht _ _ (fB _),uC,Int.max_eq_right hj];obtain⟨g,hg⟩:∃g,t.length=g+1:=⟨t.length-1,by omega⟩
  rw[hg];show iR (g+1) _ 0 z=_;rw[iR,eY rfl];rfl
 rw[key _ hz,key _ (by omega)]
theorem LA(t:List Nd)(z z':Int):hold t 0 z=hold t 0 z':=by
 unfold hold reach;rw[iR,iR,eY rfl,eY rfl]
end Pr
namespace Ps
open Ar Fl
theorem pN(a b:Dg):less a b=true↔a.f<b.f\/(a.f=b.f/\(a.t<b.t\/(a.t=b.t/\a.code<b.code))):=by
 unfold less;split
 ·split
  ·simp;omega
  simp;omega
 simp;omega
theorem same_iff(a b:Dg):same a b=true↔a=b:=by
 unfold same;obtain⟨a1,a2,a3⟩:=a;obtain⟨b1,b2,b3⟩:=b;simp;constructor
 ·rintro⟨⟨rfl,rfl⟩,rfl⟩;exact⟨rfl,rfl,rfl⟩
 rintro⟨rfl,rfl,rfl⟩;exact⟨⟨rfl,rfl⟩,rfl⟩
theorem AZ{a b c:Dg}(h:less a b=true)(g:less b c=true):less a c=true:=by
 rw[pN]at*;omega
theorem Ag(a:Dg):less a a=false:=by
 rw[KG];intro h;rw[pN]at h;omega
theorem LB{a b:Dg}(h:less a b=true):less b a=false:=by
 rw[KG];intro g;rw[pN]at*;omega
theorem FI{a b:Dg}(h:less a b=false)(g:a≠b):less b a=true:=by
 rw[KG,ne_eq,pN]at h;rw[pN];obtain⟨a1,a2,a3⟩:=a;obtain⟨b1,b2,b3⟩:=b;dsimp only at*;by_cases e:a2=b2/\a3=b3/\a1=b1
 ·obtain⟨rfl,rfl,rfl⟩:=e;exact absurd rfl g
 omega
def Ih(l:List Dg):Prop:=l.Pairwise (λa b=>less a b=true)
theorem D7(x y:Dg):∀l:List Dg,y∈zJ x l↔y=x\/y∈l
 |[]=>by simp[zJ]
 |z::r=>by
  rw[zJ];split
  ·simp
  split
  ·rename_i h;rw[same_iff]at h;subst h;simp
  rw[l5,D7 x y r,l5];constructor
  ·rintro(h|h|h)
   ·exact .inr (.inl h)
   ·exact .inl h
   exact .inr (.inr h)
  rintro(h|h|h)
  ·exact .inr (.inl h)
  ·exact .inl h
  exact .inr (.inr h)
theorem JP(x:Dg):∀l:List Dg,Ih l->Ih (zJ x l)
 |[]=>λ_=>by unfold Ih zJ;exact XE _ _
 |z::r=>λh=>by
  unfold Ih at h;rw[zF]at h;rw[zJ];split
  ·rename_i hl;unfold Ih;rw[zF,zF];refine⟨λy hy=>?_,h⟩;rcases l5.1 hy with rfl|hy
   ·exact hl
   exact AZ hl (h.1 y hy)
  rename_i hl;split
  ·unfold Ih;rw[zF];exact h
  rename_i hs;unfold Ih;rw[zF];refine⟨λy hy=>?_,JP x r h.2⟩;rw[D7]at hy;rcases hy with rfl|hy
  ·exact FI (by simpa using hl) (λe=>hs ((same_iff _ _).2 e))
  exact h.1 y hy
theorem yo:∀(l o:List Dg),Ih o->Ih (l.foldl (λo x=>zJ x o) o)/\∀y,y∈l.foldl (λo x=>zJ x o) o↔y∈o\/y∈l
 |[],o=>λh=>⟨h,λy=>by simp⟩
 |x::r,o=>λh=>by
  rw[List.foldl_cons];obtain⟨h1,h2⟩:=yo r (zJ x o) (JP x o h);refine⟨h1,λy=>?_⟩;rw[h2,D7,l5];constructor
  ·rintro((h|h)|h)
   ·exact .inr (.inl h)
   ·exact .inl h
   exact .inr (.inr h)
  rintro(h|h|h)
  ·exact .inl (.inr h)
  ·exact .inl (.inl h)
  exact .inr h
theorem Po(l:List Dg):Ih (yF l):=(yo l [] List.Pairwise.nil).1
theorem Pp(l:List Dg)(y:Dg):y∈yF l↔y∈l:=by
 have:=(yo l [] List.Pairwise.nil).2 y;unfold yF;rw[this];simp
theorem Ob:∀{a b:List Dg},Ih a->Ih b->(∀y,y∈a↔y∈b)->a=b
 |[],[]=>λ_ _ _=>rfl
 |[],y::b=>λ_ _ h=>absurd ((h y).2 (by simp)) (by simp)
 |x::a,[]=>λ_ _ h=>absurd ((h x).1 (by simp)) (by simp)
 |x::a,y::b=>λha hb h=>by
  unfold Ih at ha hb;rw[zF]at ha hb;have hxy:x=y:=by
   rcases l5.1 ((h x).1 (by simp))with e|e
   ·exact e
   rcases l5.1 ((h y).2 (by simp))with e2|e2
   ·exact e2.symm
   have h1:=hb.1 x e;have h2:=ha.1 y e2;rw[LB h1]at h2;cases h2
  subst hxy;refine congrArg (x::·) (Ob ha.2 hb.2 (λz=>?_));constructor
  ·intro hz;rcases l5.1 ((h z).1 (Rt _ hz))with e|e
   ·subst e;have:=ha.1 z hz;rw[Ag]at this;cases this
   exact e
  intro hz;rcases l5.1 ((h z).2 (Rt _ hz))with e|e
  ·subst e;have:=hb.1 z hz;rw[Ag]at this;cases this
  exact e
end Ps
namespace Ps
open Ar Fl
theorem Pq:(tree [97,58,32,49,10,98,58,32,50] 20).1.length=9/\(tree [97,58,32,49,10,98,58,32,50] 20).2.2.length=0/\(tree [97,58,32,49,10,98,58,32,50] 20).2.1.length=9/\
 ((tree [97,58,32,49,10,98,58,32,50] 20).2.1[2]?.map λx=>(x.k,x.ks.length))=some (5,2):=by decide+kernel
end Ps
end Go.Proofs.YtmkkdjpebbdikaaGreatDoor

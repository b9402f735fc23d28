import Derived.Test.YtmkkdjpebbdikaaGreatDoorZb06
import Derived.Test.YtmkkdjpebbdikaaGreatDoorZb07
set_option linter.all false
set_option maxHeartbeats 16000000
set_option maxRecDepth 100000
namespace Go.Proofs.YtmkkdjpebbdikaaGreatDoor
open Go.RowKit Tryz
namespace Ps
open Ar Fl
open Rw (R E)
structure Op where
 node:Int
 kind:Nat
 eT:Int
 cur:Int
 has:Bool
structure PS where
 s:St
 doc:Int
 root:Bool
 st:List Op
 read:Nat
def limit(l:List Tk)(i:Nat):Nat:=iy (λj=>raw l j !=20&&raw l j !=21) (l.length-i) i
def lo(l:List Tk)(a b:Nat):Nat:=iy (λj=>!cnt (raw l j)) (b-a) a
def oU(rs:List R)(next:Nat)(none':Bool):Nat:=match rs.find? (λr=>!(decide (r.bu<next)||(none' &&r.bu==next)))with
 |some r=>r.bu
 |none=>0
def mR(l:List Tk)(s:St)(up:Int)(a b code:Nat):St:=if a<b then err l s up a b code else s
def rest(l:List Tk)(rs:List R)(p:PS)(up:Int)(next:Nat)(none':Bool):PS:=
 let r:=oU rs next none'
 let a:=lo l next r
 {p with s:=mR l p.s up a (back l r a) 8,read:=r}
def value(l:List Tk)(rs:List R)(depth:Nat)(p:PS)(up:Int)(i:Nat):PS×Bool:=
 let v:=gP l (limit l i) (depth-p.st.length) up i p.s
 (rest l rs {p with s:=v.2.2} up (if v.1<0 then i else max v.2.1 i) (decide (v.1<0)),decide (0<=v.1))
def gI(p:PS)(i:Nat):PS:=if p.doc<0 then{p with s:=(add p.s 0 2 i i).1,doc:=(add p.s 0 2 i i).2,root:=false,st:=[]}else p
def holder(p:PS):Int:=match p.st with
 |[]=>p.doc
 |t::_=>if t.has=true then t.node else t.cur
def mark(l:List Tk)(rs:List R)(depth:Nat)(p:PS)(r:R):PS:=
 let a:=lo l r.from' r.bu
 let b:=back l r.bu a
 if raw l a=20 then
  let q:=add p.s 0 2 a (a+1)
  let p1:PS:={p with s:=q.1,doc:=q.2,root:=false,st:=[]}
  let x:=lo l (a+1) r.bu
  if x<back l r.bu x then
   let v:=value l rs depth p1 p1.doc x
   {v.1 with root:=v.2}
  else p1
 else
  let s1:St:=if 0<=p.doc then⟨iB p.s.t p.doc ((a+1:Nat):Int),p.s.d⟩else p.s
  let x:=lo l (a+1) b
  {p with s:=mR l s1 0 x (back l b x) 8,doc:=-1,st:=[]}
def kindOf(e:E):Nat:=if e.dash=true then 3 else 5
def cur(l:List Tk)(s:St)(node:Int)(e:E):St×Int:=if e.dash=true then add s node 4 e.from' e.bu else pair l s node e.from' e.bu
def again(l:List Tk)(p:PS)(o:Op)(r:List Op)(e:E):Nat×PS:=
 (0,{p with s:=(cur l p.s o.node e).1,st:={o with cur:=(cur l p.s o.node e).2,has:=false}::r})
def fresh(l:List Tk)(depth:Nat)(p:PS)(up:Int)(root:Bool)(st:List Op)(e:E):Nat×PS:=
 if depth<st.length+1 then(10,p)
 else
  let a:=add p.s up (kindOf e) e.from' e.bu
  let c:=cur l a.1 a.2 e
  (0,{p with s:=c.1,root:=root,st:=⟨a.2,kindOf e,e.eT,c.2,false⟩::st})
def place(l:List Tk)(depth:Nat)(p:PS)(e:E):Nat×PS:=
 match p.st.dropWhile (λo=>decide (e.eT<o.eT))with
 |[]=>if p.root=true then(7,p)else fresh l depth p p.doc true [] e
 |o::r=>
  if o.eT=e.eT then
   if o.kind=kindOf e then again l p o r e
   else if kindOf e=3 then(if o.has=true then(5,p)else fresh l depth p o.cur p.root ({o with has:=true}::r) e)
   else match r with
    |o2::r2=>if o2.eT=e.eT/\o2.kind=5 then again l p o2 r2 e else(5,p)
    |[]=>(5,p)
  else if o.has=true then(6,p)else fresh l depth p o.cur p.root ({o with has:=true}::r) e
def bare(l:List Tk)(rs:List R)(depth:Nat)(p:PS)(r:R)(a b:Nat):PS:=
 match p.st.dropWhile (λo=>decide (r.eT<=o.eT))with
 |[]=>if p.root=true then{p with s:=err l p.s (holder p) a b 7}
  else
   let v:=value l rs depth {p with st:=[]} p.doc a
   {v.1 with root:=v.2}
 |o::q=>if o.has=true then{p with s:=err l p.s (holder p) a b 7}
  else
   let v:=value l rs depth {p with st:=o::q} o.cur a
   {v.1 with st:={o with has:=v.2}::q}
def Kk:List Op->Int
 |t::_=>t.cur
 |[]=>0
def places(l:List Tk)(depth b:Nat):PS->Int->List E->Bool×PS
 |p,_,[]=>(true,p)
 |p,up,e::es=>
  let q:=place l depth p e
  if q.1=0 then places l depth b q.2 (Kk q.2.st) es
  else(false,{p with s:=err l p.s up e.from' b q.1})
def body(l:List Tk)(rs:List R)(depth:Nat)(p:PS)(r:R):PS:=
 let a:=lo l r.from' r.bu
 let b:=back l r.bu a
 let p1:=gI p a
 let es:=Rw.iH l r
 if es.1=[]then bare l rs depth p1 r a b
 else
  let q:=places l depth b p1 (holder p1) es.1
  if q.1=true then
   let x:=lo l es.2 r.bu
   if x<back l r.bu x then
    match q.2.st with
    |t::k=>
     let v:=value l rs depth q.2 t.cur x
     {v.1 with st:={t with has:=v.2}::k}
    |[]=>q.2
   else q.2
  else q.2
def row(l:List Tk)(rs:List R)(depth:Nat)(p0:PS)(r:R):PS:=
 let p:PS:={p0 with read:=r.bu}
 if r.kind=4 then mark l rs depth p r
 else if r.kind=5 then body l rs depth p r
 else if r.kind=2\/r.kind=3 then
  let a:=lo l r.from' r.bu
  let b:=back l r.bu a
  if a<b then{gI p a with s:=err l (gI p a).s (holder (gI p a)) a b 8}else p
 else p
def iA(l:List Tk)(rs:List R)(depth:Nat):PS->List R->PS
 |p,[]=>p
 |p,r::k=>iA l rs depth (if p.read<=r.from' then row l rs depth p r else p) k
def start(l:List Tk):PS:=⟨⟨fU l.length,[]⟩,-1,false,[],0⟩
def read(l:List Tk)(depth:Nat):St:=(iA l (Rw.eF l) depth (start l) (Rw.eF l)).s
def less(a b:Dg):Bool:=if a.f=b.f then(if a.t=b.t then decide (a.code<b.code)else decide (a.t<b.t))else decide (a.f<b.f)
def same(a b:Dg):Bool:=a.code==b.code&&a.f==b.f&&a.t==b.t
def xD(x:Dg):List Dg->List Dg
 |[]=>[x]
 |y::r=>if less x y=true then x::y::r else if same x y=true then y::r else y::xD x r
def qP(l:List Dg):List Dg:=l.foldl (λo x=>xD x o) []
def lQ:Nat->Nat->List Nat->List Nat
 |0,_,_=>[]
 |f+1,p,l=>if l=[]then[]else if Sc.bad l=true then p::lQ f (p+(Sc.yt l).2) (l.drop (Sc.yt l).2)else lQ f (p+(Sc.yt l).2) (l.drop (Sc.yt l).2)
def part(b:List Nat)(f t:Nat):List Nat:=(b.drop f).take (t-f)
def tabs(b:List Nat)(l:List Tk)(r:R):List Dg:=
 if r.kind=5 then(List.range (lo l r.from' r.bu-r.from')).filterMap (λi=>
  if raw l (r.from'+i)=3/\(part b (kW l (r.from'+i)) (too l (r.from'+i))).contains 9=true then some ⟨2,kW l (r.from'+i),too l (r.from'+i)⟩else none)
 else[]
def iF(b:List Nat)(x:Tk):List Dg:=
 if x.1=16\/x.1=17 then
  let q:=Qo.mI (x.1:Nat) ((part b x.2.1 x.2.2).map UInt8.ofNat)
  (if q.2.2=true then[]else[⟨3,x.2.1,x.2.2⟩])++q.2.1.map (λk=>⟨4,x.2.1+k,x.2.1+k+1⟩)
 else[]
def jA(b:List Nat)(l:List Tk):List Dg:=
 (lQ b.length 0 b).map (λp=>⟨1,p,p+1⟩)++(Rw.eF l).flatMap (tabs b l)++l.flatMap (iF b)
def tree(b:List Nat)(depth:Nat):List Tk×List Nd×List Dg:=
 if depth<1\/50<depth then([],[],[])
 else(Sc.tokens b,(read (Sc.tokens b) depth).t,qP ((read (Sc.tokens b) depth).d++jA b (Sc.tokens b)))
end Ps
namespace Ps
open Ar Fl
open Rw (R E)
theorem kF(l:List Tk)(a b:Nat):a<=lo l a b:=kH _ _ _
theorem lo_le(l:List Tk){a b:Nat}(h:a<=b):lo l a b<=b:=by
 have:=lq (λj=>!cnt (raw l j)) (b-a) a;unfold lo;omega
theorem qh(l:List Tk){a b:Nat}(h:lo l a b<b):cnt (raw l (lo l a b))=true:=by
 have:=ma (λj=>!cnt (raw l j)) (b-a) a;unfold lo at h⊢;rcases this with h1|h1
 ·have:=kH (λj=>!cnt (raw l j)) (b-a) a;omega
 ·simpa using h1
theorem ow(l:List Tk):∀(j m i:Nat),m<=i->i<j->cnt (raw l i)=true->i<back l j m
 |0,_,_=>λ_ h=>absurd h (pK _)
 |j+1,m,i=>λh1 h2 h3=>by
  rw[back];by_cases e:i=j
  ·subst e;rw[dW (by rw[h3];simp)];omega
  ·split
   ·exact ow l j m i h1 dS h3
   ·omega
theorem lu{l:List Tk}{i:Nat}{x:Tk}(h:l[i]?=some x):raw l i=x.1:=by unfold raw;rw[h]
theorem Rb{l:List Tk}{i:Nat}(h:raw l i≠0):i<l.length:=by
 unfold raw at h;split at h
 ·rename_i x hx;exact(eY.1 hx).1
 ·exact absurd rfl h
theorem MH(l:List Tk):∀(n a:Nat)(x:Tk),Rw.jZ ((l.drop a).take n)=some x->iy (λj=>!cnt (raw l j)) n a<a+n/\l[iy (λj=>!cnt (raw l j)) n a]?=some x/\cnt x.1=true
 |0,a,x=>λh=>by rw[vT]at h;cases h
 |n+1,a,x=>λh=>by
  rw[iy];cases hy:l[a]? with
  |none=>
   rw[oG (by rw[AA]at hy;exact hy),ahS]at h;cases h
  |some y=>
   have ha:=(eY.1 hy).1;have e:l[a]=y:=(eY.1 hy).2;rw[xz ha,e,vJ,Rw.jZ]at h;rw[lu hy];by_cases hc:Sc.counts y.1=true
   ·rw[dX hc]at h;injection h with h;subst h
    have hc':cnt y.1=true:=hc;rw[hc',dW eG];exact⟨dS,hy,rfl⟩
   ·rw[dW hc]at h;have hc':cnt y.1=false:=by
     have:¬cnt y.1=true:=hc
     simpa using this
    rw[hc',dX eG];have:=MH l n (a+1) x h;exact⟨dS,this.2⟩
structure lV(l:List Tk)(r:R):Prop where
 lt:r.from'<r.bu
 le:r.bu<=l.length
 body:r.kind=5->lo l r.from' r.bu<r.bu
 mark:r.kind=4->lo l r.from' r.bu<r.bu/\(raw l (lo l r.from' r.bu)=20\/raw l (lo l r.from' r.bu)=21)
theorem CR(l:List Tk):∀(n op fr:Nat),l.length-fr<=n->(∀r∈Rw.jq op fr (l.drop fr),lV l r/\fr<=r.from')/\(fr<l.length->∃r∈Rw.jq op fr (l.drop fr),r.bu=l.length)
 |0,op,fr=>λh=>by
  rw[oG dS];exact⟨λr hr=>(by cases hr),λh=>dS⟩
 |n+1,op,fr=>λh=>by
  by_cases hfr:fr<l.length
  ·have hne:l.drop fr≠[]:=λe=>by
    have:=congrArg List.length e;rw[ky,Gi]at this;omega
   rw[Rw.nO _ _ _ hne];have hp:=Rw.oC _ hne;have hle:=Rw.xJ (l.drop fr);rw[ky]at hle;obtain⟨k,hk⟩:=eu (Rw.jm (l.drop fr));rw[hk]at hp hle⊢;rw[nP];have aa:fr<fr+k:=dS
   have hkl:fr+k<=l.length:=dS
   obtain⟨h1,h2⟩:=CR l n (Rw.mZ op ((l.drop fr).take k)) (fr+k) dS;have hkind:Rw.kindOf (decide (0<op)) ((l.drop fr).take k)=5\/Rw.kindOf (decide (0<op)) ((l.drop fr).take k)=4->
    lo l fr (fr+k)<fr+k/\(Rw.kindOf (decide (0<op)) ((l.drop fr).take k)=4->raw l (lo l fr (fr+k))=20\/raw l (lo l fr (fr+k))=21):=by
    intro hq;unfold Rw.kindOf at hq⊢;by_cases h19:Rw.jS ((l.drop fr).take k)=19
    ·rw[dX h19]at hq;rcases hq with hq|hq<;>cases hq
    ·rw[dW h19]at hq⊢;cases hf:Rw.jZ ((l.drop fr).take k)with
     |none=>
      rw[hf]at hq;dsimp only at hq;split at hq<;>rcases hq with hq|hq<;>cases hq
     |some x=>
      obtain⟨g1,g2,g3⟩:=MH l k fr x hf;have e:lo l fr (fr+k)=iy (λj=>!cnt (raw l j)) k fr:=by unfold lo;rw[Gm]
      rw[e];refine⟨g1,λh4=>?_⟩;dsimp only at h4;rw[lu g2];by_cases hm:Rw.yZ x.1=true
      ·unfold Rw.yZ at hm;simpa using hm
      ·rw[dW hm]at h4;split at h4<;>cases h4
   refine⟨λr hr=>?_,λ_=>?_⟩
   ·rcases kY.1 hr with rfl|hr
    ·exact⟨⟨aa,hkl,λh5=>(hkind (.inl h5)).1,λh4=>⟨(hkind (.inr h4)).1,(hkind (.inr h4)).2 h4⟩⟩,eO _⟩
    ·exact⟨(h1 r hr).1,by have:=(h1 r hr).2;clear h2;omega⟩
   ·by_cases he:fr+k<l.length
    ·obtain⟨r,hr,hr2⟩:=h2 he;exact⟨r,LD _ hr,hr2⟩
    ·exact⟨_,aew ..,by clear h2;show fr+k=_;omega⟩
  ·rw[oG dS];exact⟨λr hr=>(by cases hr),λh=>absurd h hfr⟩
theorem rows_ok(l:List Tk):∀r∈Rw.eF l,lV l r:=λr hr=>((CR l l.length 0 0 dS).1 r (by rw[lM];exact hr)).1
theorem Mm(l:List Tk)(h:0<l.length):∃r∈Rw.eF l,r.bu=l.length:=by
 have:=(CR l l.length 0 0 dS).2 h;rw[lM]at this;exact this
theorem Rc(l:List Tk)(next:Nat)(none':Bool)(h1:next<=l.length)(h2:none'=true->next<l.length)(h3:0<l.length):next<=oU (Rw.eF l) next none'/\oU (Rw.eF l) next none'<=l.length:=by
 unfold oU;cases hf:(Rw.eF l).find? (λr=>!(decide (r.bu<next)||(none' &&r.bu==next)))with
 |some r=>
  have hm:=List.mem_of_find?_eq_some hf;have hp:=List.find?_some hf;simp at hp;exact⟨hp.1,(rows_ok l r hm).le⟩
 |none=>
  exact Zg
theorem KG(ts:List Tk):∀(f p:Nat),∀i∈Rw.lU f (ts.drop p),∃x,ts[p+i]?=some x/\x.1=5
 |0,_=>λi hi=>by cases hi
 |f+1,p=>λi hi=>by
  rw[Rw.lU]at hi;by_cases hk:Rw.jS (ts.drop p)=5
  ·rw[dX hk]at hi;rcases kY.1 hi with rfl|hi
   ·rw[oW];cases hx:ts[p]? with
    |none=>
     rw[oG (by rw[AA]at hx;exact hx)]at hk;cases hk
    |some x=>
     have hp:=(eY.1 hx).1;have e:ts[p]=x:=(eY.1 hx).2;rw[xz hp,e]at hk;exact⟨x,rfl,hk⟩
   ·obtain⟨j,hj,rfl⟩:=tC.1 hi;rw[nP]at hj;obtain⟨x,h1,h2⟩:=KG ts f _ j hj;exact⟨x,by rw[<-h1];congr 1;omega,h2⟩
  ·rw[dW hk]at hi;cases hi
theorem MI(at':Nat)(ts:List Tk):∀e∈Rw.mG at' ts,at'<e.bu/\∃x,ts[e.bu-1-at']?=some x/\(x.1=5\/x.1=6):=by
 rw[Rw.pG];intro e he;rcases kC.1 he with he|he
 ·obtain⟨i,hi,rfl⟩:=tC.1 he;obtain⟨x,h1,h2⟩:=KG ts _ _ i hi;refine⟨by show at'<at'+_+1;omega,x,?_,.inl h2⟩;show ts[at'+(Rw.gJ ts+i)+1-1-at']?=_;rw[show at'+(Rw.gJ ts+i)+1-1-at'=Rw.gJ ts+i by omega];exact h1
 ·unfold Rw.IZ at he;cases hk:Rw.pO (ts.drop (Rw.vO ts))with
  |none=>rw[hk]at he;cases he
  |some n=>
   rw[hk]at he;obtain rfl:=tF.1 he;unfold Rw.pO at hk;by_cases h6:Rw.jS ((ts.drop (Rw.vO ts)).drop (Rw.sQ (ts.drop (Rw.vO ts))))=6
   ·rw[dX h6]at hk;injection hk with hk
    obtain⟨a,ha⟩:=eu (Rw.sQ (ts.drop (Rw.vO ts)));rw[ha]at hk h6;rw[nP]at h6;refine⟨by show at'<at'+_+n;omega,?_⟩;show∃x,ts[at'+Rw.vO ts+n-1-at']?=some x/\_;rw[show at'+Rw.vO ts+n-1-at'=Rw.vO ts+a by omega];cases hx:ts[Rw.vO ts+a]? with
    |none=>
     rw[oG (by rw[AA]at hx;exact hx)]at h6;cases h6
    |some x=>
     have hp:=(eY.1 hx).1;have e:ts[Rw.vO ts+a]=x:=(eY.1 hx).2;rw[xz hp,e]at h6;exact⟨x,rfl,.inr h6⟩
   ·rw[dW h6]at hk;cases hk
def mU(l:List Tk)(b:Nat):Nat->List E->Prop
 |_,[]=>True
 |p,e::r=>p<=e.from'/\e.from'<e.bu/\e.bu<=b/\mU l b e.bu r
theorem FD(l:List Tk)(b:Nat):∀(es:List E)(p:Nat)(c:Int),Rw.Ord p c es->(∀e∈es,e.bu<=b)->mU l b p es
 |[],_,_=>λ_ _=>trivial
 |e::r,p,c=>fun⟨h1,h2,_,_,h5⟩ hb=>⟨h1,h2,hb e eG,FD l b r _ _ h5 (λx hx=>hb x qT)⟩
theorem uY{l:List Tk}{r:R}(ht:Rw.jO 0 l)(h:lV l r)(h5:r.kind=5):
 mU l (back l r.bu (lo l r.from' r.bu)) (lo l r.from' r.bu) (Rw.iH l r).1/\(∀e,(Rw.iH l r).1.getLast?=some e->(Rw.iH l r).2=e.bu)/\((Rw.iH l r).1=[]->(Rw.iH l r).2=lo l r.from' r.bu)/\(Rw.iH l r).2<=r.bu:=by
 have hlt:=h.lt;have hle:=h.le;obtain⟨ts,hts⟩:=eu ((l.drop r.from').take (r.bu-r.from'));have af:Rw.iH l r=(Rw.mG r.from' ts,Rw.rW r.from' ts):=by unfold Rw.iH;rw[dX h5,hts]
 have hlen:ts.length=r.bu-r.from':=Yz
 have hget:∀i x,ts[i]?=some x->l[r.from'+i]?=some x/\i<r.bu-r.from':=by
  intro i x hx;have hi:=(eY.1 hx).1;rw[<-hts,tu dS,sW]at hx;exact⟨hx,dS⟩
 obtain⟨q,hq⟩:=Rw.jO.drop ht r.from';have ag:Rw.jO q ts:=by rw[<-hts];exact Rw.BH _ _ hq
 have hlead:r.from'+Rw.gJ ts=lo l r.from' r.bu:=by
  have key:∀(n a:Nat),a+n<=l.length->a+Rw.gJ ((l.drop a).take n)=iy (λj=>!cnt (raw l j)) n a:=by
   intro n
   induction n with
   |zero=>intro a _;rw[vT];rfl
   |succ n ih=>
    intro a ha;have hx:l[a]?=some l[a]:=fu dS;rw[xz dS,vJ,Rw.gJ,iy,lu hx];by_cases hc:Sc.counts (l[a]).1=true
    ·have hc':cnt (l[a]).1=true:=hc;rw[dX hc,hc',dW eG];rfl
    ·have hc':cnt (l[a]).1=false:=by
      have:¬cnt (l[a]).1=true:=hc
      simpa using this
     rw[dW hc,hc',dX eG,<-ih (a+1) dS];omega
  have:=key (r.bu-r.from') r.from' dS;rw[hts]at this;exact this
 rw[af];obtain⟨a,ha⟩:=eu (lo l r.from' r.bu);rw[ha]at hlead⊢;have ae:=Rw.ME ag r.from';refine⟨FD l _ _ a (-1) ?_ (λe he=>?_),(Rw.KC r.from' ts).2.1,λhe=>by rw[<-hlead];exact(Rw.KC r.from' ts).1 he,by have:=(Rw.KC r.from' ts).2.2;show Rw.rW r.from' ts<=_;omega⟩
 ·
  show Rw.Ord a (-1) (Rw.mG r.from' ts);have aa:∀e,(Rw.mG r.from' ts).head?=some e->a<=e.from':=by
   intro e he;have he:e∈Rw.mG r.from' ts:=List.mem_of_head? he;rw[Rw.pG]at he;rcases kC.1 he with he|he
   ·obtain⟨i,_,rfl⟩:=tC.1 he;show a<=r.from'+(Rw.gJ ts+i);omega
   ·unfold Rw.IZ at he;cases hk:Rw.pO (ts.drop (Rw.vO ts))with
    |none=>rw[hk]at he;cases he
    |some n=>
     rw[hk]at he;obtain rfl:=tF.1 he;show a<=r.from'+Rw.vO ts;unfold Rw.vO;omega
  cases hes:Rw.mG r.from' ts with
  |nil=>trivial
  |cons e k=>
   rw[hes]at ae aa;obtain⟨h1,h2,h3⟩:=ae;exact⟨aa e rfl,h2,h3⟩
 ·obtain⟨c1,x,c2,c3⟩:=MI r.from' ts e he;obtain⟨g1,g2⟩:=hget _ x c2
  have:=ow l r.bu a (e.bu-1) (by
   have hmem:a<=e.bu-1:=by
    rw[Rw.pG]at he;rcases kC.1 he with he|he
    ·obtain⟨i,_,rfl⟩:=tC.1 he;show a<=r.from'+(Rw.gJ ts+i)+1-1;omega
    ·unfold Rw.IZ at he;cases hk:Rw.pO (ts.drop (Rw.vO ts))with
     |none=>rw[hk]at he;cases he
     |some n=>
      rw[hk]at he;obtain rfl:=tF.1 he;have:=Rw.qW _ n hk;show a<=r.from'+Rw.vO ts+n-1;unfold Rw.vO;omega
   exact hmem) dS (by
   rw[show e.bu-1=r.from'+(e.bu-1-r.from')by omega,lu g1]
   rcases c3 with c3|c3<;>rw[c3]<;>rfl)
  omega
end Ps
namespace Fe
open Ar Fl
def VC(l:List Tk)(e:Nat)(n:Int)(val:Int->Nat->St->Int×Nat×St):Prop:=
 ∀(up p:Nat)(s:St)(b:Int),Ck s.t n->Fits s.t p b up->Lf s.t->No s.t up->b<=p+1->p<=e->
  (val up p s=(-1,p,s)/\begins (kd l e p)=false)\/
  (∃(next:Nat)(s':St),val up p s=((s.t.length:Int),next,s')/\p<next/\next<=e/\cnt (raw l (next-1))=true/\Ok l p n up s next next s')
theorem aa9(l:List Tk)(e:Nat)(n:Int)(hn:(e:Int)<=n)(eT:Option (Int->Nat->St->Nat×St)):
 (∀k,eT=some k->∀(c op:Nat)(s:St)(b:Int),op<e->cnt (raw l op)=true->Ck s.t n->Fits s.t (op+1:Nat) b c->Lf s.t->No s.t c->b<=(op+1:Nat)->
  ∃(next:Nat)(s':St),k c op s=(next,s')/\op<next/\next<=e/\cnt (raw l (next-1))=true/\Ok l op n c s next next s')->VC l e n (oJ l e eT):=by
 intro hk up p s b hck hf hlf hno hb hpe;have h0:=kN (l:=l) hpe;obtain⟨i0,hi0⟩:=eu (blanks l e p);have hl:=xI l e i0 (e-i0) none i0 (eO _) dS (λa z h=>jQ);obtain⟨o,ho⟩:=eu ((lead l e (e-i0) none i0).1);obtain⟨i,hi⟩:=eu ((lead l e (e-i0) none i0).2);rw[hi0]at h0;rw[ho,hi]at hl;obtain⟨l1,l2,l3,l4⟩:=hl;obtain⟨fr,hfr⟩:=eu (j5 o i);have ae:p<=fr/\fr<=i:=by
  rw[<-hfr];cases o with
  |none=>exact⟨by show p<=i;omega,eO _⟩
  |some x=>obtain⟨a,z⟩:=x;have:=l3 a z rfl;show p<=a/\a<=i;omega
 have hs:Ok l p n up s p b s:=.start hck hf hlf hno;obtain⟨k,hkd⟩:=eu (kd l e i);have put:∀(kind t:Nat),fr<t->t<=e->cnt (raw l (t-1))=true->1<=kind->kind<=10->
  ∃(next:Nat)(s':St),((add s up kind fr t).2,t,(add s up kind fr t).1)=((s.t.length:Int),next,s')/\p<next/\next<=e/\cnt (raw l (next-1))=true/\Ok l p n up s next next s':=by
  intro kind t h1 h2 h3 h4 h5;obtain⟨s',a1,a2,_⟩:=kJ (kind:=kind) hs (f:=fr) (t:=t) dS dS dS h4 h5;exact⟨t,s',by rw[a1],dS,h2,h3,a2.le (jk _) dS⟩
 unfold oJ;dsimp only;rw[hi0,ho,hi,hfr,hkd];have kin:k≠0->i<e/\raw l i=k:=λh=>JF
 by_cases c1:k=13
 ·rw[dX c1];have hi2:=kin dS;exact .inr (put 8 (i+1) dS dS PO dS dS)
 rw[dW c1];by_cases c2:gX k=true
 ·rw[dX c2];have hi2:=kin (λh=>by rw[h]at c2;exact absurd c2 dU);exact .inr (put 7 (i+1) dS dS PU dS dS)
 rw[dW c2];by_cases c3:k=18
 ·rw[dX c3];have ht:=CL (l:=l) (e:=e) (i:=i) dS;exact .inr (put 7 (text l e i) dS ht.2.1 ht.2.2 dS dS)
 rw[dW c3];by_cases c4:opens k=true
 ·rw[dX c4];have hi2:=kin (λh=>Qr);cases aa:eT with
  |none=>
   have ht:=my (l:=l) (e:=e) (i:=i) (by rw[hkd];exact c4);obtain⟨e1,e2⟩:=qY hs (f:=fr) (t:=balanced l e i) (code:=10) dS dS dS dS dS dS dS;exact .inr ⟨balanced l e i,_,by dsimp only;rw[e2],dS,ht.2.1,ht.2.2,e1.le (jk _) dS⟩
  |some q=>
   dsimp only;obtain⟨kind,hkind⟩:∃kind:Nat,kind=(if k=9 then 10 else 9):=⟨_,rfl⟩
   rw[<-hkind];have hk1:1<=kind/\kind<=10:=DU
   obtain⟨s',a1,a2,a3,⟨x,a4,a5⟩,a6⟩:=kJ (kind:=kind) hs (f:=fr) (t:=i+1) dS dS dS hk1.1 hk1.2;rw[a1];dsimp only;obtain⟨next,s2,k1,k2,k3,k4,k5⟩:=hk q aa s.t.length i s' (i+1:Nat) hi2.1 Jg a3.ck (a3.fits.le dS dS) a3.lf a3.no (jk _);rw[k1];obtain⟨x',b1,_,_,b2⟩:=k5.keep.2 _ x a4;exact .inr ⟨next,s2,rfl,dS,k3,k4,(a2.trans (k5.low dS)).out b1 dS a6⟩
 rw[dW c4];cases o with
 |some x=>
  obtain⟨a,z⟩:=x;have:=l3 a z rfl;have hfa:fr=a:=by rw[<-hfr];rfl
  exact .inr (put 7 (z+1) dS dS PW dS dS)
 |none=>
  exact ZD
theorem KH(l:List Tk)(e:Nat)(n:Int)(hn:(e:Int)<=n){c j q:Nat}{s:St}{b:Int}(hck:Ck s.t n)(hf:Fits s.t j b c)(hlf:Lf s.t)(hno:No s.t c)(hb:b<=q)(hjq:j<q)(hqe:q<=e):
 ∃s',pair l s c j q=(s',(s.t.length:Int))/\Ok l j n s.t.length s q q s'/\(∃x,s'.t[s.t.length]?=some x/\x.u=(c:Int))/\0<s.t.length:=by
 obtain⟨s1,a1,_,a3,⟨x,a4,a5⟩,a6⟩:=kJ (kind:=6) (Ok.start (l:=l) (p0:=j) hck hf hlf hno) (f:=j) (t:=q) dS dS dS dS dS;have a1:add s c 6 j q=(s1,(s.t.length:Int)):=a1;unfold pair;dsimp only;rw[a1];dsimp only;by_cases h:q-j<2
 ·rw[dX h];exact⟨s1,rfl,a3.le dS dS,⟨x,a4,a5⟩,a6⟩
 ·rw[dW h];obtain⟨kind,hkind⟩:∃kind:Nat,kind=(if(List.range (q-j)).any (λx=>raw l (j+x)==13)=true then 8 else 7):=⟨_,rfl⟩
  rw[<-hkind];have hk1:1<=kind/\kind<=10:=DU
  have b1:=gH l (q-1) (j+1);have b2:=xH l (q-1) (j+1) dS;obtain⟨s2,d1,d2,_⟩:=kJ (kind:=kind) (Ok.start (l:=l) (p0:=j) a3.ck a3.fits a3.lf a3.no) (f:=j) (t:=back l (q-1) (j+1)) dS dS dS hk1.1 hk1.2;rw[d1];dsimp only;have d3:=pY (s.t.length:Int) d2;obtain⟨x',g1,_,_,g2⟩:=d3.keep.2 _ x a4;exact⟨_,rfl,(a3.trans d3).le dS dS,⟨x',g1,dS⟩,a6⟩
theorem Ud(l:List Tk)(e:Nat)(n:Int)(hn:(e:Int)<=n)(val:Int->Nat->St->Int×Nat×St)(hv:VC l e n val)(aa:Bool){c j:Nat}{s:St}{b:Int}
 (hck:Ck s.t n) (hf:Fits s.t j b c) (hlf:Lf s.t) (hno:No s.t c) (hb:b<=j) (hj:kd l e j≠0) (ae:0<key l e j\/begins (kd l e j)=true):
 ∃(next:Nat)(s':St),item l e val aa c j s=(next,s')/\j<next/\next<=e/\cnt (raw l (next-1))=true/\Ok l j n c s next next s':=by
 have ag:=(ji hj).1;unfold item;dsimp only;by_cases hq:0<key l e j
 ·rw[dX hq];obtain⟨q1,q2,q3⟩:=qW dS hq;obtain⟨q,af⟩:=eu (key l e j);rw[af]at q1 q2 q3⊢;obtain⟨s1,a1,a2,⟨x,a3,a4⟩,a5⟩:=KH l e n hn hck hf hlf hno dS q1 q2;rw[a1];dsimp only;have hcq:cnt (raw l (q-1))=true:=by rw[q3];rfl
  split
  ·exact⟨q,s1,rfl,q1,q2,hcq,a2.out a3 a4 a5⟩
  ·have ht:=iW (l:=l) (e:=e) (i:=q) q2;rcases hv s.t.length (fI l e q) s1 q a2.ck (a2.fits.le dS (jk _)) a2.lf a2.no dS ht.2 with⟨v1,_⟩|⟨next,s2,v1,v2,v3,v4,v5⟩
   ·rw[v1];exact⟨q,s1,rfl,q1,q2,hcq,a2.out a3 a4 a5⟩
   ·rw[v1];dsimp only;rw[dW dS];obtain⟨x',g1,_,_,g2⟩:=v5.keep.2 _ x a3;exact⟨next,s2,rfl,dS,v3,v4,(a2.trans (v5.low dS)).out g1 dS a5⟩
 ·rw[dW hq];have hbg:begins (kd l e j)=true:=ae.resolve_left hq;cases aa with
  |true=>
   rw[dX rfl];obtain⟨s1,a1,_,a3,⟨x,a4,a5⟩,a6⟩:=kJ (kind:=6) (Ok.start (l:=l) (p0:=j) hck hf hlf hno) (f:=j) (t:=j+1) dS dS dS dS dS;have a1:add s c 6 j (j+1)=(s1,(s.t.length:Int)):=a1;rw[a1];dsimp only;have d3:=pY (s.t.length:Int) a3;obtain⟨x1,g1,_,_,g2⟩:=(pY (s.t.length:Int) (Ok.start (l:=l) (p0:=j) a3.ck a3.fits a3.lf a3.no)).keep.2 _ x a4;rcases hv s.t.length j _ (j+1:Nat) d3.ck (d3.fits.le (jk _) dS) d3.lf d3.no dS dS with⟨_,v2⟩|⟨next,s2,v1,v2,v3,v4,v5⟩
   ·exact A9
   ·rw[v1];dsimp only;obtain⟨x2,k1,_,_,k2⟩:=v5.keep.2 _ x1 g1;exact⟨next,s2,rfl,v2,v3,v4,(d3.trans v5).out k1 dS a6⟩
  |false=>
   rw[dW dU];rcases hv c j s b hck hf hlf hno dS dS with⟨_,v2⟩|⟨next,s2,v1,v2,v3,v4,v5⟩
   ·exact A9
   ·rw[v1];exact⟨next,s2,rfl,v2,v3,v4,v5⟩
theorem aba(l:List Tk)(e:Nat)(n:Int)(hn:(e:Int)<=n)(val:Int->Nat->St->Int×Nat×St)(hv:VC l e n val)(c op:Nat):
 ∀(g p:Nat)(aa:Bool)(s:St)(b:Int),Ck s.t n->Fits s.t p b c->Lf s.t->No s.t c->b<=p->op<p->p<=e->cnt (raw l (p-1))=true->
 ∃(next:Nat)(s':St),lN l e val c op g p aa s=(next,s')/\op<next/\next<=e/\cnt (raw l (next-1))=true/\Ok l op n c s next next s'
 |0,p,aa,s,b=>λhck hf hlf hno hb hop hpe hcp=>⟨p,s,rfl,hop,hpe,hcp,(Ok.start hck hf hlf hno).le (jk _) hb⟩
 |g+1,p,aa,s,b=>λhck hf hlf hno hb hop hpe hcp=>by
  have ht:=iW (l:=l) (e:=e) (i:=p) hpe;have hs:Ok l op n c s p b s:=.start hck hf hlf hno;rw[lN];obtain⟨j,hj⟩:=eu (fI l e p);rw[hj]at ht⊢;obtain⟨k,hk⟩:=eu (kd l e j);rw[hk];by_cases k0:k=0
  ·rw[dX k0,nL l p (op+1) dS hcp];exact⟨p,_,rfl,hop,hpe,hcp,Kz (hs.le (jk _) hb) (eO _) dS⟩
  rw[dW k0];have hjk:=ji (l:=l) (e:=e) (i:=j) dS;rw[hk]at hjk;have on:∀(p':Nat)(h':Bool)(s1:St),Ok l op n c s p' p' s1->j<p'->p'<=e->cnt (raw l (p'-1))=true->
   ∃(next:Nat)(s':St),lN l e val c op g p' h' s1=(next,s')/\op<next/\next<=e/\cnt (raw l (next-1))=true/\Ok l op n c s next next s':=by
   intro p' h' s1 h1 h2 h3 h4;obtain⟨next,s',g1,g2,g3,g4,g5⟩:=aba l e n hn val hv c op g p' h' s1 p' h1.ck h1.fits h1.lf h1.no (jk _) dS h3 h4;exact⟨next,s',g1,g2,g3,g4,h1.trans g5⟩
  have er:∀(t code:Nat),code=8->j<t->t<=e->Ok l op n c s t t (err l s c j t code):=by
   intro t code h1 h2 h3;exact(qY hs (f:=j) (t:=t) (code:=code) dS dS dS dS dS dS dS).1.le (jk _) dS
  have gr:Ok l op n c s (j+1:Nat) (j+1:Nat) ⟨iB s.t c ((j+1:Nat):Int),s.d⟩:=sD hs dS dS dS;have c1:cnt k=true->cnt (raw l (j+1-1))=true:=λh=>Jh
  by_cases k1:k=(if raw l op=9 then 11 else 10)
  ·rw[dX k1];exact⟨j+1,_,rfl,dS,dS,c1 (by rw[k1];split<;>rfl),gr⟩
  rw[dW k1];by_cases k2:ends k=true
  ·rw[dX k2];exact on (j+1) aa _ (er (j+1) 8 rfl dS dS) dS dS (c1 (zF k2))
  rw[dW k2];by_cases k3:k=7
  ·rw[dX k3];have c7:=c1 (by rw[k3];rfl);split
   ·exact on (j+1) false _ gr dS dS c7
   ·exact on (j+1) aa _ (er (j+1) 8 rfl dS dS) dS dS c7
  rw[dW k3];have hcj:cnt (raw l j)=true:=Eb
  by_cases k4:aa=true
  ·rw[dX k4];obtain⟨t1,t2,t3⟩:=uh (l:=l) (e:=e) (j:=j) dS hcj dS DV;exact on _ aa _ (er _ 8 rfl t1 t2) t1 t2 t3
  rw[dW k4];by_cases k5:0<key l e j\/begins k=true
  ·rw[dX k5];obtain⟨next,s',i1,i2,i3,i4,i5⟩:=Ud l e n hn val hv (raw l op==9) (c:=c) (j:=j) hck (hf.le dS (jk _)) hlf hno dS dS DW;rw[i1];exact on next true s' (i5.low dS) i2 i3 i4
  ·rw[dW k5];exact on (j+1) aa _ (er (j+1) 8 rfl dS dS) dS dS (c1 Ji)
theorem zL(l:List Tk)(e:Nat)(n:Int)(hn:(e:Int)<=n):∀d:Nat,VC l e n (gP l e d)
 |0=>aa9 l e n hn none (λk h=>jQ)
 |d+1=>aa9 l e n hn _ (λk h c op s b ho hc hck hf hlf hno hb=>by
  injection h with h
  subst h
  exact aba l e n hn _ (zL l e n hn d) c op (e-op) (op+1) false s b hck hf hlf hno hb dS dS DX)
end Fe
namespace Ps
open Ar Fl
open Rw (R E)
abbrev Bs:=Nat×St
abbrev OK(l:List Tk)(B:Bs)(k:Nat)(e:Nat)(s:St):Prop:=Fe.Ok l B.1 l.length k B.2 e e s
def vR(l:List Tk)(B:Bs)(k:Int)(e:Nat)(s:St):Prop:=∃m:Nat,k=(m:Int)/\OK l B m e s
theorem vR.le{l:List Tk}{B:Bs}{k:Int}{e e':Nat}{s:St}(h:vR l B k e s)(he:e<=e'):vR l B k e' s:=by
 obtain⟨m,h1,h2⟩:=h;exact⟨m,h1,h2.le dS dS⟩
def Up(t:List Nd)(c p:Nat):Prop:=0<c/\∃x,t[c]?=some x/\x.u=(p:Int)
theorem Up.keep{t t':List Nd}{c p:Nat}(h:Up t c p)(hk:oM t t'):Up t' c p:=by
 obtain⟨h0,x,h1,h2⟩:=h;obtain⟨x',g1,_,_,g2⟩:=hk.2 c x h1;exact⟨h0,x',g1,dS⟩
theorem LU{l:List Tk}{B:Bs}{c p:Nat}{e:Nat}{s:St}(h:OK l B c e s)(hu:Up s.t c p):OK l B p e s:=by
 obtain⟨h0,x,h1,h2⟩:=hu;exact h.out h1 h2 h0
def outer(d:Nat):List Op->Int
 |[]=>d
 |o::_=>o.cur
def jT(t:List Nd)(d:Nat):List Op->Prop
 |[]=>Up t d 0
 |o::r=>(∃nd c p:Nat,o.node=(nd:Int)/\o.cur=(c:Int)/\Up t c nd/\outer d r=(p:Int)/\Up t nd p)/\jT t d r
theorem jT.keep{t t':List Nd}(hk:oM t t'){d:Nat}:∀{st:List Op},jT t d st->jT t' d st
 |[],h=>Up.keep h hk
 |_::_,⟨⟨nd,c,p,h1,h2,h3,h4,h5⟩,h6⟩=>⟨⟨nd,c,p,h1,h2,h3.keep hk,h4,h5.keep hk⟩,jT.keep hk h6⟩
def hold(doc:Int):List Op->Int
 |[]=>doc
 |t::_=>if t.has=true then t.node else t.cur
theorem qM(p:PS):holder p=hold p.doc p.st:=by unfold holder hold;split<;>rename_i h<;>first|rfl|rw[h]
def kM(l:List Tk)(B:Bs)(e:Nat)(s:St)(d:Nat):List Op->Prop
 |[]=>vR l B d e s
 |o::_=>vR l B o.node e s/\(o.has=false->vR l B o.cur e s)
theorem zM{l:List Tk}{B:Bs}{e d:Nat}{s:St}{st:List Op}(hc:jT s.t d st)(h:vR l B (hold d st) e s):kM l B e s d st:=by
 cases st with
 |nil=>exact h
 |cons o r=>
  obtain⟨⟨nd,c,p,h1,h2,h3,_,_⟩,_⟩:=hc;have h:vR l B (if o.has=true then o.node else o.cur) e s:=h;by_cases ho:o.has=true
  ·rw[dX ho]at h;exact⟨h,λh=>by rw[ho]at h;cases h⟩
  ·rw[dW ho]at h;refine⟨?_,λ_=>h⟩;obtain⟨m,e1,e2⟩:=h;obtain rfl:m=c:=by omega
   exact⟨nd,h1,LU e2 h3⟩
theorem kM.hold{l:List Tk}{B:Bs}{e d:Nat}{s:St}{st:List Op}(h:kM l B e s d st):vR l B (hold d st) e s:=by
 cases st with
 |nil=>exact h
 |cons o r=>
  show vR l B (if o.has=true then o.node else o.cur) e s;split
  ·exact h.1
  ·rename_i ho;exact h.2 DY
theorem kM.outer{l:List Tk}{B:Bs}{e d:Nat}{s:St}{o:Op}{r:List Op}(hc:jT s.t d (o::r))(h:kM l B e s d (o::r)):vR l B (outer d r) e s:=by
 obtain⟨⟨nd,c,p,h1,h2,_,h4,h5⟩,_⟩:=hc;obtain⟨m,e1,e2⟩:=h.1;obtain rfl:m=nd:=dS
 exact⟨p,h4,LU e2 h5⟩
theorem zY{l:List Tk}{B:Bs}{e d:Nat}{s:St}{r:List Op}(hc:jT s.t d r)(h:vR l B (outer d r) e s):kM l B e s d r:=by
 cases r with
 |nil=>exact h
 |cons o q=>
  obtain⟨⟨nd,c,p,h1,h2,h3,_,_⟩,_⟩:=hc;refine⟨?_,λ_=>h⟩;obtain⟨m,e1,e2⟩:=h;have e1:o.cur=(m:Int):=e1;obtain rfl:m=c:=dS
  exact⟨nd,h1,LU e2 h3⟩
theorem kM.drop{l:List Tk}{B:Bs}{e d:Nat}{s:St}(f:Op->Bool):∀{st:List Op},jT s.t d st->kM l B e s d st->jT s.t d (st.dropWhile f)/\kM l B e s d (st.dropWhile f)
 |[],hc,h=>⟨hc,h⟩
 |o::r,hc,h=>by
  rw[LC];split
  ·exact kM.drop f hc.2 (zY hc.2 (kM.outer hc h))
  ·exact⟨hc,h⟩
theorem kM.all{l:List Tk}{B:Bs}{e d:Nat}{s:St}:∀{st:List Op},jT s.t d st->kM l B e s d st->Up s.t d 0/\OK l B d e s
 |[],hc,h=>by
  obtain⟨m,e1,e2⟩:=h;obtain rfl:m=d:=dS
  exact⟨hc,e2⟩
 |o::r,hc,h=>kM.all hc.2 (zY hc.2 (kM.outer hc h))
def Ay(l:List Tk)(B:Bs)(e:Nat)(p:PS):Prop:=∃d:Nat,p.doc=(d:Int)/\jT p.s.t d p.st/\kM l B e p.s d p.st
def Inv(l:List Tk)(B:Bs)(e:Nat)(p:PS):Prop:=(p.doc=-1/\p.st=[]/\OK l B 0 e p.s)\/Ay l B e p
theorem kM.le{l:List Tk}{B:Bs}{e e' d:Nat}{s:St}{st:List Op}(h:kM l B e s d st)(he:e<=e'):kM l B e' s d st:=by
 cases st with
 |nil=>exact vR.le h he
 |cons o r=>exact⟨vR.le h.1 he,λg=>vR.le (h.2 g) he⟩
theorem Ay.le{l:List Tk}{B:Bs}{e e':Nat}{p:PS}(h:Ay l B e p)(he:e<=e'):Ay l B e' p:=by
 obtain⟨d,h1,h2,h3⟩:=h;exact⟨d,h1,h2,h3.le he⟩
theorem Inv.le{l:List Tk}{B:Bs}{e e':Nat}{p:PS}(h:Inv l B e p)(he:e<=e'):Inv l B e' p:=by
 rcases h with⟨h1,h2,h3⟩|h
 ·exact .inl ⟨h1,h2,h3.le dS dS⟩
 ·exact .inr (h.le he)
theorem Inv.root{l:List Tk}{B:Bs}{e:Nat}{p:PS}(h:Inv l B e p):OK l B 0 e p.s:=by
 rcases h with⟨h1,h2,h3⟩|⟨d,h1,h2,h3⟩
 ·exact h3
 ·obtain⟨g1,g2⟩:=kM.all h2 h3;exact LU g2 g1
theorem KI{l:List Tk}{B:Bs}{e a b code:Nat}{p:PS}(h:Ay l B e p)(hB:B.1<=a)(aa:e<=a)(hab:a<b)(hb:b<=l.length)(hc:code≠9)(h5:5<=code)(h10:code<=10):Ay l B b {p with s:=err l p.s (holder p) a b code}:=by
 obtain⟨d,h1,h2,h3⟩:=h;obtain⟨m,e1,e2⟩:=h3.hold;have hh:holder p=(m:Int):=by rw[qM,h1];exact e1
 have h4:=(Fe.qY (f:=a) (t:=b) (code:=code) e2 dS hab dS hc hB h5 h10).1.le (e':=b) (b':=b) (jk _) dS;have hk:oM p.s.t (err l p.s (m:Int) a b code).t:=by
  have:=(Fe.qY (f:=a) (t:=b) (code:=code) (Fe.Ok.start (l:=l) (p0:=B.1) e2.ck e2.fits e2.lf e2.no) dS hab dS hc hB h5 h10).1.keep;exact this
 rw[hh];exact⟨d,h1,h2.keep hk,zM (h2.keep hk) ⟨m,e1,h4⟩⟩
theorem MJ{l:List Tk}{B:Bs}{k e a b:Nat}{s:St}(h:OK l B k e s)(hB:B.1<=a)(aa:e<=a)(hb:b<=l.length):OK l B k (max e b) (mR l s k a b 8)/\oM s.t (mR l s k a b 8).t:=by
 unfold mR;split
 ·rename_i hab;refine⟨(Fe.qY (f:=a) (t:=b) (code:=8) h dS hab dS dS hB dS dS).1.le dS dS,?_⟩;exact(Fe.qY (f:=a) (t:=b) (code:=8) (Fe.Ok.start (l:=l) (p0:=B.1) h.ck h.fits h.lf h.no) dS hab dS dS hB dS dS).1.keep
 ·exact⟨h.le dS dS,oM.refl _⟩
theorem mh{l:List Tk}{B:Bs}{k e i depth:Nat}{p:PS}(h:OK l B k e p.s)(hB:B.1<=i)(aa:e<=i)(hi:i<l.length):
 (value l (Rw.eF l) depth p k i).1.doc=p.doc/\(value l (Rw.eF l) depth p k i).1.st=p.st/\(value l (Rw.eF l) depth p k i).1.read<=l.length/\
 oM p.s.t (value l (Rw.eF l) depth p k i).1.s.t/\OK l B k (value l (Rw.eF l) depth p k i).1.read (value l (Rw.eF l) depth p k i).1.s:=by
 have hlim:i<=limit l i/\limit l i<=l.length:=by
  have h1:=kH (λj=>raw l j !=20&&raw l j !=21) (l.length-i) i;have h2:=lq (λj=>raw l j !=20&&raw l j !=21) (l.length-i) i;unfold limit;omega
 have hv:=Fe.zL l (limit l i) l.length dS (depth-p.st.length) k i p.s e h.ck (h.fits.le dS (jk _)) h.lf h.no dS hlim.1;have key:∀(next:Nat)(none':Bool)(s':St),e<=next->B.1<=next->OK l B k next s'->oM p.s.t s'.t->next<=l.length->(none'=true->next<l.length)->
  (rest l (Rw.eF l) {p with s:=s' } k next none').doc=p.doc/\(rest l (Rw.eF l) {p with s:=s' } k next none').st=p.st/\(rest l (Rw.eF l) {p with s:=s' } k next none').read<=l.length/\
  oM p.s.t (rest l (Rw.eF l) {p with s:=s' } k next none').s.t/\OK l B k (rest l (Rw.eF l) {p with s:=s' } k next none').read (rest l (Rw.eF l) {p with s:=s' } k next none').s:=by
  intro next none' s' g1 g0 g2 g3 g4 g5;obtain⟨r1,r2⟩:=Rc l next none' g4 g5 dS;unfold rest;dsimp only;obtain⟨r,hr⟩:=eu (oU (Rw.eF l) next none');rw[hr]at r1 r2⊢;have hb:=gH l r (lo l next r);obtain⟨o1,o2⟩:=MJ g2 (by have:=kF l next r;omega) (kF l next r) (b:=back l r (lo l next r)) dS;exact⟨rfl,rfl,r2,g3.trans o2,o1.le dS dS⟩
 unfold value;dsimp only;rcases hv with⟨v1,_⟩|⟨next,s',v1,v2,v3,_,v5⟩
 ·rw[v1];dsimp only;rw[dX dS,show decide ((-1:Int)<0)=true from rfl];exact key i true p.s aa hB (h.le dS dS) (oM.refl _) dS (λ_=>hi)
 ·rw[v1];dsimp only;rw[dW dS,show decide (((p.s.t.length:Nat):Int)<0)=false from ic dS,aeC dS];exact key next false s' dS dS (h.trans (v5.low hB)) v5.keep dS (λh=>fV)
theorem uk{l:List Tk}{B:Bs}{e i:Nat}{p:PS}(h:Inv l B e p)(aa:e<=i)(hi:i<=l.length):Ay l B i (gI p i)/\(gI p i).read=p.read:=by
 unfold gI;split
 ·rename_i hd;obtain⟨s',a1,_,a3,⟨x,a4,a5⟩,a6⟩:=Fe.kJ (kind:=2) (f:=i) (t:=i) h.root dS (eO _) dS dS dS;have a1:add p.s 0 2 i i=(s',(p.s.t.length:Int)):=a1;rw[a1];dsimp only;have hu:Up s'.t p.s.t.length 0:=⟨a6,x,a4,a5⟩
  exact⟨⟨p.s.t.length,rfl,hu,⟨p.s.t.length,rfl,a3.le dS dS⟩⟩,rfl⟩
 ·rename_i hd;rcases h with⟨h1,_⟩|h
  ·omega
  ·exact⟨h.le aa,rfl⟩
theorem aft{l:List Tk}{B:Bs}{e depth:Nat}{p:PS}{r:R}(h:Inv l B e p)(hr:lV l r)(h4:r.kind=4)(hB:B.1<=r.from')(he:e<=r.from')(hread:p.read=r.bu):
 Inv l B (mark l (Rw.eF l) depth p r).read (mark l (Rw.eF l) depth p r)/\(mark l (Rw.eF l) depth p r).read<=l.length:=by
 have hlt:=hr.lt;have hle:=hr.le;obtain⟨m1,m2⟩:=hr.mark h4;have hge:=kF l r.from' r.bu;unfold mark;dsimp only;obtain⟨a,ha⟩:=eu (lo l r.from' r.bu);rw[ha]at m1 m2 hge⊢;by_cases h20:raw l a=20
 ·rw[dX h20];obtain⟨s',a1,_,a3,⟨x,a4,a5⟩,a6⟩:=Fe.kJ (kind:=2) (f:=a) (t:=a+1) h.root dS dS dS dS dS;have a1:add p.s 0 2 a (a+1)=(s',(p.s.t.length:Int)):=a1;rw[a1];dsimp only;have hu:Up s'.t p.s.t.length 0:=⟨a6,x,a4,a5⟩
  have a3':OK l B p.s.t.length (a+1) s':=a3.le dS dS;have hb:=gH l r.bu (lo l (a+1) r.bu);have aa:=kF l (a+1) r.bu;split
  ·rename_i hx;obtain⟨v1,v2,v3,v4,v5⟩:=mh (depth:=depth) (p:={p with s:=s',doc:=(p.s.t.length:Int),root:=false,st:=[]}) (i:=lo l (a+1) r.bu) a3' dS aa dS;refine⟨.inr ⟨p.s.t.length,v1,?_,?_⟩,v3⟩
   ·dsimp only;rw[v2];exact hu.keep v4
   ·dsimp only;rw[v2];exact⟨p.s.t.length,rfl,v5⟩
  ·exact⟨.inr ⟨p.s.t.length,rfl,hu,⟨p.s.t.length,rfl,a3'.le (by show((a+1:Nat):Int)<=(p.read:Nat);omega) (by show((a+1:Nat):Int)<=(p.read:Nat);omega)⟩⟩,by show p.read<=_;omega⟩
 ·rw[dW h20];dsimp only;have hgrow:OK l B 0 (a+1) (if 0<=p.doc then(⟨iB p.s.t p.doc ((a+1:Nat):Int),p.s.d⟩:St)else p.s):=by
   rcases h with⟨g1,_,g3⟩|⟨d,g1,g2,g3⟩
   ·rw[dW dS];exact g3.le dS dS
   ·rw[dX dS,g1];obtain⟨k1,k2⟩:=kM.all g2 g3;have k3:=Fe.sD (t:=a+1) k2 dS dS dS;have k4:=(Fe.sD (t:=a+1) (Fe.Ok.start (l:=l) (p0:=B.1) k2.ck k2.fits k2.lf k2.no) dS dS dS).keep;exact LU k3 (k1.keep k4)
  obtain⟨s1,hs1⟩:=eu ((if 0<=p.doc then(⟨iB p.s.t p.doc ((a+1:Nat):Int),p.s.d⟩:St)else p.s));rw[hs1]at hgrow⊢;obtain⟨b,hb⟩:=eu (back l r.bu a);have hbl:=gH l r.bu a;rw[hb]at hbl⊢;have hx:=kF l (a+1) b;have hy:=gH l b (lo l (a+1) b);obtain⟨o1,_⟩:=MJ hgrow dS hx (b:=back l b (lo l (a+1) b)) dS;exact⟨.inl ⟨rfl,rfl,o1.le YA YA⟩,by show p.read<=_;omega⟩
end Ps
namespace Ps
open Ar Fl
theorem pZ(a b:Dg):less a b=true↔a.f<b.f\/(a.f=b.f/\(a.t<b.t\/(a.t=b.t/\a.code<b.code))):=by
 unfold less;split
 ·split
  ·simp;omega
  ·simp;omega
 ·simp;omega
theorem same_iff(a b:Dg):same a b=true↔a=b:=by
 unfold same;obtain⟨a1,a2,a3⟩:=a;obtain⟨b1,b2,b3⟩:=b;simp;constructor
 ·rintro⟨⟨rfl,rfl⟩,rfl⟩;exact⟨rfl,rfl,rfl⟩
 ·rintro⟨rfl,rfl,rfl⟩;exact⟨⟨rfl,rfl⟩,rfl⟩
theorem FE{a b c:Dg}(h:less a b=true)(g:less b c=true):less a c=true:=by
 rw[pZ]at*;omega
theorem wT(a:Dg):less a a=false:=by
 rw[Lu];intro h;rw[pZ]at h;omega
theorem VO{a b:Dg}(h:less a b=true):less b a=false:=by
 rw[Lu];intro g;rw[pZ]at*;omega
theorem MK{a b:Dg}(h:less a b=false)(g:a≠b):less b a=true:=by
 rw[Lu,ne_eq,pZ]at h;rw[pZ];obtain⟨a1,a2,a3⟩:=a;obtain⟨b1,b2,b3⟩:=b;dsimp only at*;by_cases e:a2=b2/\a3=b3/\a1=b1
 ·obtain⟨rfl,rfl,rfl⟩:=e;exact absurd rfl g
 ·omega
def By(l:List Dg):Prop:=l.Pairwise (λa b=>less a b=true)
theorem CS(x y:Dg):∀l:List Dg,y∈xD x l↔y=x\/y∈l
 |[]=>by simp[xD]
 |z::r=>by
  rw[xD];split
  ·simp
  ·split
   ·rename_i h;rw[same_iff]at h;subst h;simp
   ·rw[kY,CS x y r,kY];constructor
    ·rintro(h|h|h)
     ·exact .inr (.inl h)
     ·exact .inl h
     ·exact .inr (.inr h)
    ·rintro(h|h|h)
     ·exact .inr (.inl h)
     ·exact .inl h
     ·exact .inr (.inr h)
theorem Ue(x:Dg):∀l:List Dg,By l->By (xD x l)
 |[]=>λ_=>by unfold By xD;exact akk _ _
 |z::r=>λh=>by
  unfold By at h;rw[vI]at h;rw[xD];split
  ·rename_i hl;unfold By;rw[vI,vI];refine⟨λy hy=>?_,h⟩;rcases kY.1 hy with rfl|hy
   ·exact hl
   ·exact FE hl (h.1 y hy)
  ·rename_i hl;split
   ·unfold By;rw[vI];exact h
   ·rename_i hs;unfold By;rw[vI];refine⟨λy hy=>?_,Ue x r h.2⟩;rw[CS]at hy;rcases hy with rfl|hy
    ·exact MK (by simpa using hl) (λe=>hs ((same_iff _ _).2 e))
    ·exact h.1 y hy
theorem BL:∀(l o:List Dg),By o->By (l.foldl (λo x=>xD x o) o)/\∀y,y∈l.foldl (λo x=>xD x o) o↔y∈o\/y∈l
 |[],o=>λh=>⟨h,λy=>eG⟩
 |x::r,o=>λh=>by
  rw[List.foldl_cons];obtain⟨h1,h2⟩:=BL r (xD x o) (Ue x o h);refine⟨h1,λy=>?_⟩;rw[h2,CS,kY];constructor
  ·rintro((h|h)|h)
   ·exact .inr (.inl h)
   ·exact .inl h
   ·exact .inr (.inr h)
  ·rintro(h|h|h)
   ·exact .inl (.inr h)
   ·exact .inl (.inl h)
   ·exact .inr h
theorem wU(l:List Dg):By (qP l):=(BL l [] List.Pairwise.nil).1
theorem ry(l:List Dg)(y:Dg):y∈qP l↔y∈l:=by
 have:=(BL l [] List.Pairwise.nil).2 y;unfold qP;rw[this];simp
theorem Re:∀{a b:List Dg},By a->By b->(∀y,y∈a↔y∈b)->a=b
 |[],[]=>λ_ _ _=>rfl
 |[],y::b=>λ_ _ h=>absurd ((h y).2 eG) eG
 |x::a,[]=>λ_ _ h=>absurd ((h x).1 eG) eG
 |x::a,y::b=>λha hb h=>by
  unfold By at ha hb;rw[vI]at ha hb;have hxy:x=y:=by
   rcases kY.1 ((h x).1 eG)with e|e
   ·exact e
   ·rcases kY.1 ((h y).2 eG)with e2|e2
    ·exact e2.symm
    ·have h1:=hb.1 x e;have h2:=ha.1 y e2;rw[VO h1]at h2;cases h2
  subst hxy;refine congrArg (x::·) (Re ha.2 hb.2 (λz=>?_));constructor
  ·intro hz;rcases kY.1 ((h z).1 (LD _ hz))with e|e
   ·subst e;have:=ha.1 z hz;rw[wT]at this;cases this
   ·exact e
  ·intro hz;rcases kY.1 ((h z).2 (LD _ hz))with e|e
   ·subst e;have:=hb.1 z hz;rw[wT]at this;cases this
   ·exact e
end Ps
namespace Ps
open Ar Fl
theorem acf:(tree [97,58,32,49,10,98,58,32,50] 20).1.length=9/\(tree [97,58,32,49,10,98,58,32,50] 20).2.2.length=0/\(tree [97,58,32,49,10,98,58,32,50] 20).2.1.length=9/\
 ((tree [97,58,32,49,10,98,58,32,50] 20).2.1[2]?.map λx=>(x.k,x.ks.length))=some (5,2):=gV
end Ps
end Go.Proofs.YtmkkdjpebbdikaaGreatDoor

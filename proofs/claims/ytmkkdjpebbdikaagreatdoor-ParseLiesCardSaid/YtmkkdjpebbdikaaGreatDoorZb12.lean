import Derived.Test.YtmkkdjpebbdikaaGreatDoorZb09
import Derived.Test.YtmkkdjpebbdikaaGreatDoorZb10
import Derived.Test.YtmkkdjpebbdikaaGreatDoorZb11
set_option linter.all false
set_option maxHeartbeats 16000000
set_option maxRecDepth 100000
namespace Go.Proofs.YtmkkdjpebbdikaaGreatDoor
open Go.RowKit Tryz
namespace Pr
open Ar Fl
open Rw (R E)
open Ps (lo)
structure Lv where
 kind:Nat
 node:Nat
 eT:Int
 cur:Nat
 full:Bool
structure QS where
 s:St
 row:Nat
 en:Nat
 st:List Lv
def iO:Nat->List Nd->Nat->Int->List Nd
 |0,l,_,_=>l
 |f+1,l,k,z=>if k=0 then l else match l[k]? with
  |none=>l
  |some x=>iO f (l.set k {x with t:=max x.t z}) x.u.toNat z
def reach(l:List Nd)(k:Nat)(z:Int):List Nd:=iO (k+1) l k z
def ql(t:List Nd)(up:Nat):List Nd:=match t[up]? with
 |none=>t
 |some p=>t.set up {p with ks:=p.ks++[(t.length:Int)]}
def hold(t:List Nd)(up:Nat)(z:Int):List Nd:=reach (ql t up) up z
def add(t:List Nd)(up:Nat)(k f z:Int):List Nd:=hold t up z++[(⟨k,f,z,up,[],false⟩:Nd)]
def rX(t:List Nd)(up:Nat):List Nd->List Nd
 |[]=>t
 |v::r=>hold t up v.t++shift up (t.length-1) (v::r)
def fault(l:List Tk)(s:St)(up code a b:Nat):St:=
 let x:=lo l a b
 if x<b then⟨add s.t up 11 x (back l b x),s.d++[⟨code,kW l x,too l (back l b x-1)⟩]⟩else s
def free(v:Lv):Nat:=if v.full=true then v.node else v.cur
def mV:List Lv->Nat
 |[]=>0
 |v::_=>free v
def fA(q:QS)(i:Nat):QS:=match q.st with
 |[]=>{q with s:=⟨add q.s.t 0 2 i ((i+1:Nat):Int),q.s.d⟩,st:=[⟨2,q.s.t.length,-1,q.s.t.length,false⟩]}
 |_::_=>q
def kQ(l:List Tk)(i:Nat):Nat:=Ps.limit l i
def uM(rs:List R)(i:Nat):Nat:=match rs[i]? with
 |some r=>r.bu
 |none=>0
def skip(rs:List R)(row next:Nat):Nat:=iy (λi=>decide (uM rs i<next)) (rs.length-row) row
def value(l:List Tk)(rs:List R)(depth:Nat)(q:QS)(at':Nat):QS:=match q.st with
 |[]=>q
 |h::r=>
  let v:=gP l q.en (depth-r.length) 0 at' ⟨fU l.length,[]⟩
  let row:=skip rs q.row v.2.1
  {s:=fault l ⟨if v.1=-1 then q.s.t else rX q.s.t h.cur (v.2.2.t.drop v.1.toNat),q.s.d++v.2.2.d⟩ h.cur 8 v.2.1 (uM rs row),row:=row,en:=q.en,st:={h with full:=if v.1=-1 then h.full else true}::r}
def kE(l:List Tk)(q:QS)(r:R):QS:=
 let a:=lo l r.from' r.bu
 if a<r.bu then{fA q a with s:=fault l (fA q a).s (mV (fA q a).st) 8 a r.bu}else q
def zA(t:List Nd)(z:Nat):List Lv->List Nd
 |[]=>t
 |[v]=>reach t v.node z
 |_::v::r=>zA t z (v::r)
def mark(l:List Tk)(rs:List R)(depth:Nat)(q:QS)(r:R):QS:=
 let b:=r.from'+1
 if raw l r.from'=20 then value l rs depth (fA {q with en:=kQ l b,st:=[]} r.from') b
 else{q with en:=kQ l b,st:=[],s:=fault l ⟨zA q.s.t b q.st,q.s.d⟩ 0 8 b r.bu}
def enter(l:List Tk)(s:St)(h:Lv)(e:E):St×Lv:=
 if e.dash=true then(⟨add s.t h.node 4 e.from' e.bu,s.d⟩,{h with full:=false,cur:=s.t.length})
 else if e.bu-e.from'<2 then(⟨add s.t h.node 6 e.from' e.bu,s.d⟩,{h with full:=false,cur:=s.t.length})
 else(⟨add (keyed (add s.t h.node 6 e.from' e.bu) s.t.length) s.t.length (if(List.range (e.bu-1-e.from')).any (λx=>raw l (e.from'+x)==13)=true then 8 else 7) e.from' (back l (e.bu-1) (e.from'+1)),s.d⟩,{h with full:=false,cur:=s.t.length})
def Yh:List Lv->Int
 |[]=>-1
 |o::_=>o.eT
def nS(depth n:Nat)(e:E):List Lv->Nat×List Lv
 |[]=>(0,[])
 |h::r=>
  if h.eT=e.eT/\h.kind=Ps.kindOf e then(0,h::r)
  else if e.eT<h.eT\/(h.eT=e.eT/\Yh r=e.eT)then nS depth n e r
  else if h.eT=e.eT/\(h.full=true\/h.kind=3)then(5,[])
  else if h.full=true/\h.kind=2 then(7,[])
  else if h.full=true then(6,[])
  else if depth<n then(10,[])
  else(1,[])
def again(l:List Tk)(q:QS)(e:E)(h:Lv)(r:List Lv):QS:={q with s:=(enter l q.s h e).1,st:=(enter l q.s h e).2::r}
def fresh(l:List Tk)(q:QS)(e:E)(h:Lv)(r:List Lv):QS:=
 let n:=enter l ⟨add q.s.t h.cur (Ps.kindOf e) e.from' e.bu,q.s.d⟩ ⟨Ps.kindOf e,q.s.t.length,e.eT,0,false⟩ e
 {q with s:=n.1,st:=n.2::{h with full:=true}::r}
def act(l:List Tk)(q:QS)(e:E):Nat×List Lv->Nat×QS
 |(0,h::r)=>(0,again l q e h r)
 |(1,_)=>(match q.st with
  |h::r=>(0,fresh l q e h r)
  |[]=>(0,q))
 |(code,_)=>(code,q)
def place(l:List Tk)(depth:Nat)(q:QS)(e:E):Nat×QS:=act l q e (nS depth q.st.length e q.st)
def places(l:List Tk)(depth jC:Nat):QS->List E->Bool×QS
 |q,[]=>(true,q)
 |q,e::es=>
  let k:=place l depth q e
  if k.1=0 then places l depth jC k.2 es
  else(false,{q with s:=fault l q.s (mV q.st) k.1 e.from' jC })
def takes(c:Int):List Lv->Bool
 |[]=>false
 |h::_=>!h.full&&decide (h.eT<c)
def body(l:List Tk)(rs:List R)(depth:Nat)(q:QS)(r:R):QS:=
 let q1:=fA q (lo l r.from' r.bu)
 let es:=Rw.iH l r
 let k:=places l depth r.bu q1 es.1
 if k.1=true then
  if es.1=[]/\takes r.eT k.2.st=false then{k.2 with s:=fault l k.2.s (mV k.2.st) 7 es.2 r.bu}
  else value l rs depth k.2 es.2
 else k.2
def step(l:List Tk)(rs:List R)(depth:Nat)(q:QS)(r:R):QS:=
 if r.kind=4 then mark l rs depth q r else if r.kind=5 then body l rs depth q r else kE l q r
def Pm(l:List Tk)(rs:List R)(depth:Nat):Nat->QS->QS
 |0,q=>q
 |f+1,q=>match rs[q.row]? with
  |none=>q
  |some r=>Pm l rs depth f {step l rs depth q r with row:=(step l rs depth q r).row+1}
def start(l:List Tk):QS:=⟨⟨fU l.length,[]⟩,0,kQ l 0,[]⟩
def read(l:List Tk)(depth:Nat):St:=(Pm l (Rw.eF l) depth (Rw.eF l).length (start l)).s
def tabs(l:List Tk)(r:R):List Dg:=
 if r.kind=5 then(List.range (lo l r.from' r.bu-r.from')).filterMap (λi=>if raw l (r.from'+i)=3 then some ⟨2,kW l (r.from'+i),too l (r.from'+i)⟩else none)
 else[]
def jA(b:List Nat)(l:List Tk):List Dg:=
 (Ps.lQ b.length 0 b).map (λp=>⟨1,p,p+1⟩)++(Rw.eF l).flatMap (tabs l)++l.flatMap (Ps.iF b)
end Pr
namespace Pr
open Ar Fl
open Rw (R E)
open Ps (lo)
structure Ups(l:List Nd)(z:Int):Prop where
 zero:∀x,l[0]?=some x->x.u=-1/\z<=x.t
 up:∀(i:Nat)(x:Nd),0<i->l[i]?=some x->0<=x.u/\x.u<i
theorem Ups.set{l:List Nd}{z:Int}(h:Ups l z)(k:Nat)(x y:Nd)(hx:l[k]?=some x)(hu:y.u=x.u)(ht:x.t<=y.t):Ups (l.set k y) z:=by
 have hk:=(eY.1 hx).1;refine⟨λa ha=>?_,λi a hi ha=>?_⟩
 ·rw[oI]at ha;split at ha
  ·rename_i e;subst e;injection ha with ha
   subst ha;have:=h.zero x hx;omega
  ·exact h.zero a ha
 ·rw[oI]at ha;split at ha
  ·rename_i e;subst e;injection ha with ha
   subst ha;have:=h.up k x hi hx;omega
  ·exact h.up i a hi ha
theorem abd{l:List Nd}{n z:Int}(h:Ck l n)(hz:z<=n):Ups l z:=by
 obtain⟨x,h1,h2,h3,_⟩:=h.zero;exact⟨λy hy=>by rw[h1]at hy;injection hy with hy;subst hy;omega,h.up⟩
theorem afw{l:List Nd}{z:Int}(h:Ups l z)(p:Nat)(x:Nd)(hx:l[p]?=some x)(ks:List Int):Ups (l.set p {x with ks:=ks}) z:=h.set p x {x with ks:=ks} hx rfl (jk _)
theorem acm{l:List Nd}{k:Nat}{x:Nd}(h:l[k]?=some x):l.set k x=l:=by
 refine r9 (λi=>?_);rw[oI];split
 ·rename_i e;subst e;rw[dX (eY.1 h).1,h]
 ·rfl
theorem MM:∀(k f g:Nat)(l:List Nd)(z:Int),Ups l z->k<l.length->k<f->k<g->jB f l k z=iO g l k z:=by
 intro k
 induction k using Nat.strongRecOn with
 |_ k ih=>
  intro f g l z h hk hf hg;obtain⟨f,rfl⟩:∃f',f=f'+1:=⟨f-1,dS⟩
  obtain⟨g,rfl⟩:∃g',g=g'+1:=⟨g-1,dS⟩
  obtain⟨x,hx⟩:∃x,l[k]?=some x:=⟨_,fu hk⟩
  rw[jB,iO,dW dS,jd,hx];dsimp only;rcases rP k with rfl|h0
  ·rw[dX rfl];obtain⟨h1,h2⟩:=h.zero x hx;have e:({x with t:=max x.t z}:Nd)=x:=by rw[Int.max_eq_left h2]
   rw[e,acm hx,h1];cases f with
   |zero=>rfl
   |succ f=>rw[jB,dX dU]
  ·rw[dW dS];obtain⟨h1,h2⟩:=h.up k x h0 hx;obtain⟨m,hm⟩:=ahG h1;have hU:=h.set k x {x with t:=max x.t z} hx rfl (OX _ _);have hl:(l.set k {x with t:=max x.t z}).length=l.length:=nQ ..;obtain⟨L,hL⟩:=eu (l.set k {x with t:=max x.t z});rw[hL]at hU hl⊢;rw[hm,jd];exact ih m dS f g L z hU dS dS dS
theorem zg:∀(f:Nat)(l:List Nd)(k:Nat)(z:Int),(iO f l k z).length=l.length
 |0,_,_,_=>rfl
 |f+1,l,k,z=>by
  rw[iO];split
  ·rfl
  ·split
   ·rfl
   ·rw[zg f,nQ]
theorem uD(l:List Nd)(k:Nat)(z:Int):(reach l k z).length=l.length:=zg _ _ _ _
theorem Ho(t:List Nd)(up:Nat):(ql t up).length=t.length:=by
 unfold ql;split
 ·rfl
 ·rw[nQ]
theorem pX(t:List Nd)(up:Nat)(z:Int):(hold t up z).length=t.length:=by unfold hold;rw[uD,Ho]
theorem jG(t:List Nd)(up:Nat)(k f z:Int):(add t up k f z).length=t.length+1:=by unfold add;rw[iK,pX];rfl
def Pn(l:List Nd):Prop:=∀(i:Nat)(x:Nd),0<i->l[i]?=some x->0<=x.u/\x.u<i
theorem Pn.set{l:List Nd}(h:Pn l)(k:Nat)(x y:Nd)(hx:l[k]?=some x)(hu:y.u=x.u):Pn (l.set k y):=λi a hi ha=>by
 rw[oI]at ha;split at ha
 ·split at ha
  ·rename_i e _;subst e;injection ha with ha
   subst ha;have:=h k x hi hx;omega
  ·cases ha
 ·exact h i a hi ha
theorem Oc:∀(k f g:Nat)(l:List Nd)(z:Int),Pn l->k<l.length->k<f->k<g->iO f l k z=iO g l k z:=by
 intro k
 induction k using Nat.strongRecOn with
 |_ k ih=>
  intro f g l z h hk hf hg;obtain⟨f,rfl⟩:∃f',f=f'+1:=⟨f-1,dS⟩
  obtain⟨g,rfl⟩:∃g',g=g'+1:=⟨g-1,dS⟩
  rw[iO,iO];by_cases h0:k=0
  ·rw[dX h0,dX h0]
  ·rw[dW h0,dW h0];cases hx:l[k]? with
   |none=>rfl
   |some x=>
    dsimp only;have:=h k x dS hx;have hU:=h.set k x {x with t:=max x.t z} hx rfl;have hl:(l.set k {x with t:=max x.t z}).length=l.length:=nQ ..;exact ih x.u.toNat dS f g _ z hU dS dS dS
theorem Sd:∀(k g:Nat)(l r:List Nd)(z:Int),Ups l z->k<l.length->iO g (l++r) k z=iO g l k z++r:=by
 intro k
 induction k using Nat.strongRecOn with
 |_ k ih=>
  intro g l r z h hk;cases g with
  |zero=>rfl
  |succ g=>
   obtain⟨x,hx⟩:∃x,l[k]?=some x:=⟨_,fu hk⟩
   rw[iO,iO,nK hk,hx];dsimp only;rcases rP k with rfl|h0
   ·rw[dX rfl,dX rfl]
   ·rw[dW dS,dW dS,aez _ _ hk];obtain⟨h1,h2⟩:=h.up k x h0 hx;obtain⟨m,hm⟩:=ahG h1;have hU:=h.set k x {x with t:=max x.t z} hx rfl (OX _ _);have hl:(l.set k {x with t:=max x.t z}).length=l.length:=nQ ..;obtain⟨L,hL⟩:=eu (l.set k {x with t:=max x.t z});rw[hL]at hU hl⊢;rw[hm,jd];exact ih m dS g L r z hU dS
theorem akN{l:List Nd}{up kind f t:Int}(h:il l up kind f t=true):t<=firstT l:=by
 unfold il at h;rw[rO]at h;have h1:=h.1;simp at h1;omega
theorem Rh{l:List Nd}{n:Int}(hck:Ck l n){up:Nat}{k f z:Int}(hm:il l up k f z=true):addN l up k f z=(add l up k f z,(l.length:Int)):=by
 obtain⟨h0,h1,p,hp⟩:=yY hm;have hz:=akN hm;rw[hck.firstT]at hz;unfold addN;rw[dX hm,hp];rw[jd]at hp⊢;have hl:up<l.length:=dS
 dsimp only;refine congrArg (λx=>(x,(l.length:Int))) ?_;have hU:=afw (abd hck hz) up p hp (p.ks++[(l.length:Int)]);unfold add hold reach ql;rw[hp];dsimp only;rw[aez _ _ hl,<-Sd _ _ _ _ _ hU (by rw[nQ];exact hl)];unfold gY;refine MM _ _ _ _ _ ?_ eQ eQ dS;refine⟨λx hx=>hU.zero x (by rw[nK AM]at hx;exact hx),λi x hi hx=>?_⟩;rcases mD i l.length with hil|hil
 ·exact hU.up i x hi (by rw[nK AM]at hx;exact hx)
 ·rw[oH AM,nQ]at hx;obtain⟨hi1,hx1⟩:=eY.1 hx;simp at hi1;obtain rfl:i=l.length:=by omega
  simp at hx1;subst hx1;dsimp only;omega
theorem ai4{l:List Nd}{up k f z:Int}(h:(addN l up k f z).2=(l.length:Int)):il l up k f z=true:=by
 by_cases hm:il l up k f z=true
 ·exact hm
 ·unfold addN at h;rw[dW hm]at h;dsimp only at h;omega
theorem afx{l:List Nd}{n:Int}(hck:Ck l n){i:Nat}{z:Int}(hi:i<l.length)(hz:z<=n):iB l i z=reach l i z:=by
 unfold iB zD;rw[hck.firstT,show decide ((i:Int)<0)=false from ic dS,show decide ((l.length:Int)<=(i:Int))=false from ic dS,show decide (n<z)=false from ic dS];rw[dX (by rfl)];unfold gY reach;exact MM _ _ _ _ _ (abd hck hz) hi dS dS
theorem uZ{l:List Tk}{p0:Nat}{n e b:Int}{up f t kind:Nat}{s0 s:St}(h:Fe.Ok l p0 n up s0 e b s)(he:e<=f)(hft:f<=t)(htn:(t:Int)<=n)(hk1:1<=kind)(hk2:kind<=11)(hk3:kind=11->f<t):
 Fl.add s up kind f t=(⟨add s.t up kind f t,s.d⟩,(s.t.length:Int))/\addN s.t up kind f t=(add s.t up kind f t,(s.t.length:Int)):=by
 obtain⟨r,h1,_⟩:=Fe.Bf h he hft htn hk1 hk2 hk3;have hm:=ai4 (l:=s.t) (up:=up) (k:=kind) (f:=f) (z:=t) (by rw[h1]);have e:=Rh h.ck hm;refine⟨?_,e⟩;unfold Fl.add;rw[e]
theorem Ug{l:List Tk}{p0:Nat}{n e b:Int}{up f t code:Nat}{s0 s:St}(h:Fe.Ok l p0 n up s0 e b s)(he:e<=f)(hft:f<t)(htn:(t:Int)<=n):
 err l s up f t code=⟨add s.t up 11 f t,s.d++[⟨code,kW l f,too l (t-1)⟩]⟩:=by
 have h2:=(uZ (kind:=11) h he dS htn dS dS (λ_=>hft)).2;have h2:addN s.t up 11 f t=(add s.t up 11 f t,(s.t.length:Int)):=h2;unfold err;rw[h2]
structure HS(up:Nat)(v:Int)(a b:List Nd):Prop where
 len:a.length=b.length
 eq:∀z,v<=z->hold a up z=hold b up z
theorem HS.refl(up:Nat)(v:Int)(a:List Nd):HS up v a a:=⟨rfl,λ_ _=>rfl⟩
theorem HS.put{up:Nat}{v:Int}{a b:List Nd}(h:HS up v a b){k f z:Int}(hz:v<=z):add a up k f z=add b up k f z:=by unfold add;rw[h.eq z hz]
theorem ai5{t:List Nd}(h0:0<t.length)(i:Nat):HS t.length ((i+1:Nat):Int) (t++[(⟨2,(i:Int),((i+1:Nat):Int),0,[],false⟩:Nd)]) (t++[(⟨2,(i:Int),(i:Int),0,[],false⟩:Nd)]):=by
 refine⟨eG,λz hz=>?_⟩;have key:∀j:Int,j<=z->hold (t++[(⟨2,(i:Int),j,0,[],false⟩:Nd)]) t.length z=t++[(⟨2,(i:Int),z,0,[((t.length+1:Nat):Int)],false⟩:Nd)]:=by
  intro j hj;have e1:(t++[(⟨2,(i:Int),j,0,[],false⟩:Nd)])[t.length]?=some ⟨2,(i:Int),j,0,[],false⟩:=by rw[oH (eO _),si];rfl
  unfold hold ql;rw[e1];dsimp only;rw[LH _ _ (eO _),si];unfold reach;rw[iO,dW dS];have e2:(t++[(⟨2,(i:Int),j,0,[],false⟩:Nd)].set 0 ({(⟨2,(i:Int),j,0,[],false⟩:Nd)with ks:=[]++[(((t++[(⟨2,(i:Int),j,0,[],false⟩:Nd)]).length:Nat):Int)]}))[t.length]?=some ⟨2,(i:Int),j,0,[((t.length+1:Nat):Int)],false⟩:=by
   rw[oH (eO _),si];simp
  rw[e2];dsimp only;rw[LH _ _ (eO _),si,Int.max_eq_right hj];obtain⟨g,hg⟩:∃g,t.length=g+1:=⟨t.length-1,dS⟩
  rw[hg];show iO (g+1) _ 0 z=_;rw[iO,dX rfl];rfl
 rw[key _ hz,key _ dS]
theorem VX(t:List Nd)(z z':Int):hold t 0 z=hold t 0 z':=by
 unfold hold reach;rw[iO,iO,dX rfl,dX rfl]
end Pr
namespace Ft
open Ar Fl
theorem wy(l:List Tk){e i:Nat}(h:i<e):raw (l.take e) i=raw l i:=by unfold raw;rw[tu h]
theorem ahb(l:List Tk){e i:Nat}(h:i<e):kW (l.take e) i=kW l i:=by unfold kW;rw[tu h]
theorem ahc(l:List Tk){e i:Nat}(h:i<e):too (l.take e) i=too l i:=by unfold too;rw[tu h]
theorem Gu(l:List Tk)(e i:Nat):kd (l.take e) e i=kd l e i:=by
 unfold kd;by_cases h:i<e
 ·rw[wy l h]
 ·rw[dX (.inl dS),dX (.inl dS)]
theorem GU(P Q:Nat->Bool)(e:Nat)(h:∀j,j<e->P j=Q j):∀(f i:Nat),i+f<=e\/f=0->iy P f i=iy Q f i
 |0,_=>λ_=>rfl
 |f+1,i=>λhf=>by
  rw[iy,iy,h i dS,GU P Q e h f (i+1) dS]
theorem MN(l:List Tk)(e i:Nat):blanks (l.take e) e i=blanks l e i:=GU _ _ e (λj hj=>by rw[wy l hj]) _ _ dS
theorem zZ(l:List Tk)(e i:Nat):fI (l.take e) e i=fI l e i:=GU _ _ e (λj hj=>by rw[wy l hj]) _ _ dS
theorem El(l:List Tk)(e:Nat):∀(i m:Nat),i<=e->back (l.take e) i m=back l i m
 |0,_=>λ_=>rfl
 |i+1,m=>λh=>by rw[back,back,wy l dS,El l e i m dS]
theorem abe(l:List Tk)(e:Nat):∀(f j n:Nat),su (l.take e) e f j n=su l e f j n
 |0,_,_=>rfl
 |f+1,j,n=>by rw[su,su,Gu,abe l e f]
theorem Se(l:List Tk){e i:Nat}(h:i<=e):balanced (l.take e) e i=balanced l e i:=by
 unfold balanced;rw[abe];cases su l e (e-i) i 0 with
 |some j=>rfl
 |none=>
  have hg:iy (λj=>kd (l.take e) e j !=0) (e-i) i=iy (λj=>kd l e j !=0) (e-i) i:=GU _ _ e (λj _=>by rw[Gu]) _ _ dS;have:=lq (λj=>kd l e j !=0) (e-i) i;dsimp only;rw[hg,El l e _ _ dS]
theorem ai6(l:List Tk)(e i:Nat):text (l.take e) e i=text l e i:=by
 unfold text;have hg:iy (λj=>!cnt (raw (l.take e) j)&&raw (l.take e) j !=1) (e-(i+1)) (i+1)=iy (λj=>!cnt (raw l j)&&raw l j !=1) (e-(i+1)) (i+1):=GU _ _ e (λj hj=>by rw[wy l hj]) _ _ dS;dsimp only;rw[hg];obtain⟨j,hj⟩:=eu (iy (λj=>!cnt (raw l j)&&raw l j !=1) (e-(i+1)) (i+1));rw[hj];by_cases h:e<=j+1
 ·rw[dX dS,dX dS]
 ·rw[wy l (show j<e by omega),wy l (show j+1<e by omega)];have:iy (λj=>raw (l.take e) j==19) (e-(j+1)) (j+1)=iy (λj=>raw l j==19) (e-(j+1)) (j+1):=GU _ _ e (λj hj=>by rw[wy l hj]) _ _ dS;rw[this]
theorem MO(l:List Tk)(e:Nat):∀(f j n:Nat),iT (l.take e) e f j n=iT l e f j n
 |0,_,_=>rfl
 |f+1,j,n=>by rw[iT,iT,Gu,MO l e f]
theorem afy(l:List Tk){e i:Nat}(h:i<=e):kE (l.take e) e i=kE l e i:=by
 unfold kE;rw[MO,El l e _ _ ((xU l e (e-i) i 0).2 h)]
theorem Uh(l:List Tk)(e:Nat):∀(f i:Nat),props (l.take e) e f i=props l e f i
 |0,_=>rfl
 |f+1,i=>by rw[props,props,Gu,zZ,Uh l e f]
theorem ahd(l:List Tk)(e i:Nat):key (l.take e) e i=key l e i:=by
 unfold key;dsimp only;rw[Uh,Gu,zZ,Gu]
theorem abf(l:List Tk)(e:Nat):∀(f:Nat)(o:Option (Nat×Nat))(i:Nat),lead (l.take e) e f o i=lead l e f o i
 |0,_,_=>rfl
 |f+1,o,i=>by rw[lead,lead,Gu,MN,abf l e f]
theorem Mg(l:List Tk){e:Nat}(s:St)(up:Int){f t:Nat}(code:Nat)(hf:f<t)(ht:t<=e):err (l.take e) s up f t code=err l s up f t code:=by
 unfold err;rw[ahb l dS,ahc l dS]
theorem ai7(l:List Tk){e:Nat}(s:St)(c:Int){j q:Nat}(hq:q<=e):pair (l.take e) s c j q=pair l s c j q:=by
 unfold pair;dsimp only;by_cases h:q-j<2
 ·rw[dX h,dX h]
 ·rw[dW h,dW h,El l e _ _ dS];have hany:(List.range (q-j)).any (λx=>raw (l.take e) (j+x)==13)=(List.range (q-j)).any (λx=>raw l (j+x)==13):=by
   rw[qb,U8,U8];constructor
   ·rintro⟨x,hx,hp⟩;have:=yH.1 hx;exact⟨x,hx,by rw[<-wy l (e:=e) dS];exact hp⟩
   ·rintro⟨x,hx,hp⟩;have:=yH.1 hx;exact⟨x,hx,by rw[wy l dS];exact hp⟩
  rw[hany]
def VT(e:Nat)(v' v:Int->Nat->St->Int×Nat×St):Prop:=∀up p s,p<=e->v' up p s=v up p s/\(v up p s).2.1<=e
theorem ahe(l:List Tk)(e:Nat)(aa eT:Option (Int->Nat->St->Nat×St))(h:(aa=none/\eT=none)\/∃k' k,aa=some k'/\eT=some k/\∀c op s,op<e->k' c op s=k c op s/\(k c op s).1<=e):
 VT e (oJ (l.take e) e aa) (oJ l e eT):=by
 intro up p s hp;have hb:=kN (l:=l) hp;unfold oJ;dsimp only;rw[MN];obtain⟨i0,hi0⟩:=eu (blanks l e p);rw[hi0]at hb⊢;rw[abf];have hl:=xI l e i0 (e-i0) none i0 (eO _) dS (λa z h=>jQ);obtain⟨o,ho⟩:=eu ((lead l e (e-i0) none i0).1);obtain⟨i,hi⟩:=eu ((lead l e (e-i0) none i0).2);rw[ho,hi]at hl⊢;obtain⟨l1,l2,l3,_⟩:=hl;rw[Gu];obtain⟨k,hk⟩:=eu (kd l e i);have kin:k≠0->i<e:=λh=>(ji (l:=l) (e:=e) (i:=i) dS).1
 obtain⟨fr,hfr⟩:=eu (j5 o i);have af:fr<=i:=by
  rw[<-hfr];cases o with
  |none=>exact eO _
  |some x=>obtain⟨a,z⟩:=x;have:=l3 a z rfl;show a<=i;omega
 rw[hk,hfr];by_cases c1:k=13
 ·rw[dX c1,dX c1];exact⟨rfl,by have:=kin dS;show i+1<=e;omega⟩
 rw[dW c1,dW c1];by_cases c2:gX k=true
 ·rw[dX c2,dX c2];exact⟨rfl,by have:=kin (λh=>by rw[h]at c2;exact absurd c2 dU);show i+1<=e;omega⟩
 rw[dW c2,dW c2];by_cases c3:k=18
 ·rw[dX c3,dX c3,ai6];exact⟨rfl,(CL (l:=l) (e:=e) (i:=i) dS).2.1⟩
 rw[dW c3,dW c3];by_cases c4:opens k=true
 ·rw[dX c4,dX c4];have hie:=kin (λh=>Qr);rcases h with⟨rfl,rfl⟩|⟨k',k2,rfl,rfl,ae⟩
  ·have hbl:=my (l:=l) (e:=e) (i:=i) (by rw[hk];exact c4);dsimp only;rw[Se l dS,Mg l s up 10 dS hbl.2.1];exact⟨rfl,hbl.2.1⟩
  ·dsimp only;obtain⟨g1,g2⟩:=ae (add s up (if k=9 then 10 else 9) fr (i+1)).2 i (add s up (if k=9 then 10 else 9) fr (i+1)).1 hie;rw[g1];exact⟨rfl,g2⟩
 rw[dW c4,dW c4];cases o with
 |none=>exact⟨rfl,hp⟩
 |some x=>obtain⟨a,z⟩:=x;have:=l3 a z rfl;exact⟨rfl,by show z+1<=e;omega⟩
theorem ai8(l:List Tk)(e:Nat)(v' v:Int->Nat->St->Int×Nat×St)(hv:VT e v' v)(aa:Bool)(c:Int){j:Nat}(s:St)(hj:j<=e):
 item (l.take e) e v' aa c j s=item l e v aa c j s/\(item l e v aa c j s).1<=e:=by
 unfold item;dsimp only;rw[ahd];by_cases h:0<key l e j
 ·obtain⟨_,k2,_⟩:=qW hj h;have ht:=iW (l:=l) (e:=e) (i:=key l e j) k2;rw[dX h,dX h,zZ,Gu,ai7 l s c k2];split
  ·exact⟨rfl,k2⟩
  ·obtain⟨g1,g2⟩:=hv (pair l s c j (key l e j)).2 (fI l e (key l e j)) (pair l s c j (key l e j)).1 ht.2;rw[g1];split
   ·exact⟨rfl,k2⟩
   ·exact⟨rfl,g2⟩
 ·rw[dW h,dW h];cases aa with
  |true=>
   rw[dX rfl,dX rfl];obtain⟨g1,g2⟩:=hv (add s c 6 j (j+1)).2 j ⟨keyed (add s c 6 j (j+1)).1.t (add s c 6 j (j+1)).2,(add s c 6 j (j+1)).1.d⟩ hj;rw[g1];exact⟨rfl,g2⟩
  |false=>
   rw[dW dU,dW dU];obtain⟨g1,g2⟩:=hv c j s hj;rw[g1];exact⟨rfl,g2⟩
theorem ahf(l:List Tk)(e:Nat)(v' v:Int->Nat->St->Int×Nat×St)(hv:VT e v' v)(c:Int){op:Nat}(hop:op<e):∀(g p:Nat)(hd:Bool)(s:St),p<=e->
 lN (l.take e) e v' c op g p hd s=lN l e v c op g p hd s/\(lN l e v c op g p hd s).1<=e
 |0,p,hd,s=>λhp=>⟨rfl,hp⟩
 |g+1,p,hd,s=>λhp=>by
  have ht:=iW (l:=l) (e:=e) (i:=p) hp;rw[lN,lN,zZ];obtain⟨j,hj⟩:=eu (fI l e p);rw[hj]at ht⊢;rw[Gu];obtain⟨k,hk⟩:=eu (kd l e j);rw[hk];by_cases k0:k=0
  ·rw[dX k0,dX k0,El l e p _ hp,ahb l hop,ahc l hop];exact⟨rfl,iU (gH l p (op+1)) hp⟩
  rw[dW k0,dW k0,wy l hop];have aa:=(ji (l:=l) (e:=e) (i:=j) dS).1;have on:∀(p':Nat)(h':Bool)(s1:St),p'<=e->lN (l.take e) e v' c op g p' h' s1=lN l e v c op g p' h' s1/\(lN l e v c op g p' h' s1).1<=e:=λp' h' s1 h1=>ahf l e v' v hv c hop g p' h' s1 h1
  by_cases k1:k=(if raw l op=9 then 11 else 10)
  ·rw[dX k1,dX k1];exact⟨rfl,by show j+1<=e;omega⟩
  rw[dW k1,dW k1];by_cases k2:ends k=true
  ·rw[dX k2,dX k2,Mg l s c 8 dS dS];exact on _ _ _ dS
  rw[dW k2,dW k2];by_cases k3:k=7
  ·rw[dX k3,dX k3,Mg l s c 8 dS dS];split
   ·exact on _ _ _ dS
   ·exact on _ _ _ dS
  rw[dW k3,dW k3];have hcj:cnt (raw l j)=true:=Eb
  by_cases k4:hd=true
  ·obtain⟨t1,t2,_⟩:=uh (l:=l) (e:=e) (j:=j) dS hcj dS DV;rw[dX k4,dX k4,afy l dS,Mg l s c 8 t1 t2];exact on _ _ _ t2
  rw[dW k4,dW k4,ahd];by_cases k5:0<key l e j\/begins k=true
  ·rw[dX k5,dX k5];obtain⟨g1,g2⟩:=ai8 l e v' v hv (raw l op==9) c s (show j<=e by omega);rw[g1];exact on _ _ _ g2
  ·rw[dW k5,dW k5,Mg l s c 8 dS dS];exact on _ _ _ dS
theorem abg(l:List Tk)(e:Nat):∀d:Nat,VT e (gP (l.take e) e d) (gP l e d)
 |0=>ahe l e none none (.inl ⟨rfl,rfl⟩)
 |d+1=>ahe l e _ _ (.inr ⟨_,_,rfl,rfl,λc op s h=>ahf l e _ _ (abg l e d) c h (e-op) (op+1) false s dS⟩)
theorem acn(l:List Tk)(e d p:Nat)(up:Int)(s:St)(hp:p<=e):gP (l.take e) e d up p s=gP l e d up p s:=(abg l e d up p s hp).1
end Ft
namespace Ft
open Ar Fl
def pre(d0:List Dg)(s:St):St:=⟨s.t,d0++s.d⟩
theorem Ui(d0:List Dg)(s:St)(up:Int)(k f t:Nat):add (pre d0 s) up k f t=(pre d0 (add s up k f t).1,(add s up k f t).2):=rfl
theorem zN(d0:List Dg)(l:List Tk)(s:St)(up:Int)(f t code:Nat):err l (pre d0 s) up f t code=pre d0 (err l s up f t code):=by
 unfold err pre;dsimp only;rw[pI]
theorem aco(d0:List Dg)(l:List Tk)(s:St)(c:Int)(j q:Nat):pair l (pre d0 s) c j q=(pre d0 (pair l s c j q).1,(pair l s c j q).2):=by
 unfold pair;dsimp only;split
 ·rfl
 ·rfl
def VP(v:Int->Nat->St->Int×Nat×St):Prop:=∀d0 up p s,v up p (pre d0 s)=((v up p s).1,(v up p s).2.1,pre d0 (v up p s).2.2)
theorem Uj(l:List Tk)(e:Nat)(eT:Option (Int->Nat->St->Nat×St))(h:∀k,eT=some k->∀d0 c op s,k c op (pre d0 s)=((k c op s).1,pre d0 (k c op s).2)):VP (oJ l e eT):=by
 intro d0 up p s;unfold oJ;dsimp only;obtain⟨o,ho⟩:=eu ((lead l e (e-blanks l e p) none (blanks l e p)).1);obtain⟨i,hi⟩:=eu ((lead l e (e-blanks l e p) none (blanks l e p)).2);rw[ho,hi];obtain⟨k,hk⟩:=eu (kd l e i);rw[hk];by_cases c1:k=13
 ·rw[dX c1,dX c1];rfl
 rw[dW c1,dW c1];by_cases c2:gX k=true
 ·rw[dX c2,dX c2];rfl
 rw[dW c2,dW c2];by_cases c3:k=18
 ·rw[dX c3,dX c3];rfl
 rw[dW c3,dW c3];by_cases c4:opens k=true
 ·rw[dX c4,dX c4];cases aa:eT with
  |none=>
   dsimp only;rw[zN];rfl
  |some q=>
   dsimp only;rw[Ui];dsimp only;rw[h q aa]
 rw[dW c4,dW c4];cases o with
 |none=>rfl
 |some x=>rfl
theorem acp(l:List Tk)(e:Nat)(v:Int->Nat->St->Int×Nat×St)(hv:VP v)(aa:Bool)(d0:List Dg)(c:Int)(j:Nat)(s:St):
 item l e v aa c j (pre d0 s)=((item l e v aa c j s).1,pre d0 (item l e v aa c j s).2):=by
 unfold item;dsimp only;by_cases h:0<key l e j
 ·rw[dX h,dX h,aco];dsimp only;by_cases h2:kd l e (fI l e (key l e j))=0\/kd l e (fI l e (key l e j))=7\/ends (kd l e (fI l e (key l e j)))=true
  ·rw[dX h2,dX h2]
  ·rw[dW h2,dW h2,hv];dsimp only;by_cases h3:(v (pair l s c j (key l e j)).2 (fI l e (key l e j)) (pair l s c j (key l e j)).1).1<0
   ·rw[dX h3,dX h3]
   ·rw[dW h3,dW h3]
 ·rw[dW h,dW h];cases aa with
  |true=>
   rw[dX rfl,dX rfl,Ui];dsimp only;have:(⟨keyed (pre d0 (add s c 6 j (j+1)).1).t (add s c 6 j (j+1)).2,(pre d0 (add s c 6 j (j+1)).1).d⟩:St)=pre d0 ⟨keyed (add s c 6 j (j+1)).1.t (add s c 6 j (j+1)).2,(add s c 6 j (j+1)).1.d⟩:=rfl;rw[this,hv]
  |false=>
   rw[dW dU,dW dU,hv]
theorem ve(l:List Tk)(e:Nat)(v:Int->Nat->St->Int×Nat×St)(hv:VP v)(d0:List Dg)(c:Int)(op:Nat):∀(g p:Nat)(hd:Bool)(s:St),
 lN l e v c op g p hd (pre d0 s)=((lN l e v c op g p hd s).1,pre d0 (lN l e v c op g p hd s).2)
 |0,p,hd,s=>rfl
 |g+1,p,hd,s=>by
  rw[lN,lN];obtain⟨j,hj⟩:=eu (fI l e p);rw[hj];obtain⟨k,hk⟩:=eu (kd l e j);rw[hk];by_cases k0:k=0
  ·rw[dX k0,dX k0];unfold pre;dsimp only;rw[pI]
  rw[dW k0,dW k0];by_cases k1:k=(if raw l op=9 then 11 else 10)
  ·rw[dX k1,dX k1];rfl
  rw[dW k1,dW k1];by_cases k2:ends k=true
  ·rw[dX k2,dX k2,zN];exact ve l e v hv d0 c op g _ _ _
  rw[dW k2,dW k2];by_cases k3:k=7
  ·rw[dX k3,dX k3];by_cases k4:hd=true
   ·rw[dX k4,dX k4];exact ve l e v hv d0 c op g _ _ ⟨iB s.t c ((j+1:Nat):Int),s.d⟩
   ·rw[dW k4,dW k4,zN];exact ve l e v hv d0 c op g _ _ _
  rw[dW k3,dW k3];by_cases k4:hd=true
  ·rw[dX k4,dX k4,zN];exact ve l e v hv d0 c op g _ _ _
  rw[dW k4,dW k4];by_cases k5:0<key l e j\/begins k=true
  ·rw[dX k5,dX k5,acp l e v hv];exact ve l e v hv d0 c op g _ _ _
  ·rw[dW k5,dW k5,zN];exact ve l e v hv d0 c op g _ _ _
theorem MP(l:List Tk)(e:Nat):∀d:Nat,VP (gP l e d)
 |0=>Uj l e none (λk h=>fV)
 |d+1=>Uj l e _ (λk h d0 c op s=>by
  injection h with h
  subst h
  exact ve l e _ (MP l e d) d0 c op (e-op) (op+1) false s)
theorem MQ(l:List Tk)(e d p:Nat)(up:Int)(s:St):gP l e d up p s=((gP l e d up p ⟨s.t,[]⟩).1,(gP l e d up p ⟨s.t,[]⟩).2.1,⟨(gP l e d up p ⟨s.t,[]⟩).2.2.t,s.d++(gP l e d up p ⟨s.t,[]⟩).2.2.d⟩):=by
 have:=MP l e d s.d up p ⟨s.t,[]⟩;unfold pre at this;rw[nJ]at this;exact this
end Ft
namespace Pr
open Ar Fl
open Rw (R E)
open Ps (lo)
theorem Bi(P:Nat->Bool):∀(f i k:Nat),i<=k->k<=i+f->(∀j,i<=j->j<k->P j=true)->(k=i+f\/P k=false)->iy P f i=k
 |0,i,k=>λh1 h2 _ _=>by rw[iy];omega
 |f+1,i,k=>λh1 h2 h3 h4=>by
  rw[iy];by_cases e:i=k
  ·subst e;rcases h4 with h4|h4
   ·omega
   ·rw[dW (by rw[h4];simp)]
  ·rw[dX (h3 i (eO _) dS)];exact Bi P f (i+1) k dS dS (λj a b=>h3 j dS b) (h4.elim (λh=>.inl dS) .inr)
theorem abh(P:Nat->Bool){n a b:Nat}(h:a<=b)(hb:b<=n)(hP:∀j,a<=j->j<b->P j=true):iy P (n-a) a=iy P (n-b) b:=by
 have h1:=kH P (n-b) b;have h2:=lq P (n-b) b;refine Bi P _ _ _ dS dS (λj g1 g2=>?_) ?_
 ·by_cases e:j<b
  ·exact hP j g1 e
  ·exact kP P (n-b) b j dS g2
 ·rcases ma P (n-b) b with h3|h3
  ·exact .inl dS
  ·exact .inr h3
theorem uE(n:Nat)(i:Nat)(hn:n<=32768):Ck (fU (n:Int)) n/\Fits (fU (n:Int)) i ((i+1:Nat):Int) 0:=
 ⟨aaU _ dS dS,(My (n:Int) 0 dS dS dS).le dS dS⟩
theorem VY(t:List Nd)(up:Nat)(k f z:Int):(add t up k f z).take t.length=hold t up z:=by
 unfold add;rw[XR Jj,zw Jj]
theorem Od(up:Int)(B:Nat)(q:List Nd)(hB:1<=B):shift up (B-1) (shift 0 1 q)=shift up B q:=by
 refine r9 (λi=>?_);cases hx:q[i]? with
 |none=>
  have h:=AA.1 hx;rw[sZ (by rw[jL,jL];exact h),sZ (by rw[jL];exact h)]
 |some x=>
  rw[mf _ _ _ _ _ hx,mf _ _ _ _ _ (mf _ _ _ _ _ hx)];by_cases e:i=0
  ·simp only[e,if_true,XO];congr 2;refine aet (λz _=>?_);show z+((1:Nat):Int)+((B-1:Nat):Int)=_;omega
  ·simp only[dW e,XO];congr 2
   ·omega
   ·refine aet (λz _=>?_);show z+((1:Nat):Int)+((B-1:Nat):Int)=_;omega
theorem afz{l:List Tk}{e:Nat}{n:Int}{T0:List Nd}{up0:Nat}(hn:(e:Int)<=n)(d p:Nat)(b:Int)(hck:Ck T0 n)(hf:Fits T0 p b up0)(hb:b<=p+1)(hpe:p<=e){next:Nat}{ps':fF}(h:iw l e d (-1) p ⟨[],[]⟩=(next,ps'))(hlt:p<next):∃v,ps'.q[0]?=some v/\v.t=(next:Int):=by
 have hS:=KF (l:=l) (B:=T0.length) (up0:=up0) (T0:=T0) hn d (-1) p p ⟨T0,[]⟩ ⟨[],[]⟩ b hck (by rw[qD _ _ dS];exact hf) hb hpe (Hf T0 up0 p hf.lt) dS (λ_=>rfl) rfl;rw[qD _ _ dS]at hS;rcases hS with⟨h1,h2,_⟩|⟨next',s',aa,h1,h2,h3,h4,h5,h6,h7,h8,⟨x,h9,h10,_⟩,_⟩
 ·rw[h]at h2;have:=congrArg Prod.fst h2;dsimp only at this;omega
 ·rw[h]at h2;obtain⟨rfl,rfl⟩:=LK h2;exact⟨x,h9,h10⟩
theorem acr{l:List Tk}{n:Nat}{e dd i up:Nat}{s:St}(hck:Ck s.t n)(hf:Fits s.t i ((i+1:Nat):Int) up)(hi:i<=e)(he:e<=n)(hn:n<=32768):
 (gP l e dd up i s=(-1,i,s)/\gP l e dd 0 i ⟨fU n,[]⟩=(-1,i,⟨fU n,[]⟩))\/
 ∃(next:Nat)(s':St)(v:Nd)(q:List Nd)(V:St),gP l e dd up i s=((s.t.length:Int),next,s')/\gP l e dd 0 i ⟨fU n,[]⟩=(1,next,V)/\i<next/\next<=e/\V.t.drop 1=v::q/\s'.t=rX s.t up (v::q)/\s'.d=s.d++V.d/\
  (∀ae t2,HS ae ((i+1:Nat):Int) t2 s.t->ae=up->rX t2 up (v::q)=rX s.t up (v::q)):=by
 obtain⟨aa,hf0⟩:=uE n i hn;have h1:=uj (l:=l) (n:=(n:Int)) dS dd i _ hck hf dS hi;have h0:=uj (l:=l) (n:=(n:Int)) dS dd i _ aa hf0 dS hi;have ht:=Ft.MQ l e dd i up s;rcases h1 with⟨a1,a2⟩|⟨next,s',ps',a1,a2,a3,a4,a5,a6,a7,a8,a9,av,ax,v,a12,ag⟩
 ·rcases h0 with⟨b1,b2⟩|⟨next,ay,aj,b1,b2,b3,_⟩
  ·left;rw[ht,a1];exact⟨eG,b1⟩
  ·rw[a2]at b2;have:=congrArg Prod.fst b2;dsimp only at this;omega
 ·rcases h0 with⟨b1,b2⟩|⟨ah,af,ak,b1,b2,b3,b4,b5,b6,b7,b8,b9,b10,b11,v0,b12,b13⟩
  ·rw[a2]at b2;have:=congrArg Prod.fst b2;dsimp only at this;omega
  ·rw[a2]at b2;obtain⟨rfl,rfl⟩:=LK b2;right;rw[ht,a1];have b1:gP l e dd 0 i ⟨fU n,[]⟩=(1,next,af):=by rw[show(0:Int)=((0:Nat):Int)from rfl,b1];rfl
   cases hq:ps'.q with
   |nil=>rw[hq]at a7;simp at a7
   |cons v q=>
    rw[hq]at a8 b8 a12 b12;obtain rfl:v=_:=iG a12;obtain rfl:v0=v:=(iG b12).symm;have p1:qZ s.t up (v0::q)=((addN s.t up v0.k v0.f v0.t).1.take s.t.length++shift up s.t.length (v0::q),(s.t.length:Int)):=by unfold qZ;exact dX ag
    have p0:qZ (fU n) (0:Nat) (v0::q)=((addN (fU n) (0:Nat) v0.k v0.f v0.t).1.take (fU (n:Int)).length++shift (0:Nat) (fU (n:Int)).length (v0::q),((fU (n:Int)).length:Int)):=by unfold qZ;exact dX b13
    rw[p1]at a8;rw[p0]at b8;have a8:=(LK a8).1;have b8:=(LK b8).1;rw[Rh hck ag]at a8;rw[Rh aa b13]at b8;dsimp only at a8 b8;rw[VY]at a8 b8;have hl1:(fU (n:Int)).length=1:=rfl;have hdrop:af.t.drop 1=shift 0 1 (v0::q):=by
     rw[<-b8,Vb Jj,OY Jj];rfl
    have hsh:shift 0 1 (v0::q)={v0 with u:=0,ks:=v0.ks.map (·+((1:Nat):Int))}::(shift 0 1 (v0::q)).drop 1:=by
     have h0:=mf 0 1 (v0::q) 0 v0 rfl;cases hs:shift 0 1 (v0::q)with
     |nil=>rw[hs]at h0;cases h0
     |cons x y=>rw[hs]at h0;rw[iG h0];rfl
    have hpos:=hf.lt;have hg:∀t2:List Nd,t2.length=s.t.length->rX t2 up ({v0 with u:=0,ks:=v0.ks.map (·+((1:Nat):Int))}::(shift 0 1 (v0::q)).drop 1)=hold t2 up v0.t++shift up s.t.length (v0::q):=by
     intro t2 h2;show hold t2 up v0.t++shift up (t2.length-1) ({v0 with u:=0,ks:=v0.ks.map (·+((1:Nat):Int))}::(shift 0 1 (v0::q)).drop 1)=_;rw[<-hsh,h2,Od _ _ _ dS]
    have ai:((i+1:Nat):Int)<=v0.t:=by
     obtain⟨v1,h1,h2⟩:=afz (l:=l) (n:=(n:Int)) dS dd i _ aa hf0 dS hi a2 a3;rw[hq]at h1;obtain rfl:v0=v1:=iG h1;omega
    refine⟨next,_,_,_,af,rfl,b1,a3,a4,by rw[hdrop,hsh],?_,?_,?_⟩
    ·dsimp only;rw[hg _ rfl];exact a8.symm
    ·dsimp only;rw[a6,b6]
    ·intro ae t2 hs he;subst he;rw[hg _ hs.len,hg _ rfl,hs.eq _ ai]
end Pr
namespace Ps
open Ar Fl
open Rw (R E)
theorem Kl{l:List Tk}{B:Bs}{up f t kind:Nat}{e b:Int}{s:St}(h:Fe.Ok l B.1 l.length up B.2 e b s)(he:e<=f)(hft:f<=t)(ht:t<=l.length)(hk1:1<=kind)(hk2:kind<=10):
 ∃s',add s up kind f t=(s',(s.t.length:Int))/\Fe.Ok l B.1 l.length s.t.length B.2 f (max b t) s'/\Up s'.t s.t.length up/\oM s.t s'.t:=by
 obtain⟨s',a1,_,a3,⟨x,a4,a5⟩,a6⟩:=Fe.kJ (kind:=kind) h he hft dS hk1 hk2;obtain⟨s2,b1,_,b3,_⟩:=Fe.kJ (kind:=kind) (Fe.Ok.start (l:=l) (p0:=B.1) h.ck h.fits h.lf h.no) he hft dS hk1 hk2;have e2:s2=s':=by rw[a1]at b1;exact(congrArg Prod.fst b1).symm
 subst e2;exact⟨s2,a1,a3,⟨a6,x,a4,a5⟩,b3.keep⟩
theorem abj{l:List Tk}{B:Bs}{nd:Nat}{en:E}{s:St}{b:Int}(h:Fe.Ok l B.1 l.length nd B.2 en.from' b s)(hB:B.1<=en.from')(hb:b<=en.bu)(hlt:en.from'<en.bu)(hle:en.bu<=l.length):
 ∃c:Nat,(cur l s nd en).2=(c:Int)/\OK l B c en.bu (cur l s nd en).1/\Up (cur l s nd en).1.t c nd/\oM s.t (cur l s nd en).1.t:=by
 unfold cur;split
 ·obtain⟨s',a1,a2,a3,a4⟩:=Kl (kind:=4) (f:=en.from') (t:=en.bu) h (jk _) dS hle dS dS;have a1:add s nd 4 en.from' en.bu=(s',(s.t.length:Int)):=a1;rw[a1];exact⟨_,rfl,a2.le dS dS,a3,a4⟩
 ·obtain⟨s',a1,a2,⟨x,a3,a4⟩,a5⟩:=Fe.KH l l.length l.length (jk _) (c:=nd) (j:=en.from') (q:=en.bu) (s:=s) (b:=b) h.ck h.fits h.lf h.no hb hlt hle;rw[a1];exact⟨_,rfl,h.trans (a2.low hB),⟨a5,x,a3,a4⟩,a2.keep⟩
def Em(l:List Tk)(B:Bs)(p:PS)(en:E)(q:PS):Prop:=Ay l B en.bu q/\q.read=p.read/\∃t k,q.st=t::k/\t.has=false
theorem MR{l:List Tk}{B:Bs}{e d:Nat}{p:PS}{o:Op}{r:List Op}{en:E}(hd:p.doc=(d:Int))(hc:jT p.s.t d (o::r))(h:vR l B o.node e p.s)(hB:B.1<=en.from')(he:e<=en.from')(hlt:en.from'<en.bu)(hle:en.bu<=l.length):
 (again l p o r en).1=0/\Em l B p en (again l p o r en).2:=by
 obtain⟨⟨nd,c,q,h1,h2,h3,h4,h5⟩,h6⟩:=hc;obtain⟨m,e1,e2⟩:=h;obtain rfl:m=nd:=dS
 unfold again;rw[h1];obtain⟨c',k1,k2,k3,k4⟩:=abj (en:=en) (e2.le (e':=en.from') (b':=en.from') dS dS) hB dS hlt hle;refine⟨rfl,⟨d,hd,⟨⟨m,c',q,rfl,k1,k3,h4,h5.keep k4⟩,h6.keep k4⟩,?_⟩,rfl,_,_,rfl,rfl⟩;exact zM ⟨⟨m,c',q,rfl,k1,k3,h4,h5.keep k4⟩,h6.keep k4⟩ ⟨c',k1,k2⟩
theorem acs{l:List Tk}{B:Bs}{e d depth:Nat}{p:PS}{up:Int}{root:Bool}{st:List Op}{en:E}(hd:p.doc=(d:Int))(hc:jT p.s.t d st)(hup:outer d st=up)(h:vR l B up e p.s)(hB:B.1<=en.from')(he:e<=en.from')(hlt:en.from'<en.bu)(hle:en.bu<=l.length):
 ((fresh l depth p up root st en).1=0/\Em l B p en (fresh l depth p up root st en).2)\/(fresh l depth p up root st en).1=10:=by
 obtain⟨m,e1,e2⟩:=h;unfold fresh;split
 ·exact .inr rfl
 ·refine .inl ?_;rw[e1];have hk:1<=kindOf en/\kindOf en<=10:=by unfold kindOf;split<;>omega
  obtain⟨s',a1,a2,a3,a4⟩:=Kl (kind:=kindOf en) (f:=en.from') (t:=en.bu) e2 dS dS hle hk.1 hk.2;rw[a1];dsimp only;obtain⟨c',k1,k2,k3,k4⟩:=abj (en:=en) a2 hB dS hlt hle;have hch:jT (cur l s' (p.s.t.length:Int) en).1.t d (⟨(p.s.t.length:Int),kindOf en,en.eT,(cur l s' (p.s.t.length:Int) en).2,false⟩::st):=
   ⟨⟨p.s.t.length,c',m,rfl,k1,k3,by rw[hup,e1],a3.keep k4⟩,(hc.keep a4).keep k4⟩
  exact⟨rfl,⟨d,hd,hch,zM hch ⟨c',k1,k2⟩⟩,rfl,_,_,rfl,rfl⟩
theorem rz{l:List Tk}{B:Bs}{e depth:Nat}{p:PS}{en:E}(h:Ay l B e p)(hB:B.1<=en.from')(he:e<=en.from')(hlt:en.from'<en.bu)(hle:en.bu<=l.length):
 ((place l depth p en).1=0/\Em l B p en (place l depth p en).2)\/((place l depth p en).1≠0/\(place l depth p en).2=p/\5<=(place l depth p en).1/\(place l depth p en).1<=10/\(place l depth p en).1≠9):=by
 obtain⟨d,hd,hc,hh⟩:=h;obtain⟨hc',hh'⟩:=kM.drop (λo=>decide (en.eT<o.eT)) hc hh;have hf:∀(up:Int)(root:Bool)(st:List Op),jT p.s.t d st->outer d st=up->vR l B up e p.s->
  ((fresh l depth p up root st en).1=0/\Em l B p en (fresh l depth p up root st en).2)\/((fresh l depth p up root st en).1≠0/\(fresh l depth p up root st en).2=p/\5<=(fresh l depth p up root st en).1/\(fresh l depth p up root st en).1<=10/\(fresh l depth p up root st en).1≠9):=by
  intro up root st g1 g2 g3;rcases acs (depth:=depth) (root:=root) hd g1 g2 g3 hB he hlt hle with g|g
  ·exact .inl g
  ·refine .inr ⟨dS,?_,dS,dS,dS⟩;unfold fresh at g⊢;split
   ·rfl
   ·rename_i hdp;rw[dW hdp]at g;cases g
 have bad:∀code:Nat,5<=code->code<=10->code≠9->((code,p).1=0/\Em l B p en (code,p).2)\/((code,p).1≠0/\(code,p).2=p/\5<=(code,p).1/\(code,p).1<=10/\(code,p).1≠9):=
  λcode g1 g2 g3=>.inr ⟨by show code≠0;omega,rfl,g1,g2,g3⟩
 have hr:(place l depth p en)=(match p.st.dropWhile (λo=>decide (en.eT<o.eT))with
  |[]=>if p.root=true then(7,p)else fresh l depth p p.doc true [] en
  |o::r=>
   if o.eT=en.eT then
    if o.kind=kindOf en then again l p o r en
    else if kindOf en=3 then(if o.has=true then(5,p)else fresh l depth p o.cur p.root ({o with has:=true}::r) en)
    else match r with
     |o2::r2=>if o2.eT=en.eT/\o2.kind=5 then again l p o2 r2 en else(5,p)
     |[]=>(5,p)
   else if o.has=true then(6,p)else fresh l depth p o.cur p.root ({o with has:=true}::r) en):=rfl
 rw[hr];cases hdw:p.st.dropWhile (λo=>decide (en.eT<o.eT))with
 |nil=>
  rw[hdw]at hc' hh';dsimp only;split
  ·exact bad 7 dS dS dS
  ·exact hf p.doc true [] hc' hd.symm (by rw[hd];exact hh')
 |cons o r=>
  rw[hdw]at hc' hh';dsimp only;split
  ·split
   ·exact .inl (MR hd hc' hh'.1 hB he hlt hle)
   ·split
    ·split
     ·exact bad 5 dS dS dS
     ·rename_i ho;exact hf o.cur p.root _ hc' rfl (hh'.2 DY)
    ·cases r with
     |nil=>exact bad 5 dS dS dS
     |cons o2 r2=>
      dsimp only;split
      ·have:=zY hc'.2 (kM.outer hc' hh');exact .inl (MR hd hc'.2 this.1 hB he hlt hle)
      ·exact bad 5 dS dS dS
  ·split
   ·exact bad 6 dS dS dS
   ·rename_i ho;exact hf o.cur p.root _ hc' rfl (hh'.2 DY)
theorem x9{l:List Tk}{B:Bs}{depth b:Nat}(hb:b<=l.length):∀(es:List E)(e:Nat)(p:PS)(up:Int),Ay l B e p->B.1<=e->up=holder p->mU l b e es->e<=b->
 ∃e',e<=e'/\e'<=b/\Ay l B e' (places l depth b p up es).2/\(places l depth b p up es).2.read=p.read/\
  ((places l depth b p up es).1=true->(es=[]->e'=e)/\(∀x,es.getLast?=some x->e'=x.bu)/\(es≠[]->∃t k,(places l depth b p up es).2.st=t::k/\t.has=false))
 |[],e,p,up=>λh _ _ _ he=>⟨e,eO _,he,h,rfl,λ_=>⟨λ_=>rfl,λx hx=>qU,λh=>absurd rfl h⟩⟩
 |en::es,e,p,up=>λh hB hup hes aa=>by
  obtain⟨h1,h2,h3,h4⟩:=hes;rw[places];rcases rz (depth:=depth) h dS h1 h2 dS with⟨g1,g2,g3,t,k,g4,g5⟩|⟨g1,g2,g3,g4,g5⟩
  ·rw[dX g1];obtain⟨q,hq⟩:=eu ((place l depth p en).2);rw[hq]at g2 g3 g4⊢;obtain⟨e',k1,k2,k3,k4,k5⟩:=x9 hb es en.bu q (Kk q.st) g2 dS (by rw[qM,g4];show t.cur=if t.has=true then t.node else t.cur;rw[dW (by rw[g5];simp)]) h4 h3;refine⟨e',dS,k2,k3,by rw[k4,g3],λhall=>?_⟩;obtain⟨m0,m1,m2⟩:=k5 hall;refine⟨λh=>fV,λx hx=>?_,λ_=>?_⟩
   ·cases es with
    |nil=>
     obtain rfl:en=x:=jJ
     exact m0 rfl
    |cons y ys=>exact m1 x (by rw[aeq]at hx;exact hx)
   ·by_cases hes:es=[]
    ·subst hes;refine⟨t,k,?_,g5⟩;rw[places];exact g4
    ·exact m2 hes
  ·rw[dW g1];dsimp only;have:=KI (a:=en.from') (b:=b) (code:=(place l depth p en).1) h dS h1 dS hb g5 g3 g4;rw[hup];exact⟨b,aa,eO _,this,rfl,λh=>fV⟩
end Ps
end Go.Proofs.YtmkkdjpebbdikaaGreatDoor

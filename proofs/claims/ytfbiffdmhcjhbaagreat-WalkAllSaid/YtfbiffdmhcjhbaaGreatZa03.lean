import Derived.Test.YtfbiffdmhcjhbaaGreatZa01
import Derived.Test.YtfbiffdmhcjhbaaGreatChecked
set_option linter.all false
set_option maxHeartbeats 16000000
set_option maxRecDepth 100000
set_option synthInstance.maxSize 4000
set_option synthInstance.maxHeartbeats 0
namespace Go.Proofs.YtfbiffdmhcjhbaaGreat
open Go.RowKit Tryz
namespace Ar
structure Nd where
 k:Int
 f:Int
 t:Int
 u:Int
 ks:List Int
 y:Bool
def mU(n:Int):List Nd:=[⟨1,0,if n<0\/32768<n then 0 else n,-1,[],false⟩]
def jK:Nat->List Nd->Int->Int->List Nd
 |0,l,_,_=>l
 |f+1,l,k,aa=>if k<0 then l else match l[k.toNat]? with
  |none=>l
  |some x=>jK f (l.set k.toNat {x with t:=max x.t aa }) x.u aa
def gP(l:List Nd)(k aa:Int):List Nd:=jK (l.length+1) l k aa
def firstT(l:List Nd):Int:=match l with
 |[]=>0
 |x::_=>x.t
def Qb(l:List Nd)(i:Int):Int:=match l[i.toNat]? with
 |some x=>x.t
 |none=>0
def iL(l:List Nd)(up kind f t:Int):Bool:=
 !(decide (up<0)||decide ((l.length:Int)<=up)||decide (kind<1)||decide (11<kind)||decide (t<f)||decide (firstT l<t))&&
 match l[up.toNat]? with
 |none=>false
 |some p=>!(decide (f<p.f))&&match p.ks.getLast? with
  |none=>true
  |some z=>!(decide (f<Qb l z))
def addN(l:List Nd)(up kind f t:Int):List Nd×Int:=
 if iL l up kind f t=true then
  match l[up.toNat]? with
  |none=>(l,-1)
  |some p=>(gP ((l++[(⟨kind,f,t,up,[],false⟩:Nd)]).set up.toNat {p with ks:=p.ks++[(l.length:Int)]}) up t,l.length)
 else(l,-1)
def ku(l:List Nd)(i t:Int):Bool:=!(decide (i<0)||decide ((l.length:Int)<=i)||decide (firstT l<t))
def gJ(l:List Nd)(i t:Int):List Nd:=if ku l i t=true then gP l i t else l
structure bu(l:List Nd):Prop where
 pos:0<l.length
 up:∀(i:Nat)(x:Nd),l[i]?=some x->-1<=x.u/\x.u<i
 kid:∀(i:Nat)(x:Nd),l[i]?=some x->∀z∈x.ks,0<=z/\z<l.length
 ext:∀(i:Nat)(x:Nd),l[i]?=some x->∀z∈x.ks,∀y,l[z.toNat]?=some y->x.f<=y.t
theorem qF{l:List Nd}(h:bu l)(i:Nat)(x:Nd)(hx:l[i]?=some x)(t:Int)(ht:x.t<=t):bu (l.set i {x with t:=t}):=by
 have hi:=(fT.1 hx).1;have key:∀(j:Nat)(y:Nd),(l.set i {x with t:=t})[j]?=some y->∃y',l[j]?=some y'/\y.f=y'.f/\y.ks=y'.ks/\y'.t<=y.t:=by
  intro j y hy;rw[Ct]at hy;split at hy
  ·rename_i e;subst e;injection hy with hy;subst hy
   exact⟨x,hx,rfl,rfl,ht⟩
  exact⟨y,hy,rfl,rfl,ji _⟩
 refine⟨by rw[qU];exact h.pos,λj y hy=>?_,λj y hy=>?_,λj y hy z hz y2 hy2=>by
  obtain⟨y',h1,h2,h3,_⟩:=key j y hy;obtain⟨aa,h4,_,_,h5⟩:=key _ y2 hy2;rw[h3]at hz;have:=h.ext j y' h1 z hz aa h4
  rw[h2];omega⟩
 ·rw[Ct]at hy;split at hy
  ·rename_i e;subst e;injection hy with hy;subst hy
   exact h.up i x hx
  exact h.up j y hy
 rw[qU];rw[Ct]at hy;split at hy
 ·rename_i e;subst e;injection hy with hy;subst hy
  exact h.kid i x hx
 exact h.kid j y hy
theorem xm:∀(f:Nat)(l:List Nd)(k t:Int),bu l->bu (jK f l k t)/\(jK f l k t).length=l.length
 |0,l,k,t=>λh=>⟨h,rfl⟩
 |f+1,l,k,t=>λh=>by
  rw[jK];by_cases hk:k<0
  ·rw[eT hk];exact⟨h,rfl⟩
  rw[eQ hk];cases hx:l[k.toNat]? with
  |none=>exact⟨h,rfl⟩
  |some x=>
   have ih:=xm f _ x.u t (qF h k.toNat x hx (max x.t t) (Ht _ _));exact⟨ih.1,by rw[ih.2,qU]⟩
theorem xn:∀(f g:Nat)(l:List Nd)(k t:Int),bu l->k<f->k<g->jK f l k t=jK g l k t
 |0,g,l,k,t=>λh h1 h2=>by
  rw[jK];cases g with
  |zero=>rfl
  |succ g=>rw[jK,eT (by omega)]
 |f+1,0,l,k,t=>λh h1 h2=>by
  rw[jK,jK,eT (by omega)]
 |f+1,g+1,l,k,t=>λh h1 h2=>by
  rw[jK,jK];by_cases hk:k<0
  ·rw[eT hk,eT hk]
  rw[eQ hk,eQ hk];cases hx:l[k.toNat]? with
  |none=>rfl
  |some x=>
   have hu:=(h.up _ x hx).2;exact xn f g _ x.u t (qF h k.toNat x hx _ (Ht _ _)) (by omega) (by omega)
theorem xw(l:List Nd)(k t:Int)(x:Nd)(h:bu l)(hk:0<=k)(hx:l[k.toNat]?=some x):gP l k t=gP (l.set k.toNat {x with t:=max x.t t}) x.u t:=by
 have hi:=(fT.1 hx).1;unfold gP;rw[jK,eQ (by omega),hx];dsimp only;have hu:=(h.up _ x hx).2;exact xn _ _ _ _ _ (qF h k.toNat x hx _ (Ht _ _)) (by omega) (by rw[qU];omega)
theorem xA(l:List Nd)(k t:Int)(hk:k<0):gP l k t=l:=by
 unfold gP;rw[jK,eT hk]
theorem pZ{l:List Nd}(k t:Int)(h:bu l):(gP l k t).length=l.length:=(xm _ l k t h).2
theorem II{l:List Nd}{up kind f t:Int}(h:iL l up kind f t=true):0<=up/\up<l.length/\∃p,l[up.toNat]?=some p:=by
 unfold iL at h;cases hp:l[up.toNat]? with
 |none=>rw[hp]at h;simp at h
 |some p=>
  rw[hp]at h;simp at h;exact⟨by omega,by omega,p,rfl⟩
theorem IJ{l:List Nd}{up kind f t:Int}{p:Nd}(h:iL l up kind f t=true)(hp:l[up.toNat]?=some p):p.f<=t/\f<=t:=by
 unfold iL at h;rw[hp]at h;simp at h;omega
theorem wH{l:List Nd}(h:bu l)(up kind f t:Int)(p:Nd)(h0:0<=up)(hp:l[up.toNat]?=some p)(hf:p.f<=t):
 bu ((l++[(⟨kind,f,t,up,[],false⟩:Nd)]).set up.toNat {p with ks:=p.ks++[(l.length:Int)]}):=by
 have hi:=(fT.1 hp).1;have hlen:((l++[(⟨kind,f,t,up,[],false⟩:Nd)]).set up.toNat {p with ks:=p.ks++[(l.length:Int)]}).length=l.length+1:=by simp
 have key:∀j y,((l++[(⟨kind,f,t,up,[],false⟩:Nd)]).set up.toNat {p with ks:=p.ks++[(l.length:Int)]})[j]?=some y->(j=up.toNat/\y={p with ks:=p.ks++[(l.length:Int)]})\/(j≠up.toNat/\l[j]?=some y)\/(j=l.length/\y=⟨kind,f,t,up,[],false⟩):=by
  intro j y hy;rw[Ct]at hy;split at hy
  ·rename_i e;subst e;try rw[eT (by simp;omega)]at hy
   injection hy with hy
   exact .inl ⟨rfl,hy.symm⟩
  rename_i e;rcases FE j l.length with hj|hj|hj
  ·rw[qx hj]at hy;exact .inr (.inl ⟨λh=>e h.symm,hy⟩)
  ·subst hj;rw[uU (fC _)]at hy;simp at hy;exact .inr (.inr ⟨rfl,hy.symm⟩)
  rw[uV (by simp;omega)]at hy;cases hy
 refine⟨by omega,λj y hy=>?_,λj y hy z hz=>?_,λj y hy z hz y2 hy2=>by
  have old:∀(q:Nd)(j:Nat),l[j]?=some q->z∈q.ks->q.f<=y2.t:=λq j hq aa=>by
   have hb:=h.kid j q hq z aa;rcases key _ y2 hy2 with⟨e,rfl⟩|⟨_,h4⟩|⟨e,_⟩
   ·exact h.ext j q hq z aa p (by rw[e];exact hp)
   ·exact h.ext j q hq z aa y2 h4
   omega
  rcases key j y hy with⟨rfl,rfl⟩|⟨_,hy⟩|⟨rfl,rfl⟩
  ·rcases kS.1 hz with hz|hz
   ·exact old p _ hp hz
   obtain rfl:z=(l.length:Int):=by simpa using hz
   rcases key _ y2 hy2 with⟨e,rfl⟩|⟨_,h4⟩|⟨e,rfl⟩
   ·have:up.toNat=l.length:=by omega
    omega
   ·have:=(fT.1 h4).1;omega
   exact hf
  ·exact old y j hy hz
  simp at hz⟩
 ·rcases key j y hy with⟨rfl,rfl⟩|⟨_,hy⟩|⟨rfl,rfl⟩
  ·exact h.up _ p hp
  ·exact h.up j y hy
  exact⟨by show -1<=up;omega,by show up<_;omega⟩
 rw[hlen];rcases key j y hy with⟨rfl,rfl⟩|⟨_,hy⟩|⟨rfl,rfl⟩
 ·rcases kS.1 hz with hz|hz
  ·have:=h.kid _ p hp z hz;omega
  simp at hz;omega
 ·have:=h.kid j y hy z hz;omega
 simp at hz
theorem Jo{l:List Nd}(h:bu l)(i t:Int):(gJ l i t).length=l.length:=by
 unfold gJ;split
 ·exact pZ _ _ h
 rfl
end Ar
namespace Ar
def D4(l:List Nd)(a b:Int):Prop:=a<b/\∀x y,l[a.toNat]?=some x->l[b.toNat]?=some y->x.t<=y.f
structure FM(Q:Nat->Int->Prop)(l:List Nd)(n:Int):Prop where
 first:∃x r,l=x::r/\x.k=1/\x.f=0/\x.t=n/\x.u=-1/\0<=n
 up:∀(i:Nat)(x:Nd),0<i->l[i]?=some x->0<=x.u/\x.u<i
 kid:∀(i:Nat)(x:Nd),l[i]?=some x->∀z∈x.ks,∃(j:Nat)(y:Nd),z=(j:Int)/\0<j/\l[j]?=some y/\y.u=(i:Int)/\x.f<=y.f/\y.f<=y.t/\(y.t<=x.t\/Q i y.t)
 ord:∀(i:Nat)(x:Nd),l[i]?=some x->x.ks.Pairwise (D4 l)
 seen:∀i:Nat,0<i->i<l.length->(l.flatMap (·.ks)).countP (λz=>z==(i:Int))=1
abbrev Ck(l:List Nd)(n:Int):Prop:=FM (λ_ _=>False) l n
theorem FM.pos{Q:Nat->Int->Prop}{l:List Nd}{n:Int}(h:FM Q l n):0<l.length:=by
 obtain⟨x,r,rfl,_⟩:=h.first;simp
theorem FM.zero{Q:Nat->Int->Prop}{l:List Nd}{n:Int}(h:FM Q l n):∃x,l[0]?=some x/\x.t=n/\x.u=-1/\x.f=0:=by
 obtain⟨x,r,rfl,_,h1,h2,h3,_⟩:=h.first;exact⟨x,rfl,h2,h3,h1⟩
theorem FM.firstT{Q:Nat->Int->Prop}{l:List Nd}{n:Int}(h:FM Q l n):firstT l=n:=by
 obtain⟨x,r,rfl,_,_,h2,_⟩:=h.first;exact h2
theorem FM.good{Q:Nat->Int->Prop}{l:List Nd}{n:Int}(h:FM Q l n):bu l:=by
 refine⟨h.pos,λi x hx=>?_,λi x hx z hz=>?_,λi x hx z hz y hy=>?_⟩
 ·rcases FD i with rfl|hi
  ·obtain⟨x',h1,_,h3,_⟩:=h.zero;rw[h1]at hx;injection hx with hx;subst hx;omega
  have:=h.up i x hi hx;omega
 ·obtain⟨j,y,rfl,h0,hy,_⟩:=h.kid i x hx z hz;have:=(fT.1 hy).1;omega
 obtain⟨j,y',rfl,h0,hy',h1,h2,h3,_⟩:=h.kid i x hx z hz;rw[iE,hy']at hy;injection hy with hy;subst hy;omega
theorem O6(n:Int)(h0:0<=n)(h1:n<=32768):Ck (mU n) n:=by
 have hn:mU n=[⟨1,0,n,-1,[],false⟩]:=by unfold mU;rw[eQ (by omega)]
 rw[hn];have hx:∀(i:Nat)(x:Nd),[(⟨1,0,n,-1,[],false⟩:Nd)][i]?=some x->i=0/\x=⟨1,0,n,-1,[],false⟩:=by
  intro i x h;cases i with
  |zero=>exact⟨rfl,by simpa using h.symm⟩
  |succ i=>simp at h
 refine⟨⟨_,_,rfl,rfl,rfl,rfl,rfl,h0⟩,λi x hi h=>?_,λi x h z hz=>?_,λi x h=>?_,λi hi h=>?_⟩
 ·obtain⟨rfl,_⟩:=hx i x h;omega
 ·obtain⟨rfl,rfl⟩:=hx i x h;simp at hz
 ·obtain⟨rfl,rfl⟩:=hx i x h;exact .nil
 simp at h;omega
inductive On(l:List Nd):Nat->Nat->Prop
 |self (c:Nat):On l c c
 |out (c p i:Nat) (x:Nd):l[c]?=some x->x.u=(p:Int)->0<c->On l p i->On l c i
theorem On.mono{l l':List Nd}{c i:Nat}(h:∀(d:Nat)(x:Nd),l[d]?=some x->∃x',l'[d]?=some x'/\x'.u=x.u)(ho:On l c i):On l' c i:=by
 induction ho with
 |self=>exact .self _
 |out d q i x hd hq h00 ho ih=>
  obtain⟨x',h1,h2⟩:=h d x hd;exact .out d q i x' h1 (by rw[h2];exact hq) h00 ih
theorem On.low{l:List Nd}{c i:Nat}(ho:On l c i)(hg:bu l):i<=c:=by
 induction ho with
 |self=>exact fC _
 |out d q i x hd hq h00 ho ih=>have:=hg.up d x hd;omega
inductive Sp(l:List Nd)(e:Int):Nat->Prop
 |root:Sp l e 0
 |up (c p:Nat) (x y:Nd):0<c->l[c]?=some x->l[p]?=some y->x.u=(p:Int)->y.ks.getLast?=some (c:Int)->x.t<=e->Sp l e p->Sp l e c
theorem Sp.le{l:List Nd}{e e':Int}{c:Nat}(h:Sp l e c)(he:e<=e'):Sp l e' c:=by
 induction h with
 |root=>exact .root
 |up c p x y h0 hx hy hu hl ht _ ih=>exact .up c p x y h0 hx hy hu hl (by omega) ih
theorem qG:∀(c:Nat)(l:List Nd)(t:Int),bu l->c<l.length->∀(i:Nat)(x:Nd),l[i]?=some x->
 ∃x',(gP l c t)[i]?=some x'/\((On l c i/\x'={x with t:=max x.t t})\/(¬On l c i/\x'=x)):=by
 intro c
 induction c using Nat.strongRecOn with
 |ind c ih=>
  intro l t hg hc i x hx;obtain⟨z,hz⟩:=iT l c hc;have hu:=hg.up c z hz;rw[xw l c t z hg (by omega) (by rw[iE];exact hz),iE];have hg':=qF hg c z hz (max z.t t) (Ht _ _);have hset:∀(j:Nat),(l.set c {z with t:=max z.t t})[j]?=if c=j then some {z with t:=max z.t t}else l[j]?:=by
   intro j;by_cases e:c=j
   ·subst e;rw[xW hc,eT rfl]
   rw[uW e,eQ e]
  by_cases h0:z.u<0
  ·
   rw[xA _ _ _ h0];by_cases e:c=i
   ·subst e;rw[hz]at hx;injection hx with hx;subst hx
    exact⟨_,by rw[hset,eT rfl],.inl ⟨.self _,rfl⟩⟩
   refine⟨x,by rw[hset,eQ e];exact hx,.inr ⟨λh=>?_,rfl⟩⟩;cases h with
   |self=>exact e rfl
   |out _ p _ x1 hc' hp h00 ho=>
    rw[hz]at hc';injection hc' with hc';subst hc';omega
  
  obtain⟨p,hp⟩:∃p:Nat,z.u=(p:Int):=⟨z.u.toNat,by omega⟩
  have hpc:p<c:=by omega
  have aa:∀L:List Nd,gP L z.u t=gP L (p:Int) t:=λL=>by rw[hp]
  rw[aa];have hon:∀j,On (l.set c {z with t:=max z.t t}) p j↔On l p j:=by
   intro j;constructor
   ·refine On.mono (λd y hd=>?_);rw[hset]at hd;split at hd
    ·rename_i e;subst e;injection hd with hd;subst hd
     exact⟨z,hz,rfl⟩
    exact⟨y,hd,rfl⟩
   refine On.mono (λd y hd=>?_);by_cases e:c=d
   ·subst e;rw[hz]at hd;injection hd with hd;subst hd
    exact⟨{z with t:=max z.t t},by rw[hset,eT rfl],rfl⟩
   exact⟨y,by rw[hset,eQ e];exact hd,rfl⟩
  have hlow:∀d j,On l d j->d<c->j≠c:=λd j h hd=>by have:=h.low hg;omega
  by_cases e:c=i
  ·subst e;rw[hz]at hx;injection hx with hx;subst hx
   obtain⟨x',h1,h2⟩:=ih p hpc _ t hg' (by rw[qU];omega) c _ (by rw[hset,eT rfl]);rcases h2 with⟨h2,_⟩|⟨_,h2⟩
   ·exact absurd rfl (hlow p c ((hon c).1 h2) hpc)
   exact⟨x',h1,.inl ⟨.self _,h2⟩⟩
  obtain⟨x',h1,h2⟩:=ih p hpc _ t hg' (by rw[qU];omega) i x (by rw[hset,eQ e];exact hx);refine⟨x',h1,?_⟩;have h00:0<c:=by omega
  rcases h2 with⟨h2,h3⟩|⟨h2,h3⟩
  ·exact .inl ⟨.out c p i z hz hp h00 ((hon i).1 h2),h3⟩
  refine .inr ⟨λh=>h2 ((hon i).2 ?_),h3⟩;cases h with
  |self=>exact absurd rfl e
  |out _ p' _ x1 hc' hp' ae ho=>
   rw[hz]at hc';injection hc' with hc';subst hc'
   obtain rfl:p'=p:=by omega
   exact ho
end Ar
namespace Ar
def LW(x x':Nd):Prop:=x'.k=x.k/\x'.f=x.f/\x'.u=x.u/\x'.ks=x.ks/\x'.y=x.y
theorem On.next{l:List Nd}{c i j:Nat}{y:Nd}(h:On l c j)(hy:l[j]?=some y)(hu:y.u=(i:Int))(h0:0<j):On l c i:=by
 induction h with
 |self c=>exact .out c i i y hy hu h0 (.self i)
 |out d q j x hd hq h00 ho ih=>exact .out d q i x hd hq h00 (ih hy h0)
theorem Sp.on{l:List Nd}{e:Int}{c i:Nat}(ho:On l c i):Sp l e c->Sp l e i:=by
 induction ho with
 |self c=>exact id
 |out d q i x hd hq h00 ho ih=>
  intro hs;cases hs with
  |root=>omega
  |up _ p x1 y h0 hx hy hu hl ht hsp=>
   rw[hd]at hx;injection hx with hx;subst hx
   obtain rfl:p=q:=by omega
   exact ih hsp
theorem uz{l:List Nd}:∀(ks:List Int)(z:Int),ks.Pairwise (D4 l)->ks.getLast?=some z->∀b∈ks,b<=z
 |[],z=>λ_ h=>by simp at h
 |[a],z=>λ_ h b hb=>by
  simp at h hb;omega
 |a::a'::r,z=>λho h b hb=>by
  rw[vQ]at ho;have hz:(a'::r).getLast?=some z:=by rw[Oq]at h;exact h
  have ih:=uz (a'::r) z ho.2 hz;rcases qV.1 hb with rfl|hb
  ·have h1:=(ho.1 a' (by simp)).1;have h2:=ih a' (by simp);omega
  exact ih b hb
theorem AO{n b t:Int}{c:Nat}{l:List Nd}(h:FM (λi y=>On l c i/\y<=t) l n)(hs:Sp l b c)(hc:c<l.length)(htn:t<=n):
 Ck (gP l c t) n/\(∀d,Sp l b d->Sp (gP l c t) (max b t) d)/\(gP l c t).length=l.length/\
 (∀(i:Nat)(x:Nd),l[i]?=some x->∃x',(gP l c t)[i]?=some x'/\LW x x'/\((On l c i/\x'.t=max x.t t)\/(¬On l c i/\x'.t=x.t))):=by
 have hg:=h.good;have hlen:=pZ (l:=l) c t hg;have H:=qG c l t hg hc;obtain⟨r,hr⟩:=eX (gP l c t);rw[hr]at hlen H⊢;have G:∀(i:Nat)(x:Nd),l[i]?=some x->∃x',r[i]?=some x'/\LW x x'/\((On l c i/\x'.t=max x.t t)\/(¬On l c i/\x'.t=x.t)):=by
  intro i x hx;obtain⟨x',h1,h2⟩:=H i x hx;rcases h2 with⟨h2,rfl⟩|⟨h2,rfl⟩
  ·exact⟨_,h1,⟨rfl,rfl,rfl,rfl,rfl⟩,.inl ⟨h2,rfl⟩⟩
  exact⟨_,h1,⟨rfl,rfl,rfl,rfl,rfl⟩,.inr ⟨h2,rfl⟩⟩
 have B:∀(i:Nat)(x':Nd),r[i]?=some x'->∃x,l[i]?=some x/\LW x x'/\((On l c i/\x'.t=max x.t t)\/(¬On l c i/\x'.t=x.t)):=by
  intro i x' hx';have hi:=(fT.1 hx').1;obtain⟨x,hx⟩:=iT l i (by omega);obtain⟨y,h1,h2⟩:=G i x hx;rw[hx']at h1;injection h1 with h1;subst h1
  exact⟨x,hx,h2⟩
 refine⟨⟨?_,?_,?_,?_,?_⟩,?_,hlen,G⟩
 ·obtain⟨x,q,rfl,h1,h2,h3,h4,h5⟩:=h.first;obtain⟨x',g1,⟨e1,e2,e3,e4,e5⟩,g2⟩:=G 0 x rfl;cases r with
  |nil=>simp at g1
  |cons y q' =>
   simp at g1;subst g1;refine⟨_,_,rfl,by omega,by omega,?_,by omega,h5⟩;rcases g2 with⟨_,g2⟩|⟨_,g2⟩<;>omega
 ·intro i x' hi hx';obtain⟨x,hx,⟨e1,e2,e3,e4,e5⟩,_⟩:=B i x' hx';rw[e3];exact h.up i x hi hx
 ·intro i x' hx' z hz;obtain⟨x,hx,⟨e1,e2,e3,e4,e5⟩,g2⟩:=B i x' hx';rw[e4]at hz;obtain⟨j,y,rfl,h0,hy,k1,k2,k3,k4⟩:=h.kid i x hx z hz;obtain⟨y',hy',⟨d1,d2,d3,d4,d5⟩,g3⟩:=G j y hy;refine⟨j,y',rfl,h0,hy',by omega,by omega,by rcases g3 with⟨_,g3⟩|⟨_,g3⟩<;>omega,.inl ?_⟩;rcases g3 with⟨o,g3⟩|⟨_,g3⟩
  ·rcases g2 with⟨_,g2⟩|⟨no,_⟩
   ·rcases k4 with k4|⟨_,k4⟩<;>omega
   exact absurd (o.next hy k1 h0) no
  rcases g2 with⟨_,g2⟩|⟨no,g2⟩
  ·rcases k4 with k4|⟨_,k4⟩<;>omega
  rcases k4 with k4|⟨k4,_⟩
  ·omega
  exact absurd k4 no
 ·intro i x' hx';obtain⟨x,hx,⟨e1,e2,e3,e4,e5⟩,g2⟩:=B i x' hx';rw[e4];have ho:=h.ord i x hx;refine ho.imp_of_mem (fun{a b} ha hb hab=>⟨hab.1,λxa yb hxa hyb=>?_⟩);obtain⟨ja,ya,rfl,a0,hya,a1,a2,a3,a4⟩:=h.kid i x hx a ha;rw[iE]at hxa;obtain⟨aa,q1,⟨_,_,_,_,_⟩,q2⟩:=B ja xa hxa;obtain⟨ae,p1,⟨_,p2,_,_,_⟩,_⟩:=B b.toNat yb hyb;have hle:=hab.2 aa ae (by rw[iE];exact q1) p1;rcases q2 with⟨o,q2⟩|⟨_,q2⟩
  ·exfalso;have hsa:=Sp.on o hs;cases hsa with
   |root=>omega
   |up _ p x1 y h0 hx1 hy1 hu hl ht hsp=>
    rw[hya]at hx1;injection hx1 with hx1;subst hx1
    obtain rfl:p=i:=by omega
    rw[hx]at hy1;injection hy1 with hy1;subst hy1
    have:=uz x.ks _ ho hl b hb;have:=hab.1;omega
  omega
 ·intro i hi hil;have hm:r.map (·.ks)=l.map (·.ks):=by
   refine xV (λi=>?_);rw[nO,nO];cases hx:l[i]? with
   |none=>
    have:r[i]?=none:=by rw[Aq]at hx⊢;omega
    rw[this]
   |some x=>
    obtain⟨x',g1,⟨_,_,_,e4,_⟩,_⟩:=G i x hx;rw[g1];simp[e4]
  rw[LG,hm,<-LG];exact h.seen i hi (by omega)
 intro d hd
 induction hd with
 |root=>exact .root
 |up d p x y h0 hx hy hu hl ht hsp ih=>
  obtain⟨x',g1,⟨_,_,e3,_,_⟩,g2⟩:=G d x hx;obtain⟨y',k1,⟨_,_,_,d4,_⟩,_⟩:=G p y hy;exact .up d p x' y' h0 g1 k1 (by rw[e3];exact hu) (by rw[d4];exact hl) (by rcases g2 with⟨_,g2⟩|⟨_,g2⟩<;>omega) ih
structure Fits(l:List Nd)(e b:Int)(c:Nat):Prop where
 lt:c<l.length
 sp:Sp l b c
 here:∀x,l[c]?=some x->x.f<=e/\∀z∈x.ks,∀y,l[z.toNat]?=some y->y.t<=e
theorem Fits.le{l:List Nd}{e e' b b':Int}{c:Nat}(h:Fits l e b c)(he:e<=e')(hb:b<=b'):Fits l e' b' c:=
 ⟨h.lt,h.sp.le hb,λx hx=>⟨by have:=(h.here x hx).1;omega,λz hz y hy=>by have:=(h.here x hx).2 z hz y hy;omega⟩⟩
theorem Ck.toQ{l:List Nd}{n:Int}(h:Ck l n)(Q:Nat->Int->Prop):FM Q l n:=
 ⟨h.first,h.up,λi x hx z hz=>by obtain⟨j,y,h1,h2,h3,h4,h5,h6,h7⟩:=h.kid i x hx z hz;exact⟨j,y,h1,h2,h3,h4,h5,h6,.inl (h7.elim id False.elim)⟩,h.ord,h.seen⟩
theorem Ee{l:List Nd}{n e b t:Int}{c:Nat}(h:Ck l n)(hf:Fits l e b c)(he:e<=t)(hb:b<=t)(htn:t<=n):
 Ck (gJ l c t) n/\Fits (gJ l c t) t t c/\(gJ l c t).length=l.length/\(∀(i:Nat)(x:Nd),l[i]?=some x->∃x',(gJ l c t)[i]?=some x'/\LW x x'):=by
 have hg:gJ l c t=gP l c t:=by
  unfold gJ ku;have hl:=hf.lt;rw[h.firstT,show decide ((c:Int)<0)=false from iF (by omega),show decide ((l.length:Int)<=(c:Int))=false from iF (by omega),show decide (n<t)=false from iF (by omega)];rfl
 rw[hg];obtain⟨h1,h2,h3,h4⟩:=AO (h.toQ _) (hf.sp.le hb) hf.lt htn;have aa:=(h2 c (hf.sp.le hb)).le (e':=t) (by omega);refine⟨h1,⟨by rw[h3];exact hf.lt,aa,λx' hx'=>?_⟩,h3,λi x hx=>by obtain⟨x',a,b,_⟩:=h4 i x hx;exact⟨x',a,b⟩⟩;obtain⟨x,hx⟩:=iT l c hf.lt;obtain⟨x2,a,⟨_,b2,_,b4,_⟩,b⟩:=h4 c x hx;rw[hx']at a;injection a with a;subst a
 refine⟨by have:=(hf.here x hx).1;omega,λz hz y' hy'=>?_⟩;rw[b4]at hz;obtain⟨j,y,rfl,j0,hy,_⟩:=h.kid c x hx z hz;rw[iE]at hy';obtain⟨y2,c1,_,c3⟩:=h4 j y hy;rw[hy']at c1;injection c1 with c1;subst c1
 have:=(hf.here x hx).2 _ hz y (by rw[iE];exact hy);rcases c3 with⟨_,c3⟩|⟨_,c3⟩<;>omega
end Ar
namespace Ar
theorem yE(P:Int->Bool)(z:Int):∀(l:List Nd)(i:Nat)(x:Nd),l[i]?=some x->
 ((l.set i {x with ks:=x.ks++[z]}).flatMap (·.ks)).countP P=(l.flatMap (·.ks)).countP P+(if P z then 1 else 0)
 |[],i,x=>λh=>by simp at h
 |a::r,0,x=>λh=>by
  have h:a=x:=by simpa using h
  subst h;simp only[fH,nN,xR,Ao,Ap];split<;>omega
 |a::r,i+1,x=>λh=>by
  have ih:=yE P z r i x (by simpa using h);simp only[fG,nN,xR]at ih⊢;omega
theorem vE{l:List Nd}{n e b f t kind:Int}{up:Nat}{p:Nd}(h:Ck l n)(hf:Fits l e b up)(hp:l[up]?=some p)(he:e<=f)(hft:f<=t)(htn:t<=n)(hk1:1<=kind)(hk2:kind<=11):iL l up kind f t=true:=by
 have hl:=hf.lt;unfold iL
 rw[h.firstT,iE,hp,show decide ((up:Int)<0)=false from iF (by omega),show decide ((l.length:Int)<=(up:Int))=false from iF (by omega),
  show decide (kind<1)=false from iF (by omega),show decide (11<kind)=false from iF (by omega),show decide (t<f)=false from iF (by omega),show decide (n<t)=false from iF (by omega)]
 dsimp only;rw[show decide (f<p.f)=false from iF (by have:=(hf.here p hp).1;omega)];cases hz:p.ks.getLast? with
 |none=>rfl
 |some z=>
  have hm:z∈p.ks:=Oz hz;obtain⟨j,y,rfl,j0,hy,_⟩:=h.kid up p hp z hm;have h1:=(hf.here p hp).2 _ hm y (by rw[iE];exact hy);have h2:Qb l (j:Int)=y.t:=by unfold Qb;rw[iE,hy]
  dsimp only;rw[h2,show decide (f<y.t)=false from iF (by omega)];rfl
theorem IK{l:List Nd}{n e b f t kind:Int}{up:Nat}(h:Ck l n)(hf:Fits l e b up)(he:e<=f)(hft:f<=t)(htn:t<=n)(hk1:1<=kind)(hk2:kind<=11):
 ∃r,addN l up kind f t=(r,(l.length:Int))/\Ck r n/\Fits r t (max b t) up/\Fits r f (max b t) l.length/\r[l.length]?=some ⟨kind,f,t,up,[],false⟩/\r.length=l.length+1/\
  (∀(i:Nat)(x:Nd),l[i]?=some x->∃x',r[i]?=some x'/\x'.k=x.k/\x'.f=x.f/\x'.u=x.u/\x'.y=x.y/\(i≠up->x'.ks=x.ks)):=by
 obtain⟨p,hp⟩:=iT l up hf.lt;have hl:=hf.lt;have ah:=(hf.here p hp).1;have af:=vE h hf hp he hft htn hk1 hk2;obtain⟨m,hm⟩:=eX ((l++[(⟨kind,f,t,up,[],false⟩:Nd)]).set up {p with ks:=p.ks++[(l.length:Int)]});have hadd:addN l up kind f t=(gP m up t,(l.length:Int)):=by
  unfold addN;rw[eT af,iE,hp];dsimp only;rw[hm]
 have ai:m.length=l.length+1:=by rw[<-hm];simp
 have mu:m[up]?=some {p with ks:=p.ks++[(l.length:Int)]}:=by rw[<-hm];exact xW (by simp;omega)
 have mo:∀i x,i≠up->l[i]?=some x->m[i]?=some x:=by
  intro i x hi hx;have:=(fT.1 hx).1;rw[<-hm,uW (λe=>hi e.symm),qx this];exact hx
 have mn:m[l.length]?=some ⟨kind,f,t,up,[],false⟩:=by
  rw[<-hm,uW (by omega),uU (fC _)];simp
 have mg:∀i x,l[i]?=some x->∃x',m[i]?=some x'/\x'.k=x.k/\x'.f=x.f/\x'.t=x.t/\x'.u=x.u/\x'.y=x.y/\(i≠up->x'.ks=x.ks):=by
  intro i x hx;by_cases e:i=up
  ·subst e;rw[hp]at hx;injection hx with hx;subst hx
   exact⟨_,mu,rfl,rfl,rfl,rfl,rfl,λh=>absurd rfl h⟩
  exact⟨x,mo i x e hx,rfl,rfl,rfl,rfl,rfl,λ_=>rfl⟩
 have mb:∀i x',m[i]?=some x'->(i=l.length/\x'=⟨kind,f,t,up,[],false⟩)\/(i<l.length/\∃x,l[i]?=some x/\x'.k=x.k/\x'.f=x.f/\x'.t=x.t/\x'.u=x.u/\(i=up->x=p/\x'.ks=p.ks++[(l.length:Int)])/\(i≠up->x'.ks=x.ks)):=by
  intro i x' hx';have hi:=(fT.1 hx').1;by_cases e:i=l.length
  ·subst e;rw[mn]at hx';injection hx' with hx'
   exact .inl ⟨rfl,hx'.symm⟩
  refine .inr ⟨by omega,?_⟩;obtain⟨x,hx⟩:=iT l i (by omega);by_cases e2:i=up
  ·subst e2;rw[hp]at hx;injection hx with hx;subst hx
   rw[mu]at hx';injection hx' with hx';subst hx'
   exact⟨p,hp,rfl,rfl,rfl,rfl,λ_=>⟨rfl,rfl⟩,λh=>absurd rfl h⟩
  rw[mo i x e2 hx]at hx';injection hx' with hx';subst hx'
  exact⟨x,hx,rfl,rfl,rfl,rfl,λh=>absurd h e2,λ_=>rfl⟩
 have aa:∀(i:Nat)(x:Nd),l[i]?=some x->x.ks.Pairwise (D4 m):=by
  intro i x hx;refine(h.ord i x hx).imp_of_mem (fun{a b} ha hb hab=>⟨hab.1,λxa yb hxa hyb=>?_⟩);obtain⟨ja,ya,rfl,_,hya,_⟩:=h.kid i x hx a ha;obtain⟨jb,ag,rfl,_,ae,_⟩:=h.kid i x hx b hb;rw[iE]at hxa hyb;obtain⟨aj,q1,_,_,q2,_⟩:=mg ja ya hya;obtain⟨ak,r1,_,r2,_⟩:=mg jb ag ae;rw[hxa]at q1;injection q1 with q1;subst q1
  rw[hyb]at r1;injection r1 with r1;subst r1
  have:=hab.2 ya ag (by rw[iE];exact hya) (by rw[iE];exact ae);omega
 have hQ:FM (λi y=>On m up i/\y<=t) m n:=by
  refine⟨?_,?_,?_,?_,?_⟩
  ·obtain⟨x,q,rfl,h1,h2,h3,h4,h5⟩:=h.first;obtain⟨x',g1,g2,g3,g4,g5,_⟩:=mg 0 x rfl;cases m with
   |nil=>simp at g1
   |cons y q'=>simp at g1;subst g1;exact⟨_,_,rfl,by omega,by omega,by omega,by omega,h5⟩
  ·intro i x' hi hx';rcases mb i x' hx' with⟨rfl,rfl⟩|⟨hil,x,hx,_,_,_,e3,_⟩
   ·show 0<=(up:Int)/\(up:Int)<_;omega
   rw[e3];exact h.up i x hi hx
  ·intro i x' hx' z hz;rcases mb i x' hx' with⟨rfl,rfl⟩|⟨hil,x,hx,_,e1,e2,e3,e4,e5⟩
   ·simp at hz
   by_cases e:i=up
   ·obtain⟨rfl,hks⟩:=e4 e;subst e;rw[hks,kS]at hz;rcases hz with hz|hz
    ·obtain⟨j,y,rfl,j0,hy,k1,k2,k3,k4⟩:=h.kid i x hx z hz;obtain⟨y',g1,_,g3,g4,g5,_⟩:=mg j y hy;exact⟨j,y',rfl,j0,g1,by omega,by omega,by omega,.inl (by have:=k4.elim id False.elim;omega)⟩
    simp at hz;subst hz;exact⟨l.length,_,rfl,by omega,mn,rfl,by show x'.f<=f;omega,hft,.inr ⟨.self _,ji _⟩⟩
   rw[e5 e]at hz;obtain⟨j,y,rfl,j0,hy,k1,k2,k3,k4⟩:=h.kid i x hx z hz;obtain⟨y',g1,_,g3,g4,g5,_⟩:=mg j y hy;exact⟨j,y',rfl,j0,g1,by omega,by omega,by omega,.inl (by have:=k4.elim id False.elim;omega)⟩
  ·intro i x' hx';rcases mb i x' hx' with⟨rfl,rfl⟩|⟨hil,x,hx,_,e1,e2,e3,e4,e5⟩
   ·exact .nil
   by_cases e:i=up
   ·obtain⟨rfl,hks⟩:=e4 e;subst e;rw[hks,List.pairwise_append];refine⟨aa _ _ hx,by simp,λa ha b hb=>?_⟩;simp at hb;subst hb;obtain⟨j,y,rfl,j0,hy,_⟩:=h.kid i x hx a ha;have hj:=(fT.1 hy).1;refine⟨by omega,λxa yb hxa hyb=>?_⟩;rw[iE]at hxa hyb;rw[mn]at hyb;injection hyb with hyb;subst hyb
    obtain⟨y',g1,_,_,g4,_⟩:=mg j y hy;rw[hxa]at g1;injection g1 with g1;subst g1
    have:=(hf.here x hx).2 _ ha y (by rw[iE];exact hy);show xa.t<=f;omega
   rw[e5 e];exact aa _ _ hx
  intro i hi hil;have hc:=yE (λz=>z==(i:Int)) (l.length:Int) (l++[(⟨kind,f,t,up,[],false⟩:Nd)]) up p (by rw[qx hl];exact hp);rw[hm]at hc;rw[hc];have h0:((l++[(⟨kind,f,t,up,[],false⟩:Nd)]).flatMap (·.ks))=l.flatMap (·.ks):=by simp
  rw[h0];by_cases e:i=l.length
  ·subst e;rw[eT (by simp)];have:(l.flatMap (·.ks)).countP (λz=>z==(l.length:Int))=0:=by
    rw[List.countP_eq_zero];intro z hz;rw[Oy]at hz;obtain⟨x,hx,hz⟩:=hz;obtain⟨i,hi2⟩:=rT hx;obtain⟨j,y,rfl,_,hy,_⟩:=h.kid i x hi2 z hz;have hj:=(fT.1 hy).1;simp;omega
   omega
  rw[eQ (by simp;omega)];exact h.seen i hi (by omega)
 have hsm:∀d,Sp l b d->d<=up->Sp m b d:=by
  intro d hd
  induction hd with
  |root=>exact λ_=>.root
  |up d q x y h0 hx hy hu hla ht hsp ih=>
   intro av;have ax:=(h.up d x h0 hx).2;obtain⟨x',g1,_,_,g4,g5,_⟩:=mg d x hx;exact .up d q x' y h0 g1 (mo q y (by omega) hy) (by omega) hla (by omega) (ih (by omega))
 have hsu:=hsm up hf.sp (fC _);obtain⟨c1,c2,c3,c4⟩:=AO hQ hsu (by omega) htn;obtain⟨r,hr⟩:=eX (gP m up t);rw[hr]at hadd c1 c2 c3 c4;obtain⟨u',a1,⟨_,a3,a4,a5,_⟩,_⟩:=c4 up _ mu;obtain⟨n',b1,⟨b2,b3,b4,b5,b6⟩,b7⟩:=c4 l.length _ mn;have bt:n'.t=t:=by
  rcases b7 with⟨b7,_⟩|⟨_,b7⟩
  ·have:=b7.low hQ.good;omega
  exact b7
 have hnew:n'=⟨kind,f,t,up,[],false⟩:=by
  obtain⟨nk,nf,nt,nu,ay,ny⟩:=n';dsimp only at b2 b3 b4 b5 b6 bt;subst b2 b3 b4 b5 b6 bt;rfl
 subst hnew;refine⟨r,hadd,c1,⟨by omega,c2 up hsu,λx hx=>?_⟩,⟨by omega,?_,λx hx=>?_⟩,b1,by omega,λi x hx=>?_⟩
 ·rw[a1]at hx;injection hx with hx;subst hx
  dsimp only at a3 a5;refine⟨by omega,λz hz y hy=>?_⟩;rw[a5,kS]at hz;rcases hz with hz|hz
  ·obtain⟨j,y0,rfl,_,hy0,_⟩:=h.kid up p hp z hz;rw[iE]at hy;obtain⟨y1,g1,_,_,g4,_⟩:=mg j y0 hy0;obtain⟨y2,d1,_,d2⟩:=c4 j y1 g1;rw[hy]at d1;injection d1 with d1;subst d1
   have:=(hf.here p hp).2 _ hz y0 (by rw[iE];exact hy0);rcases d2 with⟨_,d2⟩|⟨_,d2⟩<;>omega
  simp at hz;subst hz;rw[iE,b1]at hy;injection hy with hy;subst hy
  exact ji _
 ·exact .up l.length up _ u' (by omega) b1 a1 rfl (by rw[a5];simp) (Int.le_max_right _ _) (c2 up hsu)
 ·rw[b1]at hx;injection hx with hx;subst hx
  exact⟨ji _,λz hz=>by simp at hz⟩
 obtain⟨x1,g1,g2,g3,g4,g5,g6,g7⟩:=mg i x hx;obtain⟨x2,d1,⟨d2,d3,d4,d5,d6⟩,_⟩:=c4 i x1 g1;exact⟨x2,d1,by omega,by omega,by omega,by rw[d6,g6],λe=>by rw[d5,g7 e]⟩
theorem Fits.out{l:List Nd}{n e b:Int}{c p:Nat}{x:Nd}(h:Ck l n)(hf:Fits l e b c)(hx:l[c]?=some x)(hu:x.u=(p:Int))(h0:0<c):Fits l b b p:=by
 have hup:=h.up c x h0 hx;have hs:=hf.sp;cases hs with
 |root=>omega
 |up _ q x1 y _ hx1 hy hu1 hla ht hsp=>
  rw[hx]at hx1;injection hx1 with hx1;subst hx1
  obtain rfl:q=p:=by omega
  refine⟨(fT.1 hy).1,hsp,λy' hy'=>?_⟩;rw[hy]at hy';injection hy' with hy';subst hy'
  have hmem:(c:Int)∈y.ks:=Oz hla;obtain⟨j,x2,hj,_,hx2,_,k2,k3,_⟩:=h.kid q y hy c hmem;obtain rfl:j=c:=by omega
  rw[hx]at hx2;injection hx2 with hx2;subst hx2
  refine⟨by omega,λz hz w hw=>?_⟩;have hle:=uz y.ks _ (h.ord q y hy) hla z hz;obtain⟨jz,z2,rfl,_,hz2,_,z3,z4,_⟩:=h.kid q y hy z hz;rw[iE,hz2]at hw;injection hw with hw;subst hw
  by_cases e:jz=j
  ·subst e;rw[hx]at hz2;injection hz2 with hz2;subst hz2
   exact ht
  
  obtain⟨k,hk⟩:=rT hz;obtain⟨k',hk'⟩:=rT hmem;have hpw:=Qt.1 (h.ord q y hy);have h1:=(fT.1 hk).1;have h2:=(fT.1 hk').1;have e1:y.ks[k]=(jz:Int):=(fT.1 hk).2;have e2:y.ks[k']=(j:Int):=(fT.1 hk').2;rcases FE k k' with hlt|heq|hgt
  ·have:=(hpw k k' h1 h2 hlt).2;rw[e1,e2,iE,iE]at this;have:=this _ _ hz2 hx;omega
  ·subst heq;rw[e1]at e2;omega
  have:=(hpw k' k h2 h1 hgt).1;rw[e1,e2]at this;omega
end Ar
end Go.Proofs.YtfbiffdmhcjhbaaGreat

import Derived.Test.YtfbiffdmhcjhbaaZa01
import Derived.Test.YtfbiffdmhcjhbaaChecked
set_option linter.all false
set_option maxHeartbeats 16000000
set_option maxRecDepth 100000
namespace Go.Proofs.Ytfbiffdmhcjhbaa
open Go.RowKit Try
namespace Ar
structure Nd where
 k:Int
 f:Int
 t:Int
 u:Int
 ks:List Int
 y:Bool
def um(n:Int):List Nd:=[⟨1,0,if n<0\/32768<n then 0 else n,-1,[],false⟩]
def qE:Nat->List Nd->Int->Int->List Nd
 |0,l,_,_=>l
 |f+1,l,k,aa=>if k<0 then l else match l[k.toNat]? with
  |none=>l
  |some x=>qE f (l.set k.toNat {x with t:=max x.t aa }) x.u aa
def nT(l:List Nd)(k aa:Int):List Nd:=qE (l.length+1) l k aa
def firstT(l:List Nd):Int:=match l with
 |[]=>0
 |x::_=>x.t
def VS(l:List Nd)(i:Int):Int:=match l[i.toNat]? with
 |some x=>x.t
 |none=>0
def oV(l:List Nd)(up kind f t:Int):Bool:=
 !(decide (up<0)||decide ((l.length:Int)<=up)||decide (kind<1)||decide (11<kind)||decide (t<f)||decide (firstT l<t))&&
 match l[up.toNat]? with
 |none=>false
 |some p=>!(decide (f<p.f))&&match p.ks.getLast? with
  |none=>true
  |some z=>!(decide (f<VS l z))
def addN(l:List Nd)(up kind f t:Int):List Nd×Int:=
 if oV l up kind f t=true then
  match l[up.toNat]? with
  |none=>(l,-1)
  |some p=>(nT ((l++[(⟨kind,f,t,up,[],false⟩:Nd)]).set up.toNat {p with ks:=p.ks++[(l.length:Int)]}) up t,l.length)
 else(l,-1)
def rq(l:List Nd)(i t:Int):Bool:=!(decide (i<0)||decide ((l.length:Int)<=i)||decide (firstT l<t))
def nN(l:List Nd)(i t:Int):List Nd:=if rq l i t=true then nT l i t else l
structure bu(l:List Nd):Prop where
 pos:0<l.length
 up:∀(i:Nat)(x:Nd),l[i]?=some x->-1<=x.u/\x.u<i
 kid:∀(i:Nat)(x:Nd),l[i]?=some x->∀z∈x.ks,0<=z/\z<l.length
 ext:∀(i:Nat)(x:Nd),l[i]?=some x->∀z∈x.ks,∀y,l[z.toNat]?=some y->x.f<=y.t
theorem xC{l:List Nd}(h:bu l)(i:Nat)(x:Nd)(hx:l[i]?=some x)(t:Int)(ht:x.t<=t):bu (l.set i {x with t:=t}):=by
 have hi:=(nC.1 hx).1;have key:∀(j:Nat)(y:Nd),(l.set i {x with t:=t})[j]?=some y->∃y',l[j]?=some y'/\y.f=y'.f/\y.ks=y'.ks/\y'.t<=y.t:=by
  intro j y hy;rw[E5]at hy;split at hy
  ·rename_i e;subst e;injection hy with hy;subst hy
   exact⟨x,hx,rfl,rfl,ht⟩
  exact⟨y,hy,rfl,rfl,pW _⟩
 refine⟨by rw[xe];exact h.pos,λj y hy=>?_,λj y hy=>?_,λj y hy z hz y2 hy2=>by
  obtain⟨y',h1,h2,h3,_⟩:=key j y hy;obtain⟨aa,h4,_,_,h5⟩:=key _ y2 hy2;rw[h3]at hz;have:=h.ext j y' h1 z hz aa h4
  rw[h2];omega⟩
 ·rw[E5]at hy;split at hy
  ·rename_i e;subst e;injection hy with hy;subst hy
   exact h.up i x hx
  exact h.up j y hy
 rw[xe];rw[E5]at hy;split at hy
 ·rename_i e;subst e;injection hy with hy;subst hy
  exact h.kid i x hx
 exact h.kid j y hy
theorem CY:∀(f:Nat)(l:List Nd)(k t:Int),bu l->bu (qE f l k t)/\(qE f l k t).length=l.length
 |0,l,k,t=>λh=>⟨h,rfl⟩
 |f+1,l,k,t=>λh=>by
  rw[qE];by_cases hk:k<0
  ·rw[gu hk];exact⟨h,rfl⟩
  rw[fu hk];cases hx:l[k.toNat]? with
  |none=>exact⟨h,rfl⟩
  |some x=>
   have ih:=CY f _ x.u t (xC h k.toNat x hx (max x.t t) (Nk _ _));exact⟨ih.1,by rw[ih.2,xe]⟩
theorem CZ:∀(f g:Nat)(l:List Nd)(k t:Int),bu l->k<f->k<g->qE f l k t=qE g l k t
 |0,g,l,k,t=>λh h1 h2=>by
  rw[qE];cases g with
  |zero=>rfl
  |succ g=>rw[qE,gu (by omega)]
 |f+1,0,l,k,t=>λh h1 h2=>by
  rw[qE,qE,gu (by omega)]
 |f+1,g+1,l,k,t=>λh h1 h2=>by
  rw[qE,qE];by_cases hk:k<0
  ·rw[gu hk,gu hk]
  rw[fu hk,fu hk];cases hx:l[k.toNat]? with
  |none=>rfl
  |some x=>
   have hu:=(h.up _ x hx).2;exact CZ f g _ x.u t (xC h k.toNat x hx _ (Nk _ _)) (by omega) (by omega)
theorem C4(l:List Nd)(k t:Int)(x:Nd)(h:bu l)(hk:0<=k)(hx:l[k.toNat]?=some x):nT l k t=nT (l.set k.toNat {x with t:=max x.t t}) x.u t:=by
 have hi:=(nC.1 hx).1;unfold nT;rw[qE,fu (by omega),hx];dsimp only;have hu:=(h.up _ x hx).2;exact CZ _ _ _ _ _ (xC h k.toNat x hx _ (Nk _ _)) (by omega) (by rw[xe];omega)
theorem C5(l:List Nd)(k t:Int)(hk:k<0):nT l k t=l:=by
 unfold nT;rw[qE,gu hk]
theorem wN{l:List Nd}(k t:Int)(h:bu l):(nT l k t).length=l.length:=(CY _ l k t h).2
theorem N7{l:List Nd}{up kind f t:Int}(h:oV l up kind f t=true):0<=up/\up<l.length/\∃p,l[up.toNat]?=some p:=by
 unfold oV at h;cases hp:l[up.toNat]? with
 |none=>rw[hp]at h;simp at h
 |some p=>
  rw[hp]at h;simp at h;exact⟨by omega,by omega,p,rfl⟩
theorem N8{l:List Nd}{up kind f t:Int}{p:Nd}(h:oV l up kind f t=true)(hp:l[up.toNat]?=some p):p.f<=t/\f<=t:=by
 unfold oV at h;rw[hp]at h;simp at h;omega
theorem Ci{l:List Nd}(h:bu l)(up kind f t:Int)(p:Nd)(h0:0<=up)(hp:l[up.toNat]?=some p)(hf:p.f<=t):
 bu ((l++[(⟨kind,f,t,up,[],false⟩:Nd)]).set up.toNat {p with ks:=p.ks++[(l.length:Int)]}):=by
 have hi:=(nC.1 hp).1;have hlen:((l++[(⟨kind,f,t,up,[],false⟩:Nd)]).set up.toNat {p with ks:=p.ks++[(l.length:Int)]}).length=l.length+1:=by simp
 have key:∀j y,((l++[(⟨kind,f,t,up,[],false⟩:Nd)]).set up.toNat {p with ks:=p.ks++[(l.length:Int)]})[j]?=some y->(j=up.toNat/\y={p with ks:=p.ks++[(l.length:Int)]})\/(j≠up.toNat/\l[j]?=some y)\/(j=l.length/\y=⟨kind,f,t,up,[],false⟩):=by
  intro j y hy;rw[E5]at hy;split at hy
  ·rename_i e;subst e;try rw[gu (by simp;omega)]at hy
   injection hy with hy
   exact .inl ⟨rfl,hy.symm⟩
  rename_i e;rcases UE j l.length with hj|hj|hj
  ·rw[vC hj]at hy;exact .inr (.inl ⟨λh=>e h.symm,hy⟩)
  ·subst hj;rw[yF (mJ _)]at hy;simp at hy;exact .inr (.inr ⟨rfl,hy.symm⟩)
  rw[xQ (by simp;omega)]at hy;cases hy
 refine⟨by omega,λj y hy=>?_,λj y hy z hz=>?_,λj y hy z hz y2 hy2=>by
  have old:∀(q:Nd)(j:Nat),l[j]?=some q->z∈q.ks->q.f<=y2.t:=λq j hq aa=>by
   have hb:=h.kid j q hq z aa;rcases key _ y2 hy2 with⟨e,rfl⟩|⟨_,h4⟩|⟨e,_⟩
   ·exact h.ext j q hq z aa p (by rw[e];exact hp)
   ·exact h.ext j q hq z aa y2 h4
   omega
  rcases key j y hy with⟨rfl,rfl⟩|⟨_,hy⟩|⟨rfl,rfl⟩
  ·rcases rQ.1 hz with hz|hz
   ·exact old p _ hp hz
   obtain rfl:z=(l.length:Int):=by simpa using hz
   rcases key _ y2 hy2 with⟨e,rfl⟩|⟨_,h4⟩|⟨e,rfl⟩
   ·have:up.toNat=l.length:=by omega
    omega
   ·have:=(nC.1 h4).1;omega
   exact hf
  ·exact old y j hy hz
  simp at hz⟩
 ·rcases key j y hy with⟨rfl,rfl⟩|⟨_,hy⟩|⟨rfl,rfl⟩
  ·exact h.up _ p hp
  ·exact h.up j y hy
  exact⟨by show -1<=up;omega,by show up<_;omega⟩
 rw[hlen];rcases key j y hy with⟨rfl,rfl⟩|⟨_,hy⟩|⟨rfl,rfl⟩
 ·rcases rQ.1 hz with hz|hz
  ·have:=h.kid _ p hp z hz;omega
  simp at hz;omega
 ·have:=h.kid j y hy z hz;omega
 simp at hz
theorem OM{l:List Nd}(h:bu l)(i t:Int):(nN l i t).length=l.length:=by
 unfold nN;split
 ·exact wN _ _ h
 rfl
end Ar
namespace Ar
def Gc(l:List Nd)(a b:Int):Prop:=a<b/\∀x y,l[a.toNat]?=some x->l[b.toNat]?=some y->x.t<=y.f
structure JO(Q:Nat->Int->Prop)(l:List Nd)(n:Int):Prop where
 first:∃x r,l=x::r/\x.k=1/\x.f=0/\x.t=n/\x.u=-1/\0<=n
 up:∀(i:Nat)(x:Nd),0<i->l[i]?=some x->0<=x.u/\x.u<i
 kid:∀(i:Nat)(x:Nd),l[i]?=some x->∀z∈x.ks,∃(j:Nat)(y:Nd),z=(j:Int)/\0<j/\l[j]?=some y/\y.u=(i:Int)/\x.f<=y.f/\y.f<=y.t/\(y.t<=x.t\/Q i y.t)
 ord:∀(i:Nat)(x:Nd),l[i]?=some x->x.ks.Pairwise (Gc l)
 seen:∀i:Nat,0<i->i<l.length->(l.flatMap (·.ks)).countP (λz=>z==(i:Int))=1
abbrev Ck(l:List Nd)(n:Int):Prop:=JO (λ_ _=>False) l n
theorem JO.pos{Q:Nat->Int->Prop}{l:List Nd}{n:Int}(h:JO Q l n):0<l.length:=by
 obtain⟨x,r,rfl,_⟩:=h.first;simp
theorem JO.zero{Q:Nat->Int->Prop}{l:List Nd}{n:Int}(h:JO Q l n):∃x,l[0]?=some x/\x.t=n/\x.u=-1/\x.f=0:=by
 obtain⟨x,r,rfl,_,h1,h2,h3,_⟩:=h.first;exact⟨x,rfl,h2,h3,h1⟩
theorem JO.firstT{Q:Nat->Int->Prop}{l:List Nd}{n:Int}(h:JO Q l n):firstT l=n:=by
 obtain⟨x,r,rfl,_,_,h2,_⟩:=h.first;exact h2
theorem JO.good{Q:Nat->Int->Prop}{l:List Nd}{n:Int}(h:JO Q l n):bu l:=by
 refine⟨h.pos,λi x hx=>?_,λi x hx z hz=>?_,λi x hx z hz y hy=>?_⟩
 ·rcases DK i with rfl|hi
  ·obtain⟨x',h1,_,h3,_⟩:=h.zero;rw[h1]at hx;injection hx with hx;subst hx;omega
  have:=h.up i x hi hx;omega
 ·obtain⟨j,y,rfl,h0,hy,_⟩:=h.kid i x hx z hz;have:=(nC.1 hy).1;omega
 obtain⟨j,y',rfl,h0,hy',h1,h2,h3,_⟩:=h.kid i x hx z hz;rw[oN,hy']at hy;injection hy with hy;subst hy;omega
theorem UU(n:Int)(h0:0<=n)(h1:n<=32768):Ck (um n) n:=by
 have hn:um n=[⟨1,0,n,-1,[],false⟩]:=by unfold um;rw[fu (by omega)]
 rw[hn];have hx:∀(i:Nat)(x:Nd),[(⟨1,0,n,-1,[],false⟩:Nd)][i]?=some x->i=0/\x=⟨1,0,n,-1,[],false⟩:=by
  intro i x h;cases i with
  |zero=>exact⟨rfl,by simpa using h.symm⟩
  |succ i=>simp at h
 refine⟨⟨_,_,rfl,rfl,rfl,rfl,rfl,h0⟩,λi x hi h=>?_,λi x h z hz=>?_,λi x h=>?_,λi hi h=>?_⟩
 ·obtain⟨rfl,_⟩:=hx i x h;omega
 ·obtain⟨rfl,rfl⟩:=hx i x h;simp at hz
 ·obtain⟨rfl,rfl⟩:=hx i x h;exact .nil
 simp at h;omega
inductive On(l:List Nd):Nat->Nat->Prop
 |self (c:Nat):On l c c
 |out (c p i:Nat) (x:Nd):l[c]?=some x->x.u=(p:Int)->0<c->On l p i->On l c i
theorem On.mono{l l':List Nd}{c i:Nat}(h:∀(d:Nat)(x:Nd),l[d]?=some x->∃x',l'[d]?=some x'/\x'.u=x.u)(ho:On l c i):On l' c i:=by
 induction ho with
 |self=>exact .self _
 |out d q i x hd hq h00 ho ih=>
  obtain⟨x',h1,h2⟩:=h d x hd;exact .out d q i x' h1 (by rw[h2];exact hq) h00 ih
theorem On.low{l:List Nd}{c i:Nat}(ho:On l c i)(hg:bu l):i<=c:=by
 induction ho with
 |self=>exact mJ _
 |out d q i x hd hq h00 ho ih=>have:=hg.up d x hd;omega
inductive Sp(l:List Nd)(e:Int):Nat->Prop
 |root:Sp l e 0
 |up (c p:Nat) (x y:Nd):0<c->l[c]?=some x->l[p]?=some y->x.u=(p:Int)->y.ks.getLast?=some (c:Int)->x.t<=e->Sp l e p->Sp l e c
theorem Sp.le{l:List Nd}{e e':Int}{c:Nat}(h:Sp l e c)(he:e<=e'):Sp l e' c:=by
 induction h with
 |root=>exact .root
 |up c p x y h0 hx hy hu hl ht _ ih=>exact .up c p x y h0 hx hy hu hl (by omega) ih
theorem xD:∀(c:Nat)(l:List Nd)(t:Int),bu l->c<l.length->∀(i:Nat)(x:Nd),l[i]?=some x->
 ∃x',(nT l c t)[i]?=some x'/\((On l c i/\x'={x with t:=max x.t t})\/(¬On l c i/\x'=x)):=by
 intro c
 induction c using Nat.strongRecOn with
 |ind c ih=>
  intro l t hg hc i x hx;obtain⟨z,hz⟩:=pG l c hc;have hu:=hg.up c z hz;rw[C4 l c t z hg (by omega) (by rw[oN];exact hz),oN];have hg':=xC hg c z hz (max z.t t) (Nk _ _);have hset:∀(j:Nat),(l.set c {z with t:=max z.t t})[j]?=if c=j then some {z with t:=max z.t t}else l[j]?:=by
   intro j;by_cases e:c=j
   ·subst e;rw[DC hc,gu rfl]
   rw[AM e,fu e]
  by_cases h0:z.u<0
  ·
   rw[C5 _ _ _ h0];by_cases e:c=i
   ·subst e;rw[hz]at hx;injection hx with hx;subst hx
    exact⟨_,by rw[hset,gu rfl],.inl ⟨.self _,rfl⟩⟩
   refine⟨x,by rw[hset,fu e];exact hx,.inr ⟨λh=>?_,rfl⟩⟩;cases h with
   |self=>exact e rfl
   |out _ p _ x1 hc' hp h00 ho=>
    rw[hz]at hc';injection hc' with hc';subst hc';omega
  
  obtain⟨p,hp⟩:∃p:Nat,z.u=(p:Int):=⟨z.u.toNat,by omega⟩
  have hpc:p<c:=by omega
  have aa:∀L:List Nd,nT L z.u t=nT L (p:Int) t:=λL=>by rw[hp]
  rw[aa];have hon:∀j,On (l.set c {z with t:=max z.t t}) p j↔On l p j:=by
   intro j;constructor
   ·refine On.mono (λd y hd=>?_);rw[hset]at hd;split at hd
    ·rename_i e;subst e;injection hd with hd;subst hd
     exact⟨z,hz,rfl⟩
    exact⟨y,hd,rfl⟩
   refine On.mono (λd y hd=>?_);by_cases e:c=d
   ·subst e;rw[hz]at hd;injection hd with hd;subst hd
    exact⟨{z with t:=max z.t t},by rw[hset,gu rfl],rfl⟩
   exact⟨y,by rw[hset,fu e];exact hd,rfl⟩
  have hlow:∀d j,On l d j->d<c->j≠c:=λd j h hd=>by have:=h.low hg;omega
  by_cases e:c=i
  ·subst e;rw[hz]at hx;injection hx with hx;subst hx
   obtain⟨x',h1,h2⟩:=ih p hpc _ t hg' (by rw[xe];omega) c _ (by rw[hset,gu rfl]);rcases h2 with⟨h2,_⟩|⟨_,h2⟩
   ·exact absurd rfl (hlow p c ((hon c).1 h2) hpc)
   exact⟨x',h1,.inl ⟨.self _,h2⟩⟩
  obtain⟨x',h1,h2⟩:=ih p hpc _ t hg' (by rw[xe];omega) i x (by rw[hset,fu e];exact hx);refine⟨x',h1,?_⟩;have h00:0<c:=by omega
  rcases h2 with⟨h2,h3⟩|⟨h2,h3⟩
  ·exact .inl ⟨.out c p i z hz hp h00 ((hon i).1 h2),h3⟩
  refine .inr ⟨λh=>h2 ((hon i).2 ?_),h3⟩;cases h with
  |self=>exact absurd rfl e
  |out _ p' _ x1 hc' hp' ae ho=>
   rw[hz]at hc';injection hc' with hc';subst hc'
   obtain rfl:p'=p:=by omega
   exact ho
end Ar
namespace Ar
def Rl(x x':Nd):Prop:=x'.k=x.k/\x'.f=x.f/\x'.u=x.u/\x'.ks=x.ks/\x'.y=x.y
theorem On.next{l:List Nd}{c i j:Nat}{y:Nd}(h:On l c j)(hy:l[j]?=some y)(hu:y.u=(i:Int))(h0:0<j):On l c i:=by
 induction h with
 |self c=>exact .out c i i y hy hu h0 (.self i)
 |out d q j x hd hq h00 ho ih=>exact .out d q i x hd hq h00 (ih hy h0)
theorem Sp.on{l:List Nd}{e:Int}{c i:Nat}(ho:On l c i):Sp l e c->Sp l e i:=by
 induction ho with
 |self c=>exact id
 |out d q i x hd hq h00 ho ih=>
  intro hs;cases hs with
  |root=>omega
  |up _ p x1 y h0 hx hy hu hl ht hsp=>
   rw[hd]at hx;injection hx with hx;subst hx
   obtain rfl:p=q:=by omega
   exact ih hsp
theorem Af{l:List Nd}:∀(ks:List Int)(z:Int),ks.Pairwise (Gc l)->ks.getLast?=some z->∀b∈ks,b<=z
 |[],z=>λ_ h=>by simp at h
 |[a],z=>λ_ h b hb=>by
  simp at h hb;omega
 |a::a'::r,z=>λho h b hb=>by
  rw[AQ]at ho;have hz:(a'::r).getLast?=some z:=by rw[Ra]at h;exact h
  have ih:=Af (a'::r) z ho.2 hz;rcases xg.1 hb with rfl|hb
  ·have h1:=(ho.1 a' (by simp)).1;have h2:=ih a' (by simp);omega
  exact ih b hb
theorem Gi{n b t:Int}{c:Nat}{l:List Nd}(h:JO (λi y=>On l c i/\y<=t) l n)(hs:Sp l b c)(hc:c<l.length)(htn:t<=n):
 Ck (nT l c t) n/\(∀d,Sp l b d->Sp (nT l c t) (max b t) d)/\(nT l c t).length=l.length/\
 (∀(i:Nat)(x:Nd),l[i]?=some x->∃x',(nT l c t)[i]?=some x'/\Rl x x'/\((On l c i/\x'.t=max x.t t)\/(¬On l c i/\x'.t=x.t))):=by
 have hg:=h.good;have hlen:=wN (l:=l) c t hg;have H:=xD c l t hg hc;obtain⟨r,hr⟩:=my (nT l c t);rw[hr]at hlen H⊢;have G:∀(i:Nat)(x:Nd),l[i]?=some x->∃x',r[i]?=some x'/\Rl x x'/\((On l c i/\x'.t=max x.t t)\/(¬On l c i/\x'.t=x.t)):=by
  intro i x hx;obtain⟨x',h1,h2⟩:=H i x hx;rcases h2 with⟨h2,rfl⟩|⟨h2,rfl⟩
  ·exact⟨_,h1,⟨rfl,rfl,rfl,rfl,rfl⟩,.inl ⟨h2,rfl⟩⟩
  exact⟨_,h1,⟨rfl,rfl,rfl,rfl,rfl⟩,.inr ⟨h2,rfl⟩⟩
 have B:∀(i:Nat)(x':Nd),r[i]?=some x'->∃x,l[i]?=some x/\Rl x x'/\((On l c i/\x'.t=max x.t t)\/(¬On l c i/\x'.t=x.t)):=by
  intro i x' hx';have hi:=(nC.1 hx').1;obtain⟨x,hx⟩:=pG l i (by omega);obtain⟨y,h1,h2⟩:=G i x hx;rw[hx']at h1;injection h1 with h1;subst h1
  exact⟨x,hx,h2⟩
 refine⟨⟨?_,?_,?_,?_,?_⟩,?_,hlen,G⟩
 ·obtain⟨x,q,rfl,h1,h2,h3,h4,h5⟩:=h.first;obtain⟨x',g1,⟨e1,e2,e3,e4,e5⟩,g2⟩:=G 0 x rfl;cases r with
  |nil=>simp at g1
  |cons y q' =>
   simp at g1;subst g1;refine⟨_,_,rfl,by omega,by omega,?_,by omega,h5⟩;rcases g2 with⟨_,g2⟩|⟨_,g2⟩<;>omega
 ·intro i x' hi hx';obtain⟨x,hx,⟨e1,e2,e3,e4,e5⟩,_⟩:=B i x' hx';rw[e3];exact h.up i x hi hx
 ·intro i x' hx' z hz;obtain⟨x,hx,⟨e1,e2,e3,e4,e5⟩,g2⟩:=B i x' hx';rw[e4]at hz;obtain⟨j,y,rfl,h0,hy,k1,k2,k3,k4⟩:=h.kid i x hx z hz;obtain⟨y',hy',⟨d1,d2,d3,d4,d5⟩,g3⟩:=G j y hy;refine⟨j,y',rfl,h0,hy',by omega,by omega,by rcases g3 with⟨_,g3⟩|⟨_,g3⟩<;>omega,.inl ?_⟩;rcases g3 with⟨o,g3⟩|⟨_,g3⟩
  ·rcases g2 with⟨_,g2⟩|⟨no,_⟩
   ·rcases k4 with k4|⟨_,k4⟩<;>omega
   exact absurd (o.next hy k1 h0) no
  rcases g2 with⟨_,g2⟩|⟨no,g2⟩
  ·rcases k4 with k4|⟨_,k4⟩<;>omega
  rcases k4 with k4|⟨k4,_⟩
  ·omega
  exact absurd k4 no
 ·intro i x' hx';obtain⟨x,hx,⟨e1,e2,e3,e4,e5⟩,g2⟩:=B i x' hx';rw[e4];have ho:=h.ord i x hx;refine ho.imp_of_mem (fun{a b} ha hb hab=>⟨hab.1,λxa yb hxa hyb=>?_⟩);obtain⟨ja,ya,rfl,a0,hya,a1,a2,a3,a4⟩:=h.kid i x hx a ha;rw[oN]at hxa;obtain⟨aa,q1,⟨_,_,_,_,_⟩,q2⟩:=B ja xa hxa;obtain⟨ae,p1,⟨_,p2,_,_,_⟩,_⟩:=B b.toNat yb hyb;have hle:=hab.2 aa ae (by rw[oN];exact q1) p1;rcases q2 with⟨o,q2⟩|⟨_,q2⟩
  ·exfalso;have hsa:=Sp.on o hs;cases hsa with
   |root=>omega
   |up _ p x1 y h0 hx1 hy1 hu hl ht hsp=>
    rw[hya]at hx1;injection hx1 with hx1;subst hx1
    obtain rfl:p=i:=by omega
    rw[hx]at hy1;injection hy1 with hy1;subst hy1
    have:=Af x.ks _ ho hl b hb;have:=hab.1;omega
  omega
 ·intro i hi hil;have hm:r.map (·.ks)=l.map (·.ks):=by
   refine zT (λi=>?_);rw[r9,r9];cases hx:l[i]? with
   |none=>
    have:r[i]?=none:=by rw[F5]at hx⊢;omega
    rw[this]
   |some x=>
    obtain⟨x',g1,⟨_,_,_,e4,_⟩,_⟩:=G i x hx;rw[g1];simp[e4]
  rw[Q8,hm,<-Q8];exact h.seen i hi (by omega)
 intro d hd
 induction hd with
 |root=>exact .root
 |up d p x y h0 hx hy hu hl ht hsp ih=>
  obtain⟨x',g1,⟨_,_,e3,_,_⟩,g2⟩:=G d x hx;obtain⟨y',k1,⟨_,_,_,d4,_⟩,_⟩:=G p y hy;exact .up d p x' y' h0 g1 k1 (by rw[e3];exact hu) (by rw[d4];exact hl) (by rcases g2 with⟨_,g2⟩|⟨_,g2⟩<;>omega) ih
structure Fits(l:List Nd)(e b:Int)(c:Nat):Prop where
 lt:c<l.length
 sp:Sp l b c
 here:∀x,l[c]?=some x->x.f<=e/\∀z∈x.ks,∀y,l[z.toNat]?=some y->y.t<=e
theorem Fits.le{l:List Nd}{e e' b b':Int}{c:Nat}(h:Fits l e b c)(he:e<=e')(hb:b<=b'):Fits l e' b' c:=
 ⟨h.lt,h.sp.le hb,λx hx=>⟨by have:=(h.here x hx).1;omega,λz hz y hy=>by have:=(h.here x hx).2 z hz y hy;omega⟩⟩
theorem Ck.toQ{l:List Nd}{n:Int}(h:Ck l n)(Q:Nat->Int->Prop):JO Q l n:=
 ⟨h.first,h.up,λi x hx z hz=>by obtain⟨j,y,h1,h2,h3,h4,h5,h6,h7⟩:=h.kid i x hx z hz;exact⟨j,y,h1,h2,h3,h4,h5,h6,.inl (h7.elim id False.elim)⟩,h.ord,h.seen⟩
theorem JP{l:List Nd}{n e b t:Int}{c:Nat}(h:Ck l n)(hf:Fits l e b c)(he:e<=t)(hb:b<=t)(htn:t<=n):
 Ck (nN l c t) n/\Fits (nN l c t) t t c/\(nN l c t).length=l.length/\(∀(i:Nat)(x:Nd),l[i]?=some x->∃x',(nN l c t)[i]?=some x'/\Rl x x'):=by
 have hg:nN l c t=nT l c t:=by
  unfold nN rq;have hl:=hf.lt;rw[h.firstT,show decide ((c:Int)<0)=false from nK (by omega),show decide ((l.length:Int)<=(c:Int))=false from nK (by omega),show decide (n<t)=false from nK (by omega)];rfl
 rw[hg];obtain⟨h1,h2,h3,h4⟩:=Gi (h.toQ _) (hf.sp.le hb) hf.lt htn;have aa:=(h2 c (hf.sp.le hb)).le (e':=t) (by omega);refine⟨h1,⟨by rw[h3];exact hf.lt,aa,λx' hx'=>?_⟩,h3,λi x hx=>by obtain⟨x',a,b,_⟩:=h4 i x hx;exact⟨x',a,b⟩⟩;obtain⟨x,hx⟩:=pG l c hf.lt;obtain⟨x2,a,⟨_,b2,_,b4,_⟩,b⟩:=h4 c x hx;rw[hx']at a;injection a with a;subst a
 refine⟨by have:=(hf.here x hx).1;omega,λz hz y' hy'=>?_⟩;rw[b4]at hz;obtain⟨j,y,rfl,j0,hy,_⟩:=h.kid c x hx z hz;rw[oN]at hy';obtain⟨y2,c1,_,c3⟩:=h4 j y hy;rw[hy']at c1;injection c1 with c1;subst c1
 have:=(hf.here x hx).2 _ hz y (by rw[oN];exact hy);rcases c3 with⟨_,c3⟩|⟨_,c3⟩<;>omega
end Ar
namespace Ar
theorem Ei(P:Int->Bool)(z:Int):∀(l:List Nd)(i:Nat)(x:Nd),l[i]?=some x->
 ((l.set i {x with ks:=x.ks++[z]}).flatMap (·.ks)).countP P=(l.flatMap (·.ks)).countP P+(if P z then 1 else 0)
 |[],i,x=>λh=>by simp at h
 |a::r,0,x=>λh=>by
  have h:a=x:=by simpa using h
  subst h;simp only[mP,uW,Dx,E4,F4];split<;>omega
 |a::r,i+1,x=>λh=>by
  have ih:=Ei P z r i x (by simpa using h);simp only[mO,uW,Dx]at ih⊢;omega
theorem Bo{l:List Nd}{n e b f t kind:Int}{up:Nat}{p:Nd}(h:Ck l n)(hf:Fits l e b up)(hp:l[up]?=some p)(he:e<=f)(hft:f<=t)(htn:t<=n)(hk1:1<=kind)(hk2:kind<=11):oV l up kind f t=true:=by
 have hl:=hf.lt;unfold oV
 rw[h.firstT,oN,hp,show decide ((up:Int)<0)=false from nK (by omega),show decide ((l.length:Int)<=(up:Int))=false from nK (by omega),
  show decide (kind<1)=false from nK (by omega),show decide (11<kind)=false from nK (by omega),show decide (t<f)=false from nK (by omega),show decide (n<t)=false from nK (by omega)]
 dsimp only;rw[show decide (f<p.f)=false from nK (by have:=(hf.here p hp).1;omega)];cases hz:p.ks.getLast? with
 |none=>rfl
 |some z=>
  have hm:z∈p.ks:=Uv hz;obtain⟨j,y,rfl,j0,hy,_⟩:=h.kid up p hp z hm;have h1:=(hf.here p hp).2 _ hm y (by rw[oN];exact hy);have h2:VS l (j:Int)=y.t:=by unfold VS;rw[oN,hy]
  dsimp only;rw[h2,show decide (f<y.t)=false from nK (by omega)];rfl
theorem N9{l:List Nd}{n e b f t kind:Int}{up:Nat}(h:Ck l n)(hf:Fits l e b up)(he:e<=f)(hft:f<=t)(htn:t<=n)(hk1:1<=kind)(hk2:kind<=11):
 ∃r,addN l up kind f t=(r,(l.length:Int))/\Ck r n/\Fits r t (max b t) up/\Fits r f (max b t) l.length/\r[l.length]?=some ⟨kind,f,t,up,[],false⟩/\r.length=l.length+1/\
  (∀(i:Nat)(x:Nd),l[i]?=some x->∃x',r[i]?=some x'/\x'.k=x.k/\x'.f=x.f/\x'.u=x.u/\x'.y=x.y/\(i≠up->x'.ks=x.ks)):=by
 obtain⟨p,hp⟩:=pG l up hf.lt;have hl:=hf.lt;have ah:=(hf.here p hp).1;have af:=Bo h hf hp he hft htn hk1 hk2;obtain⟨m,hm⟩:=my ((l++[(⟨kind,f,t,up,[],false⟩:Nd)]).set up {p with ks:=p.ks++[(l.length:Int)]});have hadd:addN l up kind f t=(nT m up t,(l.length:Int)):=by
  unfold addN;rw[gu af,oN,hp];dsimp only;rw[hm]
 have ai:m.length=l.length+1:=by rw[<-hm];simp
 have mu:m[up]?=some {p with ks:=p.ks++[(l.length:Int)]}:=by rw[<-hm];exact DC (by simp;omega)
 have mo:∀i x,i≠up->l[i]?=some x->m[i]?=some x:=by
  intro i x hi hx;have:=(nC.1 hx).1;rw[<-hm,AM (λe=>hi e.symm),vC this];exact hx
 have mn:m[l.length]?=some ⟨kind,f,t,up,[],false⟩:=by
  rw[<-hm,AM (by omega),yF (mJ _)];simp
 have mg:∀i x,l[i]?=some x->∃x',m[i]?=some x'/\x'.k=x.k/\x'.f=x.f/\x'.t=x.t/\x'.u=x.u/\x'.y=x.y/\(i≠up->x'.ks=x.ks):=by
  intro i x hx;by_cases e:i=up
  ·subst e;rw[hp]at hx;injection hx with hx;subst hx
   exact⟨_,mu,rfl,rfl,rfl,rfl,rfl,λh=>absurd rfl h⟩
  exact⟨x,mo i x e hx,rfl,rfl,rfl,rfl,rfl,λ_=>rfl⟩
 have mb:∀i x',m[i]?=some x'->(i=l.length/\x'=⟨kind,f,t,up,[],false⟩)\/(i<l.length/\∃x,l[i]?=some x/\x'.k=x.k/\x'.f=x.f/\x'.t=x.t/\x'.u=x.u/\(i=up->x=p/\x'.ks=p.ks++[(l.length:Int)])/\(i≠up->x'.ks=x.ks)):=by
  intro i x' hx';have hi:=(nC.1 hx').1;by_cases e:i=l.length
  ·subst e;rw[mn]at hx';injection hx' with hx'
   exact .inl ⟨rfl,hx'.symm⟩
  refine .inr ⟨by omega,?_⟩;obtain⟨x,hx⟩:=pG l i (by omega);by_cases e2:i=up
  ·subst e2;rw[hp]at hx;injection hx with hx;subst hx
   rw[mu]at hx';injection hx' with hx';subst hx'
   exact⟨p,hp,rfl,rfl,rfl,rfl,λ_=>⟨rfl,rfl⟩,λh=>absurd rfl h⟩
  rw[mo i x e2 hx]at hx';injection hx' with hx';subst hx'
  exact⟨x,hx,rfl,rfl,rfl,rfl,λh=>absurd h e2,λ_=>rfl⟩
 have aa:∀(i:Nat)(x:Nd),l[i]?=some x->x.ks.Pairwise (Gc m):=by
  intro i x hx;refine(h.ord i x hx).imp_of_mem (fun{a b} ha hb hab=>⟨hab.1,λxa yb hxa hyb=>?_⟩);obtain⟨ja,ya,rfl,_,hya,_⟩:=h.kid i x hx a ha;obtain⟨jb,ag,rfl,_,ae,_⟩:=h.kid i x hx b hb;rw[oN]at hxa hyb;obtain⟨aj,q1,_,_,q2,_⟩:=mg ja ya hya;obtain⟨ak,r1,_,r2,_⟩:=mg jb ag ae;rw[hxa]at q1;injection q1 with q1;subst q1
  rw[hyb]at r1;injection r1 with r1;subst r1
  have:=hab.2 ya ag (by rw[oN];exact hya) (by rw[oN];exact ae);omega
 have hQ:JO (λi y=>On m up i/\y<=t) m n:=by
  refine⟨?_,?_,?_,?_,?_⟩
  ·obtain⟨x,q,rfl,h1,h2,h3,h4,h5⟩:=h.first;obtain⟨x',g1,g2,g3,g4,g5,_⟩:=mg 0 x rfl;cases m with
   |nil=>simp at g1
   |cons y q'=>simp at g1;subst g1;exact⟨_,_,rfl,by omega,by omega,by omega,by omega,h5⟩
  ·intro i x' hi hx';rcases mb i x' hx' with⟨rfl,rfl⟩|⟨hil,x,hx,_,_,_,e3,_⟩
   ·show 0<=(up:Int)/\(up:Int)<_;omega
   rw[e3];exact h.up i x hi hx
  ·intro i x' hx' z hz;rcases mb i x' hx' with⟨rfl,rfl⟩|⟨hil,x,hx,_,e1,e2,e3,e4,e5⟩
   ·simp at hz
   by_cases e:i=up
   ·obtain⟨rfl,hks⟩:=e4 e;subst e;rw[hks,rQ]at hz;rcases hz with hz|hz
    ·obtain⟨j,y,rfl,j0,hy,k1,k2,k3,k4⟩:=h.kid i x hx z hz;obtain⟨y',g1,_,g3,g4,g5,_⟩:=mg j y hy;exact⟨j,y',rfl,j0,g1,by omega,by omega,by omega,.inl (by have:=k4.elim id False.elim;omega)⟩
    simp at hz;subst hz;exact⟨l.length,_,rfl,by omega,mn,rfl,by show x'.f<=f;omega,hft,.inr ⟨.self _,pW _⟩⟩
   rw[e5 e]at hz;obtain⟨j,y,rfl,j0,hy,k1,k2,k3,k4⟩:=h.kid i x hx z hz;obtain⟨y',g1,_,g3,g4,g5,_⟩:=mg j y hy;exact⟨j,y',rfl,j0,g1,by omega,by omega,by omega,.inl (by have:=k4.elim id False.elim;omega)⟩
  ·intro i x' hx';rcases mb i x' hx' with⟨rfl,rfl⟩|⟨hil,x,hx,_,e1,e2,e3,e4,e5⟩
   ·exact .nil
   by_cases e:i=up
   ·obtain⟨rfl,hks⟩:=e4 e;subst e;rw[hks,List.pairwise_append];refine⟨aa _ _ hx,by simp,λa ha b hb=>?_⟩;simp at hb;subst hb;obtain⟨j,y,rfl,j0,hy,_⟩:=h.kid i x hx a ha;have hj:=(nC.1 hy).1;refine⟨by omega,λxa yb hxa hyb=>?_⟩;rw[oN]at hxa hyb;rw[mn]at hyb;injection hyb with hyb;subst hyb
    obtain⟨y',g1,_,_,g4,_⟩:=mg j y hy;rw[hxa]at g1;injection g1 with g1;subst g1
    have:=(hf.here x hx).2 _ ha y (by rw[oN];exact hy);show xa.t<=f;omega
   rw[e5 e];exact aa _ _ hx
  intro i hi hil;have hc:=Ei (λz=>z==(i:Int)) (l.length:Int) (l++[(⟨kind,f,t,up,[],false⟩:Nd)]) up p (by rw[vC hl];exact hp);rw[hm]at hc;rw[hc];have h0:((l++[(⟨kind,f,t,up,[],false⟩:Nd)]).flatMap (·.ks))=l.flatMap (·.ks):=by simp
  rw[h0];by_cases e:i=l.length
  ·subst e;rw[gu (by simp)];have:(l.flatMap (·.ks)).countP (λz=>z==(l.length:Int))=0:=by
    rw[List.countP_eq_zero];intro z hz;rw[Rf]at hz;obtain⟨x,hx,hz⟩:=hz;obtain⟨i,hi2⟩:=yG hx;obtain⟨j,y,rfl,_,hy,_⟩:=h.kid i x hi2 z hz;have hj:=(nC.1 hy).1;simp;omega
   omega
  rw[fu (by simp;omega)];exact h.seen i hi (by omega)
 have hsm:∀d,Sp l b d->d<=up->Sp m b d:=by
  intro d hd
  induction hd with
  |root=>exact λ_=>.root
  |up d q x y h0 hx hy hu hla ht hsp ih=>
   intro av;have ax:=(h.up d x h0 hx).2;obtain⟨x',g1,_,_,g4,g5,_⟩:=mg d x hx;exact .up d q x' y h0 g1 (mo q y (by omega) hy) (by omega) hla (by omega) (ih (by omega))
 have hsu:=hsm up hf.sp (mJ _);obtain⟨c1,c2,c3,c4⟩:=Gi hQ hsu (by omega) htn;obtain⟨r,hr⟩:=my (nT m up t);rw[hr]at hadd c1 c2 c3 c4;obtain⟨u',a1,⟨_,a3,a4,a5,_⟩,_⟩:=c4 up _ mu;obtain⟨n',b1,⟨b2,b3,b4,b5,b6⟩,b7⟩:=c4 l.length _ mn;have bt:n'.t=t:=by
  rcases b7 with⟨b7,_⟩|⟨_,b7⟩
  ·have:=b7.low hQ.good;omega
  exact b7
 have hnew:n'=⟨kind,f,t,up,[],false⟩:=by
  obtain⟨nk,nf,nt,nu,ay,ny⟩:=n';dsimp only at b2 b3 b4 b5 b6 bt;subst b2 b3 b4 b5 b6 bt;rfl
 subst hnew;refine⟨r,hadd,c1,⟨by omega,c2 up hsu,λx hx=>?_⟩,⟨by omega,?_,λx hx=>?_⟩,b1,by omega,λi x hx=>?_⟩
 ·rw[a1]at hx;injection hx with hx;subst hx
  dsimp only at a3 a5;refine⟨by omega,λz hz y hy=>?_⟩;rw[a5,rQ]at hz;rcases hz with hz|hz
  ·obtain⟨j,y0,rfl,_,hy0,_⟩:=h.kid up p hp z hz;rw[oN]at hy;obtain⟨y1,g1,_,_,g4,_⟩:=mg j y0 hy0;obtain⟨y2,d1,_,d2⟩:=c4 j y1 g1;rw[hy]at d1;injection d1 with d1;subst d1
   have:=(hf.here p hp).2 _ hz y0 (by rw[oN];exact hy0);rcases d2 with⟨_,d2⟩|⟨_,d2⟩<;>omega
  simp at hz;subst hz;rw[oN,b1]at hy;injection hy with hy;subst hy
  exact pW _
 ·exact .up l.length up _ u' (by omega) b1 a1 rfl (by rw[a5];simp) (Int.le_max_right _ _) (c2 up hsu)
 ·rw[b1]at hx;injection hx with hx;subst hx
  exact⟨pW _,λz hz=>by simp at hz⟩
 obtain⟨x1,g1,g2,g3,g4,g5,g6,g7⟩:=mg i x hx;obtain⟨x2,d1,⟨d2,d3,d4,d5,d6⟩,_⟩:=c4 i x1 g1;exact⟨x2,d1,by omega,by omega,by omega,by rw[d6,g6],λe=>by rw[d5,g7 e]⟩
theorem Fits.out{l:List Nd}{n e b:Int}{c p:Nat}{x:Nd}(h:Ck l n)(hf:Fits l e b c)(hx:l[c]?=some x)(hu:x.u=(p:Int))(h0:0<c):Fits l b b p:=by
 have hup:=h.up c x h0 hx;have hs:=hf.sp;cases hs with
 |root=>omega
 |up _ q x1 y _ hx1 hy hu1 hla ht hsp=>
  rw[hx]at hx1;injection hx1 with hx1;subst hx1
  obtain rfl:q=p:=by omega
  refine⟨(nC.1 hy).1,hsp,λy' hy'=>?_⟩;rw[hy]at hy';injection hy' with hy';subst hy'
  have hmem:(c:Int)∈y.ks:=Uv hla;obtain⟨j,x2,hj,_,hx2,_,k2,k3,_⟩:=h.kid q y hy c hmem;obtain rfl:j=c:=by omega
  rw[hx]at hx2;injection hx2 with hx2;subst hx2
  refine⟨by omega,λz hz w hw=>?_⟩;have hle:=Af y.ks _ (h.ord q y hy) hla z hz;obtain⟨jz,z2,rfl,_,hz2,_,z3,z4,_⟩:=h.kid q y hy z hz;rw[oN,hz2]at hw;injection hw with hw;subst hw
  by_cases e:jz=j
  ·subst e;rw[hx]at hz2;injection hz2 with hz2;subst hz2
   exact ht
  
  obtain⟨k,hk⟩:=yG hz;obtain⟨k',hk'⟩:=yG hmem;have hpw:=List.pairwise_iff_getElem.1 (h.ord q y hy);have h1:=(nC.1 hk).1;have h2:=(nC.1 hk').1;have e1:y.ks[k]=(jz:Int):=(nC.1 hk).2;have e2:y.ks[k']=(j:Int):=(nC.1 hk').2;rcases UE k k' with hlt|heq|hgt
  ·have:=(hpw k k' h1 h2 hlt).2;rw[e1,e2,oN,oN]at this;have:=this _ _ hz2 hx;omega
  ·subst heq;rw[e1]at e2;omega
  have:=(hpw k' k h2 h1 hgt).1;rw[e1,e2]at this;omega
end Ar
namespace Fl
open Ar
abbrev Tk:=Nat×Nat×Nat
structure Dg where
 code:Nat
 f:Nat
 t:Nat
structure St where
 t:List Nd
 d:List Dg
def raw(l:List Tk)(i:Nat):Nat:=match l[i]? with
 |some x=>x.1
 |none=>0
def wu(l:List Tk)(i:Nat):Nat:=match l[i]? with
 |some x=>x.2.1
 |none=>0
def too(l:List Tk)(i:Nat):Nat:=match l[i]? with
 |some x=>x.2.2
 |none=>0
def kd(l:List Tk)(e i:Nat):Nat:=if e<=i\/raw l i=20\/raw l i=21 then 0 else raw l i
def cnt(k:Nat):Bool:=!(k==1||k==2||k==3||k==4)
def nL(k:Nat):Bool:=k==15||k==16||k==17||k==13
def nR(k:Nat):Bool:=k==12||k==14
def opens(k:Nat):Bool:=k==8||k==9
def ends(k:Nat):Bool:=k==10||k==11
def p9(p:Nat->Bool):Nat->Nat->Nat
 |0,i=>i
 |f+1,i=>if p i=true then p9 p f (i+1)else i
def blanks(l:List Tk)(e i:Nat):Nat:=p9 (λj=>raw l j==3) (e-i) i
def mG(l:List Tk)(e i:Nat):Nat:=p9 (λj=>!cnt (raw l j)) (e-i) i
def back(l:List Tk):Nat->Nat->Nat
 |0,_=>0
 |i+1,m=>if m<i+1/\cnt (raw l i)=false then back l i m else i+1
def step(k n:Nat):Nat:=if opens k=true then n+1 else if ends k=true then n-1 else n
def AX(l:List Tk)(e:Nat):Nat->Nat->Nat->Option Nat
 |0,_,_=>none
 |f+1,j,n=>if kd l e j=0 then none else if step (kd l e j) n=0 then some (j+1)else AX l e f (j+1) (step (kd l e j) n)
def balanced(l:List Tk)(e i:Nat):Nat:=match AX l e (e-i) i 0 with
 |some j=>j
 |none=>back l (p9 (λj=>kd l e j !=0) (e-i) i) (i+1)
def text(l:List Tk)(e i:Nat):Nat:=
 let j:=p9 (λj=>!cnt (raw l j)&&raw l j !=1) (e-(i+1)) (i+1)
 if e<=j\/raw l j≠1\/e<=j+1\/raw l (j+1)≠19 then i+1 else p9 (λj=>raw l j==19) (e-(j+1)) (j+1)
def rO(l:List Tk)(e:Nat):Nat->Nat->Nat->Nat
 |0,j,_=>j
 |f+1,j,n=>if kd l e j=0 then j else if n=0/\(kd l e j=7\/ends (kd l e j)=true)then j else rO l e f (j+1) (step (kd l e j) n)
def qi(l:List Tk)(e i:Nat):Nat:=back l (rO l e (e-i) i 0) (i+1)
def props(l:List Tk)(e:Nat):Nat->Nat->Nat
 |0,i=>i
 |f+1,i=>if nR (kd l e i)=true then props l e f (mG l e (i+1))else i
def key(l:List Tk)(e i:Nat):Nat:=
 let a:=props l e (e-i) i
 let b:=if nL (kd l e a)=true then mG l e (a+1)else a
 if kd l e b=6 then b+1 else 0
def nS(o:Option (Nat×Nat))(i:Nat):Nat:=match o with
 |none=>i
 |some x=>x.1
def lead(l:List Tk)(e:Nat):Nat->Option (Nat×Nat)->Nat->Option (Nat×Nat)×Nat
 |0,o,i=>(o,i)
 |f+1,o,i=>if nR (kd l e i)=true then lead l e f (some (nS o i,i)) (blanks l e (i+1))else(o,i)
def begins(k:Nat):Bool:=nR k||nL k||opens k||k==18
def add(s:St)(up:Int)(k f t:Nat):St×Int:=(⟨(addN s.t up k f t).1,s.d⟩,(addN s.t up k f t).2)
def err(l:List Tk)(s:St)(up:Int)(f t code:Nat):St:=⟨(addN s.t up 11 f t).1,s.d++[⟨code,wu l f,too l (t-1)⟩]⟩
def keyed(l:List Nd)(i:Int):List Nd:=match l[i.toNat]? with
 |none=>l
 |some x=>l.set i.toNat {x with y:=true}
def BO(l:List Tk)(e:Nat)(mE:Option (Int->Nat->St->Nat×St))(up:Int)(p:Nat)(s:St):Int×Nat×St:=
 let o:=(lead l e (e-blanks l e p) none (blanks l e p)).1
 let i:=(lead l e (e-blanks l e p) none (blanks l e p)).2
 let fr:=nS o i
 let k:=kd l e i
 if k=13 then((add s up 8 fr (i+1)).2,i+1,(add s up 8 fr (i+1)).1)
 else if nL k=true then((add s up 7 fr (i+1)).2,i+1,(add s up 7 fr (i+1)).1)
 else if k=18 then((add s up 7 fr (text l e i)).2,text l e i,(add s up 7 fr (text l e i)).1)
 else if opens k=true then match mE with
  |none=>((addN s.t up 11 fr (balanced l e i)).2,balanced l e i,err l s up fr (balanced l e i) 10)
  |some mE=>
   let a:=add s up (if k=9 then 10 else 9) fr (i+1)
   let r:=mE a.2 i a.1
   (a.2,r.1,r.2)
 else match o with
  |some x=>((add s up 7 fr (x.2+1)).2,x.2+1,(add s up 7 fr (x.2+1)).1)
  |none=>(-1,p,s)
def pair(l:List Tk)(s:St)(c:Int)(j q:Nat):St×Int:=
 let a:=add s c 6 j q
 if q-j<2 then a
 else
  let b:=add a.1 a.2 (if(List.range (q-j)).any (λx=>raw l (j+x)==13)=true then 8 else 7) j (back l (q-1) (j+1))
  (⟨keyed b.1.t a.2,b.1.d⟩,a.2)
def item(l:List Tk)(e:Nat)(val:Int->Nat->St->Int×Nat×St)(aa:Bool)(c:Int)(j:Nat)(s:St):Nat×St:=
 let q:=key l e j
 if 0<q then
  let p:=pair l s c j q
  let x:=mG l e q
  if kd l e x=0\/kd l e x=7\/ends (kd l e x)=true then(q,p.1)
  else
   let r:=val p.2 x p.1
   if r.1<0 then(q,r.2.2)else(r.2.1,r.2.2)
 else if aa=true then
  let p:=add s c 6 j (j+1)
  let r:=val p.2 j ⟨keyed p.1.t p.2,p.1.d⟩
  (r.2.1,r.2.2)
 else
  let r:=val c j s
  (r.2.1,r.2.2)
def qo(l:List Tk)(e:Nat)(val:Int->Nat->St->Int×Nat×St)(c:Int)(op:Nat):Nat->Nat->Bool->St->Nat×St
 |0,p,_,s=>(p,s)
 |g+1,p,aa,s=>
  let j:=mG l e p
  let k:=kd l e j
  if k=0 then(back l p (op+1),⟨s.t,s.d++[⟨9,wu l op,too l op⟩]⟩)
  else if k=(if raw l op=9 then 11 else 10)then(j+1,⟨nN s.t c (j+1),s.d⟩)
  else if ends k=true then qo l e val c op g (j+1) aa (err l s c j (j+1) 8)
  else if k=7 then
   if aa=true then qo l e val c op g (j+1) false ⟨nN s.t c (j+1),s.d⟩
   else qo l e val c op g (j+1) aa (err l s c j (j+1) 8)
  else if aa=true then qo l e val c op g (qi l e j) aa (err l s c j (qi l e j) 8)
  else if 0<key l e j\/begins k=true then qo l e val c op g (item l e val (raw l op==9) c j s).1 true (item l e val (raw l op==9) c j s).2
  else qo l e val c op g (j+1) aa (err l s c j (j+1) 8)
def nM(l:List Tk)(e:Nat):Nat->Int->Nat->St->Int×Nat×St
 |0=>BO l e none
 |d+1=>BO l e (some (λc op s=>qo l e (nM l e d) c op (e-op) (op+1) false s))
end Fl
namespace Fl
open Ar
theorem qR{l:List Tk}{e i:Nat}(h:kd l e i≠0):i<e/\raw l i=kd l e i:=by
 unfold kd at h⊢;split at h
 ·exact absurd rfl h
 rename_i h1;rw[fu h1];exact⟨by omega,rfl⟩
theorem rX(p:Nat->Bool):∀(f i:Nat),i<=p9 p f i
 |0,i=>mJ _
 |f+1,i=>by
  rw[p9];split
  ·have:=rX p f (i+1);omega
  exact mJ _
theorem oW(p:Nat->Bool):∀(f i:Nat),p9 p f i<=i+f
 |0,i=>mJ _
 |f+1,i=>by
  rw[p9];split
  ·have:=oW p f (i+1);omega
  omega
theorem IA(p:Nat->Bool)(f i:Nat)(h:p9 p f i≠i):p i=true:=by
 cases f with
 |zero=>exact absurd rfl h
 |succ f=>
  rw[p9]at h;split at h
  ·rename_i h1;exact h1
  exact absurd rfl h
theorem Gj(p:Nat->Bool):∀(f i:Nat),i<p9 p f i->p (p9 p f i-1)=true
 |0,i=>λh=>absurd h (Lj _)
 |f+1,i=>λh=>by
  rw[p9]at h⊢;split at h
  ·rename_i h1;rw[gu h1];by_cases h2:i+1<p9 p f (i+1)
   ·exact Gj p f (i+1) h2
   have h3:=rX p f (i+1);have h4:p9 p f (i+1)=i+1:=by omega
   rw[h4];exact h1
  exact absurd h (Lj _)
theorem uJ(p:Nat->Bool):∀(f i:Nat),p9 p f i=i+f\/p (p9 p f i)=false
 |0,_=>.inl rfl
 |f+1,i=>by
  rw[p9];split
  ·rcases uJ p f (i+1)with h|h
   ·exact .inl (by omega)
   exact .inr h
  rename_i h;exact .inr (by simpa using h)
theorem qL{l:List Tk}{e i:Nat}(h:i<=e):i<=blanks l e i/\blanks l e i<=e:=by
 have h1:=rX (λj=>raw l j==3) (e-i) i;have h2:=oW (λj=>raw l j==3) (e-i) i;unfold blanks;omega
theorem oZ{l:List Tk}{e i:Nat}(h:i<=e):i<=mG l e i/\mG l e i<=e:=by
 have h1:=rX (λj=>!cnt (raw l j)) (e-i) i;have h2:=oW (λj=>!cnt (raw l j)) (e-i) i;unfold mG;omega
theorem nD(l:List Tk):∀(i m:Nat),back l i m<=i
 |0,m=>mJ _
 |i+1,m=>by
  rw[back];split
  ·have:=nD l i m;omega
  exact mJ _
theorem wG(l:List Tk):∀(i m:Nat),m<=i->m<=back l i m
 |0,m=>λh=>h
 |i+1,m=>λh=>by
  rw[back];split
  ·exact wG l i m (by omega)
  exact h
theorem Cj(l:List Tk):∀(i m:Nat),m<back l i m->cnt (raw l (back l i m-1))=true
 |0,m=>λh=>absurd h (BM _)
 |i+1,m=>λh=>by
  rw[back]at h⊢;split
  ·rename_i h1;rw[gu h1]at h;exact Cj l i m h
  rename_i h1;rw[fu h1]at h;rw[si];cases hc:cnt (raw l i)with
  |true=>rfl
  |false=>exact absurd ⟨h,hc⟩ h1
theorem yg(l:List Tk)(i m:Nat)(h0:0<i)(h:cnt (raw l (i-1))=true):back l i m=i:=by
 cases i with
 |zero=>omega
 |succ i=>rw[back,fu (λh2=>by rw[si]at h;rw[h]at h2;exact absurd h2.2 (by decide))]
theorem Gl(l:List Tk)(e:Nat):∀(f i:Nat),i<=e->i<=props l e f i/\props l e f i<=e
 |0,i=>λh=>⟨mJ _,h⟩
 |f+1,i=>λh=>by
  rw[props];split
  ·rename_i h1;have h2:kd l e i≠0:=λh3=>by rw[h3]at h1;exact absurd h1 (by decide)
   have h3:=(qR h2).1;have h4:=oZ (l:=l) (e:=e) (i:=i+1) (by omega);have:=Gl l e f _ h4.2;omega
  exact⟨mJ _,h⟩
theorem wB{l:List Tk}{e j:Nat}(hj:j<=e)(h:0<key l e j):j<key l e j/\key l e j<=e/\raw l (key l e j-1)=6:=by
 unfold key at h⊢;dsimp only at h⊢;have h1:=Gl l e (e-j) j hj;obtain⟨a,ha⟩:=my (props l e (e-j) j);rw[ha]at h h1⊢;obtain⟨b,hb⟩:=my ((if nL (kd l e a)=true then mG l e (a+1)else a));rw[hb]at h⊢;have hab:a<=b:=by
  rw[<-hb];split
  ·rename_i h2;have h3:kd l e a≠0:=λh4=>by rw[h4]at h2;exact absurd h2 (by decide)
   have:=oZ (l:=l) (e:=e) (i:=a+1) (qR h3).1;omega
  exact mJ _
 split at h
 ·rename_i h2;rw[gu h2];have h3:=qR (l:=l) (e:=e) (i:=b) (by rw[h2];decide);exact⟨by omega,by omega,by rw[si,h3.2,h2]⟩
 omega
theorem JQ(l:List Tk)(e:Nat):∀(f j n r:Nat),AX l e f j n=some r->j<r/\r<=e/\(0<n\/opens (kd l e j)=true->ends (raw l (r-1))=true)
 |0,j,n,r=>λh=>by simp[AX]at h
 |f+1,j,n,r=>λh=>by
  rw[AX]at h;split at h
  ·simp at h
  rename_i h0;have hk:=qR h0;split at h
  ·rename_i h1;injection h with h;subst h
   refine⟨by omega,by omega,λh2=>?_⟩;rw[si,hk.2];unfold step at h1;split at h1
   ·omega
   rename_i h3;split at h1
   ·rename_i h4;exact h4
   rcases h2 with h2|h2
   ·omega
   exact absurd h2 h3
  rename_i h1;obtain⟨g1,g2,g3⟩:=JQ l e f (j+1) _ r h;exact⟨by omega,g2,λ_=>g3 (.inl (by omega))⟩
theorem Bp{k:Nat}(h:ends k=true):cnt k=true:=by
 unfold ends at h;simp at h;rcases h with rfl|rfl<;>rfl
theorem vL{k:Nat}(h:opens k=true):cnt k=true:=by
 unfold opens at h;simp at h;rcases h with rfl|rfl<;>rfl
theorem Gm{k:Nat}(h:nR k=true):cnt k=true:=by
 unfold nR at h;simp at h;rcases h with rfl|rfl<;>rfl
theorem Gn{k:Nat}(h:nL k=true):cnt k=true:=by
 unfold nL at h;simp at h;rcases h with(((rfl|rfl)|rfl)|rfl)<;>rfl
theorem tN{l:List Tk}{e i:Nat}(h:opens (kd l e i)=true):i<balanced l e i/\balanced l e i<=e/\cnt (raw l (balanced l e i-1))=true:=by
 have h0:kd l e i≠0:=λh1=>by rw[h1]at h;exact absurd h (by decide)
 have hk:=qR h0;unfold balanced;cases hb:AX l e (e-i) i 0 with
 |some r=>
  obtain⟨h1,h2,h3⟩:=JQ l e _ _ _ _ hb;exact⟨h1,h2,Bp (h3 (.inr h))⟩
 |none=>
  dsimp only;obtain⟨g,hg⟩:=my (p9 (λj=>kd l e j !=0) (e-i) i);have g1:i<g:=by
   rw[<-hg,show e-i=(e-i-1)+1 by omega,p9,gu (by simpa using h0)];have:=rX (λj=>kd l e j !=0) (e-i-1) (i+1);omega
  have g2:g<=e:=by have:=oW (λj=>kd l e j !=0) (e-i) i;omega
  rw[hg];have b1:=nD l g (i+1);have b2:=wG l g (i+1) (by omega);refine⟨by omega,by omega,?_⟩;by_cases hb:i+1<back l g (i+1)
  ·exact Cj l g (i+1) hb
  have:back l g (i+1)=i+1:=by omega
  rw[this,si,hk.2];exact vL h
theorem zi{l:List Tk}{e i:Nat}(h:kd l e i=18):i<text l e i/\text l e i<=e/\cnt (raw l (text l e i-1))=true:=by
 have hk:=qR (l:=l) (e:=e) (i:=i) (by rw[h];decide);unfold text;dsimp only;obtain⟨j,hj⟩:=my (p9 (λj=>!cnt (raw l j)&&raw l j !=1) (e-(i+1)) (i+1));have j1:i+1<=j:=by rw[<-hj];exact rX _ _ _
 rw[hj];split
 ·refine⟨by omega,by omega,?_⟩;rw[si,hk.2,h];rfl
 rename_i h1;have a1:j+1<e:=by omega
 have a2:raw l (j+1)=19:=by
  by_cases h2:raw l (j+1)=19
  ·exact h2
  exact absurd (.inr (.inr (.inr h2))) h1
 obtain⟨r,hr⟩:=my (p9 (λj=>raw l j==19) (e-(j+1)) (j+1));have r1:j+1<r:=by
  rw[<-hr,show e-(j+1)=(e-(j+1)-1)+1 by omega,p9,gu (by simpa using a2)];have:=rX (λj=>raw l j==19) (e-(j+1)-1) (j+1+1);omega
 have r2:r<=e:=by have:=oW (λj=>raw l j==19) (e-(j+1)) (j+1);omega
 have r3:=Gj (λj=>raw l j==19) (e-(j+1)) (j+1) (by omega);rw[hr]at r3⊢;refine⟨by omega,r2,?_⟩;have r3:raw l (r-1)=19:=by simpa using r3
 rw[r3];rfl
theorem Ag(l:List Tk)(e:Nat):∀(f j n:Nat),j<=rO l e f j n/\(j<=e->rO l e f j n<=e)
 |0,j,n=>⟨mJ _,id⟩
 |f+1,j,n=>by
  rw[rO];split
  ·exact⟨mJ _,id⟩
  rename_i h0;have:=qR h0;split
  ·exact⟨mJ _,id⟩
  have ih:=Ag l e f (j+1) (step (kd l e j) n);exact⟨by omega,λ_=>ih.2 (by omega)⟩
theorem zz{l:List Tk}{e j:Nat}(h0:kd l e j≠0)(hc:cnt (raw l j)=true)(h7:kd l e j≠7)(he:ends (kd l e j)=false):j<qi l e j/\qi l e j<=e/\cnt (raw l (qi l e j-1))=true:=by
 have hk:=qR h0;unfold qi;obtain⟨g,hg⟩:=my (rO l e (e-j) j 0);have g1:j<g:=by
  rw[<-hg,show e-j=(e-j-1)+1 by omega,rO,fu h0,fu (by rw[he];simp[h7])];have:=(Ag l e (e-j-1) (j+1) (step (kd l e j) 0)).1;omega
 have g2:g<=e:=by rw[<-hg];exact(Ag l e _ _ _).2 (by omega)
 rw[hg];have b1:=nD l g (j+1);have b2:=wG l g (j+1) (by omega);refine⟨by omega,by omega,?_⟩;by_cases hb:j+1<back l g (j+1)
 ·exact Cj l g (j+1) hb
 have:back l g (j+1)=j+1:=by omega
 rw[this,si];exact hc
theorem zk(l:List Tk)(e lo:Nat):∀(f:Nat)(o:Option (Nat×Nat))(i:Nat),lo<=i->i<=e->(∀a z,o=some (a,z)->lo<=a/\a<=z/\z<i/\nR (raw l z)=true)->
 i<=(lead l e f o i).2/\(lead l e f o i).2<=e/\(∀a z,(lead l e f o i).1=some (a,z)->lo<=a/\a<=z/\z<(lead l e f o i).2/\nR (raw l z)=true)/\
  ((lead l e f o i).1=none->o=none/\(lead l e f o i).2=i/\(0<f->nR (kd l e i)=false))
 |0,o,i=>λh1 h2 h3=>⟨mJ _,h2,h3,λh=>⟨h,rfl,λh=>absurd h (Lj _)⟩⟩
 |f+1,o,i=>λh1 h2 h3=>by
  rw[lead];split
  ·rename_i hp;have h0:kd l e i≠0:=λh4=>by rw[h4]at hp;exact absurd hp (by decide)
   have hk:=qR h0;have hb:=qL (l:=l) (e:=e) (i:=i+1) (by omega)
   have ih:=zk l e lo f (some (nS o i,i)) (blanks l e (i+1)) (by omega) hb.2 (λa z h=>by
    injection h with h
    injection h with ha hz
    subst hz;refine⟨?_,?_,by omega,by rw[hk.2];exact hp⟩
    ·cases o with
     |none=>simp only[nS]at ha;omega
     |some x=>obtain⟨x1,x2⟩:=x;have:=h3 x1 x2 rfl;simp only[nS]at ha;omega
    cases o with
    |none=>simp only[nS]at ha;omega
    |some x=>obtain⟨x1,x2⟩:=x;have:=h3 x1 x2 rfl;simp only[nS]at ha;omega)
   refine⟨by omega,ih.2.1,ih.2.2.1,λh=>?_⟩;have:=(ih.2.2.2 h).1;simp at this
  rename_i hp;exact⟨mJ _,h2,h3,λh=>⟨h,rfl,λ_=>by simpa using hp⟩⟩
end Fl
end Go.Proofs.Ytfbiffdmhcjhbaa

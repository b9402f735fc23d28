import Derived.Test.YtmkkdjpebbdikaaGreatDoorZn01
import Derived.Test.YtmkkdjpebbdikaaGreatDoorChecked
set_option linter.all false
set_option maxHeartbeats 16000000
set_option maxRecDepth 100000
namespace Go.Proofs.YtmkkdjpebbdikaaGreatDoor
open Go.RowKit Tryz
namespace Ar
structure Nd where
 k:Int
 f:Int
 t:Int
 u:Int
 ks:List Int
 y:Bool
def gV(n:Int):List Nd:=[⟨1,0,if n<0\/32768<n then 0 else n,-1,[],false⟩]
def lC:Nat->List Nd->Int->Int->List Nd
 |0,l,_,_=>l
 |f+1,l,k,jr=>if k<0 then l else match l[k.toNat]? with
  |none=>l
  |some x=>lC f (l.set k.toNat {x with t:=max x.t jr }) x.u jr
def iG(l:List Nd)(k jr:Int):List Nd:=lC (l.length+1) l k jr
def firstT(l:List Nd):Int:=match l with
 |[]=>0
 |x::_=>x.t
def Q3(l:List Nd)(i:Int):Int:=match l[i.toNat]? with
 |some x=>x.t
 |none=>0
def iH(l:List Nd)(up kind f t:Int):Bool:=
 !(decide (up<0)||decide ((l.length:Int)<=up)||decide (kind<1)||decide (11<kind)||decide (t<f)||decide (firstT l<t))&&
 match l[up.toNat]? with
 |none=>false
 |some p=>!(decide (f<p.f))&&match p.ks.getLast? with
  |none=>true
  |some z=>!(decide (f<Q3 l z))
def addN(l:List Nd)(up kind f t:Int):List Nd×Int:=
 if iH l up kind f t=true then
  match l[up.toNat]? with
  |none=>(l,-1)
  |some p=>(iG ((l++[(⟨kind,f,t,up,[],false⟩:Nd)]).set up.toNat {p with ks:=p.ks++[(l.length:Int)]}) up t,l.length)
 else(l,-1)
def yX(l:List Nd)(i t:Int):Bool:=!(decide (i<0)||decide ((l.length:Int)<=i)||decide (firstT l<t))
def jg(l:List Nd)(i t:Int):List Nd:=if yX l i t=true then iG l i t else l
structure eu(l:List Nd):Prop where
 pos:0<l.length
 up:∀(i:Nat)(x:Nd),l[i]?=some x->-1<=x.u/\x.u<i
 kid:∀(i:Nat)(x:Nd),l[i]?=some x->∀z∈x.ks,0<=z/\z<l.length
 ext:∀(i:Nat)(x:Nd),l[i]?=some x->∀z∈x.ks,∀y,l[z.toNat]?=some y->x.f<=y.t
theorem tT{l:List Nd}(h:eu l)(i:Nat)(x:Nd)(hx:l[i]?=some x)(t:Int)(ht:x.t<=t):eu (l.set i {x with t:=t}):=by
 have hi:=(gD.1 hx).1;have key:∀(j:Nat)(y:Nd),(l.set i {x with t:=t})[j]?=some y->∃y',l[j]?=some y'/\y.f=y'.f/\y.ks=y'.ks/\y'.t<=y.t:=by
  intro j y hy;rw[nW]at hy;split at hy
  ·rename_i e;subst e;injection hy with hy;subst hy
   exact⟨x,hx,rfl,rfl,ht⟩
  exact⟨y,hy,rfl,rfl,jq _⟩
 refine⟨by rw[lT];exact h.pos,λj y hy=>?_,λj y hy=>?_,λj y hy z hz y2 hy2=>by
  obtain⟨y',h1,h2,h3,_⟩:=key j y hy;obtain⟨aa,h4,_,_,h5⟩:=key _ y2 hy2;rw[h3]at hz;have:=h.ext j y' h1 z hz aa h4
  rw[h2];omega⟩
 ·rw[nW]at hy;split at hy
  ·rename_i e;subst e;injection hy with hy;subst hy
   exact h.up i x hx
  exact h.up j y hy
 rw[lT];rw[nW]at hy;split at hy
 ·rename_i e;subst e;injection hy with hy;subst hy
  exact h.kid i x hx
 exact h.kid j y hy
theorem AB:∀(f:Nat)(l:List Nd)(k t:Int),eu l->eu (lC f l k t)/\(lC f l k t).length=l.length
 |0,l,k,t=>λh=>⟨h,rfl⟩
 |f+1,l,k,t=>λh=>by
  rw[lC];by_cases hk:k<0
  ·rw[eY hk];exact⟨h,rfl⟩
  rw[eX hk];cases hx:l[k.toNat]? with
  |none=>exact⟨h,rfl⟩
  |some x=>
   have ih:=AB f _ x.u t (tT h k.toNat x hx (max x.t t) (Hm _ _));exact⟨ih.1,by rw[ih.2,lT]⟩
theorem AF:∀(f g:Nat)(l:List Nd)(k t:Int),eu l->k<f->k<g->lC f l k t=lC g l k t
 |0,g,l,k,t=>λh h1 h2=>by
  rw[lC];cases g with
  |zero=>rfl
  |succ g=>rw[lC,eY (by omega)]
 |f+1,0,l,k,t=>λh h1 h2=>by
  rw[lC,lC,eY (by omega)]
 |f+1,g+1,l,k,t=>λh h1 h2=>by
  rw[lC,lC];by_cases hk:k<0
  ·rw[eY hk,eY hk]
  rw[eX hk,eX hk];cases hx:l[k.toNat]? with
  |none=>rfl
  |some x=>
   have hu:=(h.up _ x hx).2;exact AF f g _ x.u t (tT h k.toNat x hx _ (Hm _ _)) (by omega) (by omega)
theorem AJ(l:List Nd)(k t:Int)(x:Nd)(h:eu l)(hk:0<=k)(hx:l[k.toNat]?=some x):iG l k t=iG (l.set k.toNat {x with t:=max x.t t}) x.u t:=by
 have hi:=(gD.1 hx).1;unfold iG;rw[lC,eX (by omega),hx];dsimp only;have hu:=(h.up _ x hx).2;exact AF _ _ _ _ _ (tT h k.toNat x hx _ (Hm _ _)) (by omega) (by rw[lT];omega)
theorem AL(l:List Nd)(k t:Int)(hk:k<0):iG l k t=l:=by
 unfold iG;rw[lC,eY hk]
theorem pP{l:List Nd}(k t:Int)(h:eu l):(iG l k t).length=l.length:=(AB _ l k t h).2
theorem xP{l:List Nd}{up kind f t:Int}(h:iH l up kind f t=true):0<=up/\up<l.length/\∃p,l[up.toNat]?=some p:=by
 unfold iH at h;cases hp:l[up.toNat]? with
 |none=>rw[hp]at h;simp at h
 |some p=>
  rw[hp]at h;simp at h;exact⟨by omega,by omega,p,rfl⟩
theorem Dl{l:List Nd}{up kind f t:Int}{p:Nd}(h:iH l up kind f t=true)(hp:l[up.toNat]?=some p):p.f<=t/\f<=t:=by
 unfold iH at h;rw[hp]at h;simp at h;omega
theorem wS{l:List Nd}(h:eu l)(up kind f t:Int)(p:Nd)(h0:0<=up)(hp:l[up.toNat]?=some p)(hf:p.f<=t):
 eu ((l++[(⟨kind,f,t,up,[],false⟩:Nd)]).set up.toNat {p with ks:=p.ks++[(l.length:Int)]}):=by
 have hi:=(gD.1 hp).1;have hlen:((l++[(⟨kind,f,t,up,[],false⟩:Nd)]).set up.toNat {p with ks:=p.ks++[(l.length:Int)]}).length=l.length+1:=by simp
 have key:∀j y,((l++[(⟨kind,f,t,up,[],false⟩:Nd)]).set up.toNat {p with ks:=p.ks++[(l.length:Int)]})[j]?=some y->(j=up.toNat/\y={p with ks:=p.ks++[(l.length:Int)]})\/(j≠up.toNat/\l[j]?=some y)\/(j=l.length/\y=⟨kind,f,t,up,[],false⟩):=by
  intro j y hy;rw[nW]at hy;split at hy
  ·rename_i e;subst e;try rw[eY (by simp;omega)]at hy
   injection hy with hy
   exact .inl ⟨rfl,hy.symm⟩
  rename_i e;rcases Hw j l.length with hj|hj|hj
  ·rw[oD hj]at hy;exact .inr (.inl ⟨λh=>e h.symm,hy⟩)
  ·subst hj;rw[oM (fB _)]at hy;simp at hy;exact .inr (.inr ⟨rfl,hy.symm⟩)
  rw[rC (by simp;omega)]at hy;cases hy
 refine⟨by omega,λj y hy=>?_,λj y hy z hz=>?_,λj y hy z hz y2 hy2=>by
  have old:∀(q:Nd)(j:Nat),l[j]?=some q->z∈q.ks->q.f<=y2.t:=λq j hq aa=>by
   have hb:=h.kid j q hq z aa;rcases key _ y2 hy2 with⟨e,rfl⟩|⟨_,h4⟩|⟨e,_⟩
   ·exact h.ext j q hq z aa p (by rw[e];exact hp)
   ·exact h.ext j q hq z aa y2 h4
   omega
  rcases key j y hy with⟨rfl,rfl⟩|⟨_,hy⟩|⟨rfl,rfl⟩
  ·rcases mU.1 hz with hz|hz
   ·exact old p _ hp hz
   obtain rfl:z=(l.length:Int):=by simpa using hz
   rcases key _ y2 hy2 with⟨e,rfl⟩|⟨_,h4⟩|⟨e,rfl⟩
   ·have:up.toNat=l.length:=by omega
    omega
   ·have:=(gD.1 h4).1;omega
   exact hf
  ·exact old y j hy hz
  simp at hz⟩
 ·rcases key j y hy with⟨rfl,rfl⟩|⟨_,hy⟩|⟨rfl,rfl⟩
  ·exact h.up _ p hp
  ·exact h.up j y hy
  exact⟨by show -1<=up;omega,by show up<_;omega⟩
 rw[hlen];rcases key j y hy with⟨rfl,rfl⟩|⟨_,hy⟩|⟨rfl,rfl⟩
 ·rcases mU.1 hz with hz|hz
  ·have:=h.kid _ p hp z hz;omega
  simp at hz;omega
 ·have:=h.kid j y hy z hz;omega
 simp at hz
theorem OL{l:List Nd}(h:eu l)(i t:Int):(jg l i t).length=l.length:=by
 unfold jg;split
 ·exact pP _ _ h
 rfl
end Ar
namespace Ar
def Nk(l:List Nd)(a b:Int):Prop:=a<b/\∀x y,l[a.toNat]?=some x->l[b.toNat]?=some y->x.t<=y.f
structure KW(Q:Nat->Int->Prop)(l:List Nd)(n:Int):Prop where
 first:∃x r,l=x::r/\x.k=1/\x.f=0/\x.t=n/\x.u=-1/\0<=n
 up:∀(i:Nat)(x:Nd),0<i->l[i]?=some x->0<=x.u/\x.u<i
 kid:∀(i:Nat)(x:Nd),l[i]?=some x->∀z∈x.ks,∃(j:Nat)(y:Nd),z=(j:Int)/\0<j/\l[j]?=some y/\y.u=(i:Int)/\x.f<=y.f/\y.f<=y.t/\(y.t<=x.t\/Q i y.t)
 ord:∀(i:Nat)(x:Nd),l[i]?=some x->x.ks.Pairwise (Nk l)
 seen:∀i:Nat,0<i->i<l.length->(l.flatMap (·.ks)).countP (λz=>z==(i:Int))=1
abbrev Ck(l:List Nd)(n:Int):Prop:=KW (λ_ _=>False) l n
theorem KW.pos{Q:Nat->Int->Prop}{l:List Nd}{n:Int}(h:KW Q l n):0<l.length:=by
 obtain⟨x,r,rfl,_⟩:=h.first;simp
theorem KW.zero{Q:Nat->Int->Prop}{l:List Nd}{n:Int}(h:KW Q l n):∃x,l[0]?=some x/\x.t=n/\x.u=-1/\x.f=0:=by
 obtain⟨x,r,rfl,_,h1,h2,h3,_⟩:=h.first;exact⟨x,rfl,h2,h3,h1⟩
theorem KW.firstT{Q:Nat->Int->Prop}{l:List Nd}{n:Int}(h:KW Q l n):firstT l=n:=by
 obtain⟨x,r,rfl,_,_,h2,_⟩:=h.first;exact h2
theorem KW.good{Q:Nat->Int->Prop}{l:List Nd}{n:Int}(h:KW Q l n):eu l:=by
 refine⟨h.pos,λi x hx=>?_,λi x hx z hz=>?_,λi x hx z hz y hy=>?_⟩
 ·rcases uB i with rfl|hi
  ·obtain⟨x',h1,_,h3,_⟩:=h.zero;rw[h1]at hx;injection hx with hx;subst hx;omega
  have:=h.up i x hi hx;omega
 ·obtain⟨j,y,rfl,h0,hy,_⟩:=h.kid i x hx z hz;have:=(gD.1 hy).1;omega
 obtain⟨j,y',rfl,h0,hy',h1,h2,h3,_⟩:=h.kid i x hx z hz;rw[jk,hy']at hy;injection hy with hy;subst hy;omega
theorem NI(n:Int)(h0:0<=n)(h1:n<=32768):Ck (gV n) n:=by
 have hn:gV n=[⟨1,0,n,-1,[],false⟩]:=by unfold gV;rw[eX (by omega)]
 rw[hn];have hx:∀(i:Nat)(x:Nd),[(⟨1,0,n,-1,[],false⟩:Nd)][i]?=some x->i=0/\x=⟨1,0,n,-1,[],false⟩:=by
  intro i x h;cases i with
  |zero=>exact⟨rfl,by simpa using h.symm⟩
  |succ i=>simp at h
 refine⟨⟨_,_,rfl,rfl,rfl,rfl,rfl,h0⟩,λi x hi h=>?_,λi x h z hz=>?_,λi x h=>?_,λi hi h=>?_⟩
 ·obtain⟨rfl,_⟩:=hx i x h;omega
 ·obtain⟨rfl,rfl⟩:=hx i x h;simp at hz
 ·obtain⟨rfl,rfl⟩:=hx i x h;exact .nil
 simp at h;omega
inductive On(l:List Nd):Nat->Nat->Prop
 |self (c:Nat):On l c c
 |out (c p i:Nat) (x:Nd):l[c]?=some x->x.u=(p:Int)->0<c->On l p i->On l c i
theorem On.mono{l l':List Nd}{c i:Nat}(h:∀(d:Nat)(x:Nd),l[d]?=some x->∃x',l'[d]?=some x'/\x'.u=x.u)(ho:On l c i):On l' c i:=by
 induction ho with
 |self=>exact .self _
 |out d q i x hd hq h00 ho ih=>
  obtain⟨x',h1,h2⟩:=h d x hd;exact .out d q i x' h1 (by rw[h2];exact hq) h00 ih
theorem On.low{l:List Nd}{c i:Nat}(ho:On l c i)(hg:eu l):i<=c:=by
 induction ho with
 |self=>exact fB _
 |out d q i x hd hq h00 ho ih=>have:=hg.up d x hd;omega
inductive Sp(l:List Nd)(e:Int):Nat->Prop
 |root:Sp l e 0
 |up (c p:Nat) (x y:Nd):0<c->l[c]?=some x->l[p]?=some y->x.u=(p:Int)->y.ks.getLast?=some (c:Int)->x.t<=e->Sp l e p->Sp l e c
theorem Sp.le{l:List Nd}{e e':Int}{c:Nat}(h:Sp l e c)(he:e<=e'):Sp l e' c:=by
 induction h with
 |root=>exact .root
 |up c p x y h0 hx hy hu hl ht _ ih=>exact .up c p x y h0 hx hy hu hl (by omega) ih
theorem tV:∀(c:Nat)(l:List Nd)(t:Int),eu l->c<l.length->∀(i:Nat)(x:Nd),l[i]?=some x->
 ∃x',(iG l c t)[i]?=some x'/\((On l c i/\x'={x with t:=max x.t t})\/(¬On l c i/\x'=x)):=by
 intro c
 induction c using Nat.strongRecOn with
 |ind c ih=>
  intro l t hg hc i x hx;obtain⟨z,hz⟩:=jB l c hc;have hu:=hg.up c z hz;rw[AJ l c t z hg (by omega) (by rw[jk];exact hz),jk];have hg':=tT hg c z hz (max z.t t) (Hm _ _);have hset:∀(j:Nat),(l.set c {z with t:=max z.t t})[j]?=if c=j then some {z with t:=max z.t t}else l[j]?:=by
   intro j;by_cases e:c=j
   ·subst e;rw[wu hc,eY rfl]
   rw[wo e,eX e]
  by_cases h0:z.u<0
  ·
   rw[AL _ _ _ h0];by_cases e:c=i
   ·subst e;rw[hz]at hx;injection hx with hx;subst hx
    exact⟨_,by rw[hset,eY rfl],.inl ⟨.self _,rfl⟩⟩
   refine⟨x,by rw[hset,eX e];exact hx,.inr ⟨λh=>?_,rfl⟩⟩;cases h with
   |self=>exact e rfl
   |out _ p _ x1 hc' hp h00 ho=>
    rw[hz]at hc';injection hc' with hc';subst hc';omega
  
  obtain⟨p,hp⟩:∃p:Nat,z.u=(p:Int):=⟨z.u.toNat,by omega⟩
  have hpc:p<c:=by omega
  have aa:∀L:List Nd,iG L z.u t=iG L (p:Int) t:=λL=>by rw[hp]
  rw[aa];have hon:∀j,On (l.set c {z with t:=max z.t t}) p j↔On l p j:=by
   intro j;constructor
   ·refine On.mono (λd y hd=>?_);rw[hset]at hd;split at hd
    ·rename_i e;subst e;injection hd with hd;subst hd
     exact⟨z,hz,rfl⟩
    exact⟨y,hd,rfl⟩
   refine On.mono (λd y hd=>?_);by_cases e:c=d
   ·subst e;rw[hz]at hd;injection hd with hd;subst hd
    exact⟨{z with t:=max z.t t},by rw[hset,eY rfl],rfl⟩
   exact⟨y,by rw[hset,eX e];exact hd,rfl⟩
  have hlow:∀d j,On l d j->d<c->j≠c:=λd j h hd=>by have:=h.low hg;omega
  by_cases e:c=i
  ·subst e;rw[hz]at hx;injection hx with hx;subst hx
   obtain⟨x',h1,h2⟩:=ih p hpc _ t hg' (by rw[lT];omega) c _ (by rw[hset,eY rfl]);rcases h2 with⟨h2,_⟩|⟨_,h2⟩
   ·exact absurd rfl (hlow p c ((hon c).1 h2) hpc)
   exact⟨x',h1,.inl ⟨.self _,h2⟩⟩
  obtain⟨x',h1,h2⟩:=ih p hpc _ t hg' (by rw[lT];omega) i x (by rw[hset,eX e];exact hx);refine⟨x',h1,?_⟩;have h00:0<c:=by omega
  rcases h2 with⟨h2,h3⟩|⟨h2,h3⟩
  ·exact .inl ⟨.out c p i z hz hp h00 ((hon i).1 h2),h3⟩
  refine .inr ⟨λh=>h2 ((hon i).2 ?_),h3⟩;cases h with
  |self=>exact absurd rfl e
  |out _ p' _ x1 hc' hp' ae ho=>
   rw[hz]at hc';injection hc' with hc';subst hc'
   obtain rfl:p'=p:=by omega
   exact ho
end Ar
namespace Ar
def RN(x x':Nd):Prop:=x'.k=x.k/\x'.f=x.f/\x'.u=x.u/\x'.ks=x.ks/\x'.y=x.y
theorem On.next{l:List Nd}{c i j:Nat}{y:Nd}(h:On l c j)(hy:l[j]?=some y)(hu:y.u=(i:Int))(h0:0<j):On l c i:=by
 induction h with
 |self c=>exact .out c i i y hy hu h0 (.self i)
 |out d q j x hd hq h00 ho ih=>exact .out d q i x hd hq h00 (ih hy h0)
theorem Sp.on{l:List Nd}{e:Int}{c i:Nat}(ho:On l c i):Sp l e c->Sp l e i:=by
 induction ho with
 |self c=>exact id
 |out d q i x hd hq h00 ho ih=>
  intro hs;cases hs with
  |root=>omega
  |up _ p x1 y h0 hx hy hu hl ht hsp=>
   rw[hd]at hx;injection hx with hx;subst hx
   obtain rfl:p=q:=by omega
   exact ih hsp
theorem xY{l:List Nd}:∀(ks:List Int)(z:Int),ks.Pairwise (Nk l)->ks.getLast?=some z->∀b∈ks,b<=z
 |[],z=>λ_ h=>by simp at h
 |[a],z=>λ_ h b hb=>by
  simp at h hb;omega
 |a::a'::r,z=>λho h b hb=>by
  rw[zF]at ho;have hz:(a'::r).getLast?=some z:=by rw[Vn]at h;exact h
  have ih:=xY (a'::r) z ho.2 hz;rcases l5.1 hb with rfl|hb
  ·have h1:=(ho.1 a' (by simp)).1;have h2:=ih a' (by simp);omega
  exact ih b hb
theorem Fg{n b t:Int}{c:Nat}{l:List Nd}(h:KW (λi y=>On l c i/\y<=t) l n)(hs:Sp l b c)(hc:c<l.length)(htn:t<=n):
 Ck (iG l c t) n/\(∀d,Sp l b d->Sp (iG l c t) (max b t) d)/\(iG l c t).length=l.length/\
 (∀(i:Nat)(x:Nd),l[i]?=some x->∃x',(iG l c t)[i]?=some x'/\RN x x'/\((On l c i/\x'.t=max x.t t)\/(¬On l c i/\x'.t=x.t))):=by
 have hg:=h.good;have hlen:=pP (l:=l) c t hg;have H:=tV c l t hg hc;obtain⟨r,hr⟩:=fq (iG l c t);rw[hr]at hlen H⊢;have G:∀(i:Nat)(x:Nd),l[i]?=some x->∃x',r[i]?=some x'/\RN x x'/\((On l c i/\x'.t=max x.t t)\/(¬On l c i/\x'.t=x.t)):=by
  intro i x hx;obtain⟨x',h1,h2⟩:=H i x hx;rcases h2 with⟨h2,rfl⟩|⟨h2,rfl⟩
  ·exact⟨_,h1,⟨rfl,rfl,rfl,rfl,rfl⟩,.inl ⟨h2,rfl⟩⟩
  exact⟨_,h1,⟨rfl,rfl,rfl,rfl,rfl⟩,.inr ⟨h2,rfl⟩⟩
 have B:∀(i:Nat)(x':Nd),r[i]?=some x'->∃x,l[i]?=some x/\RN x x'/\((On l c i/\x'.t=max x.t t)\/(¬On l c i/\x'.t=x.t)):=by
  intro i x' hx';have hi:=(gD.1 hx').1;obtain⟨x,hx⟩:=jB l i (by omega);obtain⟨y,h1,h2⟩:=G i x hx;rw[hx']at h1;injection h1 with h1;subst h1
  exact⟨x,hx,h2⟩
 refine⟨⟨?_,?_,?_,?_,?_⟩,?_,hlen,G⟩
 ·obtain⟨x,q,rfl,h1,h2,h3,h4,h5⟩:=h.first;obtain⟨x',g1,⟨e1,e2,e3,e4,e5⟩,g2⟩:=G 0 x rfl;cases r with
  |nil=>simp at g1
  |cons y q' =>
   simp at g1;subst g1;refine⟨_,_,rfl,by omega,by omega,?_,by omega,h5⟩;rcases g2 with⟨_,g2⟩|⟨_,g2⟩<;>omega
 ·intro i x' hi hx';obtain⟨x,hx,⟨e1,e2,e3,e4,e5⟩,_⟩:=B i x' hx';rw[e3];exact h.up i x hi hx
 ·intro i x' hx' z hz;obtain⟨x,hx,⟨e1,e2,e3,e4,e5⟩,g2⟩:=B i x' hx';rw[e4]at hz;obtain⟨j,y,rfl,h0,hy,k1,k2,k3,k4⟩:=h.kid i x hx z hz;obtain⟨y',hy',⟨d1,d2,d3,d4,d5⟩,g3⟩:=G j y hy;refine⟨j,y',rfl,h0,hy',by omega,by omega,by rcases g3 with⟨_,g3⟩|⟨_,g3⟩<;>omega,.inl ?_⟩;rcases g3 with⟨o,g3⟩|⟨_,g3⟩
  ·rcases g2 with⟨_,g2⟩|⟨no,_⟩
   ·rcases k4 with k4|⟨_,k4⟩<;>omega
   exact absurd (o.next hy k1 h0) no
  rcases g2 with⟨_,g2⟩|⟨no,g2⟩
  ·rcases k4 with k4|⟨_,k4⟩<;>omega
  rcases k4 with k4|⟨k4,_⟩
  ·omega
  exact absurd k4 no
 ·intro i x' hx';obtain⟨x,hx,⟨e1,e2,e3,e4,e5⟩,g2⟩:=B i x' hx';rw[e4];have ho:=h.ord i x hx;refine ho.imp_of_mem (fun{a b} ha hb hab=>⟨hab.1,λxa yb hxa hyb=>?_⟩);obtain⟨ja,ya,rfl,a0,hya,a1,a2,a3,a4⟩:=h.kid i x hx a ha;rw[jk]at hxa;obtain⟨aa,q1,⟨_,_,_,_,_⟩,q2⟩:=B ja xa hxa;obtain⟨ae,p1,⟨_,p2,_,_,_⟩,_⟩:=B b.toNat yb hyb;have hle:=hab.2 aa ae (by rw[jk];exact q1) p1;rcases q2 with⟨o,q2⟩|⟨_,q2⟩
  ·exfalso;have hsa:=Sp.on o hs;cases hsa with
   |root=>omega
   |up _ p x1 y h0 hx1 hy1 hu hl ht hsp=>
    rw[hya]at hx1;injection hx1 with hx1;subst hx1
    obtain rfl:p=i:=by omega
    rw[hx]at hy1;injection hy1 with hy1;subst hy1
    have:=xY x.ks _ ho hl b hb;have:=hab.1;omega
  omega
 ·intro i hi hil;have hm:r.map (·.ks)=l.map (·.ks):=by
   refine sN (λi=>?_);rw[lS,lS];cases hx:l[i]? with
   |none=>
    have:r[i]?=none:=by rw[wm]at hx⊢;omega
    rw[this]
   |some x=>
    obtain⟨x',g1,⟨_,_,_,e4,_⟩,_⟩:=G i x hx;rw[g1];simp[e4]
  rw[Rl,hm,<-Rl];exact h.seen i hi (by omega)
 intro d hd
 induction hd with
 |root=>exact .root
 |up d p x y h0 hx hy hu hl ht hsp ih=>
  obtain⟨x',g1,⟨_,_,e3,_,_⟩,g2⟩:=G d x hx;obtain⟨y',k1,⟨_,_,_,d4,_⟩,_⟩:=G p y hy;exact .up d p x' y' h0 g1 k1 (by rw[e3];exact hu) (by rw[d4];exact hl) (by rcases g2 with⟨_,g2⟩|⟨_,g2⟩<;>omega) ih
structure Fits(l:List Nd)(e b:Int)(c:Nat):Prop where
 lt:c<l.length
 sp:Sp l b c
 here:∀x,l[c]?=some x->x.f<=e/\∀z∈x.ks,∀y,l[z.toNat]?=some y->y.t<=e
theorem Fits.le{l:List Nd}{e e' b b':Int}{c:Nat}(h:Fits l e b c)(he:e<=e')(hb:b<=b'):Fits l e' b' c:=
 ⟨h.lt,h.sp.le hb,λx hx=>⟨by have:=(h.here x hx).1;omega,λz hz y hy=>by have:=(h.here x hx).2 z hz y hy;omega⟩⟩
theorem Ck.toQ{l:List Nd}{n:Int}(h:Ck l n)(Q:Nat->Int->Prop):KW Q l n:=
 ⟨h.first,h.up,λi x hx z hz=>by obtain⟨j,y,h1,h2,h3,h4,h5,h6,h7⟩:=h.kid i x hx z hz;exact⟨j,y,h1,h2,h3,h4,h5,h6,.inl (h7.elim id False.elim)⟩,h.ord,h.seen⟩
theorem Jw{l:List Nd}{n e b t:Int}{c:Nat}(h:Ck l n)(hf:Fits l e b c)(he:e<=t)(hb:b<=t)(htn:t<=n):
 Ck (jg l c t) n/\Fits (jg l c t) t t c/\(jg l c t).length=l.length/\(∀(i:Nat)(x:Nd),l[i]?=some x->∃x',(jg l c t)[i]?=some x'/\RN x x'):=by
 have hg:jg l c t=iG l c t:=by
  unfold jg yX;have hl:=hf.lt;rw[h.firstT,show decide ((c:Int)<0)=false from jE (by omega),show decide ((l.length:Int)<=(c:Int))=false from jE (by omega),show decide (n<t)=false from jE (by omega)];rfl
 rw[hg];obtain⟨h1,h2,h3,h4⟩:=Fg (h.toQ _) (hf.sp.le hb) hf.lt htn;have aa:=(h2 c (hf.sp.le hb)).le (e':=t) (by omega);refine⟨h1,⟨by rw[h3];exact hf.lt,aa,λx' hx'=>?_⟩,h3,λi x hx=>by obtain⟨x',a,b,_⟩:=h4 i x hx;exact⟨x',a,b⟩⟩;obtain⟨x,hx⟩:=jB l c hf.lt;obtain⟨x2,a,⟨_,b2,_,b4,_⟩,b⟩:=h4 c x hx;rw[hx']at a;injection a with a;subst a
 refine⟨by have:=(hf.here x hx).1;omega,λz hz y' hy'=>?_⟩;rw[b4]at hz;obtain⟨j,y,rfl,j0,hy,_⟩:=h.kid c x hx z hz;rw[jk]at hy';obtain⟨y2,c1,_,c3⟩:=h4 j y hy;rw[hy']at c1;injection c1 with c1;subst c1
 have:=(hf.here x hx).2 _ hz y (by rw[jk];exact hy);rcases c3 with⟨_,c3⟩|⟨_,c3⟩<;>omega
end Ar
namespace Ar
theorem Cf(P:Int->Bool)(z:Int):∀(l:List Nd)(i:Nat)(x:Nd),l[i]?=some x->
 ((l.set i {x with ks:=x.ks++[z]}).flatMap (·.ks)).countP P=(l.flatMap (·.ks)).countP P+(if P z then 1 else 0)
 |[],i,x=>λh=>by simp at h
 |a::r,0,x=>λh=>by
  have h:a=x:=by simpa using h
  subst h;simp only[fP,Da,zD,yH,BA];split<;>omega
 |a::r,i+1,x=>λh=>by
  have ih:=Cf P z r i x (by simpa using h);simp only[fO,Da,zD]at ih⊢;omega
theorem yY{l:List Nd}{n e b f t kind:Int}{up:Nat}{p:Nd}(h:Ck l n)(hf:Fits l e b up)(hp:l[up]?=some p)(he:e<=f)(hft:f<=t)(htn:t<=n)(hk1:1<=kind)(hk2:kind<=11):iH l up kind f t=true:=by
 have hl:=hf.lt;unfold iH
 rw[h.firstT,jk,hp,show decide ((up:Int)<0)=false from jE (by omega),show decide ((l.length:Int)<=(up:Int))=false from jE (by omega),
  show decide (kind<1)=false from jE (by omega),show decide (11<kind)=false from jE (by omega),show decide (t<f)=false from jE (by omega),show decide (n<t)=false from jE (by omega)]
 dsimp only;rw[show decide (f<p.f)=false from jE (by have:=(hf.here p hp).1;omega)];cases hz:p.ks.getLast? with
 |none=>rfl
 |some z=>
  have hm:z∈p.ks:=KM hz;obtain⟨j,y,rfl,j0,hy,_⟩:=h.kid up p hp z hm;have h1:=(hf.here p hp).2 _ hm y (by rw[jk];exact hy);have h2:Q3 l (j:Int)=y.t:=by unfold Q3;rw[jk,hy]
  dsimp only;rw[h2,show decide (f<y.t)=false from jE (by omega)];rfl
theorem Dm{l:List Nd}{n e b f t kind:Int}{up:Nat}(h:Ck l n)(hf:Fits l e b up)(he:e<=f)(hft:f<=t)(htn:t<=n)(hk1:1<=kind)(hk2:kind<=11):
 ∃r,addN l up kind f t=(r,(l.length:Int))/\Ck r n/\Fits r t (max b t) up/\Fits r f (max b t) l.length/\r[l.length]?=some ⟨kind,f,t,up,[],false⟩/\r.length=l.length+1/\
  (∀(i:Nat)(x:Nd),l[i]?=some x->∃x',r[i]?=some x'/\x'.k=x.k/\x'.f=x.f/\x'.u=x.u/\x'.y=x.y/\(i≠up->x'.ks=x.ks)):=by
 obtain⟨p,hp⟩:=jB l up hf.lt;have hl:=hf.lt;have ah:=(hf.here p hp).1;have af:=yY h hf hp he hft htn hk1 hk2;obtain⟨m,hm⟩:=fq ((l++[(⟨kind,f,t,up,[],false⟩:Nd)]).set up {p with ks:=p.ks++[(l.length:Int)]});have hadd:addN l up kind f t=(iG m up t,(l.length:Int)):=by
  unfold addN;rw[eY af,jk,hp];dsimp only;rw[hm]
 have ai:m.length=l.length+1:=by rw[<-hm];simp
 have mu:m[up]?=some {p with ks:=p.ks++[(l.length:Int)]}:=by rw[<-hm];exact wu (by simp;omega)
 have mo:∀i x,i≠up->l[i]?=some x->m[i]?=some x:=by
  intro i x hi hx;have:=(gD.1 hx).1;rw[<-hm,wo (λe=>hi e.symm),oD this];exact hx
 have mn:m[l.length]?=some ⟨kind,f,t,up,[],false⟩:=by
  rw[<-hm,wo (by omega),oM (fB _)];simp
 have mg:∀i x,l[i]?=some x->∃x',m[i]?=some x'/\x'.k=x.k/\x'.f=x.f/\x'.t=x.t/\x'.u=x.u/\x'.y=x.y/\(i≠up->x'.ks=x.ks):=by
  intro i x hx;by_cases e:i=up
  ·subst e;rw[hp]at hx;injection hx with hx;subst hx
   exact⟨_,mu,rfl,rfl,rfl,rfl,rfl,λh=>absurd rfl h⟩
  exact⟨x,mo i x e hx,rfl,rfl,rfl,rfl,rfl,λ_=>rfl⟩
 have mb:∀i x',m[i]?=some x'->(i=l.length/\x'=⟨kind,f,t,up,[],false⟩)\/(i<l.length/\∃x,l[i]?=some x/\x'.k=x.k/\x'.f=x.f/\x'.t=x.t/\x'.u=x.u/\(i=up->x=p/\x'.ks=p.ks++[(l.length:Int)])/\(i≠up->x'.ks=x.ks)):=by
  intro i x' hx';have hi:=(gD.1 hx').1;by_cases e:i=l.length
  ·subst e;rw[mn]at hx';injection hx' with hx'
   exact .inl ⟨rfl,hx'.symm⟩
  refine .inr ⟨by omega,?_⟩;obtain⟨x,hx⟩:=jB l i (by omega);by_cases e2:i=up
  ·subst e2;rw[hp]at hx;injection hx with hx;subst hx
   rw[mu]at hx';injection hx' with hx';subst hx'
   exact⟨p,hp,rfl,rfl,rfl,rfl,λ_=>⟨rfl,rfl⟩,λh=>absurd rfl h⟩
  rw[mo i x e2 hx]at hx';injection hx' with hx';subst hx'
  exact⟨x,hx,rfl,rfl,rfl,rfl,λh=>absurd h e2,λ_=>rfl⟩
 have aa:∀(i:Nat)(x:Nd),l[i]?=some x->x.ks.Pairwise (Nk m):=by
  intro i x hx;refine(h.ord i x hx).imp_of_mem (fun{a b} ha hb hab=>⟨hab.1,λxa yb hxa hyb=>?_⟩);obtain⟨ja,ya,rfl,_,hya,_⟩:=h.kid i x hx a ha;obtain⟨jb,ag,rfl,_,ae,_⟩:=h.kid i x hx b hb;rw[jk]at hxa hyb;obtain⟨aj,q1,_,_,q2,_⟩:=mg ja ya hya;obtain⟨ak,r1,_,r2,_⟩:=mg jb ag ae;rw[hxa]at q1;injection q1 with q1;subst q1
  rw[hyb]at r1;injection r1 with r1;subst r1
  have:=hab.2 ya ag (by rw[jk];exact hya) (by rw[jk];exact ae);omega
 have hQ:KW (λi y=>On m up i/\y<=t) m n:=by
  refine⟨?_,?_,?_,?_,?_⟩
  ·obtain⟨x,q,rfl,h1,h2,h3,h4,h5⟩:=h.first;obtain⟨x',g1,g2,g3,g4,g5,_⟩:=mg 0 x rfl;cases m with
   |nil=>simp at g1
   |cons y q'=>simp at g1;subst g1;exact⟨_,_,rfl,by omega,by omega,by omega,by omega,h5⟩
  ·intro i x' hi hx';rcases mb i x' hx' with⟨rfl,rfl⟩|⟨hil,x,hx,_,_,_,e3,_⟩
   ·show 0<=(up:Int)/\(up:Int)<_;omega
   rw[e3];exact h.up i x hi hx
  ·intro i x' hx' z hz;rcases mb i x' hx' with⟨rfl,rfl⟩|⟨hil,x,hx,_,e1,e2,e3,e4,e5⟩
   ·simp at hz
   by_cases e:i=up
   ·obtain⟨rfl,hks⟩:=e4 e;subst e;rw[hks,mU]at hz;rcases hz with hz|hz
    ·obtain⟨j,y,rfl,j0,hy,k1,k2,k3,k4⟩:=h.kid i x hx z hz;obtain⟨y',g1,_,g3,g4,g5,_⟩:=mg j y hy;exact⟨j,y',rfl,j0,g1,by omega,by omega,by omega,.inl (by have:=k4.elim id False.elim;omega)⟩
    simp at hz;subst hz;exact⟨l.length,_,rfl,by omega,mn,rfl,by show x'.f<=f;omega,hft,.inr ⟨.self _,jq _⟩⟩
   rw[e5 e]at hz;obtain⟨j,y,rfl,j0,hy,k1,k2,k3,k4⟩:=h.kid i x hx z hz;obtain⟨y',g1,_,g3,g4,g5,_⟩:=mg j y hy;exact⟨j,y',rfl,j0,g1,by omega,by omega,by omega,.inl (by have:=k4.elim id False.elim;omega)⟩
  ·intro i x' hx';rcases mb i x' hx' with⟨rfl,rfl⟩|⟨hil,x,hx,_,e1,e2,e3,e4,e5⟩
   ·exact .nil
   by_cases e:i=up
   ·obtain⟨rfl,hks⟩:=e4 e;subst e;rw[hks,Ry];refine⟨aa _ _ hx,by simp,λa ha b hb=>?_⟩;simp at hb;subst hb;obtain⟨j,y,rfl,j0,hy,_⟩:=h.kid i x hx a ha;have hj:=(gD.1 hy).1;refine⟨by omega,λxa yb hxa hyb=>?_⟩;rw[jk]at hxa hyb;rw[mn]at hyb;injection hyb with hyb;subst hyb
    obtain⟨y',g1,_,_,g4,_⟩:=mg j y hy;rw[hxa]at g1;injection g1 with g1;subst g1
    have:=(hf.here x hx).2 _ ha y (by rw[jk];exact hy);show xa.t<=f;omega
   rw[e5 e];exact aa _ _ hx
  intro i hi hil;have hc:=Cf (λz=>z==(i:Int)) (l.length:Int) (l++[(⟨kind,f,t,up,[],false⟩:Nd)]) up p (by rw[oD hl];exact hp);rw[hm]at hc;rw[hc];have h0:((l++[(⟨kind,f,t,up,[],false⟩:Nd)]).flatMap (·.ks))=l.flatMap (·.ks):=by simp
  rw[h0];by_cases e:i=l.length
  ·subst e;rw[eY (by simp)];have:(l.flatMap (·.ks)).countP (λz=>z==(l.length:Int))=0:=by
    rw[Xv];intro z hz;rw[KL]at hz;obtain⟨x,hx,hz⟩:=hz;obtain⟨i,hi2⟩:=lh hx;obtain⟨j,y,rfl,_,hy,_⟩:=h.kid i x hi2 z hz;have hj:=(gD.1 hy).1;simp;omega
   omega
  rw[eX (by simp;omega)];exact h.seen i hi (by omega)
 have hsm:∀d,Sp l b d->d<=up->Sp m b d:=by
  intro d hd
  induction hd with
  |root=>exact λ_=>.root
  |up d q x y h0 hx hy hu hla ht hsp ih=>
   intro av;have ax:=(h.up d x h0 hx).2;obtain⟨x',g1,_,_,g4,g5,_⟩:=mg d x hx;exact .up d q x' y h0 g1 (mo q y (by omega) hy) (by omega) hla (by omega) (ih (by omega))
 have hsu:=hsm up hf.sp (fB _);obtain⟨c1,c2,c3,c4⟩:=Fg hQ hsu (by omega) htn;obtain⟨r,hr⟩:=fq (iG m up t);rw[hr]at hadd c1 c2 c3 c4;obtain⟨u',a1,⟨_,a3,a4,a5,_⟩,_⟩:=c4 up _ mu;obtain⟨n',b1,⟨b2,b3,b4,b5,b6⟩,b7⟩:=c4 l.length _ mn;have bt:n'.t=t:=by
  rcases b7 with⟨b7,_⟩|⟨_,b7⟩
  ·have:=b7.low hQ.good;omega
  exact b7
 have hnew:n'=⟨kind,f,t,up,[],false⟩:=by
  obtain⟨nk,nf,nt,nu,ay,ny⟩:=n';dsimp only at b2 b3 b4 b5 b6 bt;subst b2 b3 b4 b5 b6 bt;rfl
 subst hnew;refine⟨r,hadd,c1,⟨by omega,c2 up hsu,λx hx=>?_⟩,⟨by omega,?_,λx hx=>?_⟩,b1,by omega,λi x hx=>?_⟩
 ·rw[a1]at hx;injection hx with hx;subst hx
  dsimp only at a3 a5;refine⟨by omega,λz hz y hy=>?_⟩;rw[a5,mU]at hz;rcases hz with hz|hz
  ·obtain⟨j,y0,rfl,_,hy0,_⟩:=h.kid up p hp z hz;rw[jk]at hy;obtain⟨y1,g1,_,_,g4,_⟩:=mg j y0 hy0;obtain⟨y2,d1,_,d2⟩:=c4 j y1 g1;rw[hy]at d1;injection d1 with d1;subst d1
   have:=(hf.here p hp).2 _ hz y0 (by rw[jk];exact hy0);rcases d2 with⟨_,d2⟩|⟨_,d2⟩<;>omega
  simp at hz;subst hz;rw[jk,b1]at hy;injection hy with hy;subst hy
  exact jq _
 ·exact .up l.length up _ u' (by omega) b1 a1 rfl (by rw[a5];simp) (Int.le_max_right _ _) (c2 up hsu)
 ·rw[b1]at hx;injection hx with hx;subst hx
  exact⟨jq _,λz hz=>by simp at hz⟩
 obtain⟨x1,g1,g2,g3,g4,g5,g6,g7⟩:=mg i x hx;obtain⟨x2,d1,⟨d2,d3,d4,d5,d6⟩,_⟩:=c4 i x1 g1;exact⟨x2,d1,by omega,by omega,by omega,by rw[d6,g6],λe=>by rw[d5,g7 e]⟩
theorem Fits.out{l:List Nd}{n e b:Int}{c p:Nat}{x:Nd}(h:Ck l n)(hf:Fits l e b c)(hx:l[c]?=some x)(hu:x.u=(p:Int))(h0:0<c):Fits l b b p:=by
 have hup:=h.up c x h0 hx;have hs:=hf.sp;cases hs with
 |root=>omega
 |up _ q x1 y _ hx1 hy hu1 hla ht hsp=>
  rw[hx]at hx1;injection hx1 with hx1;subst hx1
  obtain rfl:q=p:=by omega
  refine⟨(gD.1 hy).1,hsp,λy' hy'=>?_⟩;rw[hy]at hy';injection hy' with hy';subst hy'
  have hmem:(c:Int)∈y.ks:=KM hla;obtain⟨j,x2,hj,_,hx2,_,k2,k3,_⟩:=h.kid q y hy c hmem;obtain rfl:j=c:=by omega
  rw[hx]at hx2;injection hx2 with hx2;subst hx2
  refine⟨by omega,λz hz w hw=>?_⟩;have hle:=xY y.ks _ (h.ord q y hy) hla z hz;obtain⟨jz,z2,rfl,_,hz2,_,z3,z4,_⟩:=h.kid q y hy z hz;rw[jk,hz2]at hw;injection hw with hw;subst hw
  by_cases e:jz=j
  ·subst e;rw[hx]at hz2;injection hz2 with hz2;subst hz2
   exact ht
  
  obtain⟨k,hk⟩:=lh hz;obtain⟨k',hk'⟩:=lh hmem;have hpw:=Rz.1 (h.ord q y hy);have h1:=(gD.1 hk).1;have h2:=(gD.1 hk').1;have e1:y.ks[k]=(jz:Int):=(gD.1 hk).2;have e2:y.ks[k']=(j:Int):=(gD.1 hk').2;rcases Hw k k' with hlt|heq|hgt
  ·have:=(hpw k k' h1 h2 hlt).2;rw[e1,e2,jk,jk]at this;have:=this _ _ hz2 hx;omega
  ·subst heq;rw[e1]at e2;omega
  have:=(hpw k' k h2 h1 hgt).1;rw[e1,e2]at this;omega
end Ar
namespace Fl
open Ar
abbrev Tk:=Nat×Nat×Nat
structure Dg where
 code:Nat
 f:Nat
 t:Nat
structure St where
 t:List Nd
 d:List Dg
def raw(l:List Tk)(i:Nat):Nat:=match l[i]? with
 |some x=>x.1
 |none=>0
def mM(l:List Tk)(i:Nat):Nat:=match l[i]? with
 |some x=>x.2.1
 |none=>0
def too(l:List Tk)(i:Nat):Nat:=match l[i]? with
 |some x=>x.2.2
 |none=>0
def kd(l:List Tk)(e i:Nat):Nat:=if e<=i\/raw l i=20\/raw l i=21 then 0 else raw l i
def cnt(k:Nat):Bool:=!(k==1||k==2||k==3||k==4)
def ig(k:Nat):Bool:=k==15||k==16||k==17||k==13
def gW(k:Nat):Bool:=k==12||k==14
def opens(k:Nat):Bool:=k==8||k==9
def ends(k:Nat):Bool:=k==10||k==11
def iQ(p:Nat->Bool):Nat->Nat->Nat
 |0,i=>i
 |f+1,i=>if p i=true then iQ p f (i+1)else i
def blanks(l:List Tk)(e i:Nat):Nat:=iQ (λj=>raw l j==3) (e-i) i
def fZ(l:List Tk)(e i:Nat):Nat:=iQ (λj=>!cnt (raw l j)) (e-i) i
def back(l:List Tk):Nat->Nat->Nat
 |0,_=>0
 |i+1,m=>if m<i+1/\cnt (raw l i)=false then back l i m else i+1
def step(k n:Nat):Nat:=if opens k=true then n+1 else if ends k=true then n-1 else n
def pZ(l:List Tk)(e:Nat):Nat->Nat->Nat->Option Nat
 |0,_,_=>none
 |f+1,j,n=>if kd l e j=0 then none else if step (kd l e j) n=0 then some (j+1)else pZ l e f (j+1) (step (kd l e j) n)
def balanced(l:List Tk)(e i:Nat):Nat:=match pZ l e (e-i) i 0 with
 |some j=>j
 |none=>back l (iQ (λj=>kd l e j !=0) (e-i) i) (i+1)
def text(l:List Tk)(e i:Nat):Nat:=
 let j:=iQ (λj=>!cnt (raw l j)&&raw l j !=1) (e-(i+1)) (i+1)
 if e<=j\/raw l j≠1\/e<=j+1\/raw l (j+1)≠19 then i+1 else iQ (λj=>raw l j==19) (e-(j+1)) (j+1)
def iX(l:List Tk)(e:Nat):Nat->Nat->Nat->Nat
 |0,j,_=>j
 |f+1,j,n=>if kd l e j=0 then j else if n=0/\(kd l e j=7\/ends (kd l e j)=true)then j else iX l e f (j+1) (step (kd l e j) n)
def jY(l:List Tk)(e i:Nat):Nat:=back l (iX l e (e-i) i 0) (i+1)
def props(l:List Tk)(e:Nat):Nat->Nat->Nat
 |0,i=>i
 |f+1,i=>if gW (kd l e i)=true then props l e f (fZ l e (i+1))else i
def key(l:List Tk)(e i:Nat):Nat:=
 let a:=props l e (e-i) i
 let b:=if ig (kd l e a)=true then fZ l e (a+1)else a
 if kd l e b=6 then b+1 else 0
def kL(o:Option (Nat×Nat))(i:Nat):Nat:=match o with
 |none=>i
 |some x=>x.1
def lead(l:List Tk)(e:Nat):Nat->Option (Nat×Nat)->Nat->Option (Nat×Nat)×Nat
 |0,o,i=>(o,i)
 |f+1,o,i=>if gW (kd l e i)=true then lead l e f (some (kL o i,i)) (blanks l e (i+1))else(o,i)
def begins(k:Nat):Bool:=gW k||ig k||opens k||k==18
def add(s:St)(up:Int)(k f t:Nat):St×Int:=(⟨(addN s.t up k f t).1,s.d⟩,(addN s.t up k f t).2)
def err(l:List Tk)(s:St)(up:Int)(f t code:Nat):St:=⟨(addN s.t up 11 f t).1,s.d++[⟨code,mM l f,too l (t-1)⟩]⟩
def keyed(l:List Nd)(i:Int):List Nd:=match l[i.toNat]? with
 |none=>l
 |some x=>l.set i.toNat {x with y:=true}
def pV(l:List Tk)(e:Nat)(fG:Option (Int->Nat->St->Nat×St))(up:Int)(p:Nat)(s:St):Int×Nat×St:=
 let o:=(lead l e (e-blanks l e p) none (blanks l e p)).1
 let i:=(lead l e (e-blanks l e p) none (blanks l e p)).2
 let fr:=kL o i
 let k:=kd l e i
 if k=13 then((add s up 8 fr (i+1)).2,i+1,(add s up 8 fr (i+1)).1)
 else if ig k=true then((add s up 7 fr (i+1)).2,i+1,(add s up 7 fr (i+1)).1)
 else if k=18 then((add s up 7 fr (text l e i)).2,text l e i,(add s up 7 fr (text l e i)).1)
 else if opens k=true then match fG with
  |none=>((addN s.t up 11 fr (balanced l e i)).2,balanced l e i,err l s up fr (balanced l e i) 10)
  |some fG=>
   let a:=add s up (if k=9 then 10 else 9) fr (i+1)
   let r:=fG a.2 i a.1
   (a.2,r.1,r.2)
 else match o with
  |some x=>((add s up 7 fr (x.2+1)).2,x.2+1,(add s up 7 fr (x.2+1)).1)
  |none=>(-1,p,s)
def pair(l:List Tk)(s:St)(c:Int)(j q:Nat):St×Int:=
 let a:=add s c 6 j q
 if q-j<2 then a
 else
  let b:=add a.1 a.2 (if(List.range (q-j)).any (λx=>raw l (j+x)==13)=true then 8 else 7) j (back l (q-1) (j+1))
  (⟨keyed b.1.t a.2,b.1.d⟩,a.2)
def item(l:List Tk)(e:Nat)(val:Int->Nat->St->Int×Nat×St)(aa:Bool)(c:Int)(j:Nat)(s:St):Nat×St:=
 let q:=key l e j
 if 0<q then
  let p:=pair l s c j q
  let x:=fZ l e q
  if kd l e x=0\/kd l e x=7\/ends (kd l e x)=true then(q,p.1)
  else
   let r:=val p.2 x p.1
   if r.1<0 then(q,r.2.2)else(r.2.1,r.2.2)
 else if aa=true then
  let p:=add s c 6 j (j+1)
  let r:=val p.2 j ⟨keyed p.1.t p.2,p.1.d⟩
  (r.2.1,r.2.2)
 else
  let r:=val c j s
  (r.2.1,r.2.2)
def lU(l:List Tk)(e:Nat)(val:Int->Nat->St->Int×Nat×St)(c:Int)(op:Nat):Nat->Nat->Bool->St->Nat×St
 |0,p,_,s=>(p,s)
 |g+1,p,aa,s=>
  let j:=fZ l e p
  let k:=kd l e j
  if k=0 then(back l p (op+1),⟨s.t,s.d++[⟨9,mM l op,too l op⟩]⟩)
  else if k=(if raw l op=9 then 11 else 10)then(j+1,⟨jg s.t c (j+1),s.d⟩)
  else if ends k=true then lU l e val c op g (j+1) aa (err l s c j (j+1) 8)
  else if k=7 then
   if aa=true then lU l e val c op g (j+1) false ⟨jg s.t c (j+1),s.d⟩
   else lU l e val c op g (j+1) aa (err l s c j (j+1) 8)
  else if aa=true then lU l e val c op g (jY l e j) aa (err l s c j (jY l e j) 8)
  else if 0<key l e j\/begins k=true then lU l e val c op g (item l e val (raw l op==9) c j s).1 true (item l e val (raw l op==9) c j s).2
  else lU l e val c op g (j+1) aa (err l s c j (j+1) 8)
def jd(l:List Tk)(e:Nat):Nat->Int->Nat->St->Int×Nat×St
 |0=>pV l e none
 |d+1=>pV l e (some (λc op s=>lU l e (jd l e d) c op (e-op) (op+1) false s))
end Fl
namespace Fl
open Ar
theorem jc{l:List Tk}{e i:Nat}(h:kd l e i≠0):i<e/\raw l i=kd l e i:=by
 unfold kd at h⊢;split at h
 ·exact absurd rfl h
 rename_i h1;rw[eX h1];exact⟨by omega,rfl⟩
theorem lD(p:Nat->Bool):∀(f i:Nat),i<=iQ p f i
 |0,i=>fB _
 |f+1,i=>by
  rw[iQ];split
  ·have:=lD p f (i+1);omega
  exact fB _
theorem mi(p:Nat->Bool):∀(f i:Nat),iQ p f i<=i+f
 |0,i=>fB _
 |f+1,i=>by
  rw[iQ];split
  ·have:=mi p f (i+1);omega
  omega
theorem zM(p:Nat->Bool)(f i:Nat)(h:iQ p f i≠i):p i=true:=by
 cases f with
 |zero=>exact absurd rfl h
 |succ f=>
  rw[iQ]at h;split at h
  ·rename_i h1;exact h1
  exact absurd rfl h
theorem Fh(p:Nat->Bool):∀(f i:Nat),i<iQ p f i->p (iQ p f i-1)=true
 |0,i=>λh=>absurd h (sO _)
 |f+1,i=>λh=>by
  rw[iQ]at h⊢;split at h
  ·rename_i h1;rw[eY h1];by_cases h2:i+1<iQ p f (i+1)
   ·exact Fh p f (i+1) h2
   have h3:=lD p f (i+1);have h4:iQ p f (i+1)=i+1:=by omega
   rw[h4];exact h1
  exact absurd h (sO _)
theorem ku(p:Nat->Bool):∀(f i:Nat),iQ p f i=i+f\/p (iQ p f i)=false
 |0,_=>.inl rfl
 |f+1,i=>by
  rw[iQ];split
  ·rcases ku p f (i+1)with h|h
   ·exact .inl (by omega)
   exact .inr h
  rename_i h;exact .inr (by simpa using h)
theorem j6{l:List Tk}{e i:Nat}(h:i<=e):i<=blanks l e i/\blanks l e i<=e:=by
 have h1:=lD (λj=>raw l j==3) (e-i) i;have h2:=mi (λj=>raw l j==3) (e-i) i;unfold blanks;omega
theorem iY{l:List Tk}{e i:Nat}(h:i<=e):i<=fZ l e i/\fZ l e i<=e:=by
 have h1:=lD (λj=>!cnt (raw l j)) (e-i) i;have h2:=mi (λj=>!cnt (raw l j)) (e-i) i;unfold fZ;omega
theorem iV(l:List Tk):∀(i m:Nat),back l i m<=i
 |0,m=>fB _
 |i+1,m=>by
  rw[back];split
  ·have:=iV l i m;omega
  exact fB _
theorem uI(l:List Tk):∀(i m:Nat),m<=i->m<=back l i m
 |0,m=>λh=>h
 |i+1,m=>λh=>by
  rw[back];split
  ·exact uI l i m (by omega)
  exact h
theorem qP(l:List Tk):∀(i m:Nat),m<back l i m->cnt (raw l (back l i m-1))=true
 |0,m=>λh=>absurd h (qJ _)
 |i+1,m=>λh=>by
  rw[back]at h⊢;split
  ·rename_i h1;rw[eY h1]at h;exact qP l i m h
  rename_i h1;rw[eX h1]at h;rw[jH];cases hc:cnt (raw l i)with
  |true=>rfl
  |false=>exact absurd ⟨h,hc⟩ h1
theorem mJ(l:List Tk)(i m:Nat)(h0:0<i)(h:cnt (raw l (i-1))=true):back l i m=i:=by
 cases i with
 |zero=>omega
 |succ i=>rw[back,eX (λh2=>by rw[jH]at h;rw[h]at h2;exact absurd h2.2 (by decide))]
theorem Fj(l:List Tk)(e:Nat):∀(f i:Nat),i<=e->i<=props l e f i/\props l e f i<=e
 |0,i=>λh=>⟨fB _,h⟩
 |f+1,i=>λh=>by
  rw[props];split
  ·rename_i h1;have h2:kd l e i≠0:=λh3=>by rw[h3]at h1;exact absurd h1 (by decide)
   have h3:=(jc h2).1;have h4:=iY (l:=l) (e:=e) (i:=i+1) (by omega);have:=Fj l e f _ h4.2;omega
  exact⟨fB _,h⟩
theorem pF{l:List Tk}{e j:Nat}(hj:j<=e)(h:0<key l e j):j<key l e j/\key l e j<=e/\raw l (key l e j-1)=6:=by
 unfold key at h⊢;dsimp only at h⊢;have h1:=Fj l e (e-j) j hj;obtain⟨a,ha⟩:=fq (props l e (e-j) j);rw[ha]at h h1⊢;obtain⟨b,hb⟩:=fq ((if ig (kd l e a)=true then fZ l e (a+1)else a));rw[hb]at h⊢;have hab:a<=b:=by
  rw[<-hb];split
  ·rename_i h2;have h3:kd l e a≠0:=λh4=>by rw[h4]at h2;exact absurd h2 (by decide)
   have:=iY (l:=l) (e:=e) (i:=a+1) (jc h3).1;omega
  exact fB _
 split at h
 ·rename_i h2;rw[eY h2];have h3:=jc (l:=l) (e:=e) (i:=b) (by rw[h2];decide);exact⟨by omega,by omega,by rw[jH,h3.2,h2]⟩
 omega
theorem yZ(l:List Tk)(e:Nat):∀(f j n r:Nat),pZ l e f j n=some r->j<r/\r<=e/\(0<n\/opens (kd l e j)=true->ends (raw l (r-1))=true)
 |0,j,n,r=>λh=>by simp[pZ]at h
 |f+1,j,n,r=>λh=>by
  rw[pZ]at h;split at h
  ·simp at h
  rename_i h0;have hk:=jc h0;split at h
  ·rename_i h1;injection h with h;subst h
   refine⟨by omega,by omega,λh2=>?_⟩;rw[jH,hk.2];unfold step at h1;split at h1
   ·omega
   rename_i h3;split at h1
   ·rename_i h4;exact h4
   rcases h2 with h2|h2
   ·omega
   exact absurd h2 h3
  rename_i h1;obtain⟨g1,g2,g3⟩:=yZ l e f (j+1) _ r h;exact⟨by omega,g2,λ_=>g3 (.inl (by omega))⟩
theorem wG{k:Nat}(h:ends k=true):cnt k=true:=by
 unfold ends at h;simp at h;rcases h with rfl|rfl<;>rfl
theorem qQ{k:Nat}(h:opens k=true):cnt k=true:=by
 unfold opens at h;simp at h;rcases h with rfl|rfl<;>rfl
theorem zX{k:Nat}(h:gW k=true):cnt k=true:=by
 unfold gW at h;simp at h;rcases h with rfl|rfl<;>rfl
theorem zY{k:Nat}(h:ig k=true):cnt k=true:=by
 unfold ig at h;simp at h;rcases h with(((rfl|rfl)|rfl)|rfl)<;>rfl
theorem kV{l:List Tk}{e i:Nat}(h:opens (kd l e i)=true):i<balanced l e i/\balanced l e i<=e/\cnt (raw l (balanced l e i-1))=true:=by
 have h0:kd l e i≠0:=λh1=>by rw[h1]at h;exact absurd h (by decide)
 have hk:=jc h0;unfold balanced;cases hb:pZ l e (e-i) i 0 with
 |some r=>
  obtain⟨h1,h2,h3⟩:=yZ l e _ _ _ _ hb;exact⟨h1,h2,wG (h3 (.inr h))⟩
 |none=>
  dsimp only;obtain⟨g,hg⟩:=fq (iQ (λj=>kd l e j !=0) (e-i) i);have g1:i<g:=by
   rw[<-hg,show e-i=(e-i-1)+1 by omega,iQ,eY (by simpa using h0)];have:=lD (λj=>kd l e j !=0) (e-i-1) (i+1);omega
  have g2:g<=e:=by have:=mi (λj=>kd l e j !=0) (e-i) i;omega
  rw[hg];have b1:=iV l g (i+1);have b2:=uI l g (i+1) (by omega);refine⟨by omega,by omega,?_⟩;by_cases hb:i+1<back l g (i+1)
  ·exact qP l g (i+1) hb
  have:back l g (i+1)=i+1:=by omega
  rw[this,jH,hk.2];exact qQ h
theorem y8{l:List Tk}{e i:Nat}(h:kd l e i=18):i<text l e i/\text l e i<=e/\cnt (raw l (text l e i-1))=true:=by
 have hk:=jc (l:=l) (e:=e) (i:=i) (by rw[h];decide);unfold text;dsimp only;obtain⟨j,hj⟩:=fq (iQ (λj=>!cnt (raw l j)&&raw l j !=1) (e-(i+1)) (i+1));have j1:i+1<=j:=by rw[<-hj];exact lD _ _ _
 rw[hj];split
 ·refine⟨by omega,by omega,?_⟩;rw[jH,hk.2,h];rfl
 rename_i h1;have a1:j+1<e:=by omega
 have a2:raw l (j+1)=19:=by
  by_cases h2:raw l (j+1)=19
  ·exact h2
  exact absurd (.inr (.inr (.inr h2))) h1
 obtain⟨r,hr⟩:=fq (iQ (λj=>raw l j==19) (e-(j+1)) (j+1));have r1:j+1<r:=by
  rw[<-hr,show e-(j+1)=(e-(j+1)-1)+1 by omega,iQ,eY (by simpa using a2)];have:=lD (λj=>raw l j==19) (e-(j+1)-1) (j+1+1);omega
 have r2:r<=e:=by have:=mi (λj=>raw l j==19) (e-(j+1)) (j+1);omega
 have r3:=Fh (λj=>raw l j==19) (e-(j+1)) (j+1) (by omega);rw[hr]at r3⊢;refine⟨by omega,r2,?_⟩;have r3:raw l (r-1)=19:=by simpa using r3
 rw[r3];rfl
theorem uT(l:List Tk)(e:Nat):∀(f j n:Nat),j<=iX l e f j n/\(j<=e->iX l e f j n<=e)
 |0,j,n=>⟨fB _,id⟩
 |f+1,j,n=>by
  rw[iX];split
  ·exact⟨fB _,id⟩
  rename_i h0;have:=jc h0;split
  ·exact⟨fB _,id⟩
  have ih:=uT l e f (j+1) (step (kd l e j) n);exact⟨by omega,λ_=>ih.2 (by omega)⟩
theorem qR{l:List Tk}{e j:Nat}(h0:kd l e j≠0)(hc:cnt (raw l j)=true)(h7:kd l e j≠7)(he:ends (kd l e j)=false):j<jY l e j/\jY l e j<=e/\cnt (raw l (jY l e j-1))=true:=by
 have hk:=jc h0;unfold jY;obtain⟨g,hg⟩:=fq (iX l e (e-j) j 0);have g1:j<g:=by
  rw[<-hg,show e-j=(e-j-1)+1 by omega,iX,eX h0,eX (by rw[he];simp[h7])];have:=(uT l e (e-j-1) (j+1) (step (kd l e j) 0)).1;omega
 have g2:g<=e:=by rw[<-hg];exact(uT l e _ _ _).2 (by omega)
 rw[hg];have b1:=iV l g (j+1);have b2:=uI l g (j+1) (by omega);refine⟨by omega,by omega,?_⟩;by_cases hb:j+1<back l g (j+1)
 ·exact qP l g (j+1) hb
 have:back l g (j+1)=j+1:=by omega
 rw[this,jH];exact hc
theorem uJ(l:List Tk)(e lo:Nat):∀(f:Nat)(o:Option (Nat×Nat))(i:Nat),lo<=i->i<=e->(∀a z,o=some (a,z)->lo<=a/\a<=z/\z<i/\gW (raw l z)=true)->
 i<=(lead l e f o i).2/\(lead l e f o i).2<=e/\(∀a z,(lead l e f o i).1=some (a,z)->lo<=a/\a<=z/\z<(lead l e f o i).2/\gW (raw l z)=true)/\
  ((lead l e f o i).1=none->o=none/\(lead l e f o i).2=i/\(0<f->gW (kd l e i)=false))
 |0,o,i=>λh1 h2 h3=>⟨fB _,h2,h3,λh=>⟨h,rfl,λh=>absurd h (sO _)⟩⟩
 |f+1,o,i=>λh1 h2 h3=>by
  rw[lead];split
  ·rename_i hp;have h0:kd l e i≠0:=λh4=>by rw[h4]at hp;exact absurd hp (by decide)
   have hk:=jc h0;have hb:=j6 (l:=l) (e:=e) (i:=i+1) (by omega)
   have ih:=uJ l e lo f (some (kL o i,i)) (blanks l e (i+1)) (by omega) hb.2 (λa z h=>by
    injection h with h
    injection h with ha hz
    subst hz;refine⟨?_,?_,by omega,by rw[hk.2];exact hp⟩
    ·cases o with
     |none=>simp only[kL]at ha;omega
     |some x=>obtain⟨x1,x2⟩:=x;have:=h3 x1 x2 rfl;simp only[kL]at ha;omega
    cases o with
    |none=>simp only[kL]at ha;omega
    |some x=>obtain⟨x1,x2⟩:=x;have:=h3 x1 x2 rfl;simp only[kL]at ha;omega)
   refine⟨by omega,ih.2.1,ih.2.2.1,λh=>?_⟩;have:=(ih.2.2.2 h).1;simp at this
  rename_i hp;exact⟨fB _,h2,h3,λh=>⟨h,rfl,λ_=>by simpa using hp⟩⟩
end Fl
namespace Fl
open Ar
def errs(l:List Nd):Nat:=l.countP (λx=>x.k==11)
def told(d:List Dg):Nat:=d.countP (λx=>x.code !=9)
def nE(l l':List Nd):Prop:=l.length<=l'.length/\∀(i:Nat)(x:Nd),l[i]?=some x->∃x',l'[i]?=some x'/\x'.k=x.k/\x'.f=x.f/\x'.u=x.u
theorem nE.refl(l:List Nd):nE l l:=⟨fB _,λ_ x h=>⟨x,h,rfl,rfl,rfl⟩⟩
theorem nE.trans{a b c:List Nd}(h:nE a b)(g:nE b c):nE a c:=by
 refine⟨jU h.1 g.1,λi x hx=>?_⟩;obtain⟨y,h1,h2,h3,h4⟩:=h.2 i x hx;obtain⟨z,g1,g2,g3,g4⟩:=g.2 i y h1;exact⟨z,g1,by omega,by omega,by omega⟩
structure Ok(n:Int)(up:Nat)(s0:St)(e b:Int)(s:St):Prop where
 ck:Ck s.t n
 fits:Fits s.t e b up
 keep:nE s0.t s.t
 tells:errs s.t+told s0.d=errs s0.t+told s.d
theorem Ok.le{n e b e' b':Int}{up:Nat}{s0 s:St}(h:Ok n up s0 e b s)(he:e<=e')(hb:b<=b'):Ok n up s0 e' b' s:=⟨h.ck,h.fits.le he hb,h.keep,h.tells⟩
theorem Ok.start{n e b:Int}{up:Nat}{s:St}(h:Ck s.t n)(g:Fits s.t e b up):Ok n up s e b s:=⟨h,g,nE.refl _,rfl⟩
theorem Ok.trans{n e b e1 b1:Int}{up c:Nat}{s0 s s':St}(h:Ok n up s0 e b s)(g:Ok n c s e1 b1 s'):Ok n c s0 e1 b1 s' :=
 ⟨g.ck,g.fits,h.keep.trans g.keep,by have h1:=h.tells;have h2:=g.tells;omega⟩
theorem Ok.out{n e b:Int}{c p:Nat}{s0 s:St}(h:Ok n c s0 e b s){x:Nd}(hx:s.t[c]?=some x)(hu:x.u=(p:Int))(h0:0<c):Ok n p s0 b b s:=
 ⟨h.ck,h.fits.out h.ck hx hu h0,h.keep,h.tells⟩
theorem II{l r:List Nd}(hl:r.length=l.length)(h:∀(i:Nat)(x:Nd),l[i]?=some x->∃x',r[i]?=some x'/\x'.k=x.k):r.map (·.k)=l.map (·.k):=by
 refine sN (λi=>?_);rw[lS,lS];cases hx:l[i]? with
 |none=>
  have:r[i]?=none:=by rw[wm]at hx⊢;omega
  rw[this]
 |some x=>
  obtain⟨x',h1,h2⟩:=h i x hx;rw[h1];simp[h2]
theorem tX(l:List Nd):errs l=(l.map (·.k)).countP (λk=>k==11):=by
 unfold errs;rw[Vj];rfl
theorem nS{l r:List Nd}(hl:r.length=l.length)(h:∀(i:Nat)(x:Nd),l[i]?=some x->∃x',r[i]?=some x'/\x'.k=x.k):errs r=errs l:=by
 rw[tX,tX,II hl h]
theorem xZ{l r:List Nd}{z:Nd}(hl:r.length=l.length+1)(h:∀(i:Nat)(x:Nd),l[i]?=some x->∃x',r[i]?=some x'/\x'.k=x.k)(hz:r[l.length]?=some z):errs r=errs l+(if z.k==11 then 1 else 0):=by
 have h1:r=r.take l.length++[z]:=by
  refine sN (λi=>?_);by_cases hi:i<l.length
  ·rw[oD (by rw[kD];omega),rD hi]
  by_cases e:i=l.length
  ·subst e;rw[hz,oM (by rw[kD];omega),kD,zG (by omega),uC];rfl
  rw[rC (by omega),rC (by rw[iJ,kD];simp;omega)]
 have h2:errs (r.take l.length)=errs l:=nS (by rw[kD];omega) (λi x hx=>by
  have hi:=(gD.1 hx).1;obtain⟨x',g1,g2⟩:=h i x hx
  exact⟨x',by rw[rD hi];exact g1,g2⟩)
 rw[h1];unfold errs at h2⊢;rw[zD,h2,yH,BA];omega
theorem xQ{n e b:Int}{up f t kind:Nat}{s0 s:St}(h:Ok n up s0 e b s)(he:e<=f)(hft:f<=t)(htn:(t:Int)<=n)(hk1:1<=kind)(hk2:kind<=11):
 ∃r,addN s.t up kind f t=(r,(s.t.length:Int))/\Ck r n/\Fits r t (max b t) up/\Fits r f (max b t) s.t.length/\nE s.t r/\errs r=errs s.t+(if kind=11 then 1 else 0)/\
  (∃x,r[s.t.length]?=some x/\x.u=(up:Int)/\x.k=(kind:Int))/\0<s.t.length:=by
 obtain⟨r,h1,h2,h3,h4,h5,h6,h7⟩:=Dm (f:=(f:Int)) (t:=(t:Int)) (kind:=(kind:Int)) h.ck h.fits he (by omega) htn (by omega) (by omega);refine⟨r,h1,h2,h3,h4,⟨by omega,λi x hx=>?_⟩,?_,⟨_,h5,rfl,rfl⟩,h.ck.pos⟩
 ·obtain⟨x',g1,g2,g3,g4,_⟩:=h7 i x hx;exact⟨x',g1,g2,g3,g4⟩
 rw[xZ h6 (λi x hx=>by obtain⟨x',g1,g2,_⟩:=h7 i x hx;exact⟨x',g1,g2⟩) h5];congr 1;by_cases e:kind=11
 ·subst e;rfl
 rw[eX (by simp;omega),eX e]
theorem kE{n e b:Int}{up f t kind:Nat}{s0 s:St}(h:Ok n up s0 e b s)(he:e<=f)(hft:f<=t)(htn:(t:Int)<=n)(hk1:1<=kind)(hk2:kind<=10):
 ∃s',add s up kind f t=(s',(s.t.length:Int))/\Ok n up s0 t (max b t) s'/\Ok n s.t.length s0 f (max b t) s'/\(∃x,s'.t[s.t.length]?=some x/\x.u=(up:Int))/\0<s.t.length:=by
 obtain⟨r,h1,h2,h3,h4,h5,h6,⟨x,h7,h8,_⟩,h9⟩:=xQ h he hft htn hk1 (by omega);have ht:errs r+told s0.d=errs s0.t+told s.d:=by rw[h6,eX (by omega)];have:=h.tells;omega
 refine⟨⟨r,s.d⟩,by unfold add;rw[h1],⟨h2,h3,h.keep.trans h5,ht⟩,⟨h2,h4,h.keep.trans h5,ht⟩,⟨x,h7,h8⟩,h9⟩
theorem pG{n e b:Int}{up f t code:Nat}{s0 s:St}(l:List Tk)(h:Ok n up s0 e b s)(he:e<=f)(hft:f<=t)(htn:(t:Int)<=n)(hc:code≠9):
 Ok n up s0 t (max b t) (err l s up f t code)/\(addN s.t up 11 f t).2=(s.t.length:Int):=by
 obtain⟨r,h1,h2,h3,h4,h5,h6,_,h9⟩:=xQ (kind:=11) h he hft htn (by omega) (by omega);have h1:addN s.t up 11 f t=(r,(s.t.length:Int)):=h1;refine⟨?_,by rw[h1]⟩;unfold err;rw[h1];refine⟨h2,h3,h.keep.trans h5,?_⟩;show errs r+told s0.d=errs s0.t+told (s.d++[_]);unfold told;rw[zD,yH,BA,eY (by simpa using hc),h6,eY rfl];have:=h.tells;unfold told at this;omega
theorem qd{n e b:Int}{up t:Nat}{s0 s:St}(h:Ok n up s0 e b s)(he:e<=t)(hb:b<=t)(htn:(t:Int)<=n):Ok n up s0 t t ⟨jg s.t up t,s.d⟩:=by
 obtain⟨h1,h2,h3,h4⟩:=Jw h.ck h.fits he hb htn;have hk:nE s.t (jg s.t up t):=⟨by omega,λi x hx=>by obtain⟨x',g1,g2,g3,g4,_⟩:=h4 i x hx;exact⟨x',g1,g2,g3,g4⟩⟩
 refine⟨h1,h2,h.keep.trans hk,?_⟩;show errs (jg s.t up t)+_=_+told s.d;rw[nS h3 (λi x hx=>by obtain⟨x',g1,g2,_⟩:=hk.2 i x hx;exact⟨x',g1,g2⟩)];exact h.tells
theorem DR{n e b:Int}{up f t:Nat}{s0 s:St}(h:Ok n up s0 e b s):Ok n up s0 e b ⟨s.t,s.d++[⟨9,f,t⟩]⟩:=by
 refine⟨h.ck,h.fits,h.keep,?_⟩;show errs s.t+told s0.d=errs s0.t+told (s.d++[_]);have:=h.tells;unfold told at this⊢;rw[zD,yH,BA,eX (by simp)];omega
theorem x8(l:List Nd)(i:Int):(keyed l i).length=l.length/\∀(j:Nat)(x:Nd),l[j]?=some x->∃x',(keyed l i)[j]?=some x'/\x'.k=x.k/\x'.f=x.f/\x'.t=x.t/\x'.u=x.u/\x'.ks=x.ks:=by
 unfold keyed;cases hx:l[i.toNat]? with
 |none=>exact⟨rfl,λj x h=>⟨x,h,rfl,rfl,rfl,rfl,rfl⟩⟩
 |some y=>
  have hi:=(gD.1 hx).1;refine⟨by simp,λj x h=>?_⟩;dsimp only;by_cases e:i.toNat=j
  ·subst e;rw[hx]at h;injection h with h;subst h
   exact⟨_,wu hi,rfl,rfl,rfl,rfl,rfl⟩
  exact⟨x,by rw[wo e];exact h,rfl,rfl,rfl,rfl,rfl⟩
theorem Jy{l r:List Nd}{n e b:Int}{c:Nat}(hl:r.length=l.length)(G:∀(j:Nat)(x:Nd),l[j]?=some x->∃x',r[j]?=some x'/\x'.k=x.k/\x'.f=x.f/\x'.t=x.t/\x'.u=x.u/\x'.ks=x.ks)
 (h:Ck l n) (hf:Fits l e b c):Ck r n/\Fits r e b c:=by
 have B:∀(i:Nat)(x':Nd),r[i]?=some x'->∃x,l[i]?=some x/\x'.k=x.k/\x'.f=x.f/\x'.t=x.t/\x'.u=x.u/\x'.ks=x.ks:=by
  intro i x' hx';have hi:=(gD.1 hx').1;obtain⟨x,hx⟩:=jB l i (by omega);obtain⟨y,h1,h2⟩:=G i x hx;rw[hx']at h1;injection h1 with h1;subst h1
  exact⟨x,hx,h2⟩
 refine⟨⟨?_,?_,?_,?_,?_⟩,⟨by have:=hf.lt;omega,?_,?_⟩⟩
 ·obtain⟨x,q,rfl,h1,h2,h3,h4,h5⟩:=h.first;obtain⟨x',g1,e1,e2,e3,e4,e5⟩:=G 0 x rfl;cases r with
  |nil=>simp at g1
  |cons y q'=>simp at g1;subst g1;exact⟨_,_,rfl,by omega,by omega,by omega,by omega,h5⟩
 ·intro i x' hi hx';obtain⟨x,hx,_,_,_,e4,_⟩:=B i x' hx';rw[e4];exact h.up i x hi hx
 ·intro i x' hx' z hz;obtain⟨x,hx,_,e2,e3,e4,e5⟩:=B i x' hx';rw[e5]at hz;obtain⟨j,y,rfl,j0,hy,k1,k2,k3,k4⟩:=h.kid i x hx z hz;obtain⟨y',g1,_,g3,g4,g5,_⟩:=G j y hy;exact⟨j,y',rfl,j0,g1,by omega,by omega,by omega,.inl (by have:=k4.elim id False.elim;omega)⟩
 ·intro i x' hx';obtain⟨x,hx,_,e2,e3,e4,e5⟩:=B i x' hx';rw[e5];refine(h.ord i x hx).imp (fun{a b} hab=>⟨hab.1,λxa yb hxa hyb=>?_⟩);obtain⟨aa,q1,_,_,q2,_⟩:=B _ xa hxa;obtain⟨ae,r1,_,r2,_⟩:=B _ yb hyb;have:=hab.2 aa ae q1 r1;omega
 ·intro i hi hil;have hm:r.map (·.ks)=l.map (·.ks):=by
   refine sN (λi=>?_);rw[lS,lS];cases hx:l[i]? with
   |none=>
    have:r[i]?=none:=by rw[wm]at hx⊢;omega
    rw[this]
   |some x=>
    obtain⟨x',g1,_,_,_,_,e5⟩:=G i x hx;rw[g1];simp[e5]
  rw[Rl,hm,<-Rl];exact h.seen i hi (by omega)
 ·have hs:=hf.sp;clear hf
  induction hs with
  |root=>exact .root
  |up d p x y h0 hx hy hu hla ht hsp ih=>
   obtain⟨x',g1,_,_,g3,g4,_⟩:=G d x hx;obtain⟨y',k1,_,_,_,_,k5⟩:=G p y hy;exact .up d p x' y' h0 g1 k1 (by omega) (by rw[k5];exact hla) (by omega) ih
 intro x' hx';obtain⟨x,hx,_,e2,_,_,e5⟩:=B c x' hx';refine⟨by have:=(hf.here x hx).1;omega,λz hz y' hy'=>?_⟩;rw[e5]at hz;obtain⟨y,hy,_,_,q3,_⟩:=B _ y' hy';have:=(hf.here x hx).2 z hz y hy;omega
theorem ou{n e b:Int}{up:Nat}{s0 s:St}(i:Int)(h:Ok n up s0 e b s):Ok n up s0 e b ⟨keyed s.t i,s.d⟩:=by
 obtain⟨k1,k2⟩:=x8 s.t i;obtain⟨h1,h2⟩:=Jy k1 k2 h.ck h.fits;have hk:nE s.t (keyed s.t i):=⟨by omega,λj x hx=>by obtain⟨x',g1,g2,g3,_,g5,_⟩:=k2 j x hx;exact⟨x',g1,g2,g3,g5⟩⟩
 refine⟨h1,h2,h.keep.trans hk,?_⟩;show errs (keyed s.t i)+_=_+told s.d;rw[nS k1 (λj x hx=>by obtain⟨x',g1,g2,_⟩:=k2 j x hx;exact⟨x',g1,g2⟩)];exact h.tells
end Fl
namespace Fl
open Ar
structure fV where
 q:List Nd
 d:List Dg
def iB(q:List Nd)(up:Int)(k f:Nat):List Nd:=
 if up<0 then q++[(⟨k,f,0,up,[],false⟩:Nd)]else match q[up.toNat]? with
  |none=>q++[(⟨k,f,0,up,[],false⟩:Nd)]
  |some p=>(q++[(⟨k,f,0,up,[],false⟩:Nd)]).set up.toNat {p with ks:=p.ks++[(q.length:Int)]}
def mV(q:List Nd)(i t:Nat):List Nd:=match q[i]? with
 |none=>q
 |some x=>q.set i {x with t:=t}
def jm(q:List Nd)(up:Int)(k f t:Nat):List Nd:=mV (iB q up k f) q.length t
def o9(l:List Tk)(s:fV)(up:Int)(f t code:Nat):fV:=⟨jm s.q up 11 f t,s.d++[⟨code,mM l f,too l (t-1)⟩]⟩
def yD(l:List Tk)(e:Nat)(fG:Option (Nat->Nat->fV->Nat×fV))(up:Int)(p:Nat)(s:fV):Nat×fV:=
 let o:=(lead l e (e-blanks l e p) none (blanks l e p)).1
 let i:=(lead l e (e-blanks l e p) none (blanks l e p)).2
 let fr:=kL o i
 let k:=kd l e i
 if k=13 then(i+1,⟨jm s.q up 8 fr (i+1),s.d⟩)
 else if ig k=true then(i+1,⟨jm s.q up 7 fr (i+1),s.d⟩)
 else if k=18 then(text l e i,⟨jm s.q up 7 fr (text l e i),s.d⟩)
 else if opens k=true then match fG with
  |none=>(balanced l e i,o9 l s up fr (balanced l e i) 10)
  |some fG=>fG s.q.length i ⟨iB s.q up (if k=9 then 10 else 9) fr,s.d⟩
 else match o with
  |some x=>(x.2+1,⟨jm s.q up 7 fr (x.2+1),s.d⟩)
  |none=>(p,s)
def l8(l:List Tk)(s:fV)(c:Nat)(j q:Nat):fV:=
 if q-j<2 then⟨iB s.q c 6 j,s.d⟩
 else⟨jm (keyed (iB s.q c 6 j) s.q.length) s.q.length (if(List.range (q-j)).any (λx=>raw l (j+x)==13)=true then 8 else 7) j (back l (q-1) (j+1)),s.d⟩
def pE(l:List Tk)(e:Nat)(val:Int->Nat->fV->Nat×fV)(aa:Bool)(c:Nat)(j:Nat)(s:fV):Nat×fV:=
 let q:=key l e j
 let n:=s.q.length
 if 0<q then
  let x:=fZ l e q
  let r:=val n x (l8 l s c j q)
  let jr:=if r.1=x then q else r.1
  (jr,⟨mV r.2.q n jr,r.2.d⟩)
 else if aa=true then
  let r:=val n j ⟨keyed (iB s.q c 6 j) n,s.d⟩
  (r.1,⟨mV r.2.q n r.1,r.2.d⟩)
 else val c j s
def iI(l:List Tk)(e:Nat)(val:Int->Nat->fV->Nat×fV)(c:Nat)(op:Nat):Nat->Nat->Bool->fV->Nat×fV
 |0,p,_,s=>(p,s)
 |g+1,p,aa,s=>
  let j:=fZ l e p
  let k:=kd l e j
  if k=0 then(back l p (op+1),⟨mV s.q c (back l p (op+1)),s.d++[⟨9,mM l op,too l op⟩]⟩)
  else if k=(if raw l op=9 then 11 else 10)then(j+1,⟨mV s.q c (j+1),s.d⟩)
  else if ends k=true then iI l e val c op g (j+1) aa (o9 l s c j (j+1) 8)
  else if k=7 then
   if aa=true then iI l e val c op g (j+1) false s
   else iI l e val c op g (j+1) aa (o9 l s c j (j+1) 8)
  else if aa=true then iI l e val c op g (jY l e j) aa (o9 l s c j (jY l e j) 8)
  else if 0<key l e j\/begins k=true then iI l e val c op g (pE l e val (raw l op==9) c j s).1 true (pE l e val (raw l op==9) c j s).2
  else iI l e val c op g (j+1) aa (o9 l s c j (j+1) 8)
def iC(l:List Tk)(e:Nat):Nat->Int->Nat->fV->Nat×fV
 |0=>yD l e none
 |d+1=>yD l e (some (λc op s=>iI l e (iC l e d) c op (e-op) (op+1) false s))
theorem iL(q:List Nd)(up:Int)(k f:Nat):(iB q up k f).length=q.length+1:=by
 unfold iB;split
 ·simp
 split<;>simp
theorem my(q:List Nd)(up:Int)(k f:Nat)(hu:up<q.length):(iB q up k f)[q.length]?=some ⟨k,f,0,up,[],false⟩:=by
 unfold iB;split
 ·simp
 split
 ·simp
 rw[wo (by omega)];simp
theorem tY(q:List Nd)(up:Int)(k f:Nat)(i:Nat)(x:Nd)(hx:q[i]?=some x):(iB q up k f)[i]?=some {x with ks:=if(i:Int)=up then x.ks++[(q.length:Int)]else x.ks}:=by
 have hi:=(gD.1 hx).1;unfold iB;split
 ·rw[oD hi,hx,eX (by omega)]
 split
 ·rename_i h0 h1;rw[oD hi,hx,eX (λe=>by rw[<-e,jk,hx]at h1;cases h1)]
 rename_i h0 p hp;by_cases e:(i:Int)=up
 ·subst e;rw[jk,hx]at hp;injection hp with hp;subst hp
  rw[eY rfl,jk,wu (by simp;omega)]
 rw[eX e,wo (by omega),oD hi,hx]
theorem jw(q:List Nd)(i t:Nat):(mV q i t).length=q.length:=by
 unfold mV;split<;>simp
theorem nA(q:List Nd)(i t j:Nat)(x:Nd)(hx:q[j]?=some x):(mV q i t)[j]?=some {x with t:=if j=i then(t:Int)else x.t}:=by
 have hj:=(gD.1 hx).1;unfold mV;split
 ·rename_i h1;rw[hx,eX (λe=>by rw[<-e,hx]at h1;cases h1)]
 rename_i y hy;by_cases e:j=i
 ·subst e;rw[hx]at hy;injection hy with hy;subst hy
  rw[wu hj,eY rfl]
 rw[wo (λh=>e h.symm),hx,eX e]
theorem gL(q:List Nd)(i:Int):(keyed q i).length=q.length:=(x8 q i).1
theorem mD(q:List Nd)(i j:Nat)(x:Nd)(hx:q[j]?=some x):(keyed q i)[j]?=some {x with y:=if j=i then true else x.y}:=by
 have hj:=(gD.1 hx).1;unfold keyed;rw[jk];cases hy:q[i]? with
 |none=>
  dsimp only;rw[hx,eX (λe=>by rw[<-e,hx]at hy;cases hy)]
 |some y=>
  dsimp only;by_cases e:j=i
  ·subst e;rw[hx]at hy;injection hy with hy;subst hy
   rw[wu hj,eY rfl]
  rw[wo (λh=>e h.symm),hx,eX e]
theorem oQ{l l':List Nd}(hl:l'.length=l.length){i:Nat}{x':Nd}(h:l'[i]?=some x'):∃x,l[i]?=some x:=by
 have:=(gD.1 h).1;exact⟨_,mR (by omega)⟩
theorem qf{l l':List Nd}{c i:Nat}(hg:eu l)(hc:c<l.length)(h:∀(d:Nat)(x:Nd),l[d]?=some x->∃x',l'[d]?=some x'/\x'.u=x.u):On l' c i↔On l c i:=by
 refine⟨λho=>?_,On.mono h⟩
 induction ho with
 |self c=>exact .self c
 |out c p' i x hx hu h00 ho ih=>
  obtain⟨y,hy⟩:=jB l c hc;obtain⟨x',h1,h2⟩:=h c y hy;rw[hx]at h1;injection h1 with h1;subst h1
  have:=(hg.up c y hy).2;exact .out c p' i y hy (by omega) h00 (ih (by omega))
theorem NJ{l:List Nd}{c i p:Nat}{x:Nd}(hx:l[c]?=some x)(hu:x.u=(p:Int))(h0:0<c)(hi:i≠c):On l c i↔On l p i:=by
 constructor
 ·intro ho;cases ho with
  |self=>exact absurd rfl hi
  |out _ p' _ y hy hp _ ho=>
   rw[hx]at hy;injection hy with hy;subst hy
   obtain rfl:p'=p:=by omega
   exact ho
 exact λho=>.out _ _ i x hx hu h0 ho
theorem NK{l:List Nd}{up k f t:Nat}(hg:eu l)(hm:iH l up k f t=true):
 ∃r,addN l up k f t=(r,(l.length:Int))/\r.length=l.length+1/\r[l.length]?=some ⟨k,f,t,up,[],false⟩/\
  ∀(i:Nat)(x:Nd),l[i]?=some x->∃z,r[i]?=some z/\z.k=x.k/\z.f=x.f/\z.u=x.u/\z.y=x.y/\z.ks=(if i=up then x.ks++[(l.length:Int)]else x.ks)/\((On l up i/\z.t=max x.t t)\/(¬On l up i/\z.t=x.t)):=by
 obtain⟨h0,h1,p,hp⟩:=xP hm;have ae:=(Dl hm hp).1;have aa:=wS hg up k f t p h0 hp ae;rw[jk]at hp aa;obtain⟨m,hmd⟩:=fq ((l++[(⟨k,f,t,up,[],false⟩:Nd)]).set up {p with ks:=p.ks++[(l.length:Int)]});have hadd:addN l up k f t=(iG m up t,(l.length:Int)):=by
  unfold addN;rw[eY hm,jk,hp];dsimp only;rw[hmd]
 rw[hmd]at aa;have af:m.length=l.length+1:=by rw[<-hmd];simp
 have mn:m[l.length]?=some ⟨k,f,t,up,[],false⟩:=by
  rw[<-hmd,wo (by omega),oM (fB _)];simp
 have mo:∀(i:Nat)(x:Nd),l[i]?=some x->m[i]?=some {x with ks:=if i=up then x.ks++[(l.length:Int)]else x.ks}:=by
  intro i x hx;have hi:=(gD.1 hx).1;by_cases e:i=up
  ·subst e;rw[hp]at hx;injection hx with hx;subst hx
   rw[<-hmd,wu (by simp;omega),eY rfl]
  rw[<-hmd,wo (λh=>e h.symm),oD hi,hx,eX e]
 have hon:∀i,i<l.length->(On m up i↔On l up i):=by
  intro i hi;exact qf hg (by omega) (λd x hd=>⟨_,mo d x hd,rfl⟩)
 have H:=tV up m t aa (by omega);refine⟨iG m up t,hadd,by rw[pP _ _ aa,af],?_,λi x hx=>?_⟩
 ·obtain⟨z,h2,h3⟩:=H l.length _ mn;rcases h3 with⟨h3,_⟩|⟨_,rfl⟩
  ·have:=h3.low aa;omega
  exact h2
 have hi:=(gD.1 hx).1;obtain⟨z,h2,h3⟩:=H i _ (mo i x hx);rcases h3 with⟨h3,rfl⟩|⟨h3,rfl⟩
 ·exact⟨_,h2,rfl,rfl,rfl,rfl,rfl,.inl ⟨(hon i hi).1 h3,rfl⟩⟩
 exact⟨_,h2,rfl,rfl,rfl,rfl,rfl,.inr ⟨λh=>h3 ((hon i hi).2 h),rfl⟩⟩
def cT(B up0:Nat)(c:Int):Nat:=if c<0 then up0 else B+c.toNat
structure Rel(B up0:Nat)(T0 q t:List Nd)(c:Int)(p:Nat):Prop where
 len:t.length=B+q.length
 lo:B=T0.length/\up0<B
 cur:-1<=c/\c<q.length
 nd:∀(i:Nat)(x:Nd),q[i]?=some x->∃z,t[B+i]?=some z/\z.k=x.k/\z.f=x.f/\z.u=(cT B up0 x.u:Int)/\z.ks=x.ks.map (·+(B:Int))/\z.y=x.y/\
  ((On t (cT B up0 c) (B+i)/\z.t=p)\/(¬On t (cT B up0 c) (B+i)/\z.t=x.t))
 Q4:∀(i:Nat)(x:Nd),q[i]?=some x->-1<=x.u/\(0<i->0<=x.u)
 old:∀(i:Nat)(x:Nd),T0[i]?=some x->∃z,t[i]?=some z/\z.k=x.k/\z.f=x.f/\z.u=x.u/\z.y=x.y/\z.ks=(if i=up0/\0<q.length then x.ks++[(B:Int)]else x.ks)/\
  ((On t up0 i/\0<q.length/\z.t=max x.t p)\/((¬On t up0 i\/q.length=0)/\z.t=x.t))
section
variable {B up0:Nat}{T0 q t:List Nd}{c:Int}{p:Nat}
theorem oG(B up0 c:Nat):cT B up0 (c:Int)=B+c:=by unfold cT;rw[eX (by omega),jk]
theorem oU(B up0:Nat){c:Int}(h:c<0):cT B up0 c=up0:=by unfold cT;rw[eY h]
theorem Rel.lt(h:Rel B up0 T0 q t c p):cT B up0 c<t.length:=by
 have:=h.len;have:=h.lo;have:=h.cur;unfold cT;split<;>omega
theorem Rel.UJ(h:Rel B up0 T0 q t c p){a:Nat}{x:Nd}(hx:q[a]?=some x)(i:Nat)(hi:i≠B+a):On t (B+a) i↔On t (cT B up0 x.u) i:=by
 obtain⟨z,hz,_,_,hu,_⟩:=h.nd a x hx;have:=h.lo;exact NJ hz hu (by omega) hi
theorem Rel.VU(h:Rel B up0 T0 q t c p)(hg:eu t):∀a:Nat,a<q.length->∀i,i<B->(On t (B+a) i↔On t up0 i):=by
 intro a
 induction a using Nat.strongRecOn with
 |ind a ih=>
  intro ha i hi;obtain⟨x,hx⟩:=jB q a ha;rw[h.UJ hx i (by omega)];obtain⟨z,hz,_,_,hu,_⟩:=h.nd a x hx;have h1:=(hg.up _ z hz).2;by_cases hc:x.u<0
  ·rw[oU B up0 hc]
  obtain⟨u,hu2⟩:∃u:Nat,x.u=(u:Int):=⟨x.u.toNat,by omega⟩
  rw[hu2,oG]at hu⊢;exact ih u (by omega) (by omega) i hi
theorem Rel.NM(h:Rel B up0 T0 q t c p)(hg:eu t){i:Nat}(hi:i<B):On t (cT B up0 c) i↔On t up0 i:=by
 have aa:=h.cur;by_cases hc:c<0
 ·rw[oU B up0 hc]
 obtain⟨u,rfl⟩:∃u:Nat,c=(u:Int):=⟨c.toNat,by omega⟩
 rw[oG];exact h.VU hg u (by omega) i hi
theorem Rel.put(h:Rel B up0 T0 q t c p)(hg:eu t){k f jr:Nat}(hm:iH t (cT B up0 c) k f jr=true)(hq:c<0->q.length=0/\p<=jr):
 ∃r,addN t (cT B up0 c) k f jr=(r,(t.length:Int))/\
  Rel B up0 T0 (jm q c k f jr) r c (max p jr)/\
  (p<=jr->Rel B up0 T0 (iB q c k f) r q.length jr):=by
 obtain⟨r,h1,h2,h3,h4⟩:=NK hg hm;have hlen:=h.len;have hlo:=h.lo;have ae:=h.cur;have hlt:=h.lt;have hon:∀i,On r (cT B up0 c) i↔On t (cT B up0 c) i:=λi=>qf hg hlt (λd x hd=>by obtain⟨z,a,_,_,b,_⟩:=h4 d x hd;exact⟨z,a,b⟩)
 have af:∀i,On r up0 i↔On t up0 i:=λi=>qf hg (by omega) (λd x hd=>by obtain⟨z,a,_,_,b,_⟩:=h4 d x hd;exact⟨z,a,b⟩)
 have elder:∀(i:Nat)(x:Nd),q[i]?=some x->∃z,r[B+i]?=some z/\z.k=x.k/\z.f=x.f/\z.u=(cT B up0 x.u:Int)/\z.ks=(if(i:Int)=c then x.ks++[(q.length:Int)]else x.ks).map (·+(B:Int))/\z.y=x.y/\
  ((On r (cT B up0 c) (B+i)/\z.t=(max p jr:Nat))\/(¬On r (cT B up0 c) (B+i)/\z.t=x.t)):=by
  intro i x hx;have hi:=(gD.1 hx).1;obtain⟨z,a1,a2,a3,a4,a5,a6,a7⟩:=h.nd i x hx;obtain⟨z',b1,b2,b3,b4,b5,b6,b7⟩:=h4 (B+i) z a1;refine⟨z',b1,by omega,by omega,by omega,?_,by rw[b5,a6],?_⟩
  ·rw[b6,a5,hlen];by_cases e:(i:Int)=c
   ·subst e;rw[oG,eY rfl,eY rfl,wy];simp;omega
   rw[eX e,eX];unfold cT;split<;>omega
  rw[hon];rcases b7 with⟨b7,b8⟩|⟨b7,b8⟩
  ·rcases a7 with⟨_,a8⟩|⟨a7,_⟩
   ·exact .inl ⟨b7,by omega⟩
   exact absurd b7 a7
  rcases a7 with⟨a7,_⟩|⟨_,a8⟩
  ·exact absurd a7 b7
  exact .inr ⟨b7,by omega⟩
 have older:∀(i:Nat)(x:Nd),T0[i]?=some x->∃z,r[i]?=some z/\z.k=x.k/\z.f=x.f/\z.u=x.u/\z.y=x.y/\z.ks=(if i=up0/\0<q.length+1 then x.ks++[(B:Int)]else x.ks)/\
  ((On r up0 i/\0<q.length+1/\z.t=max x.t (max p jr:Nat))\/((¬On r up0 i\/q.length+1=0)/\z.t=x.t)):=by
  intro i x hx;have hi:=(gD.1 hx).1;obtain⟨z,a1,a2,a3,a4,a5,a6,a7⟩:=h.old i x hx;obtain⟨z',b1,b2,b3,b4,b5,b6,b7⟩:=h4 i z a1;rw[h.NM hg (by omega)]at b7;refine⟨z',b1,by omega,by omega,by omega,by rw[b5,a5],?_,?_⟩
  ·rw[b6,a6];by_cases hc:c<0
   ·have:=(hq hc).1;rw[oU B up0 hc];by_cases e:i=up0
    ·rw[eY e,eX (by omega),eY (by omega),hlen,this,qI]
    rw[eX e,eX (by omega),eX (by omega)]
   rw[eX (by unfold cT;rw[eX hc];omega)];by_cases e:i=up0
   ·rw[eY (by omega),eY (by omega)]
   rw[eX (by omega),eX (by omega)]
  rw[af];rcases b7 with⟨b7,b8⟩|⟨b7,b8⟩
  ·refine .inl ⟨b7,by omega,?_⟩;rcases a7 with⟨_,_,a8⟩|⟨a7,a8⟩
   ·omega
   have hq0:q.length=0:=a7.resolve_left (λh=>h b7);have:=(hq (by omega)).2;omega
  refine .inr ⟨.inl b7,?_⟩;rcases a7 with⟨a7,_⟩|⟨_,a8⟩
  ·exact absurd a7 b7
  omega
 have hnew:=my q c k f ae.2;have aa:=iL q c k f;have new:∀(i:Nat)(x:Nd),(iB q c k f)[i]?=some x->(i=q.length/\x=⟨k,f,0,c,[],false⟩)\/(i<q.length/\∃y,q[i]?=some y/\x={y with ks:=if(i:Int)=c then y.ks++[(q.length:Int)]else y.ks}):=by
  intro i x hx;have hi:=(gD.1 hx).1;by_cases e:i=q.length
  ·subst e;rw[hnew]at hx;injection hx with hx;exact .inl ⟨rfl,hx.symm⟩
  obtain⟨y,hy⟩:=jB q i (by omega);rw[tY q c k f i y hy]at hx;injection hx with hx
  exact .inr ⟨by omega,y,hy,hx.symm⟩
 have hrn:r[B+q.length]?=some ⟨k,f,jr,cT B up0 c,[],false⟩:=by rw[<-hlen];exact h3
 have hnot:¬On r (cT B up0 c) (B+q.length):=λho=>by have:=((hon _).1 ho).low hg;omega
 refine⟨r,h1,⟨by rw[h2,jm,jw,aa];omega,hlo,by rw[jm,jw,aa];omega,λi x hx=>?_,λi x hx=>?_,by rw[jm,jw,aa];exact older⟩,λhp=>⟨by rw[h2,aa];omega,hlo,by rw[aa];omega,λi x hx=>?_,λi x hx=>?_,?_⟩⟩
 ·obtain⟨y,hy⟩:=oQ (jw _ _ _) hx;have hx2:=nA (iB q c k f) q.length jr i y hy;rw[jm,hx2]at hx;injection hx with hx
  rcases new i y hy with⟨rfl,rfl⟩|⟨hi,y',hy',rfl⟩
  ·subst hx;refine⟨_,hrn,rfl,rfl,rfl,rfl,rfl,.inr ⟨hnot,?_⟩⟩;rw[eY rfl]
  subst hx;obtain⟨z,e1,e2,e3,e4,e5,e6,e7⟩:=elder i y' hy';refine⟨z,e1,e2,e3,e4,e5,e6,?_⟩;rw[eX (show¬i=q.length by omega)];exact e7
 ·obtain⟨y,hy⟩:=oQ (jw _ _ _) hx;have hx2:=nA (iB q c k f) q.length jr i y hy;rw[jm,hx2]at hx;injection hx with hx
  subst hx;rcases new i y hy with⟨rfl,rfl⟩|⟨hi,y',hy',rfl⟩
  ·exact⟨ae.1,λh0=>by
   by_cases hc:c<0
   ·have:=(hq hc).1;omega
   show 0<=c;omega⟩
  exact h.Q4 i y' hy'
 ·rw[oG];rcases new i x hx with⟨rfl,rfl⟩|⟨hi,y',hy',rfl⟩
  ·exact⟨_,hrn,rfl,rfl,rfl,rfl,rfl,.inl ⟨.self _,rfl⟩⟩
  obtain⟨z,e1,e2,e3,e4,e5,e6,e7⟩:=elder i y' hy';refine⟨z,e1,e2,e3,e4,e5,e6,?_⟩;have hup:On r (B+q.length) (B+i)↔On r (cT B up0 c) (B+i):=NJ hrn rfl (by omega) (by omega);rw[hup];rcases e7 with⟨e7,e8⟩|e7
  ·exact .inl ⟨e7,by omega⟩
  exact .inr e7
 ·rcases new i x hx with⟨rfl,rfl⟩|⟨hi,y',hy',rfl⟩
  ·exact⟨ae.1,λh0=>by
   by_cases hc:c<0
   ·have:=(hq hc).1;omega
   show 0<=c;omega⟩
  exact h.Q4 i y' hy'
 rw[aa];intro i x hx;obtain⟨z,e1,e2,e3,e4,e5,e6,e7⟩:=older i x hx;refine⟨z,e1,e2,e3,e4,e5,e6,?_⟩;rw[show max p jr=jr by omega]at e7;exact e7
theorem Rel.close{a:Nat}{x:Nd}(h:Rel B up0 T0 q t (a:Int) p)(hg:eu t)(hx:q[a]?=some x):Rel B up0 T0 (mV q a p) t x.u p:=by
 have hlo:=h.lo;have ha:=(gD.1 hx).1;have hlen:=h.len;obtain⟨z0,hz0,_,_,hu0,_⟩:=h.nd a x hx;have aa:=(hg.up _ z0 hz0).2;have hxu:=(h.Q4 a x hx).1;have hcl:cT B up0 x.u<B+a:=by omega
 refine⟨by rw[jw];exact h.len,hlo,⟨hxu,?_⟩,λi y hy=>?_,λi y hy=>?_,by rw[jw];exact h.old⟩
 ·rw[jw];unfold cT at hcl;split at hcl<;>omega
 ·obtain⟨y',hy'⟩:=oQ (jw _ _ _) hy;rw[nA q a p i y' hy']at hy;injection hy with hy
  subst hy;obtain⟨z,e1,e2,e3,e4,e5,e6,e7⟩:=h.nd i y' hy';refine⟨z,e1,e2,e3,e4,e5,e6,?_⟩;rw[oG]at e7;by_cases e:i=a
  ·subst e;rw[eY rfl];refine .inr ⟨λho=>by have:=ho.low hg;omega,?_⟩;rcases e7 with⟨_,e7⟩|⟨e7,_⟩
   ·exact e7
   exact absurd (.self _) e7
  rw[eX e,<-h.UJ hx (B+i) (by omega)];exact e7
 obtain⟨y',hy'⟩:=oQ (jw _ _ _) hy;rw[nA q a p i y' hy']at hy;injection hy with hy
 subst hy;exact h.Q4 i y' hy'
theorem Rel.grow(h:Rel B up0 T0 q t c p)(hg:eu t)(hc:0<=c)(jr:Nat):Rel B up0 T0 q (iG t (cT B up0 c) jr) c (max p jr):=by
 have H:=tV (cT B up0 c) t jr hg h.lt;have hl:=pP (l:=t) (cT B up0 c) (jr:Int) hg;obtain⟨r,hr⟩:=fq (iG t (cT B up0 c) jr);rw[hr]at H hl⊢;have hlo:=h.lo;have aa:=h.cur;have hU:∀(d:Nat)(x:Nd),t[d]?=some x->∃x',r[d]?=some x'/\x'.u=x.u:=λd x hd=>by
  obtain⟨z,a1,a2⟩:=H d x hd;rcases a2 with⟨_,rfl⟩|⟨_,rfl⟩<;>exact⟨_,a1,rfl⟩
 have hon:∀i,On r (cT B up0 c) i↔On t (cT B up0 c) i:=λi=>qf hg h.lt hU
 have ae:∀i,On r up0 i↔On t up0 i:=λi=>qf hg (by have:=h.len;omega) hU
 refine⟨by rw[hl];exact h.len,hlo,aa,λi x hx=>?_,h.Q4,λi x hx=>?_⟩
 ·obtain⟨z,e1,e2,e3,e4,e5,e6,e7⟩:=h.nd i x hx;obtain⟨z',a1,a2⟩:=H _ z e1;rw[hon];rcases a2 with⟨a2,rfl⟩|⟨a2,rfl⟩
  ·refine⟨_,a1,e2,e3,e4,e5,e6,.inl ⟨a2,?_⟩⟩;rcases e7 with⟨_,e7⟩|⟨e7,_⟩
   ·show max z.t (jr:Int)=_;omega
   exact absurd a2 e7
  refine⟨_,a1,e2,e3,e4,e5,e6,.inr ⟨a2,?_⟩⟩;rcases e7 with⟨e7,_⟩|⟨_,e7⟩
  ·exact absurd e7 a2
  exact e7
 have hi:=(gD.1 hx).1;obtain⟨z,e1,e2,e3,e4,e5,e6,e7⟩:=h.old i x hx;obtain⟨z',a1,a2⟩:=H _ z e1;rw[ae];rw[h.NM hg (by omega)]at a2;rcases a2 with⟨a2,rfl⟩|⟨a2,rfl⟩
 ·refine⟨_,a1,e2,e3,e4,e5,e6,.inl ⟨a2,by omega,?_⟩⟩;rcases e7 with⟨_,_,e7⟩|⟨e7,_⟩
  ·show max z.t (jr:Int)=_;omega
  rcases e7 with e7|e7
  ·exact absurd a2 e7
  omega
 refine⟨_,a1,e2,e3,e4,e5,e6,.inr ⟨.inl a2,?_⟩⟩;rcases e7 with⟨e7,_⟩|⟨_,e7⟩
 ·exact absurd e7 a2
 exact e7
theorem Rel.key(h:Rel B up0 T0 q t c p)(hg:eu t)(a:Nat)(ha:a<q.length):Rel B up0 T0 (keyed q a) (keyed t ((B+a:Nat):Int)) c p:=by
 have hlo:=h.lo;have hlen:=h.len;have K:∀(d:Nat)(x:Nd),t[d]?=some x->(keyed t ((B+a:Nat):Int))[d]?=some {x with y:=if d=B+a then true else x.y}:=λd x hd=>mD t (B+a) d x hd
 have hU:∀(d:Nat)(x:Nd),t[d]?=some x->∃x',(keyed t ((B+a:Nat):Int))[d]?=some x'/\x'.u=x.u:=λd x hd=>⟨_,K d x hd,rfl⟩
 have hon:∀i,On (keyed t ((B+a:Nat):Int)) (cT B up0 c) i↔On t (cT B up0 c) i:=λi=>qf hg h.lt hU
 have aa:∀i,On (keyed t ((B+a:Nat):Int)) up0 i↔On t up0 i:=λi=>qf hg (by omega) hU
 refine⟨by rw[gL,gL];exact hlen,hlo,by rw[gL];exact h.cur,λi x hx=>?_,λi x hx=>?_,λi x hx=>?_⟩
 ·obtain⟨y,hy⟩:=oQ (gL _ _) hx;rw[mD q a i y hy]at hx;injection hx with hx;subst hx
  obtain⟨z,e1,e2,e3,e4,e5,e6,e7⟩:=h.nd i y hy;refine⟨_,K _ z e1,e2,e3,e4,e5,?_,by rw[hon];exact e7⟩;by_cases e:i=a
  ·rw[eY e,eY (by omega)]
  rw[eX e,eX (by omega)];exact e6
 ·obtain⟨y,hy⟩:=oQ (gL _ _) hx;rw[mD q a i y hy]at hx;injection hx with hx;subst hx
  exact h.Q4 i y hy
 have hi:=(gD.1 hx).1;obtain⟨z,e1,e2,e3,e4,e5,e6,e7⟩:=h.old i x hx;refine⟨_,K _ z e1,e2,e3,e4,?_,by rw[gL];exact e6,by rw[aa,gL];exact e7⟩;rw[eX (by omega)];exact e5
end
end Fl
end Go.Proofs.YtmkkdjpebbdikaaGreatDoor

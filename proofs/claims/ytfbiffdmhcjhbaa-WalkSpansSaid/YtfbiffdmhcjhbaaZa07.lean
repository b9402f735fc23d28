import Derived.Test.YtfbiffdmhcjhbaaZa03
set_option linter.all false
set_option maxHeartbeats 16000000
set_option maxRecDepth 100000
namespace Go.Proofs.Ytfbiffdmhcjhbaa
open Go.RowKit Try
namespace Fl
open Ar
def errs(l:List Nd):Nat:=l.countP (λx=>x.k==11)
def told(d:List Dg):Nat:=d.countP (λx=>x.code !=9)
def sj(l l':List Nd):Prop:=l.length<=l'.length/\∀(i:Nat)(x:Nd),l[i]?=some x->∃x',l'[i]?=some x'/\x'.k=x.k/\x'.f=x.f/\x'.u=x.u
theorem sj.refl(l:List Nd):sj l l:=⟨mJ _,λ_ x h=>⟨x,h,rfl,rfl,rfl⟩⟩
theorem sj.trans{a b c:List Nd}(h:sj a b)(g:sj b c):sj a c:=by
 refine⟨qy h.1 g.1,λi x hx=>?_⟩;obtain⟨y,h1,h2,h3,h4⟩:=h.2 i x hx;obtain⟨z,g1,g2,g3,g4⟩:=g.2 i y h1;exact⟨z,g1,by omega,by omega,by omega⟩
structure Ok(n:Int)(up:Nat)(s0:St)(e b:Int)(s:St):Prop where
 ck:Ck s.t n
 fits:Fits s.t e b up
 keep:sj s0.t s.t
 tells:errs s.t+told s0.d=errs s0.t+told s.d
theorem Ok.le{n e b e' b':Int}{up:Nat}{s0 s:St}(h:Ok n up s0 e b s)(he:e<=e')(hb:b<=b'):Ok n up s0 e' b' s:=⟨h.ck,h.fits.le he hb,h.keep,h.tells⟩
theorem Ok.start{n e b:Int}{up:Nat}{s:St}(h:Ck s.t n)(g:Fits s.t e b up):Ok n up s e b s:=⟨h,g,sj.refl _,rfl⟩
theorem Ok.trans{n e b e1 b1:Int}{up c:Nat}{s0 s s':St}(h:Ok n up s0 e b s)(g:Ok n c s e1 b1 s'):Ok n c s0 e1 b1 s' :=
 ⟨g.ck,g.fits,h.keep.trans g.keep,by have h1:=h.tells;have h2:=g.tells;omega⟩
theorem Ok.out{n e b:Int}{c p:Nat}{s0 s:St}(h:Ok n c s0 e b s){x:Nd}(hx:s.t[c]?=some x)(hu:x.u=(p:Int))(h0:0<c):Ok n p s0 b b s:=
 ⟨h.ck,h.fits.out h.ck hx hu h0,h.keep,h.tells⟩
theorem I9{l r:List Nd}(hl:r.length=l.length)(h:∀(i:Nat)(x:Nd),l[i]?=some x->∃x',r[i]?=some x'/\x'.k=x.k):r.map (·.k)=l.map (·.k):=by
 refine zT (λi=>?_);rw[r9,r9];cases hx:l[i]? with
 |none=>
  have:r[i]?=none:=by rw[F5]at hx⊢;omega
  rw[this]
 |some x=>
  obtain⟨x',h1,h2⟩:=h i x hx;rw[h1];simp[h2]
theorem xG(l:List Nd):errs l=(l.map (·.k)).countP (λk=>k==11):=by
 unfold errs;rw[List.countP_map];rfl
theorem sP{l r:List Nd}(hl:r.length=l.length)(h:∀(i:Nat)(x:Nd),l[i]?=some x->∃x',r[i]?=some x'/\x'.k=x.k):errs r=errs l:=by
 rw[xG,xG,I9 hl h]
theorem Am{l r:List Nd}{z:Nd}(hl:r.length=l.length+1)(h:∀(i:Nat)(x:Nd),l[i]?=some x->∃x',r[i]?=some x'/\x'.k=x.k)(hz:r[l.length]?=some z):errs r=errs l+(if z.k==11 then 1 else 0):=by
 have h1:r=r.take l.length++[z]:=by
  refine zT (λi=>?_);by_cases hi:i<l.length
  ·rw[vC (by rw[qx];omega),Lg hi]
  by_cases e:i=l.length
  ·subst e;rw[hz,yF (by rw[qx];omega),qx,Ll (by omega),DL];rfl
  rw[xQ (by omega),xQ (by rw[oq,qx];simp;omega)]
 have h2:errs (r.take l.length)=errs l:=sP (by rw[qx];omega) (λi x hx=>by
  have hi:=(nC.1 hx).1;obtain⟨x',g1,g2⟩:=h i x hx
  exact⟨x',by rw[Lg hi];exact g1,g2⟩)
 rw[h1];unfold errs at h2⊢;rw[Dx,h2,E4,F4];omega
theorem Aa{n e b:Int}{up f t kind:Nat}{s0 s:St}(h:Ok n up s0 e b s)(he:e<=f)(hft:f<=t)(htn:(t:Int)<=n)(hk1:1<=kind)(hk2:kind<=11):
 ∃r,addN s.t up kind f t=(r,(s.t.length:Int))/\Ck r n/\Fits r t (max b t) up/\Fits r f (max b t) s.t.length/\sj s.t r/\errs r=errs s.t+(if kind=11 then 1 else 0)/\
  (∃x,r[s.t.length]?=some x/\x.u=(up:Int)/\x.k=(kind:Int))/\0<s.t.length:=by
 obtain⟨r,h1,h2,h3,h4,h5,h6,h7⟩:=N9 (f:=(f:Int)) (t:=(t:Int)) (kind:=(kind:Int)) h.ck h.fits he (by omega) htn (by omega) (by omega);refine⟨r,h1,h2,h3,h4,⟨by omega,λi x hx=>?_⟩,?_,⟨_,h5,rfl,rfl⟩,h.ck.pos⟩
 ·obtain⟨x',g1,g2,g3,g4,_⟩:=h7 i x hx;exact⟨x',g1,g2,g3,g4⟩
 rw[Am h6 (λi x hx=>by obtain⟨x',g1,g2,_⟩:=h7 i x hx;exact⟨x',g1,g2⟩) h5];congr 1;by_cases e:kind=11
 ·subst e;rfl
 rw[fu (by simp;omega),fu e]
theorem pQ{n e b:Int}{up f t kind:Nat}{s0 s:St}(h:Ok n up s0 e b s)(he:e<=f)(hft:f<=t)(htn:(t:Int)<=n)(hk1:1<=kind)(hk2:kind<=10):
 ∃s',add s up kind f t=(s',(s.t.length:Int))/\Ok n up s0 t (max b t) s'/\Ok n s.t.length s0 f (max b t) s'/\(∃x,s'.t[s.t.length]?=some x/\x.u=(up:Int))/\0<s.t.length:=by
 obtain⟨r,h1,h2,h3,h4,h5,h6,⟨x,h7,h8,_⟩,h9⟩:=Aa h he hft htn hk1 (by omega);have ht:errs r+told s0.d=errs s0.t+told s.d:=by rw[h6,fu (by omega)];have:=h.tells;omega
 refine⟨⟨r,s.d⟩,by unfold add;rw[h1],⟨h2,h3,h.keep.trans h5,ht⟩,⟨h2,h4,h.keep.trans h5,ht⟩,⟨x,h7,h8⟩,h9⟩
theorem qF{n e b:Int}{up f t code:Nat}{s0 s:St}(l:List Tk)(h:Ok n up s0 e b s)(he:e<=f)(hft:f<=t)(htn:(t:Int)<=n)(hc:code≠9):
 Ok n up s0 t (max b t) (err l s up f t code)/\(addN s.t up 11 f t).2=(s.t.length:Int):=by
 obtain⟨r,h1,h2,h3,h4,h5,h6,_,h9⟩:=Aa (kind:=11) h he hft htn (by omega) (by omega);have h1:addN s.t up 11 f t=(r,(s.t.length:Int)):=h1;refine⟨?_,by rw[h1]⟩;unfold err;rw[h1];refine⟨h2,h3,h.keep.trans h5,?_⟩;show errs r+told s0.d=errs s0.t+told (s.d++[_]);unfold told;rw[Dx,E4,F4,gu (by simpa using hc),h6,gu rfl];have:=h.tells;unfold told at this;omega
theorem u6{n e b:Int}{up t:Nat}{s0 s:St}(h:Ok n up s0 e b s)(he:e<=t)(hb:b<=t)(htn:(t:Int)<=n):Ok n up s0 t t ⟨nN s.t up t,s.d⟩:=by
 obtain⟨h1,h2,h3,h4⟩:=JP h.ck h.fits he hb htn;have hk:sj s.t (nN s.t up t):=⟨by omega,λi x hx=>by obtain⟨x',g1,g2,g3,g4,_⟩:=h4 i x hx;exact⟨x',g1,g2,g3,g4⟩⟩
 refine⟨h1,h2,h.keep.trans hk,?_⟩;show errs (nN s.t up t)+_=_+told s.d;rw[sP h3 (λi x hx=>by obtain⟨x',g1,g2,_⟩:=hk.2 i x hx;exact⟨x',g1,g2⟩)];exact h.tells
theorem Fy{n e b:Int}{up f t:Nat}{s0 s:St}(h:Ok n up s0 e b s):Ok n up s0 e b ⟨s.t,s.d++[⟨9,f,t⟩]⟩:=by
 refine⟨h.ck,h.fits,h.keep,?_⟩;show errs s.t+told s0.d=errs s0.t+told (s.d++[_]);have:=h.tells;unfold told at this⊢;rw[Dx,E4,F4,fu (by simp)];omega
theorem sQ(l:List Nd)(i:Int):(keyed l i).length=l.length/\∀(j:Nat)(x:Nd),l[j]?=some x->∃x',(keyed l i)[j]?=some x'/\x'.k=x.k/\x'.f=x.f/\x'.t=x.t/\x'.u=x.u/\x'.ks=x.ks:=by
 unfold keyed;cases hx:l[i.toNat]? with
 |none=>exact⟨rfl,λj x h=>⟨x,h,rfl,rfl,rfl,rfl,rfl⟩⟩
 |some y=>
  have hi:=(nC.1 hx).1;refine⟨by simp,λj x h=>?_⟩;dsimp only;by_cases e:i.toNat=j
  ·subst e;rw[hx]at h;injection h with h;subst h
   exact⟨_,DC hi,rfl,rfl,rfl,rfl,rfl⟩
  exact⟨x,by rw[AM e];exact h,rfl,rfl,rfl,rfl,rfl⟩
theorem J6{l r:List Nd}{n e b:Int}{c:Nat}(hl:r.length=l.length)(G:∀(j:Nat)(x:Nd),l[j]?=some x->∃x',r[j]?=some x'/\x'.k=x.k/\x'.f=x.f/\x'.t=x.t/\x'.u=x.u/\x'.ks=x.ks)
 (h:Ck l n) (hf:Fits l e b c):Ck r n/\Fits r e b c:=by
 have B:∀(i:Nat)(x':Nd),r[i]?=some x'->∃x,l[i]?=some x/\x'.k=x.k/\x'.f=x.f/\x'.t=x.t/\x'.u=x.u/\x'.ks=x.ks:=by
  intro i x' hx';have hi:=(nC.1 hx').1;obtain⟨x,hx⟩:=pG l i (by omega);obtain⟨y,h1,h2⟩:=G i x hx;rw[hx']at h1;injection h1 with h1;subst h1
  exact⟨x,hx,h2⟩
 refine⟨⟨?_,?_,?_,?_,?_⟩,⟨by have:=hf.lt;omega,?_,?_⟩⟩
 ·obtain⟨x,q,rfl,h1,h2,h3,h4,h5⟩:=h.first;obtain⟨x',g1,e1,e2,e3,e4,e5⟩:=G 0 x rfl;cases r with
  |nil=>simp at g1
  |cons y q'=>simp at g1;subst g1;exact⟨_,_,rfl,by omega,by omega,by omega,by omega,h5⟩
 ·intro i x' hi hx';obtain⟨x,hx,_,_,_,e4,_⟩:=B i x' hx';rw[e4];exact h.up i x hi hx
 ·intro i x' hx' z hz;obtain⟨x,hx,_,e2,e3,e4,e5⟩:=B i x' hx';rw[e5]at hz;obtain⟨j,y,rfl,j0,hy,k1,k2,k3,k4⟩:=h.kid i x hx z hz;obtain⟨y',g1,_,g3,g4,g5,_⟩:=G j y hy;exact⟨j,y',rfl,j0,g1,by omega,by omega,by omega,.inl (by have:=k4.elim id False.elim;omega)⟩
 ·intro i x' hx';obtain⟨x,hx,_,e2,e3,e4,e5⟩:=B i x' hx';rw[e5];refine(h.ord i x hx).imp (fun{a b} hab=>⟨hab.1,λxa yb hxa hyb=>?_⟩);obtain⟨aa,q1,_,_,q2,_⟩:=B _ xa hxa;obtain⟨ae,r1,_,r2,_⟩:=B _ yb hyb;have:=hab.2 aa ae q1 r1;omega
 ·intro i hi hil;have hm:r.map (·.ks)=l.map (·.ks):=by
   refine zT (λi=>?_);rw[r9,r9];cases hx:l[i]? with
   |none=>
    have:r[i]?=none:=by rw[F5]at hx⊢;omega
    rw[this]
   |some x=>
    obtain⟨x',g1,_,_,_,_,e5⟩:=G i x hx;rw[g1];simp[e5]
  rw[Q8,hm,<-Q8];exact h.seen i hi (by omega)
 ·have hs:=hf.sp;clear hf
  induction hs with
  |root=>exact .root
  |up d p x y h0 hx hy hu hla ht hsp ih=>
   obtain⟨x',g1,_,_,g3,g4,_⟩:=G d x hx;obtain⟨y',k1,_,_,_,_,k5⟩:=G p y hy;exact .up d p x' y' h0 g1 k1 (by omega) (by rw[k5];exact hla) (by omega) ih
 intro x' hx';obtain⟨x,hx,_,e2,_,_,e5⟩:=B c x' hx';refine⟨by have:=(hf.here x hx).1;omega,λz hz y' hy'=>?_⟩;rw[e5]at hz;obtain⟨y,hy,_,_,q3,_⟩:=B _ y' hy';have:=(hf.here x hx).2 z hz y hy;omega
theorem tJ{n e b:Int}{up:Nat}{s0 s:St}(i:Int)(h:Ok n up s0 e b s):Ok n up s0 e b ⟨keyed s.t i,s.d⟩:=by
 obtain⟨k1,k2⟩:=sQ s.t i;obtain⟨h1,h2⟩:=J6 k1 k2 h.ck h.fits;have hk:sj s.t (keyed s.t i):=⟨by omega,λj x hx=>by obtain⟨x',g1,g2,g3,_,g5,_⟩:=k2 j x hx;exact⟨x',g1,g2,g3,g5⟩⟩
 refine⟨h1,h2,h.keep.trans hk,?_⟩;show errs (keyed s.t i)+_=_+told s.d;rw[sP k1 (λj x hx=>by obtain⟨x',g1,g2,_⟩:=k2 j x hx;exact⟨x',g1,g2⟩)];exact h.tells
end Fl
namespace Fl
open Ar
theorem OY(n:Int)(p:Int)(h0:0<=n)(h1:n<=32768)(hp:0<=p):Fits (um n) p 0 0:=by
 have hn:um n=[⟨1,0,n,-1,[],false⟩]:=by unfold um;rw[fu (by omega)]
 rw[hn];refine⟨by simp,.root,λx hx=>?_⟩;have hx:(⟨1,0,n,-1,[],false⟩:Nd)=x:=by simpa using hx
 subst hx;exact⟨hp,λz hz=>by simp at hz⟩
end Fl
namespace Fe
open Ar Fl
def Lf(l:List Nd):Prop:=∀(i:Nat)(x:Nd),l[i]?=some x->x.k=11->x.ks=[]/\x.f<x.t
def No(l:List Nd)(c:Nat):Prop:=∀x,l[c]?=some x->x.k≠11
def errs(l:List Tk)(t:List Nd)(g:Nat×Nat):Nat:=t.countP (λx=>x.k==11&&(wu l x.f.toNat==g.1&&too l (x.t-1).toNat==g.2))
def told(d:List Dg)(g:Nat×Nat):Nat:=d.countP (λx=>x.code !=9&&(x.f==g.1&&x.t==g.2))
def W(l:List Tk)(p:Nat)(n:Int)(x:Dg):Prop:=∃f t:Nat,p<=f/\f<t/\(t:Int)<=n/\x.f=wu l f/\x.t=too l (t-1)/\5<=x.code/\x.code<=10
theorem W.le{l:List Tk}{p q:Nat}{n:Int}{x:Dg}(h:W l p n x)(hq:q<=p):W l q n x:=by
 obtain⟨f,t,h1,h2⟩:=h;exact⟨f,t,by omega,h2⟩
theorem RQ{l:List Nd}{n:Int}(h:Ck l n){c p:Nat}{x y:Nd}(hx:l[c]?=some x)(hu:x.u=(p:Int))(h0:0<c)(hy:l[p]?=some y):(c:Int)∈y.ks:=by
 have hc:=(nC.1 hx).1;have hs:=h.seen c h0 hc;have hpos:0<(l.flatMap (·.ks)).countP (λz=>z==(c:Int)):=by omega
 rw[V3]at hpos;obtain⟨z,hz,he⟩:=hpos;obtain rfl:z=(c:Int):=by simpa using he
 rw[Rf]at hz;obtain⟨w,hw,hz⟩:=hz;obtain⟨i,hi⟩:=yG hw;obtain⟨j,y',hj,_,hy',hu',_⟩:=h.kid i w hi _ hz;obtain rfl:j=c:=by omega
 rw[hx]at hy';injection hy' with hy';subst hy'
 obtain rfl:i=p:=by omega
 rw[hy]at hi;injection hi with hi;subst hi
 exact hz
theorem Od{l:List Nd}{n:Int}(h:Ck l n)(hl:Lf l){c p:Nat}{x:Nd}(hx:l[c]?=some x)(hu:x.u=(p:Int))(h0:0<c):No l p:=by
 intro y hy hk;have:=RQ h hx hu h0 hy;rw[(hl p y hy hk).1]at this;simp at this
theorem T9{l:List Nd}{n:Int}(h:Ck l n)(hl:Lf l){c i:Nat}(ho:On l c i):No l c->No l i:=by
 induction ho with
 |self=>exact id
 |out d q i x hd hq h00 ho ih=>exact λ_=>ih (Od h hl hd hq h00)
theorem LK{l r:List Nd}{up:Nat}{kind f t:Int}(hg:bu l)(hup:up<l.length)(h:addN l up kind f t=(r,(l.length:Int))):∀(i:Nat)(x:Nd),l[i]?=some x->¬On l up i->r[i]?=some x:=by
 intro i x hx hno;have hi:=(nC.1 hx).1;have hiu:i≠up:=λe=>hno (by rw[e];exact .self _)
 unfold addN at h;by_cases hm:oV l up kind f t=true
 ·rw[gu hm]at h;obtain⟨h0,_,p,hp⟩:=N7 hm;have hg':=Ci hg up kind f t p h0 hp (N8 hm hp).1;rw[hp]at h;dsimp only at h;rw[oN]at h hp hg';have hr:=congrArg Prod.fst h;dsimp only at hr;obtain⟨m,hmd⟩:=my ((l++[(⟨kind,f,t,up,[],false⟩:Nd)]).set up {p with ks:=p.ks++[(l.length:Int)]});rw[hmd]at hr hg';have ae:m.length=l.length+1:=by rw[<-hmd];simp
  have aa:m[i]?=some x:=by rw[<-hmd,AM (λe=>hiu e.symm),vC hi];exact hx
  have hon:On m up i->On l up i:=by
   have key:∀c j,On m c j->c<l.length->On l c j:=by
    intro c j ho
    induction ho with
    |self=>exact λ_=>.self _
    |out d q j w hd hq h00 ho ih=>
     intro hdl;have af:q<d:=by have:=hg'.up d w hd;omega
     by_cases e:d=up
     ·subst e;rw[<-hmd,DC (by simp;omega)]at hd;injection hd with hd;subst hd
      exact .out d q j p hp hq h00 (ih (by omega))
     rw[<-hmd,AM (λh=>e h.symm),vC hdl]at hd;exact .out d q j w hd hq h00 (ih (by omega))
   exact λho=>key up i ho hup
  obtain⟨x',h1,h2⟩:=xD up m t hg' (by omega) i x aa;rw[hr]at h1;rcases h2 with⟨h2,_⟩|⟨_,rfl⟩
  ·exact absurd (hon h2) hno
  exact h1
 rw[fu hm]at h;have h2:=congrArg Prod.snd h;dsimp only at h2;omega
def ek(x:Nd):Option (Int×Int):=if x.k=11 then some (x.f,x.t)else none
def hit(l:List Tk)(g:Nat×Nat):Option (Int×Int)->Bool
 |some q=>wu l q.1.toNat==g.1&&too l (q.2-1).toNat==g.2
 |none=>false
theorem Ff(l:List Tk)(g:Nat×Nat)(x:Nd):hit l g (ek x)=(x.k==11&&(wu l x.f.toNat==g.1&&too l (x.t-1).toNat==g.2)):=by
 unfold ek;split
 ·rename_i h;rw[h];rfl
 rename_i h;rw[show(x.k==11)=false by simpa using h];rfl
theorem xG(l:List Tk)(t:List Nd)(g:Nat×Nat):errs l t g=(t.map ek).countP (hit l g):=by
 unfold errs;rw[List.countP_map];refine List.countP_congr (λx _=>?_);rw[VZ,Ff]
def Still(l r:List Nd):Prop:=∀(i:Nat)(x:Nd),l[i]?=some x->∃x',r[i]?=some x'/\x'.k=x.k/\(x.k=11->x'.f=x.f/\x'.t=x.t)
theorem RU{x x':Nd}(h1:x'.k=x.k)(h2:x.k=11->x'.f=x.f/\x'.t=x.t):ek x'=ek x:=by
 unfold ek;rw[h1];split
 ·rename_i h;rw[(h2 h).1,(h2 h).2]
 rfl
theorem sP(tk:List Tk){l r:List Nd}(hl:r.length=l.length)(h:Still l r)(g:Nat×Nat):errs tk r g=errs tk l g:=by
 rw[xG,xG];congr 1;refine zT (λi=>?_);rw[r9,r9];cases hx:l[i]? with
 |none=>
  have:r[i]?=none:=by rw[F5]at hx⊢;omega
  rw[this]
 |some x=>
  obtain⟨x',h1,h2,h3⟩:=h i x hx;rw[h1];simp[RU h2 h3]
theorem Am(tk:List Tk){l r:List Nd}{z:Nd}(hl:r.length=l.length+1)(h:Still l r)(hz:r[l.length]?=some z)(g:Nat×Nat):
 errs tk r g=errs tk l g+(if hit tk g (ek z)=true then 1 else 0):=by
 have h1:r=r.take l.length++[z]:=by
  refine zT (λi=>?_);by_cases hi:i<l.length
  ·rw[vC (by rw[qx];omega),Lg hi]
  by_cases e:i=l.length
  ·subst e;rw[hz,yF (by rw[qx];omega),qx,Ll (by omega),DL];rfl
  rw[xQ (by omega),xQ (by rw[oq,qx];simp;omega)]
 have h2:errs tk (r.take l.length) g=errs tk l g:=sP tk (by rw[qx];omega) (λi x hx=>by
  have hi:=(nC.1 hx).1;obtain⟨x',g1,g2⟩:=h i x hx
  exact⟨x',by rw[Lg hi];exact g1,g2⟩) g
 rw[h1];unfold errs at h2⊢;rw[Dx,h2,E4,F4,Ff];omega
structure Ok(l:List Tk)(p0:Nat)(n:Int)(up:Nat)(s0:St)(e b:Int)(s:St):Prop where
 ck:Ck s.t n
 fits:Fits s.t e b up
 keep:sj s0.t s.t
 lf:Lf s.t
 no:No s.t up
 tells:∀g,errs l s.t g+told s0.d g=errs l s0.t g+told s.d g
 Lv:∃ds,s.d=s0.d++ds/\∀x∈ds,W l p0 n x
theorem Ok.le{l:List Tk}{p0:Nat}{n e b e' b':Int}{up:Nat}{s0 s:St}(h:Ok l p0 n up s0 e b s)(he:e<=e')(hb:b<=b'):Ok l p0 n up s0 e' b' s:=⟨h.ck,h.fits.le he hb,h.keep,h.lf,h.no,h.tells,h.Lv⟩
theorem Ok.low{l:List Tk}{p0 p1:Nat}{n e b:Int}{up:Nat}{s0 s:St}(h:Ok l p0 n up s0 e b s)(hp:p1<=p0):Ok l p1 n up s0 e b s:=
 ⟨h.ck,h.fits,h.keep,h.lf,h.no,h.tells,by obtain⟨ds,h1,h2⟩:=h.Lv;exact⟨ds,h1,λx hx=>(h2 x hx).le hp⟩⟩
theorem Ok.start{l:List Tk}{p0:Nat}{n e b:Int}{up:Nat}{s:St}(h:Ck s.t n)(g:Fits s.t e b up)(hl:Lf s.t)(hn:No s.t up):Ok l p0 n up s e b s:=
 ⟨h,g,sj.refl _,hl,hn,λ_=>rfl,[],by simp,λx hx=>by cases hx⟩
theorem Ok.trans{l:List Tk}{p0:Nat}{n e b e1 b1:Int}{up c:Nat}{s0 s s':St}(h:Ok l p0 n up s0 e b s)(g:Ok l p0 n c s e1 b1 s'):Ok l p0 n c s0 e1 b1 s' :=
 ⟨g.ck,g.fits,h.keep.trans g.keep,g.lf,g.no,λq=>by have h1:=h.tells q;have h2:=g.tells q;omega,by
  obtain⟨d1,h1,h2⟩:=h.Lv;obtain⟨d2,g1,g2⟩:=g.Lv
  exact⟨d1++d2,by rw[g1,h1,sF],λx hx=>(rQ.1 hx).elim (h2 x) (g2 x)⟩⟩
theorem Ok.out{l:List Tk}{p0:Nat}{n e b:Int}{c p:Nat}{s0 s:St}(h:Ok l p0 n c s0 e b s){x:Nd}(hx:s.t[c]?=some x)(hu:x.u=(p:Int))(h0:0<c):Ok l p0 n p s0 b b s:=
 ⟨h.ck,h.fits.out h.ck hx hu h0,h.keep,h.lf,Od h.ck h.lf hx hu h0,h.tells,h.Lv⟩
theorem Aa{l:List Tk}{p0:Nat}{n e b:Int}{up f t kind:Nat}{s0 s:St}(h:Ok l p0 n up s0 e b s)(he:e<=f)(hft:f<=t)(htn:(t:Int)<=n)(hk1:1<=kind)(hk2:kind<=11)(hk3:kind=11->f<t):
 ∃r,addN s.t up kind f t=(r,(s.t.length:Int))/\Ck r n/\Fits r t (max b t) up/\Fits r f (max b t) s.t.length/\sj s.t r/\Lf r/\No r up/\(kind≠11->No r s.t.length)/\
  (∀g,errs l r g=errs l s.t g+(if hit l g (ek ⟨kind,f,t,up,[],false⟩)=true then 1 else 0))/\(∃x,r[s.t.length]?=some x/\x.u=(up:Int)/\x.k=(kind:Int))/\0<s.t.length:=by
 obtain⟨r,h1,h2,h3,h4,h5,h6,h7⟩:=N9 (f:=(f:Int)) (t:=(t:Int)) (kind:=(kind:Int)) h.ck h.fits he (by omega) htn (by omega) (by omega);have hst:=LK h.ck.good h.fits.lt h1;have hE:∀(i:Nat)(x:Nd),s.t[i]?=some x->x.k=11->r[i]?=some x:=λi x hx hk=>hst i x hx (λho=>T9 h.ck h.lf ho h.no x hx hk)
 have hS:Still s.t r:=by
  intro i x hx;obtain⟨x',g1,g2,g3,_⟩:=h7 i x hx;refine⟨x',g1,g2,λhk=>?_⟩;rw[hE i x hx hk]at g1;injection g1 with g1;subst g1
  exact⟨rfl,rfl⟩
 have hB:∀(i:Nat)(x':Nd),r[i]?=some x'->i<s.t.length->∃x,s.t[i]?=some x/\x'.k=x.k/\(x.k=11->x'=x):=by
  intro i x' hx' hi;obtain⟨x,hx⟩:=pG s.t i hi;obtain⟨y,g1,g2,_⟩:=h7 i x hx;rw[hx']at g1;injection g1 with g1;subst g1
  refine⟨x,hx,g2,λhk=>?_⟩;have:=hE i x hx hk;rw[hx']at this;injection this
 refine⟨r,h1,h2,h3,h4,⟨by omega,λi x hx=>?_⟩,λi x hx hk=>?_,λx hx=>?_,λhk x hx=>?_,Am l h6 hS h5,⟨_,h5,rfl,rfl⟩,h.ck.pos⟩
 ·obtain⟨x',g1,g2,g3,g4,_⟩:=h7 i x hx;exact⟨x',g1,g2,g3,g4⟩
 ·by_cases hi:i<s.t.length
  ·obtain⟨y,hy,hyk,hye⟩:=hB i x hx hi;have:=hye (by omega);subst this;exact h.lf i x hy hk
  have hil:=(nC.1 hx).1;obtain rfl:i=s.t.length:=by omega
  rw[h5]at hx;injection hx with hx;subst hx
  exact⟨rfl,by have hk':(kind:Int)=11:=hk;have:=hk3 (by omega);show(f:Int)<(t:Int);omega⟩
 ·obtain⟨y,hy,hyk,_⟩:=hB up x hx h.fits.lt;rw[hyk];exact h.no y hy
 rw[h5]at hx;injection hx with hx;subst hx
 show(kind:Int)≠11;omega
theorem pQ{l:List Tk}{p0:Nat}{n e b:Int}{up f t kind:Nat}{s0 s:St}(h:Ok l p0 n up s0 e b s)(he:e<=f)(hft:f<=t)(htn:(t:Int)<=n)(hk1:1<=kind)(hk2:kind<=10):
 ∃s',add s up kind f t=(s',(s.t.length:Int))/\Ok l p0 n up s0 t (max b t) s'/\Ok l p0 n s.t.length s0 f (max b t) s'/\(∃x,s'.t[s.t.length]?=some x/\x.u=(up:Int))/\0<s.t.length:=by
 obtain⟨r,h1,h2,h3,h4,h5,h6,h7,h8,h9,⟨x,ha,hb,_⟩,hc⟩:=Aa h he hft htn hk1 (by omega) (λe=>by omega);have ht:∀g,errs l r g+told s0.d g=errs l s0.t g+told s.d g:=by
  intro g;have hh:hit l g (ek ⟨kind,f,t,up,[],false⟩)=false:=by
   rw[Ff,show(((kind:Int)==11))=false by simp;omega];rfl
  rw[h9,hh];have:=h.tells g;simp;omega
 refine⟨⟨r,s.d⟩,by unfold add;rw[h1],⟨h2,h3,h.keep.trans h5,h6,h7,ht,h.Lv⟩,⟨h2,h4,h.keep.trans h5,h6,h8 (by omega),ht,h.Lv⟩,⟨x,ha,hb⟩,hc⟩
theorem qF{l:List Tk}{p0:Nat}{n e b:Int}{up f t code:Nat}{s0 s:St}(h:Ok l p0 n up s0 e b s)(he:e<=f)(hft:f<t)(htn:(t:Int)<=n)(hc:code≠9)(hp:p0<=f)(h5:5<=code)(h10:code<=10):
 Ok l p0 n up s0 t (max b t) (err l s up f t code)/\(addN s.t up 11 f t).2=(s.t.length:Int):=by
 obtain⟨r,h1,h2,h3,h4,h5',h6,h7,h8,h9,_,ha⟩:=Aa (kind:=11) h he (by omega) htn (by omega) (by omega) (λ_=>hft);have h1:addN s.t up 11 f t=(r,(s.t.length:Int)):=h1;refine⟨?_,by rw[h1]⟩;unfold err;rw[h1];refine⟨h2,h3,h.keep.trans h5',h6,h7,λg=>?_,?_⟩
 ·show errs l r g+told s0.d g=errs l s0.t g+told (s.d++[_]) g;have hh:hit l g (ek ⟨(11:Nat),f,t,up,[],false⟩)=((wu l f==g.1&&too l (t-1)==g.2)):=by
   rw[Ff];show((((11:Nat):Int)==11)&&(wu l ((f:Nat):Int).toNat==g.1&&too l (((t:Nat):Int)-1).toNat==g.2))=_;rw[oN,show(((t:Nat):Int)-1).toNat=t-1 by omega];rfl
  have hq:told (s.d++[⟨code,wu l f,too l (t-1)⟩]) g=told s.d g+(if(wu l f==g.1&&too l (t-1)==g.2)=true then 1 else 0):=by
   unfold told;rw[Dx,E4,F4,show(code !=9)=true by simpa using hc];simp
  rw[h9,hh,hq];have:=h.tells g;omega
 obtain⟨ds,g1,g2⟩:=h.Lv;refine⟨ds++[⟨code,wu l f,too l (t-1)⟩],by show s.d++_=_;rw[g1,sF],λx hx=>?_⟩;rcases rQ.1 hx with hx|hx
 ·exact g2 x hx
 obtain rfl:x=_:=by simpa using hx
 exact⟨f,t,hp,hft,htn,rfl,rfl,h5,h10⟩
theorem u6{l:List Tk}{p0:Nat}{n e b:Int}{up t:Nat}{s0 s:St}(h:Ok l p0 n up s0 e b s)(he:e<=t)(hb:b<=t)(htn:(t:Int)<=n):Ok l p0 n up s0 t t ⟨nN s.t up t,s.d⟩:=by
 obtain⟨h1,h2,h3,h4⟩:=JP h.ck h.fits he hb htn;have hk:sj s.t (nN s.t up t):=⟨by omega,λi x hx=>by obtain⟨x',g1,g2,g3,g4,_⟩:=h4 i x hx;exact⟨x',g1,g2,g3,g4⟩⟩
 have hE:∀(i:Nat)(x:Nd),s.t[i]?=some x->x.k=11->(nN s.t up t)[i]?=some x:=by
  intro i x hx hk;unfold nN;split
  ·obtain⟨x',g1,g2⟩:=xD up s.t t h.ck.good h.fits.lt i x hx;rcases g2 with⟨g2,_⟩|⟨_,rfl⟩
   ·exact absurd hk (T9 h.ck h.lf g2 h.no x hx)
   exact g1
  exact hx
 have hB:∀(i:Nat)(x':Nd),(nN s.t up t)[i]?=some x'->∃x,s.t[i]?=some x/\x'.k=x.k/\(x.k=11->x'=x):=by
  intro i x' hx';have hi:=(nC.1 hx').1;obtain⟨x,hx⟩:=pG s.t i (by omega);obtain⟨y,g1,g2,_⟩:=h4 i x hx;rw[hx']at g1;injection g1 with g1;subst g1
  refine⟨x,hx,g2,λhk=>?_⟩;have:=hE i x hx hk;rw[hx']at this;injection this
 refine⟨h1,h2,h.keep.trans hk,λi x hx hk=>?_,λx hx=>?_,λg=>?_,h.Lv⟩
 ·obtain⟨y,hy,hyk,hye⟩:=hB i x hx;have:=hye (by omega);subst this;exact h.lf i x hy hk
 ·obtain⟨y,hy,hyk,_⟩:=hB up x hx;rw[hyk];exact h.no y hy
 show errs l (nN s.t up t) g+_=_+told s.d g
 rw[sP l h3 (λi x hx=>by
  obtain⟨x',g1,g2,_⟩:=hk.2 i x hx;refine⟨x',g1,g2,λhk=>?_⟩;rw[hE i x hx hk]at g1;injection g1 with g1;subst g1
  exact⟨rfl,rfl⟩) g]
 exact h.tells g
theorem Fy{l:List Tk}{p0:Nat}{n e b:Int}{up op:Nat}{s0 s:St}(h:Ok l p0 n up s0 e b s)(hp:p0<=op)(hn:(op:Int)<n):Ok l p0 n up s0 e b ⟨s.t,s.d++[⟨9,wu l op,too l op⟩]⟩:=by
 refine⟨h.ck,h.fits,h.keep,h.lf,h.no,λg=>?_,?_⟩
 ·show errs l s.t g+told s0.d g=errs l s0.t g+told (s.d++[_]) g;have:=h.tells g;unfold told at this⊢;rw[Dx,E4,F4,fu (by simp)];omega
 obtain⟨ds,g1,g2⟩:=h.Lv;refine⟨ds++[⟨9,wu l op,too l op⟩],by show s.d++_=_;rw[g1,sF],λx hx=>?_⟩;rcases rQ.1 hx with hx|hx
 ·exact g2 x hx
 obtain rfl:x=_:=by simpa using hx
 exact⟨op,op+1,hp,by omega,by omega,rfl,by rw[si],by show 5<=9;omega,by show 9<=10;omega⟩
theorem tJ{l:List Tk}{p0:Nat}{n e b:Int}{up:Nat}{s0 s:St}(i:Int)(h:Ok l p0 n up s0 e b s):Ok l p0 n up s0 e b ⟨keyed s.t i,s.d⟩:=by
 obtain⟨k1,k2⟩:=sQ s.t i;obtain⟨h1,h2⟩:=J6 k1 k2 h.ck h.fits;have hk:sj s.t (keyed s.t i):=⟨by omega,λj x hx=>by obtain⟨x',g1,g2,g3,_,g5,_⟩:=k2 j x hx;exact⟨x',g1,g2,g3,g5⟩⟩
 have hB:∀(j:Nat)(x':Nd),(keyed s.t i)[j]?=some x'->∃x,s.t[j]?=some x/\x'.k=x.k/\x'.f=x.f/\x'.t=x.t/\x'.ks=x.ks:=by
  intro j x' hx';have hj:=(nC.1 hx').1;obtain⟨x,hx⟩:=pG s.t j (by omega);obtain⟨y,g1,g2,g3,g4,_,g6⟩:=k2 j x hx;rw[hx']at g1;injection g1 with g1;subst g1
  exact⟨x,hx,g2,g3,g4,g6⟩
 refine⟨h1,h2,h.keep.trans hk,λj x hx hk=>?_,λx hx=>?_,λg=>?_,h.Lv⟩
 ·obtain⟨y,hy,e1,e2,e3,e4⟩:=hB j x hx;have:=h.lf j y hy (by omega);exact⟨by rw[e4];exact this.1,by rw[e2,e3];exact this.2⟩
 ·obtain⟨y,hy,e1,_⟩:=hB up x hx;rw[e1];exact h.no y hy
 show errs l (keyed s.t i) g+_=_+told s.d g;rw[sP l k1 (λj x hx=>by obtain⟨x',g1,g2,g3,g4,_⟩:=k2 j x hx;exact⟨x',g1,g2,λ_=>⟨g3,g4⟩⟩) g];exact h.tells g
end Fe
namespace Fe
open Ar Fl
theorem rW:∀(f:Nat)(l:List Nd)(k t:Int),(qE f l k t).length=l.length
 |0,l,k,t=>rfl
 |f+1,l,k,t=>by
  rw[qE];split
  ·rfl
  split
  ·rfl
  rw[rW,xe]
theorem tK(l:List Nd)(up kind f t:Int):(addN l up kind f t).1.length<=l.length+1:=by
 unfold addN;split
 ·split
  ·exact F6 _
  show(nT _ _ _).length<=_;unfold nT;rw[rW,xe,oq];exact mJ _
 exact F6 _
theorem vQ(l:List Nd)(i t:Int):(nN l i t).length=l.length:=by
 unfold nN;split
 ·unfold nT;rw[rW]
 rfl
theorem pM(s:St)(up:Int)(k f t:Nat):(add s up k f t).1.t.length<=s.t.length+1/\(add s up k f t).1.d=s.d:=⟨tK _ _ _ _ _,rfl⟩
theorem tq(l:List Tk)(s:St)(up:Int)(f t code:Nat):(err l s up f t code).t.length<=s.t.length+1/\(err l s up f t code).d.length=s.d.length+1:=⟨tK _ _ _ _ _,by show(s.d++_).length=_;rw[oq];rfl⟩
theorem uK(l:List Tk)(s:St)(c:Int)(j q:Nat)(h:j<q):(pair l s c j q).1.t.length<=s.t.length+2*(q-j)/\(pair l s c j q).1.d=s.d:=by
 unfold pair;dsimp only;have a:=pM s c 6 j q;obtain⟨x,hx⟩:=my (add s c 6 j q);rw[hx]at a⊢;split
 ·exact⟨by omega,a.2⟩
 obtain⟨kind,hkind⟩:∃kind:Nat,kind=(if(List.range (q-j)).any (λx=>raw l (j+x)==13)=true then 8 else 7):=⟨_,rfl⟩
 rw[<-hkind];have b:=pM x.1 x.2 kind j (back l (q-1) (j+1));refine⟨?_,b.2.trans a.2⟩;show(keyed _ _).length<=_;rw[(sQ _ _).1];omega
def VC(l:List Tk)(e:Nat)(n:Int)(val:Int->Nat->St->Int×Nat×St):Prop:=
 ∀(up p:Nat)(s:St)(b:Int),Ck s.t n->Fits s.t p b up->Lf s.t->No s.t up->b<=p+1->p<=e->
  (val up p s=(-1,p,s)/\begins (kd l e p)=false)\/
  (∃(next:Nat)(s':St),val up p s=((s.t.length:Int),next,s')/\p<next/\next<=e/\cnt (raw l (next-1))=true/\Ok l p n up s next next s'/\s'.t.length+1<=s.t.length+2*(next-p)/\s'.d.length<=s.d.length+(next-p))
theorem Oe(l:List Tk)(e:Nat)(n:Int)(hn:(e:Int)<=n)(mE:Option (Int->Nat->St->Nat×St)):
 (∀k,mE=some k->∀(c op:Nat)(s:St)(b:Int),op<e->cnt (raw l op)=true->Ck s.t n->Fits s.t (op+1:Nat) b c->Lf s.t->No s.t c->b<=(op+1:Nat)->
  ∃(next:Nat)(s':St),k c op s=(next,s')/\op<next/\next<=e/\cnt (raw l (next-1))=true/\Ok l op n c s next next s'/\s'.t.length+2<=s.t.length+2*(next-op)/\s'.d.length<=s.d.length+(next-op))->VC l e n (BO l e mE):=by
 intro hk up p s b hck hf hlf hno hb hpe;have h0:=qL (l:=l) hpe;obtain⟨i0,hi0⟩:=my (blanks l e p);have hl:=zk l e i0 (e-i0) none i0 (mJ _) (by omega) (λa z h=>by simp at h);obtain⟨o,ho⟩:=my ((lead l e (e-i0) none i0).1);obtain⟨i,hi⟩:=my ((lead l e (e-i0) none i0).2);rw[hi0]at h0;rw[ho,hi]at hl;obtain⟨l1,l2,l3,l4⟩:=hl;obtain⟨fr,hfr⟩:=my (nS o i);have af:p<=fr/\fr<=i:=by
  rw[<-hfr];cases o with
  |none=>exact⟨by show p<=i;omega,mJ _⟩
  |some x=>obtain⟨a,z⟩:=x;have:=l3 a z rfl;show p<=a/\a<=i;omega
 have hs:Ok l p n up s p b s:=.start hck hf hlf hno;obtain⟨k,hkd⟩:=my (kd l e i);have put:∀(kind t:Nat),fr<t->t<=e->cnt (raw l (t-1))=true->1<=kind->kind<=10->
  ∃(next:Nat)(s':St),((add s up kind fr t).2,t,(add s up kind fr t).1)=((s.t.length:Int),next,s')/\p<next/\next<=e/\cnt (raw l (next-1))=true/\Ok l p n up s next next s'/\s'.t.length+1<=s.t.length+2*(next-p)/\s'.d.length<=s.d.length+(next-p):=by
  intro kind t h1 h2 h3 h4 h5;obtain⟨s',a1,a2,_⟩:=pQ (kind:=kind) hs (f:=fr) (t:=t) (by omega) (by omega) (by omega) h4 h5;have hz:=pM s up kind fr t;rw[a1]at hz;exact⟨t,s',by rw[a1],by omega,h2,h3,a2.le (pW _) (by omega),by have:=hz.1;dsimp only at this;omega,by rw[hz.2];omega⟩
 unfold BO;dsimp only;rw[hi0,ho,hi,hfr,hkd];have kin:k≠0->i<e/\raw l i=k:=λh=>by have:=qR (l:=l) (e:=e) (i:=i) (by omega);omega
 by_cases c1:k=13
 ·rw[gu c1];have hi2:=kin (by omega);exact .inr (put 8 (i+1) (by omega) (by omega) (by rw[si,hi2.2,c1];rfl) (by omega) (by omega))
 rw[fu c1];by_cases c2:nL k=true
 ·rw[gu c2];have hi2:=kin (λh=>by rw[h]at c2;exact absurd c2 (by decide));exact .inr (put 7 (i+1) (by omega) (by omega) (by rw[si,hi2.2];exact Gn c2) (by omega) (by omega))
 rw[fu c2];by_cases c3:k=18
 ·rw[gu c3];have ht:=zi (l:=l) (e:=e) (i:=i) (by omega);exact .inr (put 7 (text l e i) (by omega) ht.2.1 ht.2.2 (by omega) (by omega))
 rw[fu c3];by_cases c4:opens k=true
 ·rw[gu c4];have hi2:=kin (λh=>by rw[h]at c4;exact absurd c4 (by decide));cases aa:mE with
  |none=>
   have ht:=tN (l:=l) (e:=e) (i:=i) (by rw[hkd];exact c4);obtain⟨e1,e2⟩:=qF hs (f:=fr) (t:=balanced l e i) (code:=10) (by omega) (by omega) (by omega) (by omega) (by omega) (by omega) (by omega);exact .inr ⟨balanced l e i,_,by dsimp only;rw[e2],by omega,ht.2.1,ht.2.2,e1.le (pW _) (by omega),by have:=(tq l s up fr (balanced l e i) 10).1;omega,by have:=(tq l s up fr (balanced l e i) 10).2;omega⟩
  |some q=>
   dsimp only;obtain⟨kind,hkind⟩:∃kind:Nat,kind=(if k=9 then 10 else 9):=⟨_,rfl⟩
   rw[<-hkind];have hk1:1<=kind/\kind<=10:=by rw[hkind];split<;>omega
   obtain⟨s',a1,a2,a3,⟨x,a4,a5⟩,a6⟩:=pQ (kind:=kind) hs (f:=fr) (t:=i+1) (by omega) (by omega) (by omega) hk1.1 hk1.2;rw[a1];dsimp only;have hz:=pM s up kind fr (i+1);rw[a1]at hz;have hz1:s'.t.length<=s.t.length+1:=hz.1;have hz2:s'.d=s.d:=hz.2;obtain⟨next,s2,k1,k2,k3,k4,k5,k6,k7⟩:=hk q aa s.t.length i s' (i+1:Nat) hi2.1 (by rw[hi2.2];exact vL c4) a3.ck (a3.fits.le (by omega) (by omega)) a3.lf a3.no (pW _);rw[k1];obtain⟨x',b1,_,_,b2⟩:=k5.keep.2 _ x a4;exact .inr ⟨next,s2,rfl,by omega,k3,k4,(a2.trans (k5.low (by omega))).out b1 (by omega) a6,by omega,by rw[hz2]at k7;omega⟩
 rw[fu c4];cases o with
 |some x=>
  obtain⟨a,z⟩:=x;have:=l3 a z rfl;have hfa:fr=a:=by rw[<-hfr];rfl
  exact .inr (put 7 (z+1) (by omega) (by omega) (by rw[si];exact Gm this.2.2.2) (by omega) (by omega))
 |none=>
  refine .inl ⟨rfl,?_⟩;obtain⟨_,m2,m3⟩:=l4 rfl;have ae:nR k=false:=by
   by_cases h:i0<e
   ·rw[<-hkd,m2];exact m3 (by omega)
   have:k=0:=by rw[<-hkd];unfold kd;rw[gu (.inl (by omega))]
   rw[this];rfl
  have hbk:begins k=false:=by
   unfold begins;rw[ae,show nL k=false by simpa using c2,show opens k=false by simpa using c4,show(k==18)=false by simpa using c3];rfl
  by_cases hp:i0=p
  ·rw[<-hp,<-m2,hkd];exact hbk
  have:=IA (λj=>raw l j==3) (e-p) p (by rw[<-hi0]at hp;exact hp);have h3:raw l p=3:=by simpa using this
  unfold kd;split
  ·rfl
  rw[h3];rfl
theorem Fz(l:List Tk)(e:Nat)(n:Int)(hn:(e:Int)<=n){c j q:Nat}{s:St}{b:Int}(hck:Ck s.t n)(hf:Fits s.t j b c)(hlf:Lf s.t)(hno:No s.t c)(hb:b<=q)(hjq:j<q)(hqe:q<=e):
 ∃s',pair l s c j q=(s',(s.t.length:Int))/\Ok l j n s.t.length s q q s'/\(∃x,s'.t[s.t.length]?=some x/\x.u=(c:Int))/\0<s.t.length:=by
 obtain⟨s1,a1,_,a3,⟨x,a4,a5⟩,a6⟩:=pQ (kind:=6) (Ok.start (l:=l) (p0:=j) hck hf hlf hno) (f:=j) (t:=q) (by omega) (by omega) (by omega) (by omega) (by omega);have a1:add s c 6 j q=(s1,(s.t.length:Int)):=a1;unfold pair;dsimp only;rw[a1];dsimp only;by_cases h:q-j<2
 ·rw[gu h];exact⟨s1,rfl,a3.le (by omega) (by omega),⟨x,a4,a5⟩,a6⟩
 rw[fu h];obtain⟨kind,hkind⟩:∃kind:Nat,kind=(if(List.range (q-j)).any (λx=>raw l (j+x)==13)=true then 8 else 7):=⟨_,rfl⟩
 rw[<-hkind];have hk1:1<=kind/\kind<=10:=by rw[hkind];split<;>omega
 have b1:=nD l (q-1) (j+1);have b2:=wG l (q-1) (j+1) (by omega);obtain⟨s2,d1,d2,_⟩:=pQ (kind:=kind) (Ok.start (l:=l) (p0:=j) a3.ck a3.fits a3.lf a3.no) (f:=j) (t:=back l (q-1) (j+1)) (by omega) (by omega) (by omega) hk1.1 hk1.2;rw[d1];dsimp only;have d3:=tJ (s.t.length:Int) d2;obtain⟨x',g1,_,_,g2⟩:=d3.keep.2 _ x a4;exact⟨_,rfl,(a3.trans d3).le (by omega) (by omega),⟨x',g1,by omega⟩,a6⟩
theorem J7(l:List Tk)(e:Nat)(n:Int)(hn:(e:Int)<=n)(val:Int->Nat->St->Int×Nat×St)(hv:VC l e n val)(aa:Bool){c j:Nat}{s:St}{b:Int}
 (hck:Ck s.t n) (hf:Fits s.t j b c) (hlf:Lf s.t) (hno:No s.t c) (hb:b<=j) (hj:kd l e j≠0) (ae:0<key l e j\/begins (kd l e j)=true):
 ∃(next:Nat)(s':St),item l e val aa c j s=(next,s')/\j<next/\next<=e/\cnt (raw l (next-1))=true/\Ok l j n c s next next s'/\s'.t.length<=s.t.length+2*(next-j)/\s'.d.length<=s.d.length+(next-j):=by
 have ag:=(qR hj).1;unfold item;dsimp only;by_cases hq:0<key l e j
 ·rw[gu hq];obtain⟨q1,q2,q3⟩:=wB (by omega) hq;obtain⟨q,af⟩:=my (key l e j);rw[af]at q1 q2 q3⊢;have hz:=uK l s c j q q1;obtain⟨s1,a1,a2,⟨x,a3,a4⟩,a5⟩:=Fz l e n hn hck hf hlf hno (by omega) q1 q2;rw[a1]at hz⊢;dsimp only at hz⊢;obtain⟨z1,z2⟩:=hz;have hcq:cnt (raw l (q-1))=true:=by rw[q3];rfl
  split
  ·exact⟨q,s1,rfl,q1,q2,hcq,a2.out a3 a4 a5,z1,by rw[z2];omega⟩
  have ht:=oZ (l:=l) (e:=e) (i:=q) q2;rcases hv s.t.length (mG l e q) s1 q a2.ck (a2.fits.le (by omega) (pW _)) a2.lf a2.no (by omega) ht.2 with⟨v1,_⟩|⟨next,s2,v1,v2,v3,v4,v5,v6,v7⟩
  ·rw[v1];exact⟨q,s1,rfl,q1,q2,hcq,a2.out a3 a4 a5,z1,by rw[z2];omega⟩
  rw[v1];dsimp only;rw[fu (by omega)];obtain⟨x',g1,_,_,g2⟩:=v5.keep.2 _ x a3;exact⟨next,s2,rfl,by omega,v3,v4,(a2.trans (v5.low (by omega))).out g1 (by omega) a5,by omega,by rw[z2]at v7;omega⟩
 rw[fu hq];have hbg:begins (kd l e j)=true:=ae.resolve_left hq;cases aa with
 |true=>
  rw[gu rfl];obtain⟨s1,a1,_,a3,⟨x,a4,a5⟩,a6⟩:=pQ (kind:=6) (Ok.start (l:=l) (p0:=j) hck hf hlf hno) (f:=j) (t:=j+1) (by omega) (by omega) (by omega) (by omega) (by omega);have a1:add s c 6 j (j+1)=(s1,(s.t.length:Int)):=a1;have hz:=pM s c 6 j (j+1);rw[a1]at hz⊢;dsimp only at hz⊢;obtain⟨z1,z2⟩:=hz;have d3:=tJ (s.t.length:Int) a3;obtain⟨x1,g1,_,_,g2⟩:=(tJ (s.t.length:Int) (Ok.start (l:=l) (p0:=j) a3.ck a3.fits a3.lf a3.no)).keep.2 _ x a4;rcases hv s.t.length j _ (j+1:Nat) d3.ck (d3.fits.le (pW _) (by omega)) d3.lf d3.no (by omega) (by omega)with⟨_,v2⟩|⟨next,s2,v1,v2,v3,v4,v5,v6,v7⟩
  ·rw[hbg]at v2;exact absurd v2 (by decide)
  rw[v1];dsimp only;obtain⟨x2,k1,_,_,k2⟩:=v5.keep.2 _ x1 g1;exact⟨next,s2,rfl,v2,v3,v4,(d3.trans v5).out k1 (by omega) a6,by have:=(sQ s1.t (s.t.length:Int)).1;dsimp only at v6;omega,by dsimp only at v7;rw[z2]at v7;exact v7⟩
 |false=>
  rw[fu (by decide)];rcases hv c j s b hck hf hlf hno (by omega) (by omega)with⟨_,v2⟩|⟨next,s2,v1,v2,v3,v4,v5,v6,v7⟩
  ·rw[hbg]at v2;exact absurd v2 (by decide)
  rw[v1];exact⟨next,s2,rfl,v2,v3,v4,v5,by omega,v7⟩
theorem Og(l:List Tk)(e:Nat)(n:Int)(hn:(e:Int)<=n)(val:Int->Nat->St->Int×Nat×St)(hv:VC l e n val)(c op:Nat):
 ∀(g p:Nat)(aa:Bool)(s:St)(b:Int),Ck s.t n->Fits s.t p b c->Lf s.t->No s.t c->b<=p->op<p->p<=e->cnt (raw l (p-1))=true->
 ∃(next:Nat)(s':St),qo l e val c op g p aa s=(next,s')/\op<next/\next<=e/\cnt (raw l (next-1))=true/\Ok l op n c s next next s'/\s'.t.length<=s.t.length+2*(next-p)/\s'.d.length<=s.d.length+(next-p)+1/\p<=next
 |0,p,aa,s,b=>λhck hf hlf hno hb hop hpe hcp=>⟨p,s,rfl,hop,hpe,hcp,(Ok.start hck hf hlf hno).le (pW _) hb,by omega,by omega,mJ _⟩
 |g+1,p,aa,s,b=>λhck hf hlf hno hb hop hpe hcp=>by
  have ht:=oZ (l:=l) (e:=e) (i:=p) hpe;have hs:Ok l op n c s p b s:=.start hck hf hlf hno;rw[qo];obtain⟨j,hj⟩:=my (mG l e p);rw[hj]at ht⊢;obtain⟨k,hk⟩:=my (kd l e j);rw[hk];by_cases k0:k=0
  ·rw[gu k0,yg l p (op+1) (by omega) hcp];exact⟨p,_,rfl,hop,hpe,hcp,Fy (hs.le (pW _) hb) (mJ _) (by omega),by show s.t.length<=_;omega,by show(s.d++_).length<=_;rw[oq];simp,mJ _⟩
  rw[fu k0];have hjk:=qR (l:=l) (e:=e) (i:=j) (by omega);rw[hk]at hjk;have on:∀(p':Nat)(h':Bool)(s1:St),Ok l op n c s p' p' s1->j<p'->p'<=e->cnt (raw l (p'-1))=true->s1.t.length<=s.t.length+2*(p'-p)->s1.d.length<=s.d.length+(p'-p)->
   ∃(next:Nat)(s':St),qo l e val c op g p' h' s1=(next,s')/\op<next/\next<=e/\cnt (raw l (next-1))=true/\Ok l op n c s next next s'/\s'.t.length<=s.t.length+2*(next-p)/\s'.d.length<=s.d.length+(next-p)+1/\p<=next:=by
   intro p' h' s1 h1 h2 h3 h4 h5 h6;obtain⟨next,s',g1,g2,g3,g4,g5,g6,g7,g8⟩:=Og l e n hn val hv c op g p' h' s1 p' h1.ck h1.fits h1.lf h1.no (pW _) (by omega) h3 h4;exact⟨next,s',g1,g2,g3,g4,h1.trans g5,by omega,by omega,by omega⟩
  have er:∀(t code:Nat),code=8->j<t->t<=e->Ok l op n c s t t (err l s c j t code):=by
   intro t code h1 h2 h3;exact(qF hs (f:=j) (t:=t) (code:=code) (by omega) (by omega) (by omega) (by omega) (by omega) (by omega) (by omega)).1.le (pW _) (by omega)
  have ez:∀t,(err l s c j t 8).t.length<=s.t.length+1/\(err l s c j t 8).d.length=s.d.length+1:=λt=>tq l s c j t 8
  have gz:(nN s.t c ((j+1:Nat):Int)).length=s.t.length:=vQ _ _ _;have gr:Ok l op n c s (j+1:Nat) (j+1:Nat) ⟨nN s.t c ((j+1:Nat):Int),s.d⟩:=u6 hs (by omega) (by omega) (by omega);have c1:cnt k=true->cnt (raw l (j+1-1))=true:=λh=>by rw[si,hjk.2];exact h
  by_cases k1:k=(if raw l op=9 then 11 else 10)
  ·rw[gu k1];exact⟨j+1,_,rfl,by omega,by omega,c1 (by rw[k1];split<;>rfl),gr,qy (rR gz) (by omega),by show s.d.length<=_;omega,by omega⟩
  rw[fu k1];by_cases k2:ends k=true
  ·rw[gu k2];exact on (j+1) aa _ (er (j+1) 8 rfl (by omega) (by omega)) (by omega) (by omega) (c1 (Bp k2)) (by have:=(ez (j+1)).1;omega) (by have:=(ez (j+1)).2;omega)
  rw[fu k2];by_cases k3:k=7
  ·rw[gu k3];have c7:=c1 (by rw[k3];rfl);split
   ·exact on (j+1) false _ gr (by omega) (by omega) c7 (qy (rR gz) (by omega)) (by show s.d.length<=_;omega)
   exact on (j+1) aa _ (er (j+1) 8 rfl (by omega) (by omega)) (by omega) (by omega) c7 (by have:=(ez (j+1)).1;omega) (by have:=(ez (j+1)).2;omega)
  rw[fu k3];have hcj:cnt (raw l j)=true:=by
   have hnt:j=e\/(λj=>!cnt (raw l j)) j=false:=by
    have:=uJ (λj=>!cnt (raw l j)) (e-p) p;unfold mG at hj;rw[hj]at this;rcases this with h|h
    ·exact .inl (by omega)
    exact .inr h
   rcases hnt with h|h
   ·omega
   simpa using h
  by_cases k4:aa=true
  ·rw[gu k4];obtain⟨t1,t2,t3⟩:=zz (l:=l) (e:=e) (j:=j) (by omega) hcj (by omega) (by rw[hk];simpa using k2);exact on _ aa _ (er _ 8 rfl t1 t2) t1 t2 t3 (by have:=(ez (qi l e j)).1;omega) (by have:=(ez (qi l e j)).2;omega)
  rw[fu k4];by_cases k5:0<key l e j\/begins k=true
  ·rw[gu k5];obtain⟨next,s',i1,i2,i3,i4,i5,i6,i7⟩:=J7 l e n hn val hv (raw l op==9) (c:=c) (j:=j) hck (hf.le (by omega) (pW _)) hlf hno (by omega) (by omega) (by rw[hk];exact k5);rw[i1];exact on next true s' (i5.low (by omega)) i2 i3 i4 (by omega) (by omega)
  rw[fu k5];exact on (j+1) aa _ (er (j+1) 8 rfl (by omega) (by omega)) (by omega) (by omega) (c1 (by rw[<-hjk.2];exact hcj)) (by have:=(ez (j+1)).1;omega) (by have:=(ez (j+1)).2;omega)
theorem xY(l:List Tk)(e:Nat)(n:Int)(hn:(e:Int)<=n):∀d:Nat,VC l e n (nM l e d)
 |0=>Oe l e n hn none (λk h=>by simp at h)
 |d+1=>Oe l e n hn _ (λk h c op s b ho hc hck hf hlf hno hb=>by
  injection h with h
  subst h;obtain⟨next,s',h1,h2,h3,h4,h5,h6,h7,h8⟩:=Og l e n hn _ (xY l e n hn d) c op (e-op) (op+1) false s b hck hf hlf hno hb (by omega) (by omega) (by rw[si];exact hc)
  exact⟨next,s',h1,h2,h3,h4,h5,by omega,by omega⟩)
end Fe
end Go.Proofs.Ytfbiffdmhcjhbaa

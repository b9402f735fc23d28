import Derived.Test.YtfbiffdmhcjhbaaZa10
import Derived.Test.YtfbiffdmhcjhbaaZa11
set_option linter.all false
set_option maxHeartbeats 16000000
set_option maxRecDepth 100000
namespace Go.Proofs.Ytfbiffdmhcjhbaa
open Go.RowKit Try
namespace Ps
open Ar Fl
open Rw (R E)
abbrev Bs:=Nat×St
abbrev OK(l:List Tk)(B:Bs)(k:Nat)(e:Nat)(s:St):Prop:=Fe.Ok l B.1 l.length k B.2 e e s
def Dq(l:List Tk)(B:Bs)(k:Int)(e:Nat)(s:St):Prop:=∃m:Nat,k=(m:Int)/\OK l B m e s
theorem Dq.le{l:List Tk}{B:Bs}{k:Int}{e e':Nat}{s:St}(h:Dq l B k e s)(he:e<=e'):Dq l B k e' s:=by
 obtain⟨m,h1,h2⟩:=h;exact⟨m,h1,h2.le (by omega) (by omega)⟩
def Up(t:List Nd)(c p:Nat):Prop:=0<c/\∃x,t[c]?=some x/\x.u=(p:Int)
theorem Up.keep{t t':List Nd}{c p:Nat}(h:Up t c p)(hk:sj t t'):Up t' c p:=by
 obtain⟨h0,x,h1,h2⟩:=h;obtain⟨x',g1,_,_,g2⟩:=hk.2 c x h1;exact⟨h0,x',g1,by omega⟩
theorem F9{l:List Tk}{B:Bs}{c p:Nat}{e:Nat}{s:St}(h:OK l B c e s)(hu:Up s.t c p):OK l B p e s:=by
 obtain⟨h0,x,h1,h2⟩:=hu;exact h.out h1 h2 h0
def outer(d:Nat):List Op->Int
 |[]=>d
 |o::_=>o.cur
def rV(t:List Nd)(d:Nat):List Op->Prop
 |[]=>Up t d 0
 |o::r=>(∃nd c p:Nat,o.node=(nd:Int)/\o.cur=(c:Int)/\Up t c nd/\outer d r=(p:Int)/\Up t nd p)/\rV t d r
theorem rV.keep{t t':List Nd}(hk:sj t t'){d:Nat}:∀{st:List Op},rV t d st->rV t' d st
 |[],h=>Up.keep h hk
 |_::_,⟨⟨nd,c,p,h1,h2,h3,h4,h5⟩,h6⟩=>⟨⟨nd,c,p,h1,h2,h3.keep hk,h4,h5.keep hk⟩,rV.keep hk h6⟩
def hold(doc:Int):List Op->Int
 |[]=>doc
 |t::_=>if t.has=true then t.node else t.cur
theorem sS(p:PS):holder p=hold p.doc p.st:=by unfold holder hold;split<;>rename_i h<;>first|rfl|rw[h]
def qN(l:List Tk)(B:Bs)(e:Nat)(s:St)(d:Nat):List Op->Prop
 |[]=>Dq l B d e s
 |o::_=>Dq l B o.node e s/\(o.has=false->Dq l B o.cur e s)
theorem zt{l:List Tk}{B:Bs}{e d:Nat}{s:St}{st:List Op}(hc:rV s.t d st)(h:Dq l B (hold d st) e s):qN l B e s d st:=by
 cases st with
 |nil=>exact h
 |cons o r=>
  obtain⟨⟨nd,c,p,h1,h2,h3,_,_⟩,_⟩:=hc;have h:Dq l B (if o.has=true then o.node else o.cur) e s:=h;by_cases ho:o.has=true
  ·rw[gu ho]at h;exact⟨h,λh=>by rw[ho]at h;cases h⟩
  rw[fu ho]at h;refine⟨?_,λ_=>h⟩;obtain⟨m,e1,e2⟩:=h;obtain rfl:m=c:=by omega
  exact⟨nd,h1,F9 e2 h3⟩
theorem qN.hold{l:List Tk}{B:Bs}{e d:Nat}{s:St}{st:List Op}(h:qN l B e s d st):Dq l B (hold d st) e s:=by
 cases st with
 |nil=>exact h
 |cons o r=>
  show Dq l B (if o.has=true then o.node else o.cur) e s;split
  ·exact h.1
  rename_i ho;exact h.2 (by simpa using ho)
theorem qN.outer{l:List Tk}{B:Bs}{e d:Nat}{s:St}{o:Op}{r:List Op}(hc:rV s.t d (o::r))(h:qN l B e s d (o::r)):Dq l B (outer d r) e s:=by
 obtain⟨⟨nd,c,p,h1,h2,_,h4,h5⟩,_⟩:=hc;obtain⟨m,e1,e2⟩:=h.1;obtain rfl:m=nd:=by omega
 exact⟨p,h4,F9 e2 h5⟩
theorem zI{l:List Tk}{B:Bs}{e d:Nat}{s:St}{r:List Op}(hc:rV s.t d r)(h:Dq l B (outer d r) e s):qN l B e s d r:=by
 cases r with
 |nil=>exact h
 |cons o q=>
  obtain⟨⟨nd,c,p,h1,h2,h3,_,_⟩,_⟩:=hc;refine⟨?_,λ_=>h⟩;obtain⟨m,e1,e2⟩:=h;have e1:o.cur=(m:Int):=e1;obtain rfl:m=c:=by omega
  exact⟨nd,h1,F9 e2 h3⟩
theorem qN.drop{l:List Tk}{B:Bs}{e d:Nat}{s:St}(f:Op->Bool):∀{st:List Op},rV s.t d st->qN l B e s d st->rV s.t d (st.dropWhile f)/\qN l B e s d (st.dropWhile f)
 |[],hc,h=>⟨hc,h⟩
 |o::r,hc,h=>by
  rw[Dy];split
  ·exact qN.drop f hc.2 (zI hc.2 (qN.outer hc h))
  exact⟨hc,h⟩
theorem qN.all{l:List Tk}{B:Bs}{e d:Nat}{s:St}:∀{st:List Op},rV s.t d st->qN l B e s d st->Up s.t d 0/\OK l B d e s
 |[],hc,h=>by
  obtain⟨m,e1,e2⟩:=h;obtain rfl:m=d:=by omega
  exact⟨hc,e2⟩
 |o::r,hc,h=>qN.all hc.2 (zI hc.2 (qN.outer hc h))
def zh(l:List Tk)(B:Bs)(e:Nat)(p:PS):Prop:=∃d:Nat,p.doc=(d:Int)/\rV p.s.t d p.st/\qN l B e p.s d p.st
def Inv(l:List Tk)(B:Bs)(e:Nat)(p:PS):Prop:=(p.doc=-1/\p.st=[]/\OK l B 0 e p.s)\/zh l B e p
theorem qN.le{l:List Tk}{B:Bs}{e e' d:Nat}{s:St}{st:List Op}(h:qN l B e s d st)(he:e<=e'):qN l B e' s d st:=by
 cases st with
 |nil=>exact Dq.le h he
 |cons o r=>exact⟨Dq.le h.1 he,λg=>Dq.le (h.2 g) he⟩
theorem zh.le{l:List Tk}{B:Bs}{e e':Nat}{p:PS}(h:zh l B e p)(he:e<=e'):zh l B e' p:=by
 obtain⟨d,h1,h2,h3⟩:=h;exact⟨d,h1,h2,h3.le he⟩
theorem Inv.le{l:List Tk}{B:Bs}{e e':Nat}{p:PS}(h:Inv l B e p)(he:e<=e'):Inv l B e' p:=by
 rcases h with⟨h1,h2,h3⟩|h
 ·exact .inl ⟨h1,h2,h3.le (by omega) (by omega)⟩
 exact .inr (h.le he)
theorem Inv.root{l:List Tk}{B:Bs}{e:Nat}{p:PS}(h:Inv l B e p):OK l B 0 e p.s:=by
 rcases h with⟨h1,h2,h3⟩|⟨d,h1,h2,h3⟩
 ·exact h3
 obtain⟨g1,g2⟩:=qN.all h2 h3;exact F9 g2 g1
theorem FJ{l:List Tk}{B:Bs}{e a b code:Nat}{p:PS}(h:zh l B e p)(hB:B.1<=a)(aa:e<=a)(hab:a<b)(hb:b<=l.length)(hc:code≠9)(h5:5<=code)(h10:code<=10):zh l B b {p with s:=err l p.s (holder p) a b code}:=by
 obtain⟨d,h1,h2,h3⟩:=h;obtain⟨m,e1,e2⟩:=h3.hold;have hh:holder p=(m:Int):=by rw[sS,h1];exact e1
 have h4:=(Fe.qF (f:=a) (t:=b) (code:=code) e2 (by omega) hab (by omega) hc hB h5 h10).1.le (e':=b) (b':=b) (pW _) (by omega);have hk:sj p.s.t (err l p.s (m:Int) a b code).t:=by
  have:=(Fe.qF (f:=a) (t:=b) (code:=code) (Fe.Ok.start (l:=l) (p0:=B.1) e2.ck e2.fits e2.lf e2.no) (by omega) hab (by omega) hc hB h5 h10).1.keep;exact this
 rw[hh];exact⟨d,h1,h2.keep hk,zt (h2.keep hk) ⟨m,e1,h4⟩⟩
theorem GG{l:List Tk}{B:Bs}{k e a b:Nat}{s:St}(h:OK l B k e s)(hB:B.1<=a)(aa:e<=a)(hb:b<=l.length):OK l B k (max e b) (qf l s k a b 8)/\sj s.t (qf l s k a b 8).t:=by
 unfold qf;split
 ·rename_i hab;refine⟨(Fe.qF (f:=a) (t:=b) (code:=8) h (by omega) hab (by omega) (by omega) hB (by omega) (by omega)).1.le (by omega) (by omega),?_⟩;exact(Fe.qF (f:=a) (t:=b) (code:=8) (Fe.Ok.start (l:=l) (p0:=B.1) h.ck h.fits h.lf h.no) (by omega) hab (by omega) (by omega) hB (by omega) (by omega)).1.keep
 exact⟨h.le (by omega) (by omega),sj.refl _⟩
theorem zJ{l:List Tk}{B:Bs}{k e i depth:Nat}{p:PS}(h:OK l B k e p.s)(hB:B.1<=i)(aa:e<=i)(hi:i<l.length):
 (value l (Rw.mQ l) depth p k i).1.doc=p.doc/\(value l (Rw.mQ l) depth p k i).1.st=p.st/\(value l (Rw.mQ l) depth p k i).1.read<=l.length/\
 sj p.s.t (value l (Rw.mQ l) depth p k i).1.s.t/\OK l B k (value l (Rw.mQ l) depth p k i).1.read (value l (Rw.mQ l) depth p k i).1.s:=by
 have hlim:i<=limit l i/\limit l i<=l.length:=by
  have h1:=rX (λj=>raw l j !=20&&raw l j !=21) (l.length-i) i;have h2:=oW (λj=>raw l j !=20&&raw l j !=21) (l.length-i) i;unfold limit;omega
 have hv:=Fe.xY l (limit l i) l.length (by omega) (depth-p.st.length) k i p.s e h.ck (h.fits.le (by omega) (pW _)) h.lf h.no (by omega) hlim.1;have key:∀(next:Nat)(none':Bool)(s':St),e<=next->B.1<=next->OK l B k next s'->sj p.s.t s'.t->next<=l.length->(none'=true->next<l.length)->
  (rest l (Rw.mQ l) {p with s:=s' } k next none').doc=p.doc/\(rest l (Rw.mQ l) {p with s:=s' } k next none').st=p.st/\(rest l (Rw.mQ l) {p with s:=s' } k next none').read<=l.length/\
  sj p.s.t (rest l (Rw.mQ l) {p with s:=s' } k next none').s.t/\OK l B k (rest l (Rw.mQ l) {p with s:=s' } k next none').read (rest l (Rw.mQ l) {p with s:=s' } k next none').s:=by
  intro next none' s' g1 g0 g2 g3 g4 g5;obtain⟨r1,r2⟩:=IM l next none' g4 g5 (by omega);unfold rest;dsimp only;obtain⟨r,hr⟩:=my (wT (Rw.mQ l) next none');rw[hr]at r1 r2⊢;have hb:=nD l r (lo l next r);obtain⟨o1,o2⟩:=GG g2 (by have:=qD l next r;omega) (qD l next r) (b:=back l r (lo l next r)) (by omega);exact⟨rfl,rfl,r2,g3.trans o2,o1.le (by omega) (by omega)⟩
 unfold value;dsimp only;rcases hv with⟨v1,_⟩|⟨next,s',v1,v2,v3,_,v5,_⟩
 ·rw[v1];dsimp only;rw[gu (by omega),show decide ((-1:Int)<0)=true from rfl];exact key i true p.s aa hB (h.le (by omega) (by omega)) (sj.refl _) (by omega) (λ_=>hi)
 rw[v1];dsimp only;rw[fu (by omega),show decide (((p.s.t.length:Nat):Int)<0)=false from nK (by omega),Nat.max_eq_left (by omega)];exact key next false s' (by omega) (by omega) (h.trans (v5.low hB)) v5.keep (by omega) (λh=>by cases h)
theorem uO{l:List Tk}{B:Bs}{e i:Nat}{p:PS}(h:Inv l B e p)(aa:e<=i)(hi:i<=l.length):zh l B i (nH p i)/\(nH p i).read=p.read:=by
 unfold nH;split
 ·rename_i hd;obtain⟨s',a1,_,a3,⟨x,a4,a5⟩,a6⟩:=Fe.pQ (kind:=2) (f:=i) (t:=i) h.root (by omega) (mJ _) (by omega) (by omega) (by omega);have a1:add p.s 0 2 i i=(s',(p.s.t.length:Int)):=a1;rw[a1];dsimp only;have hu:Up s'.t p.s.t.length 0:=⟨a6,x,a4,a5⟩
  exact⟨⟨p.s.t.length,rfl,hu,⟨p.s.t.length,rfl,a3.le (by omega) (by omega)⟩⟩,rfl⟩
 rename_i hd;rcases h with⟨h1,_⟩|h
 ·omega
 exact⟨h.le aa,rfl⟩
theorem SQ{l:List Tk}{B:Bs}{e depth:Nat}{p:PS}{r:R}(h:Inv l B e p)(hr:tH l r)(h4:r.kind=4)(hB:B.1<=r.from')(he:e<=r.from')(hread:p.read=r.au):
 Inv l B (mark l (Rw.mQ l) depth p r).read (mark l (Rw.mQ l) depth p r)/\(mark l (Rw.mQ l) depth p r).read<=l.length:=by
 have hlt:=hr.lt;have hle:=hr.le;obtain⟨m1,m2⟩:=hr.mark h4;have hge:=qD l r.from' r.au;unfold mark;dsimp only;obtain⟨a,ha⟩:=my (lo l r.from' r.au);rw[ha]at m1 m2 hge⊢;by_cases h20:raw l a=20
 ·rw[gu h20];obtain⟨s',a1,_,a3,⟨x,a4,a5⟩,a6⟩:=Fe.pQ (kind:=2) (f:=a) (t:=a+1) h.root (by omega) (by omega) (by omega) (by omega) (by omega);have a1:add p.s 0 2 a (a+1)=(s',(p.s.t.length:Int)):=a1;rw[a1];dsimp only;have hu:Up s'.t p.s.t.length 0:=⟨a6,x,a4,a5⟩
  have a3':OK l B p.s.t.length (a+1) s':=a3.le (by omega) (by omega);have hb:=nD l r.au (lo l (a+1) r.au);have aa:=qD l (a+1) r.au;split
  ·rename_i hx;obtain⟨v1,v2,v3,v4,v5⟩:=zJ (depth:=depth) (p:={p with s:=s',doc:=(p.s.t.length:Int),root:=false,st:=[]}) (i:=lo l (a+1) r.au) a3' (by omega) aa (by omega);refine⟨.inr ⟨p.s.t.length,v1,?_,?_⟩,v3⟩
   ·dsimp only;rw[v2];exact hu.keep v4
   dsimp only;rw[v2];exact⟨p.s.t.length,rfl,v5⟩
  exact⟨.inr ⟨p.s.t.length,rfl,hu,⟨p.s.t.length,rfl,a3'.le (by show((a+1:Nat):Int)<=(p.read:Nat);omega) (by show((a+1:Nat):Int)<=(p.read:Nat);omega)⟩⟩,by show p.read<=_;omega⟩
 rw[fu h20];dsimp only;have hgrow:OK l B 0 (a+1) (if 0<=p.doc then(⟨nN p.s.t p.doc ((a+1:Nat):Int),p.s.d⟩:St)else p.s):=by
  rcases h with⟨g1,_,g3⟩|⟨d,g1,g2,g3⟩
  ·rw[fu (by omega)];exact g3.le (by omega) (by omega)
  rw[gu (by omega),g1];obtain⟨k1,k2⟩:=qN.all g2 g3;have k3:=Fe.u6 (t:=a+1) k2 (by omega) (by omega) (by omega);have k4:=(Fe.u6 (t:=a+1) (Fe.Ok.start (l:=l) (p0:=B.1) k2.ck k2.fits k2.lf k2.no) (by omega) (by omega) (by omega)).keep;exact F9 k3 (k1.keep k4)
 obtain⟨s1,hs1⟩:=my ((if 0<=p.doc then(⟨nN p.s.t p.doc ((a+1:Nat):Int),p.s.d⟩:St)else p.s));rw[hs1]at hgrow⊢;obtain⟨b,hb⟩:=my (back l r.au a);have hbl:=nD l r.au a;rw[hb]at hbl⊢;have hx:=qD l (a+1) b;have hy:=nD l b (lo l (a+1) b);obtain⟨o1,_⟩:=GG hgrow (by omega) hx (b:=back l b (lo l (a+1) b)) (by omega);exact⟨.inl ⟨rfl,rfl,o1.le (by show((max (a+1) (back l b (lo l (a+1) b)):Nat):Int)<=(p.read:Nat);omega) (by show((max (a+1) (back l b (lo l (a+1) b)):Nat):Int)<=(p.read:Nat);omega)⟩,by show p.read<=_;omega⟩
end Ps
namespace Fl
open Ar
theorem EA{q q':List Nd}(hl:q.length=q'.length)(h:∀(i:Nat)(x:Nd),q[i]?=some x->q'[i]?=some x):q=q':=by
 refine zT (λi=>?_);cases hx:q[i]? with
 |none=>
  have:q'[i]?=none:=by rw[F5]at hx⊢;omega
  rw[this]
 |some x=>exact(h i x hx).symm
theorem yt(q:List Nd)(up:Int)(k f t:Nat)(hu:up<q.length):(qT q up k f t)[q.length]?=some ⟨k,f,t,up,[],false⟩:=by
 rw[qT,u7 _ _ _ _ _ (vO q up k f hu),gu rfl]
theorem vU(q:List Nd)(up:Int)(k f t:Nat):(qT q up k f t).length=q.length+1:=by rw[qT,qX,vN]
theorem Ap(q:List Nd)(up:Int)(k f t:Nat)(i:Nat)(x:Nd)(hx:q[i]?=some x):(qT q up k f t)[i]?=some {x with ks:=if(i:Int)=up then x.ks++[(q.length:Int)]else x.ks}:=by
 have hi:=(nC.1 hx).1;rw[qT,u7 _ _ _ _ _ (Gz q up k f i x hx),fu (show¬i=q.length by omega)]
theorem Jk(q:List Nd)(n k f t:Nat)(up:Int)(hn:n<q.length)(hu:up<q.length):keyed (qT q up k f t) n=qT (keyed q n) up k f t:=by
 refine EA (by rw[oK,vU,vU,oK]) (λi x hx=>?_);obtain⟨y,hy⟩:=wI (oK _ _) hx;rw[uN _ n i y hy]at hx;injection hx with hx
 subst hx;have hi:=(nC.1 hy).1;rw[vU]at hi;by_cases e:i=q.length
 ·subst e;rw[yt q up k f t hu]at hy;injection hy with hy
  subst hy;have:=yt (keyed q n) up k f t (by rw[oK];exact hu);rw[oK]at this;rw[this,fu (by omega)]
 obtain⟨z,hz⟩:=pG q i (by omega);rw[Ap q up k f t i z hz]at hy;injection hy with hy
 subst hy;rw[Ap (keyed q n) up k f t i _ (uN q n i z hz),oK]
section
variable {l:List Tk}{e:Nat}{n:Int}{B up0:Nat}{T0:List Nd}
theorem Rel.same{q t q' t':List Nd}{c c':Int}{p p':Nat}(h:Rel B up0 T0 q t c p)(h':Rel B up0 T0 q' t' c' p')(hk:sj t t'){i:Nat}{x:Nd}(hx:q[i]?=some x):
 ∃x',q'[i]?=some x'/\x'.u=x.u/\x'.k=x.k/\x'.f=x.f:=by
 have hi:=(nC.1 hx).1;obtain⟨z,a1,a2,a3,a4,_⟩:=h.nd i x hx;obtain⟨z',b1,b2,b3,b4⟩:=hk.2 _ z a1;have hlt:=(nC.1 b1).1;obtain⟨x',hx'⟩:=pG q' i (by have:=h'.len;omega);obtain⟨z2,c1,c2,c3,c4,_⟩:=h'.nd i x' hx';rw[b1]at c1;injection c1 with c1;subst c1
 have u1:=(h.F3 i x hx).1;have u2:=(h'.F3 i x' hx').1;have hlo:=h.lo;have hu:(cT B up0 x'.u:Int)=(cT B up0 x.u:Int):=by omega
 refine⟨x',hx',?_,by omega,by omega⟩;unfold cT at hu;split at hu<;>split at hu<;>omega
theorem wL{s:St}{ps:tY}{c:Int}{P f t kind:Nat}{e0 b:Int}(hck:Ck s.t n)(hf:Fits s.t e0 b (cT B up0 c))(he:e0<=(f:Int))(hft:f<=t)(htn:(t:Int)<=n)(hk1:1<=kind)(hk2:kind<=11)
 (hr:Rel B up0 T0 ps.q s.t c P) (hq:c<0->ps.q.length=0/\P<=t):
 ∃r,addN s.t (cT B up0 c) kind f t=(r,(s.t.length:Int))/\r.length=s.t.length+1/\Rel B up0 T0 (qT ps.q c kind f t) r c (max P t)/\(P<=t->Rel B up0 T0 (sU ps.q c kind f) r ps.q.length t):=by
 obtain⟨y,hy⟩:=pG s.t (cT B up0 c) hf.lt;have hm:=Bo (kind:=(kind:Int)) hck hf hy he (by omega) htn (by omega) (by omega);obtain⟨r,h1,h2,h3⟩:=hr.put hck.good hm hq;have:=h2.len;rw[vU]at this;have h4:=hr.len;exact⟨r,h1,by omega,h2,h3⟩
def SV(l:List Tk)(e:Nat)(n:Int)(B up0:Nat)(T0:List Nd)(val:Int->Nat->St->Int×Nat×St)(aa:Int->Nat->tY->Nat×tY):Prop:=
 ∀(c:Int)(p P:Nat)(s:St)(ps:tY)(b:Int),Ck s.t n->Fits s.t p b (cT B up0 c)->b<=p+1->p<=e->Rel B up0 T0 ps.q s.t c P->P<=p+1->(c<0->ps.q.length=0)->s.d=ps.d->
  (val (cT B up0 c) p s=(-1,p,s)/\aa c p ps=(p,ps)/\begins (kd l e p)=false)\/
  (∃(next:Nat)(s':St)(ps':tY),val (cT B up0 c) p s=((s.t.length:Int),next,s')/\aa c p ps=(next,ps')/\p<next/\next<=e/\cnt (raw l (next-1))=true/\Ok n (cT B up0 c) s next next s' /\
   Rel B up0 T0 ps'.q s'.t c next/\s'.d=ps'.d/\(∃x,ps'.q[ps.q.length]?=some x/\x.t=(next:Int)/\(p:Int)<=x.f/\x.f<=(next:Int)/\1<=x.k/\x.k<=11)/\s'.t.length+1<=s.t.length+2*(next-p)/\(begins (kd l e p)=true\/raw l p=3))
def SC(l:List Tk)(e:Nat)(n:Int)(B up0:Nat)(T0:List Nd)(mE:Int->Nat->St->Nat×St)(aa:Nat->Nat->tY->Nat×tY):Prop:=
 ∀(c op:Nat)(s:St)(ps:tY)(b:Int)(x:Nd),op<e->cnt (raw l op)=true->Ck s.t n->Fits s.t (op+1:Nat) b (B+c)->b<=(op+1:Nat)->Rel B up0 T0 ps.q s.t c (op+1)->s.d=ps.d->ps.q[c]?=some x->
  ∃(next:Nat)(s':St)(ps':tY),mE ((B+c:Nat):Int) op s=(next,s')/\aa c op ps=(next,ps')/\op<next/\next<=e/\cnt (raw l (next-1))=true/\Ok n (B+c) s next next s' /\
   Rel B up0 T0 ps'.q s'.t x.u next/\s'.d=ps'.d/\(∃y,ps'.q[c]?=some y/\y.t=(next:Int))/\s'.t.length+2<=s.t.length+2*(next-op)
theorem Px{i f:Nat}(h:nR (kd l e i)=false):lead l e f none i=(none,i):=by
 cases f with
 |zero=>rfl
 |succ f=>rw[lead,fu (by simp[h])]
theorem Km(hn:(e:Int)<=n)(mE:Option (Int->Nat->St->Nat×St))(af:Option (Nat->Nat->tY->Nat×tY))
 (hk:(mE=none/\af=none)\/∃k pk,mE=some k/\af=some pk/\SC l e n B up0 T0 k pk):SV l e n B up0 T0 (BO l e mE) (JI l e af):=by
 intro c p P s ps b hck hf hb hpe hr hP hq hd;have h0:=qL (l:=l) hpe;obtain⟨i0,hi0⟩:=my (blanks l e p);have hl:=zk l e i0 (e-i0) none i0 (mJ _) (by omega) (λa z h=>by simp at h);have hlead:i0=p->nR (kd l e p)=false->0<e-i0->lead l e (e-i0) none i0=(none,p):=λh1 h2 h3=>by subst h1;exact Px h2
 obtain⟨o,ho⟩:=my ((lead l e (e-i0) none i0).1);obtain⟨i,hi⟩:=my ((lead l e (e-i0) none i0).2);rw[hi0]at h0;rw[ho,hi]at hl;obtain⟨l1,l2,l3,l4⟩:=hl;obtain⟨fr,hfr⟩:=my (nS o i);have ak:p<=fr/\fr<=i:=by
  rw[<-hfr];cases o with
  |none=>exact⟨by show p<=i;omega,mJ _⟩
  |some x=>obtain⟨a,z⟩:=x;have:=l3 a z rfl;show p<=a/\a<=i;omega
 have hs:Ok n (cT B up0 c) s p b s:=.start hck hf;obtain⟨k,hkd⟩:=my (kd l e i);have ae:(k≠0/\(k=13\/nL k=true\/k=18\/opens k=true))\/o≠none->begins (kd l e p)=true\/raw l p=3:=by
  intro h;by_cases hp:i0=p
  ·refine .inl ?_;by_cases h2:nR (kd l e p)=true
   ·unfold begins;rw[h2];rfl
   have h2:nR (kd l e p)=false:=by simpa using h2
   have he0:0<e-i0:=by
    rcases h with⟨h,_⟩|h
    ·have:=(qR (l:=l) (e:=e) (i:=i) (by omega)).1;omega
    cases o with
    |none=>exact absurd rfl h
    |some x=>obtain⟨a,z⟩:=x;have:=l3 a z rfl;omega
   have h3:=hlead hp h2 he0;rw[h3]at ho hi;have ho:none=o:=ho;have hi:p=i:=hi;subst ho hi;rcases h with⟨_,h⟩|h
   ·rw[hkd];unfold begins;rcases h with h|h|h|h
    ·rw[h];rfl
    ·rw[h];simp
    ·rw[h];rfl
    rw[h];simp
   exact absurd rfl h
  have:=IA (λj=>raw l j==3) (e-p) p (by unfold blanks at hi0;rw[<-hi0]at hp;exact hp);exact .inr (by simpa using this)
 have put:∀(kind t:Nat),fr<t->t<=e->cnt (raw l (t-1))=true->1<=kind->kind<=10->(begins (kd l e p)=true\/raw l p=3)->
  ∃(next:Nat)(s':St)(ps':tY),((add s (cT B up0 c) kind fr t).2,t,(add s (cT B up0 c) kind fr t).1)=((s.t.length:Int),next,s')/\(t,(⟨qT ps.q c kind fr t,ps.d⟩:tY))=(next,ps')/\p<next/\next<=e/\cnt (raw l (next-1))=true/\Ok n (cT B up0 c) s next next s' /\
   Rel B up0 T0 ps'.q s'.t c next/\s'.d=ps'.d/\(∃x,ps'.q[ps.q.length]?=some x/\x.t=(next:Int)/\(p:Int)<=x.f/\x.f<=(next:Int)/\1<=x.k/\x.k<=11)/\s'.t.length+1<=s.t.length+2*(next-p)/\(begins (kd l e p)=true\/raw l p=3):=by
  intro kind t h1 h2 h3 h4 h5 h6;obtain⟨s',a1,a2,_⟩:=pQ (kind:=kind) hs (f:=fr) (t:=t) (by omega) (by omega) (by omega) h4 h5;obtain⟨r,b1,b2,b3,_⟩:=wL (ps:=ps) (kind:=kind) (f:=fr) (t:=t) hck hf (by omega) (by omega) (by omega) h4 (by omega) hr (λh=>⟨hq h,by omega⟩);have hs':s'=⟨r,s.d⟩:=by unfold add at a1;rw[b1]at a1;exact(congrArg Prod.fst a1).symm
  rw[show max P t=t by omega]at b3;have aa:=hr.cur;refine⟨t,s',⟨qT ps.q c kind fr t,ps.d⟩,by rw[a1],rfl,by omega,h2,h3,a2.le (pW _) (by omega),?_,?_,⟨_,yt ps.q c kind fr t aa.2,rfl,by show(p:Int)<=(fr:Int);omega,by show(fr:Int)<=(t:Int);omega,by show 1<=(kind:Int);omega,by show(kind:Int)<=11;omega⟩,?_,h6⟩
  ·rw[hs'];exact b3
  ·rw[hs'];exact hd
  rw[hs'];show r.length+1<=_;omega
 unfold BO JI;dsimp only;rw[hi0,ho,hi,hfr,hkd];have kin:k≠0->i<e/\raw l i=k:=λh=>by have:=qR (l:=l) (e:=e) (i:=i) (by omega);omega
 by_cases c1:k=13
 ·rw[gu c1,gu c1];have hi2:=kin (by omega);exact .inr (put 8 (i+1) (by omega) (by omega) (by rw[si,hi2.2,c1];rfl) (by omega) (by omega) (ae (.inl ⟨by omega,.inl c1⟩)))
 rw[fu c1,fu c1];by_cases c2:nL k=true
 ·rw[gu c2,gu c2];have hk0:k≠0:=λh=>by rw[h]at c2;exact absurd c2 (by decide)
  have hi2:=kin hk0;exact .inr (put 7 (i+1) (by omega) (by omega) (by rw[si,hi2.2];exact Gn c2) (by omega) (by omega) (ae (.inl ⟨hk0,.inr (.inl c2)⟩)))
 rw[fu c2,fu c2];by_cases c3:k=18
 ·rw[gu c3,gu c3];have ht:=zi (l:=l) (e:=e) (i:=i) (by omega);exact .inr (put 7 (text l e i) (by omega) ht.2.1 ht.2.2 (by omega) (by omega) (ae (.inl ⟨by omega,.inr (.inr (.inl c3))⟩)))
 rw[fu c3,fu c3];by_cases c4:opens k=true
 ·rw[gu c4,gu c4];have hk0:k≠0:=λh=>by rw[h]at c4;exact absurd c4 (by decide)
  have hi2:=kin hk0;have hb6:=ae (.inl ⟨hk0,.inr (.inr (.inr c4))⟩);rcases hk with⟨rfl,rfl⟩|⟨q,pq,rfl,rfl,hsc⟩
  ·have ht:=tN (l:=l) (e:=e) (i:=i) (by rw[hkd];exact c4);obtain⟨e1,e2⟩:=qF l hs (f:=fr) (t:=balanced l e i) (code:=10) (by omega) (by omega) (by omega) (by omega);obtain⟨r,b1,b2,b3,_⟩:=wL (ps:=ps) (kind:=11) (f:=fr) (t:=balanced l e i) hck hf (by omega) (by omega) (by omega) (by omega) (by omega) hr (λh=>⟨hq h,by omega⟩);rw[show max P (balanced l e i)=balanced l e i by omega]at b3;have aa:=hr.cur;refine .inr ⟨balanced l e i,_,_,by dsimp only;rw[e2],rfl,by omega,ht.2.1,ht.2.2,e1.le (pW _) (by omega),?_,?_,⟨_,yt ps.q c 11 fr _ aa.2,rfl,by show(p:Int)<=(fr:Int);omega,by show(fr:Int)<=(balanced l e i:Int);omega,by show 1<=(11:Int);omega,by show(11:Int)<=11;omega⟩,?_,hb6⟩
   ·show Rel B up0 T0 _ (addN s.t (cT B up0 c) 11 fr (balanced l e i)).1 c _;rw[show(11:Int)=((11:Nat):Int)from rfl,b1];exact b3
   ·show s.d++_=ps.d++_;rw[hd]
   show(addN s.t (cT B up0 c) 11 fr (balanced l e i)).1.length+1<=_;rw[show(11:Int)=((11:Nat):Int)from rfl,b1];show r.length+1<=_;omega
  dsimp only;obtain⟨kind,hkind⟩:∃kind:Nat,kind=(if k=9 then 10 else 9):=⟨_,rfl⟩
  rw[<-hkind];have hk1:1<=kind/\kind<=10:=by rw[hkind];split<;>omega
  obtain⟨s',a1,a2,a3,⟨x,a4,a5⟩,a6⟩:=pQ (kind:=kind) hs (f:=fr) (t:=i+1) (by omega) (by omega) (by omega) hk1.1 hk1.2;obtain⟨r,b1,b2,_,b4⟩:=wL (ps:=ps) (kind:=kind) (f:=fr) (t:=i+1) hck hf (by omega) (by omega) (by omega) hk1.1 (by omega) hr (λh=>⟨hq h,by omega⟩);have b4:=b4 (by omega);have hs':s'=⟨r,s.d⟩:=by unfold add at a1;rw[b1]at a1;exact(congrArg Prod.fst a1).symm
  rw[a1];dsimp only;have aa:=hr.cur;have hlen:=hr.len;have ag:B+ps.q.length=s.t.length:=by omega
  have a3':Ok n (B+ps.q.length) s fr (max b (i+1:Nat)) s':=by rw[ag];exact a3
  obtain⟨next,s2,ps2,k1,k2,k3,k4,k5,k6,k7,k8,k9,k10⟩:=hsc ps.q.length i s' ⟨sU ps.q c kind fr,ps.d⟩ (i+1:Nat) _ hi2.1 (by rw[hi2.2];exact vL c4) a3'.ck (a3'.fits.le (by omega) (by omega)) (pW _)
   (by rw[hs'];exact b4) (by rw[hs'];exact hd) (vO ps.q c kind fr aa.2)
  rw[ag]at k1;rw[k1,k2];obtain⟨x',g1,_,_,g2⟩:=k6.keep.2 _ x a4;have ah:Rel B up0 T0 (sU ps.q c kind fr) s'.t ps.q.length (i+1):=by rw[hs'];exact b4
  obtain⟨yy,w1,_,w2,w3⟩:=ah.same k7 k6.keep (vO ps.q c kind fr aa.2);obtain⟨y9,w4,w5⟩:=k9;rw[w1]at w4;injection w4 with w4;subst w4
  have w2:yy.k=(kind:Int):=w2;have w3:yy.f=(fr:Int):=w3;have hsl:s'.t.length=s.t.length+1:=by rw[hs'];exact b2
  have ai:Ok n s.t.length s' next next s2:=by rw[<-ag];exact k6
  exact .inr ⟨next,s2,ps2,rfl,rfl,by omega,k4,k5,(a2.trans ai).out g1 (by omega) a6,k7,k8,⟨yy,w1,w5,by omega,by omega,by omega,by omega⟩,by omega,hb6⟩
 rw[fu c4,fu c4];cases o with
 |some x=>
  obtain⟨a,z⟩:=x;have:=l3 a z rfl;have hfa:fr=a:=by rw[<-hfr];rfl
  exact .inr (put 7 (z+1) (by omega) (by omega) (by rw[si];exact Gm this.2.2.2) (by omega) (by omega) (ae (.inr (by simp))))
 |none=>
  refine .inl ⟨rfl,rfl,?_⟩;obtain⟨_,m2,m3⟩:=l4 rfl;have aj:nR k=false:=by
   by_cases h:i0<e
   ·rw[<-hkd,m2];exact m3 (by omega)
   have:k=0:=by rw[<-hkd];unfold kd;rw[gu (.inl (by omega))]
   rw[this];rfl
  have hbk:begins k=false:=by
   unfold begins;rw[aj,show nL k=false by simpa using c2,show opens k=false by simpa using c4,show(k==18)=false by simpa using c3];rfl
  by_cases hp:i0=p
  ·rw[<-hp,<-m2,hkd];exact hbk
  have:=IA (λj=>raw l j==3) (e-p) p (by rw[<-hi0]at hp;exact hp);have h3:raw l p=3:=by simpa using this
  unfold kd;split
  ·rfl
  rw[h3];rfl
theorem Py(hn:(e:Int)<=n){c j q P:Nat}{s:St}{ps:tY}{b:Int}(hck:Ck s.t n)(hf:Fits s.t j b (B+c))(hb:b<=j)(hjq:j<q)(hqe:q<=e)(hr:Rel B up0 T0 ps.q s.t c P)(hP:P<=j)(hd:s.d=ps.d):
 ∃s',pair l s ((B+c:Nat):Int) j q=(s',(s.t.length:Int))/\Ok n s.t.length s q q s'/\(∃x,s'.t[s.t.length]?=some x/\x.u=((B+c:Nat):Int))/\0<s.t.length/\
  Rel B up0 T0 (Eb l ps c j q).q s'.t ps.q.length q/\s'.d=(Eb l ps c j q).d/\(∃y,(Eb l ps c j q).q[ps.q.length]?=some y/\y.u=(c:Int))/\s'.t.length<=s.t.length+(if q-j<2 then 1 else 2):=by
 have ae:=hr.cur;have hlen:=hr.len;have af:B+ps.q.length=s.t.length:=by omega
 have ag:cT B up0 (c:Int)=B+c:=tO B up0 c;have hf':Fits s.t j b (cT B up0 (c:Int)):=by rw[ag];exact hf
 obtain⟨s1,a1,_,a3,⟨x,a4,a5⟩,a6⟩:=pQ (kind:=6) (Ok.start hck hf) (f:=j) (t:=q) (by omega) (by omega) (by omega) (by omega) (by omega);have a1:add s ((B+c:Nat):Int) 6 j q=(s1,(s.t.length:Int)):=a1;obtain⟨r,b1,b2,_,b4⟩:=wL (ps:=ps) (kind:=6) (f:=j) (t:=q) hck hf' (by omega) (by omega) (by omega) (by omega) (by omega) hr (λh=>by omega);have b4:=b4 (by omega);rw[ag]at b1;have hs1:s1=⟨r,s.d⟩:=by unfold add at a1;rw[b1]at a1;exact(congrArg Prod.fst a1).symm
 have hnew:=vO ps.q c 6 j ae.2;unfold pair Eb;dsimp only;rw[a1];dsimp only;by_cases h:q-j<2
 ·rw[gu h,gu h,gu h];exact⟨s1,rfl,a3.le (by omega) (by omega),⟨x,a4,a5⟩,a6,by rw[hs1];exact b4,by rw[hs1];exact hd,⟨_,hnew,rfl⟩,by rw[hs1];show r.length<=_;omega⟩
 rw[fu h,fu h,fu h];obtain⟨kind,hkind⟩:∃kind:Nat,kind=(if(List.range (q-j)).any (λx=>raw l (j+x)==13)=true then 8 else 7):=⟨_,rfl⟩
 rw[<-hkind];have hk1:1<=kind/\kind<=10:=by rw[hkind];split<;>omega
 have b1':=nD l (q-1) (j+1);have b2':=wG l (q-1) (j+1) (by omega);obtain⟨kt,hkt⟩:=my (back l (q-1) (j+1));rw[hkt]at b1' b2' ⊢;obtain⟨s2,d1,d2,_⟩:=pQ (kind:=kind) (Ok.start a3.ck a3.fits) (f:=j) (t:=kt) (by omega) (by omega) (by omega) hk1.1 hk1.2;have aa:cT B up0 ((ps.q.length:Nat):Int)=s.t.length:=by rw[tO];exact af
 have hr1:Rel B up0 T0 (⟨sU ps.q c 6 j,ps.d⟩:tY).q s1.t (ps.q.length:Int) q:=by rw[hs1];exact b4
 obtain⟨r2,e1,e2,e3,_⟩:=wL (s:=s1) (ps:=⟨sU ps.q c 6 j,ps.d⟩) (c:=(ps.q.length:Int)) (kind:=kind) (f:=j) (t:=kt) a3.ck (by rw[aa];exact a3.fits) (by omega) (by omega) (by omega) hk1.1 (by omega) hr1 (λh=>by omega);rw[aa]at e1;have hs2:s2=⟨r2,s1.d⟩:=by unfold add at d1;rw[e1]at d1;exact(congrArg Prod.fst d1).symm
 rw[show max q kt=q by omega]at e3;rw[d1];dsimp only;have d3:=tJ (s.t.length:Int) d2;obtain⟨x',g1,_,_,g2⟩:=d3.keep.2 _ x a4;have hkl:=Jk (sU ps.q c 6 j) ps.q.length kind j kt (ps.q.length:Int) (by rw[vN];omega) (by rw[vN];omega);have ah:Ck r2 n:=by have:=d2.ck;rw[hs2]at this;exact this
 have hkey:=e3.key ah.good ps.q.length (by rw[vU];rw[vN];omega);have hk0:(⟨sU ps.q c 6 j,ps.d⟩:tY).q=sU ps.q c 6 j:=rfl;rw[hk0,hkl,af]at hkey;have hold:=uN _ ps.q.length ps.q.length _ (Ap (sU ps.q c 6 j) (ps.q.length:Int) kind j kt ps.q.length _ hnew);rw[hkl]at hold
 exact⟨_,rfl,(a3.trans d3).le (by omega) (by omega),⟨x',g1,by omega⟩,a6,by rw[hs2];exact hkey,by rw[hs2,hs1];exact hd,⟨_,hold,rfl⟩,by
  show(keyed s2.t _).length<=_;rw[oK,hs2];show r2.length<=_;have:s1.t.length=r.length:=by rw[hs1]
  omega⟩
theorem Pz(hn:(e:Int)<=n)(val:Int->Nat->St->Int×Nat×St)(aa:Int->Nat->tY->Nat×tY)(hv:SV l e n B up0 T0 val aa)(af:Bool){c j P:Nat}{s:St}{ps:tY}{b:Int}
 (hck:Ck s.t n) (hf:Fits s.t j b (B+c)) (hb:b<=j) (hr:Rel B up0 T0 ps.q s.t c P) (hP:P<=j) (hd:s.d=ps.d) (hj:kd l e j≠0) (hcj:cnt (raw l j)=true) (ah:0<key l e j\/begins (kd l e j)=true):
 ∃(next:Nat)(s':St)(ps':tY),item l e val af ((B+c:Nat):Int) j s=(next,s')/\JJ l e aa af c j ps=(next,ps')/\j<next/\next<=e/\cnt (raw l (next-1))=true/\Ok n (B+c) s next next s' /\
  Rel B up0 T0 ps'.q s'.t c next/\s'.d=ps'.d/\s'.t.length<=s.t.length+2*(next-j):=by
 have aC:=(qR hj).1;have hlen:=hr.len;have ai:=hr.cur;have aj:B+ps.q.length=s.t.length:=by omega
 have ae:cT B up0 ((ps.q.length:Nat):Int)=s.t.length:=by rw[tO];exact aj
 unfold item JJ;dsimp only;by_cases hq:0<key l e j
 ·rw[gu hq,gu hq];obtain⟨q1,q2,q3⟩:=wB (by omega) hq;obtain⟨q,az⟩:=my (key l e j);rw[az]at q1 q2 q3⊢;obtain⟨s1,a1,a2,⟨x,a3,a4⟩,a5,a6,a7,⟨y,a8,a9⟩,ak⟩:=Py (l:=l) (e:=e) hn hck hf hb q1 q2 hr hP hd;rw[a1];dsimp only;have hcq:cnt (raw l (q-1))=true:=by rw[q3];rfl
  have ht:=oZ (l:=l) (e:=e) (i:=q) q2;obtain⟨xx,ag⟩:=my (mG l e q);rw[ag]at ht⊢;have aA:xx=e\/cnt (raw l xx)=true:=by
   have:=uJ (λj=>!cnt (raw l j)) (e-q) q;unfold mG at ag;rw[ag]at this;rcases this with h|h
   ·exact .inl (by omega)
   exact .inr (by simpa using h)
  obtain⟨pp,aB⟩:=my (Eb l ps c j q);rw[aB]at a6 a7 a8⊢;have stop:val (s.t.length:Int) xx s1=(-1,xx,s1)/\aa (ps.q.length:Int) xx pp=(xx,pp)->
   ∃ps',((if(aa (ps.q.length:Int) xx pp).1=xx then q else(aa (ps.q.length:Int) xx pp).1),(⟨BQ (aa (ps.q.length:Int) xx pp).2.q ps.q.length (if(aa (ps.q.length:Int) xx pp).1=xx then q else(aa (ps.q.length:Int) xx pp).1),(aa (ps.q.length:Int) xx pp).2.d⟩:tY))=(q,ps')/\
    Rel B up0 T0 ps'.q s1.t c q/\s1.d=ps'.d:=by
   intro h;rw[h.2];dsimp only;rw[gu rfl];refine⟨_,rfl,?_,a7⟩;have:=a6.close a2.ck.good a8;rw[a9]at this;exact this
  have hvv:=hv ps.q.length xx q s1 pp q a2.ck (by rw[ae];exact a2.fits.le (by omega) (pW _)) (by omega) ht.2 a6 (by omega) (λh=>by omega) a7;rw[ae]at hvv;have hbk:q-j<2\/2<=q-j:=by omega
  have hlq:s1.t.length<=s.t.length+2*(q-j):=by split at ak<;>omega
  split
  ·rename_i hst;rcases hvv with⟨v1,v2,_⟩|⟨next,s2,ps2,v1,v2,v3,v4,v5,v6,v7,v8,v9,v10,v11⟩
   ·obtain⟨ps',w1,w2,w3⟩:=stop ⟨v1,v2⟩;exact⟨q,s1,ps',rfl,w1,q1,q2,hcq,a2.out a3 a4 a5,w2,w3,hlq⟩
   exfalso;have hb2:begins (kd l e xx)=false:=by
    rcases hst with h|h|h
    ·rw[h];rfl
    ·rw[h];rfl
    unfold ends at h;simp at h;rcases h with h|h<;>rw[h]<;>rfl
   rcases v11 with h|h
   ·rw[hb2]at h;cases h
   rcases aA with h2|h2
   ·omega
   rw[h]at h2;exact absurd h2 (by decide)
  rcases hvv with⟨v1,v2,_⟩|⟨next,s2,ps2,v1,v2,v3,v4,v5,v6,v7,v8,v9,v10,v11⟩
  ·obtain⟨ps',w1,w2,w3⟩:=stop ⟨v1,v2⟩;rw[v1];exact⟨q,s1,ps',rfl,w1,q1,q2,hcq,a2.out a3 a4 a5,w2,w3,hlq⟩
  rw[v1,v2];dsimp only;rw[fu (by omega),fu (by omega)];obtain⟨x',g1,_,_,g2⟩:=v6.keep.2 _ x a3;obtain⟨y',y1,y2,_⟩:=a6.same v7 v6.keep a8;have hcl:=v7.close v6.ck.good y1;rw[y2,a9]at hcl;refine⟨next,s2,_,rfl,rfl,by omega,v4,v5,(a2.trans v6).out g1 (by omega) a5,hcl,v8,?_⟩;split at ak<;>omega
 rw[fu hq,fu hq];have hbg:begins (kd l e j)=true:=ah.resolve_left hq;cases af with
 |true=>
  rw[gu rfl,gu rfl];have av:cT B up0 (c:Int)=B+c:=tO B up0 c;obtain⟨s1,a1,_,a3,⟨x,a4,a5⟩,a6⟩:=pQ (kind:=6) (Ok.start hck hf) (f:=j) (t:=j+1) (by omega) (by omega) (by omega) (by omega) (by omega);have a1:add s ((B+c:Nat):Int) 6 j (j+1)=(s1,(s.t.length:Int)):=a1;obtain⟨r,b1,b2,_,b4⟩:=wL (ps:=ps) (kind:=6) (f:=j) (t:=j+1) hck (by rw[av];exact hf) (by omega) (by omega) (by omega) (by omega) (by omega) hr (λh=>by omega);have b4:=b4 (by omega);rw[av]at b1;have hs1:s1=⟨r,s.d⟩:=by unfold add at a1;rw[b1]at a1;exact(congrArg Prod.fst a1).symm
  have hnew:=vO ps.q c 6 j ai.2;rw[a1];dsimp only;have d3:=tJ (s.t.length:Int) a3;obtain⟨x1,g1,_,_,g2⟩:=(tJ (s.t.length:Int) (Ok.start a3.ck a3.fits)).keep.2 _ x a4;have ax:Ck r n:=by have:=a3.ck;rw[hs1]at this;exact this
  have hkey:=b4.key ax.good ps.q.length (by rw[vN];omega);rw[aj]at hkey;have ay:Rel B up0 T0 (keyed (sU ps.q c 6 j) (ps.q.length:Int)) (keyed s1.t (s.t.length:Int)) (ps.q.length:Int) (j+1):=by rw[hs1];exact hkey
  have hvv:=hv ps.q.length j (j+1) ⟨keyed s1.t (s.t.length:Int),s1.d⟩ ⟨keyed (sU ps.q c 6 j) ps.q.length,ps.d⟩ (j+1:Nat) d3.ck (by rw[ae];exact d3.fits.le (pW _) (by omega)) (by omega) (by omega) ay (by omega) (λh=>by omega) (by rw[hs1];exact hd);rw[ae]at hvv;rcases hvv with⟨_,_,v2⟩|⟨next,s2,ps2,v1,v2,v3,v4,v5,v6,v7,v8,v9,v10,v11⟩
  ·rw[hbg]at v2;exact absurd v2 (by decide)
  rw[v1,v2];dsimp only;obtain⟨x2,k1,_,_,k2⟩:=v6.keep.2 _ x1 g1;obtain⟨y',y1,y2,_⟩:=ay.same v7 v6.keep (uN _ ps.q.length ps.q.length _ hnew);have hcl:=v7.close v6.ck.good y1;rw[y2]at hcl;refine⟨next,s2,_,rfl,rfl,v3,v4,v5,(d3.trans v6).out k1 (by omega) a6,hcl,v8,?_⟩;have h1:(keyed s1.t (s.t.length:Int)).length=s.t.length+1:=by rw[oK,hs1];exact b2
  have v10:s2.t.length+1<=(keyed s1.t (s.t.length:Int)).length+2*(next-j):=v10;omega
 |false=>
  rw[fu (by decide),fu (by decide)];have hvv:=hv c j P s ps b hck (by rw[tO];exact hf) (by omega) (by omega) hr (by omega) (λh=>by omega) hd;rw[tO]at hvv;rcases hvv with⟨_,_,v2⟩|⟨next,s2,ps2,v1,v2,v3,v4,v5,v6,v7,v8,v9,v10,v11⟩
  ·rw[hbg]at v2;exact absurd v2 (by decide)
  rw[v1,v2];exact⟨next,s2,ps2,rfl,rfl,v3,v4,v5,v6,v7,v8,by omega⟩
theorem Kn(hn:(e:Int)<=n)(val:Int->Nat->St->Int×Nat×St)(ae:Int->Nat->tY->Nat×tY)(hv:SV l e n B up0 T0 val ae)(c op:Nat)(u:Int):
 ∀(g p:Nat)(aa:Bool)(s:St)(ps:tY)(b:Int),e-p<g->Ck s.t n->Fits s.t p b (B+c)->b<=p->op<p->p<=e->cnt (raw l (p-1))=true->Rel B up0 T0 ps.q s.t c p->s.d=ps.d->(∃x,ps.q[c]?=some x/\x.u=u)->
 ∃(next:Nat)(s':St)(ps':tY),qo l e val ((B+c:Nat):Int) op g p aa s=(next,s')/\yz l e ae c op g p aa ps=(next,ps')/\op<next/\p<=next/\next<=e/\cnt (raw l (next-1))=true/\Ok n (B+c) s next next s' /\
  Rel B up0 T0 ps'.q s'.t u next/\s'.d=ps'.d/\(∃y,ps'.q[c]?=some y/\y.t=(next:Int))/\s'.t.length<=s.t.length+2*(next-p)
 |0,p,aa,s,ps,b=>λhg=>by omega
 |g+1,p,aa,s,ps,b=>λhg hck hf hb hop hpe hcp hr hd hx=>by
  have ht:=oZ (l:=l) (e:=e) (i:=p) hpe;have hs:Ok n (B+c) s p b s:=.start hck hf;have ag:cT B up0 (c:Int)=B+c:=tO B up0 c;have hf':Fits s.t p b (cT B up0 (c:Int)):=by rw[ag];exact hf
  rw[qo,yz];obtain⟨j,hj⟩:=my (mG l e p);rw[hj]at ht⊢;obtain⟨k,hk⟩:=my (kd l e j);rw[hk];obtain⟨x,hx1,hxu⟩:=hx;by_cases k0:k=0
  ·rw[gu k0,gu k0,yg l p (op+1) (by omega) hcp];have hcl:=hr.close hck.good hx1;rw[hxu]at hcl;exact⟨p,_,_,rfl,rfl,hop,mJ _,hpe,hcp,Fy (hs.le (pW _) hb),hcl,by show s.d++_=ps.d++_;rw[hd],⟨_,u7 _ c p c x hx1,by rw[gu rfl]⟩,by show s.t.length<=_;omega⟩
  rw[fu k0,fu k0];have hjk:=qR (l:=l) (e:=e) (i:=j) (by omega);rw[hk]at hjk;have on:∀(p':Nat)(h':Bool)(s1:St)(af:tY),Ok n (B+c) s p' p' s1->j<p'->p'<=e->cnt (raw l (p'-1))=true->Rel B up0 T0 af.q s1.t c p'->s1.d=af.d->s1.t.length<=s.t.length+2*(p'-p)->
   ∃(next:Nat)(s':St)(ps':tY),qo l e val ((B+c:Nat):Int) op g p' h' s1=(next,s')/\yz l e ae c op g p' h' af=(next,ps')/\op<next/\p<=next/\next<=e/\cnt (raw l (next-1))=true/\Ok n (B+c) s next next s' /\
    Rel B up0 T0 ps'.q s'.t u next/\s'.d=ps'.d/\(∃y,ps'.q[c]?=some y/\y.t=(next:Int))/\s'.t.length<=s.t.length+2*(next-p):=by
   intro p' h' s1 af h1 h2 h3 h4 h5 h6 h7;obtain⟨y,y1,y2,_⟩:=hr.same h5 h1.keep hx1;obtain⟨next,s',ps',g1,g2,g3,g4,g5,g6,g7,g8,g9,g10,g11⟩:=Kn hn val ae hv c op u g p' h' s1 af p' (by omega) h1.ck h1.fits (pW _) (by omega) h3 h4 h5 h6 ⟨y,y1,by omega⟩;exact⟨next,s',ps',g1,g2,g3,by omega,g5,g6,h1.trans g7,g8,g9,g10,by omega⟩
  have er:∀(t code:Nat),code≠9->j<t->t<=e->Ok n (B+c) s t t (err l s ((B+c:Nat):Int) j t code)/\Rel B up0 T0 (Iy l ps c j t code).q (err l s ((B+c:Nat):Int) j t code).t c t/\(err l s ((B+c:Nat):Int) j t code).d=(Iy l ps c j t code).d/\(err l s ((B+c:Nat):Int) j t code).t.length<=s.t.length+1:=by
   intro t code h1 h2 h3;obtain⟨r,b1,b2,b3,_⟩:=wL (ps:=ps) (kind:=11) (f:=j) (t:=t) hck hf' (by omega) (by omega) (by omega) (by omega) (by omega) hr (λh=>by omega);rw[ag]at b1;rw[show max p t=t by omega]at b3;have hs1:err l s ((B+c:Nat):Int) j t code=⟨r,s.d++[⟨code,wu l j,too l (t-1)⟩]⟩:=by unfold err;rw[show(11:Int)=((11:Nat):Int)from rfl,b1]
   refine⟨(qF l hs (f:=j) (t:=t) (code:=code) (by omega) (by omega) (by omega) h1).1.le (pW _) (by omega),?_,?_,?_⟩
   ·rw[hs1];exact b3
   ·rw[hs1];show s.d++_=ps.d++_;rw[hd]
   rw[hs1];show r.length<=_;omega
  have gr:Ok n (B+c) s (j+1:Nat) (j+1:Nat) ⟨nN s.t (B+c:Nat) ((j+1:Nat):Int),s.d⟩:=u6 hs (by omega) (by omega) (by omega);have ai:nN s.t (B+c:Nat) ((j+1:Nat):Int)=nT s.t (cT B up0 (c:Int):Nat) ((j+1:Nat):Int):=by
   unfold nN rq;have hl:=hf.lt;rw[hck.firstT,ag,show decide (((B+c:Nat):Int)<0)=false from nK (by omega),show decide ((s.t.length:Int)<=((B+c:Nat):Int))=false from nK (by omega),show decide (n<((j+1:Nat):Int))=false from nK (by omega)];rfl
  have ah:Rel B up0 T0 ps.q (nN s.t (B+c:Nat) ((j+1:Nat):Int)) c (j+1):=by
   have:=hr.grow hck.good (by omega) (j+1);rw[show max p (j+1)=j+1 by omega]at this;rw[ai];exact this
  have aj:(nN s.t (B+c:Nat) ((j+1:Nat):Int)).length=s.t.length:=OM hck.good _ _;have c1:cnt k=true->cnt (raw l (j+1-1))=true:=λh=>by rw[si,hjk.2];exact h
  by_cases k1:k=(if raw l op=9 then 11 else 10)
  ·rw[gu k1,gu k1];have hcl:=ah.close gr.ck.good hx1;rw[hxu]at hcl;exact⟨j+1,_,_,rfl,rfl,by omega,by omega,by omega,c1 (by rw[k1];split<;>rfl),gr,hcl,hd,⟨_,u7 _ c (j+1) c x hx1,by rw[gu rfl]⟩,by show(nN s.t (B+c:Nat) ((j+1:Nat):Int)).length<=_;omega⟩
  rw[fu k1,fu k1];by_cases k2:ends k=true
  ·rw[gu k2,gu k2];obtain⟨e1,e2,e3,e4⟩:=er (j+1) 8 (by omega) (by omega) (by omega);exact on (j+1) aa _ _ e1 (by omega) (by omega) (c1 (Bp k2)) e2 e3 (by omega)
  rw[fu k2,fu k2];by_cases k3:k=7
  ·rw[gu k3,gu k3];have c7:=c1 (by rw[k3];rfl);split
   ·exact on (j+1) false _ _ gr (by omega) (by omega) c7 ah hd (by show(nN s.t (B+c:Nat) ((j+1:Nat):Int)).length<=_;omega)
   obtain⟨e1,e2,e3,e4⟩:=er (j+1) 8 (by omega) (by omega) (by omega);exact on (j+1) aa _ _ e1 (by omega) (by omega) c7 e2 e3 (by omega)
  rw[fu k3,fu k3];have hcj:cnt (raw l j)=true:=by
   have hnt:j=e\/(λj=>!cnt (raw l j)) j=false:=by
    have:=uJ (λj=>!cnt (raw l j)) (e-p) p;unfold mG at hj;rw[hj]at this;rcases this with h|h
    ·exact .inl (by omega)
    exact .inr h
   rcases hnt with h|h
   ·omega
   simpa using h
  by_cases k4:aa=true
  ·rw[gu k4,gu k4];obtain⟨t1,t2,t3⟩:=zz (l:=l) (e:=e) (j:=j) (by omega) hcj (by omega) (by rw[hk];simpa using k2);obtain⟨e1,e2,e3,e4⟩:=er (qi l e j) 8 (by omega) t1 t2;exact on _ aa _ _ e1 t1 t2 t3 e2 e3 (by omega)
  rw[fu k4,fu k4];by_cases k5:0<key l e j\/begins k=true
  ·rw[gu k5,gu k5];obtain⟨next,s',ps',i1,i2,i3,i4,i5,i6,i7,i8,i9⟩:=Pz hn val ae hv (raw l op==9) (c:=c) (j:=j) hck (hf.le (by omega) (pW _)) (by omega) hr (by omega) hd (by omega) hcj (by rw[hk];exact k5);rw[i1,i2];exact on next true s' ps' i6 i3 i4 i5 i7 i8 (by omega)
  rw[fu k5,fu k5];obtain⟨e1,e2,e3,e4⟩:=er (j+1) 8 (by omega) (by omega) (by omega);exact on (j+1) aa _ _ e1 (by omega) (by omega) (c1 (by rw[<-hjk.2];exact hcj)) e2 e3 (by omega)
theorem Ko(hn:(e:Int)<=n):∀d:Nat,SV l e n B up0 T0 (nM l e d) (JK l e d)
 |0=>Km hn none none (.inl ⟨rfl,rfl⟩)
 |d+1=>Km hn _ _ (.inr ⟨_,_,rfl,rfl,λc op s ps b x ho hc hck hf hb hr hd hx=>by
  obtain⟨next,s',ps',g1,g2,g3,g4,g5,g6,g7,g8,g9,g10,g11⟩:=Kn hn _ _ (Ko hn d) c op x.u (e-op) (op+1) false s ps b (by omega) hck hf hb (by omega) (by omega) (by rw[si];exact hc) hr hd ⟨x,hx,rfl⟩
  exact⟨next,s',ps',g1,g2,g3,g5,g6,g7,g8,g9,g10,by omega⟩⟩)
end
end Fl
namespace Fl
open Ar
def shift(up:Int)(B:Nat)(q:List Nd):List Nd:=q.mapIdx (λi x=>{x with u:=if i=0 then up else x.u+(B:Int),ks:=x.ks.map (·+(B:Int))})
theorem Mm(up:Int)(B:Nat)(q:List Nd):(shift up B q).length=q.length:=by simp[shift]
theorem PD(up:Int)(B:Nat)(q:List Nd)(i:Nat)(x:Nd)(hx:q[i]?=some x):(shift up B q)[i]?=some {x with u:=if i=0 then up else x.u+(B:Int),ks:=x.ks.map (·+(B:Int))}:=by
 unfold shift;rw[List.getElem?_mapIdx,hx];rfl
def IP(T:List Nd)(up:Int)(q:List Nd):List Nd×Int:=match q with
 |[]=>(T,-1)
 |v::r=>if oV T up v.k v.f v.t=true then((addN T up v.k v.f v.t).1.take T.length++shift up T.length (v::r),(T.length:Int))else(T,-1)
section
variable {l:List Tk}{e:Nat}{n:Int}{T0:List Nd}{up0:Nat}
theorem Mo(T0:List Nd)(up0 p:Nat)(h:up0<T0.length):Rel T0.length up0 T0 [] T0 (-1) p:=
 ⟨by simp,⟨rfl,h⟩,by simp,λi x hx=>by simp at hx,λi x hx=>by simp at hx,λi x hx=>⟨x,hx,rfl,rfl,rfl,rfl,by simp,.inr ⟨.inr rfl,rfl⟩⟩⟩
theorem Kq{x y:Nd}(h1:x.k=y.k)(h2:x.f=y.f)(h3:x.t=y.t)(h4:x.u=y.u)(h5:x.ks=y.ks)(h6:x.y=y.y):x=y:=by
 cases x;cases y;dsimp only at h1 h2 h3 h4 h5 h6;subst h1 h2 h3 h4 h5 h6;rfl
theorem PE(hn:(e:Int)<=n)(d p:Nat)(b:Int)(hck:Ck T0 n)(hf:Fits T0 p b up0)(hb:b<=p+1)(hpe:p<=e):
 (nM l e d up0 p ⟨T0,[]⟩=(-1,p,⟨T0,[]⟩)/\JK l e d (-1) p ⟨[],[]⟩=(p,⟨[],[]⟩))\/
 (∃(next:Nat)(s':St)(ps':tY),nM l e d up0 p ⟨T0,[]⟩=((T0.length:Int),next,s')/\JK l e d (-1) p ⟨[],[]⟩=(next,ps')/\p<next/\next<=e/\Ok n up0 ⟨T0,[]⟩ next next s'/\s'.d=ps'.d/\
  0<ps'.q.length/\IP T0 up0 ps'.q=(s'.t,(T0.length:Int))/\s'.t.length=T0.length+ps'.q.length/\s'.t.length+1<=T0.length+2*(next-p)/\
  (∀(i:Nat)(x:Nd),ps'.q[i]?=some x->-1<=x.u/\x.u<=i/\∀z∈x.ks,-(T0.length:Int)<=z/\z<=ps'.q.length)/\(∃v,ps'.q[0]?=some v/\oV T0 up0 v.k v.f v.t=true)):=by
 have hlt:=hf.lt;have hS:=Ko (l:=l) (B:=T0.length) (up0:=up0) (T0:=T0) hn d (-1) p p ⟨T0,[]⟩ ⟨[],[]⟩ b hck (by rw[wJ _ _ (by omega)];exact hf) hb hpe (Mo T0 up0 p hlt) (by omega) (λ_=>rfl) rfl;rw[wJ _ _ (by omega)]at hS;rcases hS with⟨h1,h2,_⟩|⟨next,s',ps',h1,h2,h3,h4,h5,h6,h7,h8,⟨x,h9,h10,h11,h12,aa,ae⟩,af,_⟩
 ·exact .inl ⟨h1,h2⟩
 have hbd:∀(i:Nat)(x:Nd),ps'.q[i]?=some x->-1<=x.u/\x.u<=i/\∀z∈x.ks,-(T0.length:Int)<=z/\z<=ps'.q.length:=λi x hx=>by
  obtain⟨z,a1,a2,a3,a4,a5,_⟩:=h7.nd i x hx;have hgu:=(h6.ck.good.up _ z a1).2;have hup:=(h7.F3 i x hx).1;refine⟨hup,?_,λy hy=>?_⟩
  ·rw[a4]at hgu;unfold cT at hgu;split at hgu<;>omega
  have:=h6.ck.good.kid _ z a1 (y+(T0.length:Int)) (by rw[a5];exact List.mem_map_of_mem hy);have:=h7.len;omega
 refine .inr ⟨next,s',ps',h1,h2,h3,h4,h6,h8,(nC.1 h9).1,?_,h7.len,af,hbd,⟨_,h9,?_⟩⟩
 case refine_2=>
  obtain⟨k,hk⟩:∃k:Nat,x.k=(k:Int):=⟨x.k.toNat,by omega⟩
  obtain⟨y,hy⟩:=pG T0 up0 hlt;exact Bo hck hf hy h11 (by omega) (by omega) aa ae
 have h9:ps'.q[0]?=some x:=h9;have hpos:=(nC.1 h9).1;obtain⟨xk,xf,xt,xu,ag,xy⟩:=x;dsimp only at h10 h11 h12 aa ae;obtain⟨k,rfl⟩:∃k:Nat,xk=(k:Int):=⟨xk.toNat,by omega⟩
 obtain⟨f,rfl⟩:∃f:Nat,xf=(f:Int):=⟨xf.toNat,by omega⟩
 subst h10;obtain⟨y,hy⟩:=pG T0 up0 hlt;have hm:=Bo (kind:=(k:Int)) (f:=(f:Int)) (t:=(next:Int)) hck hf hy h11 h12 (by omega) aa ae;obtain⟨r,a1,a2,a3,a4⟩:=Ou hck.good hm;have hlen:=h7.len;have hU:∀(i:Nat)(x:Nd),T0[i]?=some x->∃x',s'.t[i]?=some x'/\x'.u=x.u:=λi x hx=>by obtain⟨z,b1,_,_,b4,_⟩:=h7.old i x hx;exact⟨z,b1,b4⟩
 have hon:∀i,On s'.t up0 i↔On T0 up0 i:=λi=>vg hck.good hlt hU
 have hpl:IP T0 up0 ps'.q=(r.take T0.length++shift up0 T0.length ps'.q,(T0.length:Int)):=by
  unfold IP;cases hq:ps'.q with
  |nil=>rw[hq]at hpos;simp at hpos
  |cons v w=>
   have hv:v=⟨k,f,next,xu,ag,xy⟩:=by rw[hq]at h9;simpa using h9
   rw[hv];dsimp only;rw[gu hm,a1]
 rw[hpl];refine Prod.ext ?_ rfl;refine(EA ?_ (λi z hz=>?_)).symm
 ·rw[oq,qx,a2,Mm,hlen];show T0.length+_=min T0.length (T0.length+1)+_;omega
 have hi:i<s'.t.length:=(nC.1 hz).1
 by_cases hlo:i<T0.length
 ·obtain⟨x0,hx0⟩:=pG T0 i hlo;rw[vC (by rw[qx,a2];show i<min T0.length (T0.length+1);omega),Lg hlo];obtain⟨z1,b1,b2,b3,b4,b5,b6,b7⟩:=h7.old i x0 hx0;rw[hz]at b1;injection b1 with b1;subst b1
  obtain⟨z2,c1,c2,c3,c4,c5,c6,c7⟩:=a4 i x0 hx0;rw[c1];have ht:z2.t=z.t:=by
   rw[hon]at b7;rcases b7 with⟨b7,_,b8⟩|⟨b7,b8⟩
   ·rcases c7 with⟨_,c8⟩|⟨c7,_⟩
    ·omega
    exact absurd b7 c7
   rcases c7 with⟨c7,_⟩|⟨_,c8⟩
   ·rcases b7 with b7|b7
    ·exact absurd c7 b7
    omega
   omega
  refine congrArg some (Kq (by omega) (by omega) ht (by omega) ?_ (by rw[c5,b5]));rw[c6,b6];by_cases e:i=up0
  ·rw[gu e,gu ⟨e,hpos⟩]
  rw[fu e,fu (λh=>e h.1)]
 obtain⟨j,rfl⟩:∃j,i=T0.length+j:=⟨i-T0.length,by omega⟩
 obtain⟨x0,hx0⟩:=pG ps'.q j (by omega);have htl:(r.take T0.length).length=T0.length:=by rw[qx,a2];show min T0.length (T0.length+1)=_;omega
 rw[yF (by omega),htl,UC,PD _ _ _ j x0 hx0];obtain⟨z1,b1,b2,b3,b4,b5,b6,b7⟩:=h7.nd j x0 hx0;rw[hz]at b1;injection b1 with b1;subst b1
 rw[wJ _ _ (by omega)]at b7;have ht:x0.t=z.t:=by
  rcases b7 with⟨b7,_⟩|⟨_,b7⟩
  ·have:=((hon _).1 b7).low hck.good;omega
  omega
 have hup:=h7.F3 j x0 hx0;refine congrArg some (Kq b2.symm b3.symm ht ?_ b5.symm b6.symm);show(if j=0 then(up0:Int)else x0.u+(T0.length:Int))=z.u;rw[b4];by_cases e:j=0
 ·subst e;have h1:=h7.nd 0 x0 hx0;have hu0:x0.u<0:=by
   have hc:=(h6.ck.good.up _ z hz).2;rw[b4]at hc;unfold cT at hc;by_cases h2:x0.u<0
   ·exact h2
   rw[fu h2]at hc;omega
  rw[gu rfl,wJ _ _ hu0]
 have h0:=hup.2 (by omega);rw[fu e];unfold cT;rw[fu (by omega)];omega
end
end Fl
namespace Ft
open Ar Fl
def pre(d0:List Dg)(s:St):St:=⟨s.t,d0++s.d⟩
theorem Kr(d0:List Dg)(s:St)(up:Int)(k f t:Nat):add (pre d0 s) up k f t=(pre d0 (add s up k f t).1,(add s up k f t).2):=rfl
theorem zu(d0:List Dg)(l:List Tk)(s:St)(up:Int)(f t code:Nat):err l (pre d0 s) up f t code=pre d0 (err l s up f t code):=by
 unfold err pre;dsimp only;rw[sF]
theorem PH(d0:List Dg)(l:List Tk)(s:St)(c:Int)(j q:Nat):pair l (pre d0 s) c j q=(pre d0 (pair l s c j q).1,(pair l s c j q).2):=by
 unfold pair;dsimp only;split
 ·rfl
 rfl
def VP(v:Int->Nat->St->Int×Nat×St):Prop:=∀d0 up p s,v up p (pre d0 s)=((v up p s).1,(v up p s).2.1,pre d0 (v up p s).2.2)
theorem Ks(l:List Tk)(e:Nat)(mE:Option (Int->Nat->St->Nat×St))(h:∀k,mE=some k->∀d0 c op s,k c op (pre d0 s)=((k c op s).1,pre d0 (k c op s).2)):VP (BO l e mE):=by
 intro d0 up p s;unfold BO;dsimp only;obtain⟨o,ho⟩:=my ((lead l e (e-blanks l e p) none (blanks l e p)).1);obtain⟨i,hi⟩:=my ((lead l e (e-blanks l e p) none (blanks l e p)).2);rw[ho,hi];obtain⟨k,hk⟩:=my (kd l e i);rw[hk];by_cases c1:k=13
 ·rw[gu c1,gu c1];rfl
 rw[fu c1,fu c1];by_cases c2:nL k=true
 ·rw[gu c2,gu c2];rfl
 rw[fu c2,fu c2];by_cases c3:k=18
 ·rw[gu c3,gu c3];rfl
 rw[fu c3,fu c3];by_cases c4:opens k=true
 ·rw[gu c4,gu c4];cases aa:mE with
  |none=>
   dsimp only;rw[zu];rfl
  |some q=>
   dsimp only;rw[Kr];dsimp only;rw[h q aa]
 rw[fu c4,fu c4];cases o with
 |none=>rfl
 |some x=>rfl
theorem PI(l:List Tk)(e:Nat)(v:Int->Nat->St->Int×Nat×St)(hv:VP v)(aa:Bool)(d0:List Dg)(c:Int)(j:Nat)(s:St):
 item l e v aa c j (pre d0 s)=((item l e v aa c j s).1,pre d0 (item l e v aa c j s).2):=by
 unfold item;dsimp only;by_cases h:0<key l e j
 ·rw[gu h,gu h,PH];dsimp only;by_cases h2:kd l e (mG l e (key l e j))=0\/kd l e (mG l e (key l e j))=7\/ends (kd l e (mG l e (key l e j)))=true
  ·rw[gu h2,gu h2]
  rw[fu h2,fu h2,hv];dsimp only;by_cases h3:(v (pair l s c j (key l e j)).2 (mG l e (key l e j)) (pair l s c j (key l e j)).1).1<0
  ·rw[gu h3,gu h3]
  rw[fu h3,fu h3]
 rw[fu h,fu h];cases aa with
 |true=>
  rw[gu rfl,gu rfl,Kr];dsimp only;have:(⟨keyed (pre d0 (add s c 6 j (j+1)).1).t (add s c 6 j (j+1)).2,(pre d0 (add s c 6 j (j+1)).1).d⟩:St)=pre d0 ⟨keyed (add s c 6 j (j+1)).1.t (add s c 6 j (j+1)).2,(add s c 6 j (j+1)).1.d⟩:=rfl;rw[this,hv]
 |false=>
  rw[fu (by decide),fu (by decide),hv]
theorem wM(l:List Tk)(e:Nat)(v:Int->Nat->St->Int×Nat×St)(hv:VP v)(d0:List Dg)(c:Int)(op:Nat):∀(g p:Nat)(hd:Bool)(s:St),
 qo l e v c op g p hd (pre d0 s)=((qo l e v c op g p hd s).1,pre d0 (qo l e v c op g p hd s).2)
 |0,p,hd,s=>rfl
 |g+1,p,hd,s=>by
  rw[qo,qo];obtain⟨j,hj⟩:=my (mG l e p);rw[hj];obtain⟨k,hk⟩:=my (kd l e j);rw[hk];by_cases k0:k=0
  ·rw[gu k0,gu k0];unfold pre;dsimp only;rw[sF]
  rw[fu k0,fu k0];by_cases k1:k=(if raw l op=9 then 11 else 10)
  ·rw[gu k1,gu k1];rfl
  rw[fu k1,fu k1];by_cases k2:ends k=true
  ·rw[gu k2,gu k2,zu];exact wM l e v hv d0 c op g _ _ _
  rw[fu k2,fu k2];by_cases k3:k=7
  ·rw[gu k3,gu k3];by_cases k4:hd=true
   ·rw[gu k4,gu k4];exact wM l e v hv d0 c op g _ _ ⟨nN s.t c ((j+1:Nat):Int),s.d⟩
   rw[fu k4,fu k4,zu];exact wM l e v hv d0 c op g _ _ _
  rw[fu k3,fu k3];by_cases k4:hd=true
  ·rw[gu k4,gu k4,zu];exact wM l e v hv d0 c op g _ _ _
  rw[fu k4,fu k4];by_cases k5:0<key l e j\/begins k=true
  ·rw[gu k5,gu k5,PI l e v hv];exact wM l e v hv d0 c op g _ _ _
  rw[fu k5,fu k5,zu];exact wM l e v hv d0 c op g _ _ _
theorem GH(l:List Tk)(e:Nat):∀d:Nat,VP (nM l e d)
 |0=>Ks l e none (λk h=>by cases h)
 |d+1=>Ks l e _ (λk h d0 c op s=>by
  injection h with h
  subst h
  exact wM l e _ (GH l e d) d0 c op (e-op) (op+1) false s)
theorem PK(l:List Tk)(e d p:Nat)(up:Int)(s:St):nM l e d up p s=((nM l e d up p ⟨s.t,[]⟩).1,(nM l e d up p ⟨s.t,[]⟩).2.1,⟨(nM l e d up p ⟨s.t,[]⟩).2.2.t,s.d++(nM l e d up p ⟨s.t,[]⟩).2.2.d⟩):=by
 have:=GH l e d s.d up p ⟨s.t,[]⟩;unfold pre at this;rw[rD]at this;exact this
theorem PL{l:List Tk}{e:Nat}{n:Int}{up:Nat}(hn:(e:Int)<=n)(d p:Nat)(b:Int)(s:St)(hck:Ck s.t n)(hf:Fits s.t p b up)(hb:b<=p+1)(hpe:p<=e):
 (nM l e d up p s).2.2.t.length<=s.t.length+2*((nM l e d up p s).2.1-p)/\(nM l e d up p s).2.1<=e/\p<=(nM l e d up p s).2.1:=by
 rw[PK];dsimp only;rcases PE (l:=l) hn d p b hck hf hb hpe with⟨h1,_⟩|⟨next,s',ps',h1,_,h3,h4,_,_,_,_,_,h10,_⟩
 ·rw[h1];dsimp only;omega
 rw[h1];dsimp only;omega
end Ft
end Go.Proofs.Ytfbiffdmhcjhbaa

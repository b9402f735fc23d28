import Derived.Test.YtfbiffdmhcjhbaaZa12
import Derived.Test.YtfbiffdmhcjhbaaZa14
set_option linter.all false
set_option maxHeartbeats 16000000
set_option maxRecDepth 100000
namespace Go.Proofs.Ytfbiffdmhcjhbaa
open Go.RowKit Try
namespace Ps
open Ar Fl
open Rw (R E)
theorem Ab{l:List Tk}{B:Bs}{up f t kind:Nat}{e b:Int}{s:St}(h:Fe.Ok l B.1 l.length up B.2 e b s)(he:e<=f)(hft:f<=t)(ht:t<=l.length)(hk1:1<=kind)(hk2:kind<=10):
 ∃s',add s up kind f t=(s',(s.t.length:Int))/\Fe.Ok l B.1 l.length s.t.length B.2 f (max b t) s'/\Up s'.t s.t.length up/\sj s.t s'.t:=by
 obtain⟨s',a1,_,a3,⟨x,a4,a5⟩,a6⟩:=Fe.pQ (kind:=kind) h he hft (by omega) hk1 hk2;obtain⟨s2,b1,_,b3,_⟩:=Fe.pQ (kind:=kind) (Fe.Ok.start (l:=l) (p0:=B.1) h.ck h.fits h.lf h.no) he hft (by omega) hk1 hk2;have e2:s2=s':=by rw[a1]at b1;exact(congrArg Prod.fst b1).symm
 subst e2;exact⟨s2,a1,a3,⟨a6,x,a4,a5⟩,b3.keep⟩
theorem Oy{l:List Tk}{B:Bs}{nd:Nat}{en:E}{s:St}{b:Int}(h:Fe.Ok l B.1 l.length nd B.2 en.from' b s)(hB:B.1<=en.from')(hb:b<=en.au)(hlt:en.from'<en.au)(hle:en.au<=l.length):
 ∃c:Nat,(cur l s nd en).2=(c:Int)/\OK l B c en.au (cur l s nd en).1/\Up (cur l s nd en).1.t c nd/\sj s.t (cur l s nd en).1.t:=by
 unfold cur;split
 ·obtain⟨s',a1,a2,a3,a4⟩:=Ab (kind:=4) (f:=en.from') (t:=en.au) h (pW _) (by omega) hle (by omega) (by omega);have a1:add s nd 4 en.from' en.au=(s',(s.t.length:Int)):=a1;rw[a1];exact⟨_,rfl,a2.le (by omega) (by omega),a3,a4⟩
 obtain⟨s',a1,a2,⟨x,a3,a4⟩,a5⟩:=Fe.Fz l l.length l.length (pW _) (c:=nd) (j:=en.from') (q:=en.au) (s:=s) (b:=b) h.ck h.fits h.lf h.no hb hlt hle;rw[a1];exact⟨_,rfl,h.trans (a2.low hB),⟨a5,x,a3,a4⟩,a2.keep⟩
def Cf(l:List Tk)(B:Bs)(p:PS)(en:E)(q:PS):Prop:=zh l B en.au q/\q.read=p.read/\∃t k,q.st=t::k/\t.has=false
theorem GI{l:List Tk}{B:Bs}{e d:Nat}{p:PS}{o:Op}{r:List Op}{en:E}(hd:p.doc=(d:Int))(hc:rV p.s.t d (o::r))(h:Dq l B o.node e p.s)(hB:B.1<=en.from')(he:e<=en.from')(hlt:en.from'<en.au)(hle:en.au<=l.length):
 (again l p o r en).1=0/\Cf l B p en (again l p o r en).2:=by
 obtain⟨⟨nd,c,q,h1,h2,h3,h4,h5⟩,h6⟩:=hc;obtain⟨m,e1,e2⟩:=h;obtain rfl:m=nd:=by omega
 unfold again;rw[h1];obtain⟨c',k1,k2,k3,k4⟩:=Oy (en:=en) (e2.le (e':=en.from') (b':=en.from') (by omega) (by omega)) hB (by omega) hlt hle;refine⟨rfl,⟨d,hd,⟨⟨m,c',q,rfl,k1,k3,h4,h5.keep k4⟩,h6.keep k4⟩,?_⟩,rfl,_,_,rfl,rfl⟩;exact zt ⟨⟨m,c',q,rfl,k1,k3,h4,h5.keep k4⟩,h6.keep k4⟩ ⟨c',k1,k2⟩
theorem PM{l:List Tk}{B:Bs}{e d depth:Nat}{p:PS}{up:Int}{root:Bool}{st:List Op}{en:E}(hd:p.doc=(d:Int))(hc:rV p.s.t d st)(hup:outer d st=up)(h:Dq l B up e p.s)(hB:B.1<=en.from')(he:e<=en.from')(hlt:en.from'<en.au)(hle:en.au<=l.length):
 ((fresh l depth p up root st en).1=0/\Cf l B p en (fresh l depth p up root st en).2)\/(fresh l depth p up root st en).1=10:=by
 obtain⟨m,e1,e2⟩:=h;unfold fresh;split
 ·exact .inr rfl
 refine .inl ?_;rw[e1];have hk:1<=kindOf en/\kindOf en<=10:=by unfold kindOf;split<;>omega
 obtain⟨s',a1,a2,a3,a4⟩:=Ab (kind:=kindOf en) (f:=en.from') (t:=en.au) e2 (by omega) (by omega) hle hk.1 hk.2;rw[a1];dsimp only;obtain⟨c',k1,k2,k3,k4⟩:=Oy (en:=en) a2 hB (by omega) hlt hle;have hch:rV (cur l s' (p.s.t.length:Int) en).1.t d (⟨(p.s.t.length:Int),kindOf en,en.mE,(cur l s' (p.s.t.length:Int) en).2,false⟩::st):=
  ⟨⟨p.s.t.length,c',m,rfl,k1,k3,by rw[hup,e1],a3.keep k4⟩,(hc.keep a4).keep k4⟩
 exact⟨rfl,⟨d,hd,hch,zt hch ⟨c',k1,k2⟩⟩,rfl,_,_,rfl,rfl⟩
theorem CJ{l:List Tk}{B:Bs}{e depth:Nat}{p:PS}{en:E}(h:zh l B e p)(hB:B.1<=en.from')(he:e<=en.from')(hlt:en.from'<en.au)(hle:en.au<=l.length):
 ((place l depth p en).1=0/\Cf l B p en (place l depth p en).2)\/((place l depth p en).1≠0/\(place l depth p en).2=p/\5<=(place l depth p en).1/\(place l depth p en).1<=10/\(place l depth p en).1≠9):=by
 obtain⟨d,hd,hc,hh⟩:=h;obtain⟨hc',hh'⟩:=qN.drop (λo=>decide (en.mE<o.mE)) hc hh;have hf:∀(up:Int)(root:Bool)(st:List Op),rV p.s.t d st->outer d st=up->Dq l B up e p.s->
  ((fresh l depth p up root st en).1=0/\Cf l B p en (fresh l depth p up root st en).2)\/((fresh l depth p up root st en).1≠0/\(fresh l depth p up root st en).2=p/\5<=(fresh l depth p up root st en).1/\(fresh l depth p up root st en).1<=10/\(fresh l depth p up root st en).1≠9):=by
  intro up root st g1 g2 g3;rcases PM (depth:=depth) (root:=root) hd g1 g2 g3 hB he hlt hle with g|g
  ·exact .inl g
  refine .inr ⟨by omega,?_,by omega,by omega,by omega⟩;unfold fresh at g⊢;split
  ·rfl
  rename_i hdp;rw[fu hdp]at g;cases g
 have bad:∀code:Nat,5<=code->code<=10->code≠9->((code,p).1=0/\Cf l B p en (code,p).2)\/((code,p).1≠0/\(code,p).2=p/\5<=(code,p).1/\(code,p).1<=10/\(code,p).1≠9):=
  λcode g1 g2 g3=>.inr ⟨by show code≠0;omega,rfl,g1,g2,g3⟩
 have hr:(place l depth p en)=(match p.st.dropWhile (λo=>decide (en.mE<o.mE))with
  |[]=>if p.root=true then(7,p)else fresh l depth p p.doc true [] en
  |o::r=>
   if o.mE=en.mE then
    if o.kind=kindOf en then again l p o r en
    else if kindOf en=3 then(if o.has=true then(5,p)else fresh l depth p o.cur p.root ({o with has:=true}::r) en)
    else match r with
     |o2::r2=>if o2.mE=en.mE/\o2.kind=5 then again l p o2 r2 en else(5,p)
     |[]=>(5,p)
   else if o.has=true then(6,p)else fresh l depth p o.cur p.root ({o with has:=true}::r) en):=rfl
 rw[hr];cases hdw:p.st.dropWhile (λo=>decide (en.mE<o.mE))with
 |nil=>
  rw[hdw]at hc' hh';dsimp only;split
  ·exact bad 7 (by omega) (by omega) (by omega)
  exact hf p.doc true [] hc' hd.symm (by rw[hd];exact hh')
 |cons o r=>
  rw[hdw]at hc' hh';dsimp only;split
  ·split
   ·exact .inl (GI hd hc' hh'.1 hB he hlt hle)
   split
   ·split
    ·exact bad 5 (by omega) (by omega) (by omega)
    rename_i ho;exact hf o.cur p.root _ hc' rfl (hh'.2 (by simpa using ho))
   cases r with
   |nil=>exact bad 5 (by omega) (by omega) (by omega)
   |cons o2 r2=>
    dsimp only;split
    ·have:=zI hc'.2 (qN.outer hc' hh');exact .inl (GI hd hc'.2 this.1 hB he hlt hle)
    exact bad 5 (by omega) (by omega) (by omega)
  split
  ·exact bad 6 (by omega) (by omega) (by omega)
  rename_i ho;exact hf o.cur p.root _ hc' rfl (hh'.2 (by simpa using ho))
theorem yu{l:List Tk}{B:Bs}{depth b:Nat}(hb:b<=l.length):∀(es:List E)(e:Nat)(p:PS)(up:Int),zh l B e p->B.1<=e->up=holder p->xA l b e es->e<=b->
 ∃e',e<=e'/\e'<=b/\zh l B e' (places l depth b p up es).2/\(places l depth b p up es).2.read=p.read/\
  ((places l depth b p up es).1=true->(es=[]->e'=e)/\(∀x,es.getLast?=some x->e'=x.au)/\(es≠[]->∃t k,(places l depth b p up es).2.st=t::k/\t.has=false))
 |[],e,p,up=>λh _ _ _ he=>⟨e,mJ _,he,h,rfl,λ_=>⟨λ_=>rfl,λx hx=>(by cases hx),λh=>absurd rfl h⟩⟩
 |en::es,e,p,up=>λh hB hup hes aa=>by
  obtain⟨h1,h2,h3,h4⟩:=hes;rw[places];rcases CJ (depth:=depth) h (by omega) h1 h2 (by omega)with⟨g1,g2,g3,t,k,g4,g5⟩|⟨g1,g2,g3,g4,g5⟩
  ·rw[gu g1];obtain⟨q,hq⟩:=my ((place l depth p en).2);rw[hq]at g2 g3 g4⊢;obtain⟨e',k1,k2,k3,k4,k5⟩:=yu hb es en.au q (Fj q.st) g2 (by omega) (by rw[sS,g4];show t.cur=if t.has=true then t.node else t.cur;rw[fu (by rw[g5];simp)]) h4 h3;refine⟨e',by omega,k2,k3,by rw[k4,g3],λhall=>?_⟩;obtain⟨m0,m1,m2⟩:=k5 hall;refine⟨λh=>(by cases h),λx hx=>?_,λ_=>?_⟩
   ·cases es with
    |nil=>
     obtain rfl:en=x:=by simpa using hx
     exact m0 rfl
    |cons y ys=>exact m1 x (by rw[Ra]at hx;exact hx)
   by_cases hes:es=[]
   ·subst hes;refine⟨t,k,?_,g5⟩;rw[places];exact g4
   exact m2 hes
  rw[fu g1];dsimp only;have:=FJ (a:=en.from') (b:=b) (code:=(place l depth p en).1) h (by omega) h1 (by omega) hb g5 g3 g4;rw[hup];exact⟨b,aa,mJ _,this,rfl,λh=>by cases h⟩
end Ps
namespace Ps
open Ar Fl
open Rw (R E)
theorem SX{l:List Tk}{B:Bs}{a b depth:Nat}{p:PS}{r:R}(h:zh l B a p)(hB:B.1<=a)(hab:a<b)(hb:b<=l.length)(hread:b<=p.read)(hrl:p.read<=l.length):
 zh l B (bare l (Rw.mQ l) depth p r a b).read (bare l (Rw.mQ l) depth p r a b)/\(bare l (Rw.mQ l) depth p r a b).read<=l.length:=by
 have aa:zh l B p.read {p with s:=err l p.s (holder p) a b 7}:=(FJ h hB (mJ _) hab hb (by omega) (by omega) (by omega)).le hread;obtain⟨d,hd,hc,hh⟩:=h;obtain⟨hc',hh'⟩:=qN.drop (λo=>decide (r.mE<=o.mE)) hc hh
 have hr:bare l (Rw.mQ l) depth p r a b=(match p.st.dropWhile (λo=>decide (r.mE<=o.mE))with
  |[]=>if p.root=true then{p with s:=err l p.s (holder p) a b 7}
   else
    let v:=value l (Rw.mQ l) depth {p with st:=[]} p.doc a
    {v.1 with root:=v.2}
  |o::q=>if o.has=true then{p with s:=err l p.s (holder p) a b 7}
   else
    let v:=value l (Rw.mQ l) depth {p with st:=o::q} o.cur a
    {v.1 with st:={o with has:=v.2}::q}):=rfl
 rw[hr];cases hdw:p.st.dropWhile (λo=>decide (r.mE<=o.mE))with
 |nil=>
  rw[hdw]at hc' hh';dsimp only;split
  ·exact⟨aa,hrl⟩
  obtain⟨m,e1,e2⟩:=hh';obtain rfl:m=d:=by omega
  obtain⟨P,hP⟩:∃P:PS,{p with st:=[]}=P:=⟨_,rfl⟩
  have hP1:P.s=p.s:=by rw[<-hP]
  have hP2:P.st=[]:=by rw[<-hP]
  have hP3:P.doc=(m:Int):=by rw[<-hP];exact hd
  rw[hP,hd];rw[<-hP1]at e2 hc';obtain⟨v1,v2,v3,v4,v5⟩:=zJ (depth:=depth) (p:=P) (i:=a) (k:=m) e2 hB (mJ _) (by omega);refine⟨⟨m,by rw[<-hP3];exact v1,?_,?_⟩,v3⟩
  ·dsimp only;rw[v2,hP2];exact Up.keep hc' v4
  dsimp only;rw[v2,hP2];exact⟨m,rfl,v5⟩
 |cons o q=>
  rw[hdw]at hc' hh';dsimp only;split
  ·exact⟨aa,hrl⟩
  rename_i ho;obtain⟨m,e1,e2⟩:=hh'.2 (by simpa using ho);obtain⟨⟨nd,c,k,g1,g2,g3,g4,g5⟩,g6⟩:=hc';obtain rfl:m=c:=by omega
  obtain⟨o1,o2,o3,o4,o5⟩:=o;have e1:o4=(m:Int):=e1;subst e1;obtain⟨v1,v2,v3,v4,v5⟩:=zJ (depth:=depth) (p:={p with st:=⟨o1,o2,o3,(m:Int),o5⟩::q}) (i:=a) (k:=m) e2 hB (mJ _) (by omega);have hch:rV (value l (Rw.mQ l) depth {p with st:=⟨o1,o2,o3,(m:Int),o5⟩::q} (m:Int) a).1.s.t d (⟨o1,o2,o3,(m:Int),(value l (Rw.mQ l) depth {p with st:=⟨o1,o2,o3,(m:Int),o5⟩::q} (m:Int) a).2⟩::q):=
   rV.keep (st:=⟨o1,o2,o3,(m:Int),(value l (Rw.mQ l) depth {p with st:=⟨o1,o2,o3,(m:Int),o5⟩::q} (m:Int) a).2⟩::q) v4 ⟨⟨nd,m,k,g1,g2,g3,g4,g5⟩,g6⟩
  refine⟨⟨d,by rw[<-hd];exact v1,hch,?_⟩,v3⟩;refine zt hch ?_;show Dq l B (if(value l (Rw.mQ l) depth {p with st:=⟨o1,o2,o3,(m:Int),o5⟩::q} (m:Int) a).2=true then o1 else(m:Int)) _ _;split
  ·exact⟨nd,g1,F9 v5 (g3.keep v4)⟩
  exact⟨m,g2,v5⟩
theorem SY{l:List Tk}{B:Bs}{e depth:Nat}{p:PS}{r:R}(ht:Rw.pI 0 l)(h:Inv l B e p)(hr:tH l r)(h5:r.kind=5)(hB:B.1<=r.from')(he:e<=r.from')(hread:p.read=r.au):
 Inv l B (body l (Rw.mQ l) depth p r).read (body l (Rw.mQ l) depth p r)/\(body l (Rw.mQ l) depth p r).read<=l.length:=by
 have hlt:=hr.lt;have hle:=hr.le;have hlo:=hr.body h5;have hge:=qD l r.from' r.au;have hcn:=Ce l hlo;obtain⟨n1,n2,n3,n4⟩:=zq ht hr h5;unfold body;dsimp only;obtain⟨a,ha⟩:=my (lo l r.from' r.au);rw[ha]at hlo hge hcn n1 n3⊢;obtain⟨b,hb⟩:=my (back l r.au a);have hbl:=nD l r.au a;have hbg:=wK l r.au a a (mJ _) hlo hcn;rw[hb]at n1 hbl hbg⊢;obtain⟨o1,o2⟩:=uO h (i:=a) (by omega) (by omega);obtain⟨p1,hp1⟩:=my (nH p a);rw[hp1]at o1 o2⊢;obtain⟨es,hes⟩:=my (Rw.su l r);rw[hes]at n1 n2 n3 n4⊢;split
 ·obtain⟨g1,g2⟩:=SX (r:=r) (depth:=depth) o1 (by omega) hbg (by omega) (by omega) (by omega);exact⟨.inr g1,g2⟩
 rename_i hne;obtain⟨e',k1,k2,k3,k4,k5⟩:=yu (depth:=depth) (b:=b) (by omega) es.1 a p1 (holder p1) o1 (by omega) rfl n1 (by omega);obtain⟨q,hq⟩:=my (places l depth b p1 (holder p1) es.1);rw[hq]at k3 k4 k5⊢;have ae:q.2.read=r.au:=by rw[k4,o2,hread]
 have stay:Inv l B q.2.read q.2/\q.2.read<=l.length:=⟨.inr (k3.le (by omega)),by omega⟩
 split
 ·rename_i hall;split
  ·rename_i hx;obtain⟨_,m1,m2⟩:=k5 hall;obtain⟨t,k,m3,m4⟩:=m2 hne;have hlast:∃z,es.1.getLast?=some z:=by
    cases hz:es.1.getLast? with
    |none=>rw[Rc]at hz;exact absurd hz hne
    |some z=>exact⟨z,rfl⟩
   obtain⟨z,hz⟩:=hlast;have hrest:es.2=e':=by rw[n2 z hz,m1 z hz]
   have hxg:=qD l es.2 r.au;have hxb:=nD l r.au (lo l es.2 r.au);obtain⟨d,d1,d2,d3⟩:=k3;obtain⟨x,aa⟩:=my (lo l es.2 r.au);rw[aa]at hx hxg hxb⊢;rw[m3]at d2 d3⊢;dsimp only;obtain⟨m,e1,e2⟩:=d3.2 m4;obtain⟨⟨nd,c,kk,g1,g2,g3,g4,g5⟩,g6⟩:=d2;obtain rfl:m=c:=by omega
   obtain⟨o1,o2,o3,o4,o5⟩:=t;have e1:o4=(m:Int):=e1;subst e1;obtain⟨v1,v2,v3,v4,v5⟩:=zJ (depth:=depth) (p:=q.2) (i:=x) (k:=m) e2 (by omega) (by omega) (by omega);have hch:rV (value l (Rw.mQ l) depth q.2 (m:Int) x).1.s.t d (⟨o1,o2,o3,(m:Int),(value l (Rw.mQ l) depth q.2 (m:Int) x).2⟩::k):=
    rV.keep (st:=⟨o1,o2,o3,(m:Int),(value l (Rw.mQ l) depth q.2 (m:Int) x).2⟩::k) v4 ⟨⟨nd,m,kk,g1,g2,g3,g4,g5⟩,g6⟩
   refine⟨.inr ⟨d,by rw[<-d1];exact v1,hch,zt hch ?_⟩,v3⟩;show Dq l B (if(value l (Rw.mQ l) depth q.2 (m:Int) x).2=true then o1 else(m:Int)) _ _;split
   ·exact⟨nd,g1,F9 v5 (g3.keep v4)⟩
   exact⟨m,g2,v5⟩
  exact stay
 exact stay
theorem IQ{l:List Tk}{B:Bs}{depth:Nat}{p:PS}{r:R}(ht:Rw.pI 0 l)(h:Inv l B p.read p)(hr:tH l r)(hB:B.1<=r.from')(he:p.read<=r.from'):
 Inv l B (row l (Rw.mQ l) depth p r).read (row l (Rw.mQ l) depth p r)/\(row l (Rw.mQ l) depth p r).read<=l.length:=by
 have hlt:=hr.lt;have hle:=hr.le;have h0:Inv l B p.read {p with read:=r.au}:=h;unfold row;dsimp only;split
 ·rename_i h4;exact SQ h0 hr h4 hB he rfl
 split
 ·rename_i h5;exact SY ht h0 hr h5 hB he rfl
 split
 ·split
  ·rename_i hab;have hge:=qD l r.from' r.au;have hbl:=nD l r.au (lo l r.from' r.au);obtain⟨o1,o2⟩:=uO h0 (i:=lo l r.from' r.au) (by omega) (by omega);have:=FJ (code:=8) o1 (by omega) (mJ _) hab (by omega) (by omega) (by omega) (by omega);have e2:(nH {p with read:=r.au} (lo l r.from' r.au)).read=r.au:=o2;refine⟨.inr (this.le ?_),?_⟩
   ·show back l r.au (lo l r.from' r.au)<=(nH {p with read:=r.au} (lo l r.from' r.au)).read;omega
   show(nH {p with read:=r.au} (lo l r.from' r.au)).read<=_;omega
  exact⟨h0.le (by show p.read<=r.au;omega),hle⟩
 exact⟨h0.le (by show p.read<=r.au;omega),hle⟩
theorem zK{l:List Tk}{B:Bs}{depth:Nat}(ht:Rw.pI 0 l):∀(rs:List R)(p:PS),(∀r∈rs,tH l r/\B.1<=r.from')->Inv l B p.read p->p.read<=l.length->
 Inv l B (p8 l (Rw.mQ l) depth p rs).read (p8 l (Rw.mQ l) depth p rs)/\(p8 l (Rw.mQ l) depth p rs).read<=l.length
 |[],p=>λ_ h hl=>⟨h,hl⟩
 |r::rs,p=>λhrs h hl=>by
  rw[p8];by_cases hr:p.read<=r.from'
  ·rw[gu hr];obtain⟨h1,h2⟩:=IQ (depth:=depth) ht h (hrs r (by simp)).1 (hrs r (by simp)).2 hr;exact zK ht rs _ (λx hx=>hrs x (by simp[hx])) h1 h2
  rw[fu hr];exact zK ht rs p (λx hx=>hrs x (by simp[hx])) h hl
theorem zL(l:List Tk)(hl:l.length<=32768):Inv l (0,(start l).s) (start l).read (start l):=by
 refine .inl ⟨rfl,rfl,?_⟩;have hn:um (l.length:Int)=[⟨1,0,l.length,-1,[],false⟩]:=by unfold um;rw[fu (by omega)]
 have hx:∀(i:Nat)(x:Nd),(um (l.length:Int))[i]?=some x->x.k=1:=by
  intro i x hx;rw[hn]at hx;cases i with
  |zero=>
   have hx:(⟨1,0,l.length,-1,[],false⟩:Nd)=x:=by simpa using hx
   subst hx;rfl
  |succ i=>simp at hx
 exact Fe.Ok.start (UU _ (by omega) (by omega)) (OY _ _ (by omega) (by omega) (by show(0:Int)<=((0:Nat):Int);omega)) (λi x h hk=>by have:=hx i x h;omega) (λx h=>by have:=hx 0 x h;omega)
theorem S7(l:List Tk)(depth:Nat)(ht:Rw.pI 0 l)(hl:l.length<=32768):
 Ck (read l depth).t l.length/\Fe.Lf (read l depth).t/\(∀g,Fe.errs l (read l depth).t g=Fe.told (read l depth).d g)/\(∀x∈(read l depth).d,Fe.W l 0 l.length x):=by
 have h:=(zK (depth:=depth) ht (Rw.mQ l) (start l) (λr hr=>⟨rows_ok l r hr,nO _⟩) (zL l hl) (nO _)).1.root;unfold read;refine⟨h.ck,h.lf,λg=>?_,?_⟩
 ·have ht:Fe.errs l _ g+Fe.told (start l).s.d g=Fe.errs l (start l).s.t g+Fe.told _ g:=h.tells g;have h0:Fe.told (start l).s.d g=0:=rfl;have h1:Fe.errs l (start l).s.t g=0:=by
   show Fe.errs l (um (l.length:Int)) g=0;unfold um Fe.errs;rw[E4,F4];rfl
  omega
 obtain⟨ds,h1,h2⟩:=h.Lv;rw[h1];exact λx hx=>h2 x (by simpa [start]using hx)
end Ps
section
open Go.RowKit
open Sq
open Ar
open Fl (Tk raw kd p9 cnt ends opens nL nR begins back blanks mG pair item nM key oZ qR qo qi yg Bp zz uJ)
theorem rY{t:List Nd}{up k f u:Int}(h:(addN t up k f u).2=(t.length:Int)):oV t up k f u=true:=Fq (r:=(addN t up k f u).1) (by rw[<-h])
structure CI(l:List Tk)(e d c op:Nat)(xk:Int)(Z:Nat×Fl.St)(p:Nat)(h:Bool)(s:Fl.St):Prop where
 ck:Ck s.t l.length
 fits:Fits s.t p p c
 lf:Fe.Lf s.t
 no:Fe.No s.t c
 lo:op<p
 hi:p<=e
 el:e<=l.length
 cn:cnt (raw l (p-1))=true
 kd:∃x,s.t[c]?=some x/\x.k=xk
 sz:s.t.length+2*(e-p)+1<=600000000000
 dz:s.d.length+(e-p)+1<=600000000000
 run:∃g,e+1<=g+p/\qo l e (nM l e d) c op g p h s=Z
section
variable {l:List Tk}{e d c op p:Nat}{xk:Int}{Z:Nat×Fl.St}{hv:Bool}{s:Fl.St}
theorem CI.ok(h:CI l e d c op xk Z p hv s):Fe.Ok l op l.length c s p p s:=.start h.ck h.fits h.lf h.no
theorem CI.next(h:CI l e d c op xk Z p hv s){p':Nat}{h':Bool}{s1:Fl.St}(o:Fe.Ok l op l.length c s p' p' s1)(hp:p<p')(he:p'<=e)(hc:cnt (raw l (p'-1))=true)
 (hz:s1.t.length<=s.t.length+2*(p'-p)) (hd:s1.d.length<=s.d.length+(p'-p)) (run:∀g,qo l e (nM l e d) c op (g+1) p hv s=qo l e (nM l e d) c op g p' h' s1):CI l e d c op xk Z p' h' s1:=by
 obtain⟨x,k1,k2⟩:=h.kd;obtain⟨x',k3,k4,_⟩:=o.keep.2 c x k1;obtain⟨g,g1,g2⟩:=h.run;obtain⟨g',rfl⟩:∃g',g=g'+1:=⟨g-1,by have:=h.hi;omega⟩
 have h1:=h.sz;have h2:=h.dz;have h3:=h.lo;exact⟨o.ck,o.fits,o.lf,o.no,by omega,he,h.el,hc,⟨x',k3,k4.trans k2⟩,by omega,by omega,g',by omega,by rw[<-run g'];exact g2⟩
theorem CI.at_(h:CI l e d c op xk Z p hv s)(hk:Fl.kd l e (mG l e p)≠0):p<=mG l e p/\mG l e p<e/\raw l (mG l e p)=Fl.kd l e (mG l e p)/\cnt (raw l (mG l e p))=true:=by
 have h1:=oZ (l:=l) (e:=e) (i:=p) h.hi;have h2:=qR hk;refine⟨h1.1,h2.1,h2.2,?_⟩;have:=uJ (λj=>!cnt (raw l j)) (e-p) p;have hi:=h.hi
 change mG l e p=_\/(λj=>!cnt (raw l j)) (mG l e p)=false at this
 rcases this with h3|h3
 ·omega
 simpa using h3
theorem CI.unfold(h:CI l e d c op xk Z p hv s):∃g,qo l e (nM l e d) c op (g+1) p hv s=Z:=by
 obtain⟨g,g1,g2⟩:=h.run;obtain⟨g',rfl⟩:∃g',g=g'+1:=⟨g-1,by have:=h.hi;omega⟩
 exact⟨g',g2⟩
theorem rH(l:List Tk)(e:Nat)(val:Int->Nat->Fl.St->Int×Nat×Fl.St)(c:Int)(op g p:Nat)(hv:Bool)(s:Fl.St):qo l e val c op (g+1) p hv s=
 (if Fl.kd l e (mG l e p)=0 then(back l p (op+1),(⟨s.t,s.d++[⟨9,Fl.wu l op,Fl.too l op⟩]⟩:Fl.St))
 else if Fl.kd l e (mG l e p)=(if raw l op=9 then 11 else 10)then(mG l e p+1,⟨nN s.t c ((mG l e p+1:Nat):Int),s.d⟩)
 else if ends (Fl.kd l e (mG l e p))=true then qo l e val c op g (mG l e p+1) hv (Fl.err l s c (mG l e p) (mG l e p+1) 8)
 else if Fl.kd l e (mG l e p)=7 then
  if hv=true then qo l e val c op g (mG l e p+1) false ⟨nN s.t c ((mG l e p+1:Nat):Int),s.d⟩
  else qo l e val c op g (mG l e p+1) hv (Fl.err l s c (mG l e p) (mG l e p+1) 8)
 else if hv=true then qo l e val c op g (qi l e (mG l e p)) hv (Fl.err l s c (mG l e p) (qi l e (mG l e p)) 8)
 else if 0<key l e (mG l e p)\/begins (Fl.kd l e (mG l e p))=true then qo l e val c op g (item l e val (raw l op==9) c (mG l e p) s).1 true (item l e val (raw l op==9) c (mG l e p) s).2
 else qo l e val c op g (mG l e p+1) hv (Fl.err l s c (mG l e p) (mG l e p+1) 8)):=rfl
theorem CI.WJ(h:CI l e d c op xk Z p hv s)(hk:Fl.kd l e (mG l e p)=0):Z=(p,⟨s.t,s.d++[⟨9,Fl.wu l op,Fl.too l op⟩]⟩)/\back l p (op+1)=p:=by
 obtain⟨g,hg⟩:=h.unfold;have hb:=yg l p (op+1) (by have:=h.lo;omega) h.cn;rw[rH,gu hk,hb]at hg;exact⟨hg.symm,hb⟩
theorem CI.grow(h:CI l e d c op xk Z p hv s)(hk:Fl.kd l e (mG l e p)≠0):rq s.t c ((mG l e p+1:Nat):Int)=true:=by
 have ha:=h.at_ hk;have:=h.el;exact GD h.ck h.fits.lt (by omega)
theorem CI.err(h:CI l e d c op xk Z p hv s)(hk:Fl.kd l e (mG l e p)≠0){t:Nat}(h1:mG l e p<t)(h2:t<=e):Fe.Ok l op l.length c s t t (Fl.err l s c (mG l e p) t 8)/\oV s.t c 11 (mG l e p) t=true:=by
 have ha:=h.at_ hk;have hl:=h.el;have hlo:=h.lo;have h3:=Fe.qF (code:=8) h.ok (f:=mG l e p) (t:=t) (by omega) h1 (by omega) (by omega) (by omega) (by omega) (by omega);exact⟨h3.1.le (pW _) (by omega),rY h3.2⟩
theorem CI.WK(h:CI l e d c op xk Z p hv s)(hk:Fl.kd l e (mG l e p)=(if raw l op=9 then 11 else 10)):Z=(mG l e p+1,⟨nN s.t c ((mG l e p+1:Nat):Int),s.d⟩):=by
 obtain⟨g,hg⟩:=h.unfold;have h0:Fl.kd l e (mG l e p)≠0:=by rw[hk];split<;>omega
 rw[rH,fu h0,gu hk]at hg;exact hg.symm
theorem CI.bad(h:CI l e d c op xk Z p hv s)(hk:Fl.kd l e (mG l e p)≠0)(run:∀g,qo l e (nM l e d) c op (g+1) p hv s=qo l e (nM l e d) c op g (mG l e p+1) hv (Fl.err l s c (mG l e p) (mG l e p+1) 8)):
 CI l e d c op xk Z (mG l e p+1) hv (Fl.err l s c (mG l e p) (mG l e p+1) 8):=by
 have ha:=h.at_ hk;have hz:=Fe.tq l s c (mG l e p) (mG l e p+1) 8;exact h.next (h.err hk (by omega) (by omega)).1 (by omega) (by omega) (by rw[si];exact ha.2.2.2) (by omega) (by omega) run
theorem CI.more(h:CI l e d c op xk Z p hv s)(hk:Fl.kd l e (mG l e p)≠0)(run:∀g,qo l e (nM l e d) c op (g+1) p hv s=qo l e (nM l e d) c op g (mG l e p+1) false ⟨nN s.t c ((mG l e p+1:Nat):Int),s.d⟩):
 CI l e d c op xk Z (mG l e p+1) false ⟨nN s.t c ((mG l e p+1:Nat):Int),s.d⟩:=by
 have ha:=h.at_ hk;have hl:=h.el;have hz:(nN s.t c ((mG l e p+1:Nat):Int)).length=s.t.length:=Fe.vQ _ _ _;exact h.next (Fe.u6 h.ok (by omega) (by omega) (by omega)) (by omega) (by omega) (by rw[si];exact ha.2.2.2) (qy (rR hz) (by omega)) (by show s.d.length<=_;omega) run
theorem CI.second(h:CI l e d c op xk Z p true s)(hk:Fl.kd l e (mG l e p)≠0)(he:ends (Fl.kd l e (mG l e p))=false)(h7:Fl.kd l e (mG l e p)≠7)(hm:Fl.kd l e (mG l e p)≠(if raw l op=9 then 11 else 10)):
 CI l e d c op xk Z (qi l e (mG l e p)) true (Fl.err l s c (mG l e p) (qi l e (mG l e p)) 8)/\mG l e p<qi l e (mG l e p)/\qi l e (mG l e p)<=e:=by
 have ha:=h.at_ hk;have hz:=Fe.tq l s c (mG l e p) (qi l e (mG l e p)) 8;obtain⟨t1,t2,t3⟩:=zz hk ha.2.2.2 h7 he;exact⟨h.next (h.err hk t1 t2).1 (by omega) t2 t3 (by omega) (by omega) (λg=>by rw[rH,fu hk,fu hm,fu (by rw[he];decide),fu h7,gu rfl]),t1,t2⟩
theorem CI.item(h:CI l e d c op xk Z p false s)(hk:Fl.kd l e (mG l e p)≠0)(he:ends (Fl.kd l e (mG l e p))=false)(h7:Fl.kd l e (mG l e p)≠7)(hm:Fl.kd l e (mG l e p)≠(if raw l op=9 then 11 else 10))(hb:0<key l e (mG l e p)\/begins (Fl.kd l e (mG l e p))=true):
 CI l e d c op xk Z (Fl.item l e (nM l e d) (raw l op==9) c (mG l e p) s).1 true (Fl.item l e (nM l e d) (raw l op==9) c (mG l e p) s).2/\mG l e p<(Fl.item l e (nM l e d) (raw l op==9) c (mG l e p) s).1:=by
 have ha:=h.at_ hk;have hl:=h.el;have hlo:=h.lo;obtain⟨next,s',i1,i2,i3,i4,i5,i6,i7⟩:=Fe.J7 l e l.length (by omega) _ (Fe.xY l e l.length (by omega) d) (raw l op==9) (c:=c) (j:=mG l e p) h.ck (h.fits.le (by omega) (pW _)) h.lf h.no (by omega) hk hb;have run:∀g,qo l e (nM l e d) c op (g+1) p false s=qo l e (nM l e d) c op g next true s':=λg=>by rw[rH,fu hk,fu hm,fu (by rw[he];decide),fu h7,fu (by decide),gu hb,i1]
 rw[i1];dsimp only;exact⟨h.next (p':=next) (s1:=s') (i5.low (by omega)) (by omega) i3 i4 (by omega) (by omega) run,i2⟩
end
theorem GS.grow{w0 w:World}{rb:Nat}{tv:Value}{e:Nat}{l:List Tk}{s:Fl.St}{R:Nat->Prop}(h:GS w0 w rb tv e l s R)(i t:Int)(hr:qp s.t)(hm:rq s.t i t=true):
 ∃nv,w.cell? ⟨rb,1,none⟩=some nv/\Calls prog 67 #[.agg #[nv],.int .i64 i,.int .i64 t] w (λen w'=>∃ua un uc,en=.returned (.agg #[.slice ua un uc])/\w'.cell? ⟨rb,1,none⟩=some nv/\w'.frozen? ⟨rb,1,none⟩=false/\
  ∃R',GS w0 (w'.setCell ⟨rb,1,none⟩ (.slice ua un uc)) rb tv e l ⟨nN s.t i t,s.d⟩ R'/\FP w (w'.setCell ⟨rb,1,none⟩ (.slice ua un uc)) rb R R'):=by
 obtain⟨nv,dv,L,hM,hL,rfl⟩:=h;refine⟨nv,hM.cell 1 _ rfl,?_⟩;have hN:qH w nv s.t:=hL▸hM.nodes.nodes;have hA:=WB nv s.t i t w hN hr.good (qy hr.len (by decide)) (λx hx=>qy (hr.kids x hx) (by decide));rw[hm]at hA;refine hA.mono ?_;rintro e1 w1 ⟨u,rfl,aa,hO,hb⟩;obtain⟨ua,uc,rfl⟩:=aa.shape;obtain⟨L',hL',ae⟩:=hO rfl;obtain⟨af,ag⟩:=hM.toTree hb (ae.base hM.qK.size);exact⟨ua,_,uc,rfl,ku hb (hM.cell 1 _ rfl),(hM.below hb).free 1,_,⟨_,dv,L',af,hL',rfl⟩,ag⟩
end
section
open Go.RowKit
open Sq
open Ar
open Fl (Tk raw kd p9 cnt ends opens nL nR begins back blanks mG pair item nM key oZ qR qo qi)
def CL(w0 w wr:World)(rb:Nat)(tv:Value)(e:Nat)(l:List Tk)(s:Fl.St)(R:Nat->Prop):Prop:=∃R',GS w0 wr rb tv e l s R'/\FP w wr rb R R'
theorem BR(w0 w:World)(rb:Nat)(tv:Value)(e:Nat)(l:List Tk)(s:Fl.St)(R:Nat->Prop)(up:Int)(f t code:Nat)(hS:GS w0 w rb tv e l s R)(hr:qp s.t)(hm:oV s.t up 11 f t=true)(hft:f<t)(ht:t<=l.length)(hd:s.d.length<=800000000000):
 ∃v,Calls prog 43 #[RG rb,.int .i64 up,.int .i64 f,.int .i64 t,.int .i64 code] w (nE w0 w rb tv e l R (.int .i64 v) (Fl.err l s up f t code)):=by
 obtain⟨j,rfl⟩:∃j,t=j+1:=⟨t-1,by omega⟩
 exact⟨_,Ol w0 w rb tv e l s R up f j code hS hr hm (by omega) (by omega) hd⟩
theorem Ww(l:List Tk)(d:Nat)(HV:VG l d)(aO:d<=1000)(w0 w:World)(rb:Nat)(tv:Value)(e:Nat)(s:Fl.St)(R:Nat->Prop)(c op:Nat)(x:Nd)(Z:Nat×Fl.St)(hS:GS w0 w rb tv e l s R)(bN:op<e)
 (hxk:(x.k==10)=(raw l op==9)) (hI:CI l e d c op x.k Z (op+1) false s):
 Calls prog 91 #[RG rb,.int .i64 c,.int .i64 op,.int .i64 ((d:Int)+1)] w (nE w0 w rb tv e l R (.int .i64 (Z.1:Nat)) Z.2):=by
 have hel:=hS.gt.ends;have hls:=hS.gt.size;have hes:e<=100000:=qy hel hls;obtain⟨y,hy⟩:=pG l op (by omega);have aJ:=Fl.rP hy;obtain⟨Y,hY⟩:=my (y.1);rw[hY]at aJ;obtain⟨mine,ay⟩:∃m:Nat,(if raw l op=9 then 11 else 10)=m:=⟨_,rfl⟩
 have aP:(if Y=9 then 11 else 10)=mine:=by rw[<-ay,aJ]
 have ae:=eu (λW (h:Reads qB W tv l)=>show∃tb off tc,tv=.slice (some ⟨tb,off,none⟩) l.length tc/\W.cell? ⟨tb,off+op*3,none⟩=some (.int .i64 (Y:Int))/\W.cell? ⟨tb,off+op*3+1,none⟩=some (.int .i64 (Fl.wu l op:Int))/\W.cell? ⟨tb,off+op*3+2,none⟩=some (.int .i64 (Fl.too l op:Int))from by
  obtain⟨ta,tc,rfl⟩:=h.shape;obtain⟨tb,off,rfl,x0,x1,x2⟩:=o8 h op y hy;have ef:Fl.wu l op=y.2.1:=by unfold Fl.wu;rw[hy]
  have et:Fl.too l op=y.2.2:=by unfold Fl.too;rw[hy]
  exact⟨tb,off,tc,rfl,by rw[<-hY];exact x0,by rw[ef];exact x1,by rw[et];exact x2⟩)
 obtain⟨tb,off,tc,aA,t0,-,-⟩:=ae.out w hS.gt.reads;have c0:=hS.gt.cell;rw[aA]at c0;have aQ:=eu aA;have HQ:=eu (λW R' (h:GS w0 W rb tv e l Z.2 R')(h2:FP w W rb R R')=>show nE w0 w rb tv e l R (.int .i64 (Z.1:Nat)) Z.2 (.returned (.int .i64 (Z.1:Nat))) W from⟨rfl,R',h,h2⟩);obtain⟨Q,hQ⟩:=my (nE w0 w rb tv e l R (.int .i64 (Z.1:Nat)) Z.2);rw[hQ]at HQ⊢;have aR:=eu (show CL w0 w w rb tv e l s R from⟨R,hS,FP.refl _ _ _⟩);obtain⟨HI0,ax,aa,aS⟩:=qg hI hxk ay aP;obtain⟨N,hN⟩:=my (l.length);have HN:=eu hN;rw[hN]at c0 hel hls;have bO:(op:Int)<(N:Int):=by omega
 clear hS hI hxk hy aJ hY ay aP aA hQ hN
 go_enter func91,ntmps91
 obtain⟨b9,g9⟩:=my (((Y:Int)==9))
 go_upto_if 24 with fail
 go_cut [11] (λmv wx=>mv=.int .i64 (mine:Int)/\w=wx)
 case first=>
  have hm:=aS.out;cases b9 with
  |true=>
   rw[gu (by simp at g9;omega)]at hm;subst hm;go_wp2_with fail
   go_meet
   exact⟨rfl,rfl⟩
  |false=>
   rw[fu (by simp at g9;omega)]at hm;subst hm;go_wp2_with fail
   go_meet
   exact⟨rfl,rfl⟩
 case rest=>
 obtain⟨rfl,rfl⟩:=hcut;clear g9 t0 c0 aS;go_wp2_with fail
 go_loopw [9,10] (λhv iv wr=>∃(h:Bool)(p:Nat)(s1:Fl.St),hv=.bool h/\iv=.int .i64 p/\p<=e/\Hid (CI l e d c op x.k Z p h s1)/\Hid (CL w0 w wr rb tv e l s1 R)) (λ_ iv _=>e-(intOf iv).toNat)
 case atStart=>exact⟨false,op+1,s,rfl,by go_num,by omega,HI0,aR⟩
 case round=>
  clear HI0 aR;obtain⟨h,p,s1,rfl,rfl,hpe,HI,HS⟩:=hrel;obtain⟨R1,hS,hF⟩:=HS.out;have hg:=hS.gt;obtain⟨j,hj⟩:=my (mG l e p);obtain⟨K,hK⟩:=my (kd l e j);have ai:=eu (show Calls prog 98 #[RG rb,.int .i64 p] wr λen w'=>en=.returned (.int .i64 (j:Nat))/\wr=w' from hj▸FE rb tv e l p wr hg (by omega));have aj:=eu (show Calls prog 87 #[RG rb,.int .i64 j] wr λen w'=>en=.returned (.int .i64 (K:Nat))/\wr=w' from hK▸D9 rb tv e l j wr hg);obtain⟨E,hE⟩:=my (ends K);have ak:=eu (show Calls prog 97 #[.int .i64 K] wr λe w'=>e=.returned (.bool E)/\wr=w' from hE▸JG K wr);by_cases k0:K=0
  ·
   have aA:=aQ.out;rw[HN.out]at aA;subst aA;have hst:=HI.out.WJ (by rw[hj,hK];exact k0);obtain⟨hZ,hbk⟩:=hst;subst hZ;have g0:((K:Int)==0)=true:=by simp;omega
   have hlo:=HI.out.lo;have hdz:=HI.out.dz
   have aF:=eu (λW R2 s2 (h:GS w0 W rb (.slice (some ⟨tb,off,none⟩) N tc) e l s2 R2)=>show Calls prog 92 #[RG rb,.int .i64 p,.int .i64 ((op:Int)+1)] W λen w'=>en=.returned (.int .i64 (p:Nat))/\W=w' from by
    have h1:=JH rb _ e l p (op+1) W h.gt (by rw[HN.out];omega) (by omega);rw[hbk,show((op+1:Nat):Int)=(op:Int)+1 from by omega]at h1
    exact h1)
   obtain⟨nv,dv,L,hM,hL,rfl⟩:=hS;obtain⟨bn,off',bq,he,-,x1,y2⟩:=ae.out wr (hM.toks.below hM.qK);have he1:=(sK he).1;clear he;injection he1 with he1
   injection he1 with e1 e2
   subst e1 e2;obtain⟨F,aT⟩:=my (Fl.wu l op);obtain⟨T,aU⟩:=my (Fl.too l op);rw[aT]at x1 ae HQ;rw[aU]at y2 ae HQ;have c0:=hM.cell 0 _ rfl;have c2:=hM.cell 2 _ rfl;have hown0:=hM.told;obtain⟨da,dc,hdv⟩:=(Reads.mW (E:=nJ) hown0).shape;subst hdv;obtain⟨DN,aC⟩:=my (s1.d.length);have bz:=eu (show s1.d.length+1<=maxLen by simp only[maxLen];omega);have bA:=eu (show(s1.d.length+1)*24<=140737488355328 by omega);have bP:=eu aC;rw[aC]at c2 hM hF;have HM:=eu hM;obtain⟨wx,hwx⟩:=my ((wr.alloc (.cells #[.int .i64 9,.int .i64 F,.int .i64 T] 87)).drew);have hbx:Below wr.heap.size wr wx:=by rw[<-hwx];exact(mr wr _).drew
   have bB:=eu hbx;have bC:=eu (show wx.ownsRow w0.heap.size 87 nJ.k (.slice da DN dc) s1.d.length (nJ.all s1.d)by rw[<-aC];exact mU hown0 hbx);have aD:∀jj c,(nJ.all [(⟨9,F,T⟩:Fl.Dg)])[jj]?=some c->wx.cell? ⟨wr.heap.size,jj,none⟩=some c:=by
    intro jj c hj;rw[<-hwx];show(wr.alloc _).cell? ⟨wr.heap.size,jj,none⟩=_;rw[wh]
    simpa [qP.all,nJ,xz]using hj
   have aV:=eu aD;have bD:=ku hbx c0;have bE:=ku hbx c2;have bF:=ku hbx x1;have bG:=ku hbx y2;have hws:w0.heap.size<=wx.heap.size:=qy hM.qK.size hbx.size
   have bH:=eu (λw6 (hg:wx.grownBy w6 (Value.slice da DN dc).ownBlock)=>show w6.cell? ⟨tb,off+op*3+1,none⟩=some (.int .i64 (F:Int))/\w6.cell? ⟨tb,off+op*3+2,none⟩=some (.int .i64 (T:Int))from by
    have hb:=((HM.out.qK.trans (hbx.mono HM.out.qK.size)).grown hg hws (λq hq=>by rw[<-aC]at hq;exact(hown0.lt q hq).1))
    obtain⟨bn,off',bq,he,-,k1,k2⟩:=ae.out w6 (HM.out.toks.below hb);have he1:=(sK he).1;injection he1 with he1
    injection he1 with e1 e2
    subst e1 e2
    exact⟨k1,k2⟩)
   have bI:=eu hwx
   have bJ:=eu (λW aB (h1:GM w0 W rb (.slice (some ⟨tb,off,none⟩) N tc) nv aB e l L (s1.d++[⟨9,F,T⟩]))(h2:FP wr W rb (DR (.slice da DN dc)) (DR aB))=>show Calls prog 92 #[RG rb,.int .i64 p,.int .i64 ((op:Int)+1)] W (λen w'=>en=.returned (.int .i64 (p:Nat))/\W=w')/\Q (.returned (.int .i64 (p:Nat))) W from
    ⟨aF.out W (DR aB) ⟨s1.t,s1.d++[⟨9,F,T⟩]⟩ ⟨nv,aB,L,h1,hL,rfl⟩,HQ.out W (DR aB) ⟨nv,aB,L,h1,hL,rfl⟩ (hF.trans h2)⟩)
   clear hM hown0 aC hwx aD hbx hL hF hg hj hK hE ak aF HQ HI HS hbk aT aU hdz ae aQ HN;go_upto_region 11 with(first|(with_reducible refine ai.out.mono ?_;rintro e w1 ⟨rfl,rfl⟩)|(with_reducible refine aj.out.mono ?_;rintro e w1 ⟨rfl,rfl⟩)|fail)
   refine mK (λwx=>wx.cell? ⟨rb,0,none⟩=some (.slice (some ⟨tb,off,none⟩) N tc)/\wx.cell? ⟨rb,2,none⟩=some (.slice da DN dc)/\wx.cell? ⟨tb,off+op*3+1,none⟩=some (.int .i64 (F:Int))/\wx.cell? ⟨tb,off+op*3+2,none⟩=some (.int .i64 (T:Int))) 26 (by kernel_rfl) ?_;have hH:(λwx:World=>wx.cell? ⟨rb,0,none⟩=some (.slice (some ⟨tb,off,none⟩) N tc)/\wx.cell? ⟨rb,2,none⟩=some (.slice da DN dc)/\wx.cell? ⟨tb,off+op*3+1,none⟩=some (.int .i64 (F:Int))/\wx.cell? ⟨tb,off+op*3+2,none⟩=some (.int .i64 (T:Int))) wr.drew:=⟨pR c0,pR c2,pR x1,pR y2⟩
   refine mI 0 (.pointer (some ⟨rb,0,none⟩)) rfl (by kernel_rfl) rfl mD (λW hW=>by go_simp) hH ?_;refine mI 1 (.pointer (some ⟨rb,0,none⟩)) rfl (by kernel_rfl) rfl mD (λW hW=>by go_simp) hH ?_;refine mI 2 (.pointer (some ⟨rb,0,none⟩)) rfl (by kernel_rfl) rfl mD (λW hW=>by go_simp) hH ?_;refine mI 3 (.pointer (some ⟨rb,2,none⟩)) rfl (by kernel_rfl) rfl mD (λW hW=>by go_simp) hH ?_;refine mI 4 (.slice da DN dc) rfl (by kernel_rfl) rfl mD (λW hW=>?_) hH ?_
   ·obtain⟨z0,z1,z2,z3⟩:=hW;go_simp
   refine mI 5 (.pointer (some ⟨rb,0,none⟩)) rfl (by kernel_rfl) rfl mD (λW hW=>by go_simp) hH ?_;refine mI 6 (.pointer (some ⟨rb,0,none⟩)) rfl (by kernel_rfl) rfl mD (λW hW=>by go_simp) hH ?_;refine mI 7 (.pointer (some ⟨rb,0,none⟩)) rfl (by kernel_rfl) rfl mD (λW hW=>by go_simp) hH ?_;refine mI 8 (.slice (some ⟨tb,off,none⟩) N tc) rfl (by kernel_rfl) rfl mD (λW hW=>?_) hH ?_
   ·obtain⟨z0,z1,z2,z3⟩:=hW;go_simp
   refine mI 9 (.int .i64 (op:Int)) rfl (by kernel_rfl) rfl mD (λW hW=>by go_simp) hH ?_;refine mI 10 (.pointer (some ⟨tb,off+op*3,none⟩)) rfl (by kernel_rfl) rfl mD (λW hW=>by go_simp) hH ?_;refine mI 11 (.pointer (some ⟨tb,off+op*3+1,none⟩)) rfl (by kernel_rfl) rfl mD (λW hW=>by go_simp) hH ?_;refine mI 12 (.int .i64 (F:Int)) rfl (by kernel_rfl) rfl mD (λW hW=>?_) hH ?_
   ·obtain⟨z0,z1,z2,z3⟩:=hW;go_simp
   refine mI 13 (.pointer (some ⟨rb,0,none⟩)) rfl (by kernel_rfl) rfl mD (λW hW=>by go_simp) hH ?_;refine mI 14 (.pointer (some ⟨rb,0,none⟩)) rfl (by kernel_rfl) rfl mD (λW hW=>by go_simp) hH ?_;refine mI 15 (.pointer (some ⟨rb,0,none⟩)) rfl (by kernel_rfl) rfl mD (λW hW=>by go_simp) hH ?_;refine mI 16 (.slice (some ⟨tb,off,none⟩) N tc) rfl (by kernel_rfl) rfl mD (λW hW=>?_) hH ?_
   ·obtain⟨z0,z1,z2,z3⟩:=hW;go_simp
   refine mI 17 (.int .i64 (op:Int)) rfl (by kernel_rfl) rfl mD (λW hW=>by go_simp) hH ?_;refine mI 18 (.pointer (some ⟨tb,off+op*3,none⟩)) rfl (by kernel_rfl) rfl mD (λW hW=>by go_simp) hH ?_;refine mI 19 (.pointer (some ⟨tb,off+op*3+2,none⟩)) rfl (by kernel_rfl) rfl mD (λW hW=>by go_simp) hH ?_;refine mI 20 (.int .i64 (T:Int)) rfl (by kernel_rfl) rfl mD (λW hW=>?_) hH ?_
   ·obtain⟨z0,z1,z2,z3⟩:=hW;go_simp
   refine mI 21 (.agg #[.int .i64 (9:Int),.int .i64 (F:Int),.int .i64 (T:Int)]) rfl (by kernel_rfl) rfl mD (λW hW=>by go_simp) hH ?_;refine oD 22 (by kernel_rfl) rfl λK hK=>?_
   go_simp;rw[bI.out];refine hK.out _ _ (λ_=>⟨bD,bE,bF,bG⟩) (λhH2=>?_);clear hK K;replace hH:=hH2 (by kernel_rfl);clear hH2;try simp only[Act.put,mM,mP,mO]
   refine oD 23 (by kernel_rfl) rfl λK hK=>?_
   refine nU QT rfl (.tmp 46) (.tmp 64) rfl w0.heap.size (.slice da DN dc) s1.d rfl bC.out wr.heap.size 1 [(⟨9,F,T⟩:Fl.Dg)] rfl rfl aV.out bz.out bA.out hws ?_;intro v6 w6 hown6 aK aI;obtain⟨a6,c6,hv6⟩:=(Reads.mW (E:=nJ) hown6).shape;obtain⟨n6,aW⟩:=my ((s1.d++[(⟨9,F,T⟩:Fl.Dg)]).length);rw[aW]at hv6;clear aW;subst hv6;obtain⟨av,aX,aY⟩:=HM.out.more bB.out aK hown6 aI;have bK:w6.cell? ⟨rb,2,none⟩=some (.slice da DN dc):=(nz av 2).trans rfl;have f26:w6.frozen? ⟨rb,2,none⟩=false:=oI av 2;have bL:w6.cell? ⟨rb,0,none⟩=some (.slice (some ⟨tb,off,none⟩) N tc):=(nz av 0).trans rfl;have hb6:=bH.out w6 aK;have aZ:w6.cell? ⟨tb,off+op*3+1,none⟩=some (.int .i64 (F:Int)):=hb6.1;have bf:w6.cell? ⟨tb,off+op*3+2,none⟩=some (.int .i64 (T:Int)):=hb6.2;have HD:=eu (bJ.out _ _ aX aY);clear hown6 aK aI av aX aY hb6;refine hK.out _ _ (λ_=>⟨bL,bK,aZ,bf⟩) (λhH2=>?_);clear hK K;replace hH:=hH2 (by kernel_rfl);clear hH2;try simp only[Act.put,mM,mP,mO]
   refine nA 24 (.pointer (some ⟨rb,0,none⟩)) rfl (by kernel_rfl) rfl mD (λW=>by go_simp) (λ_=>hH) ?_;refine mI 25 (.pointer (some ⟨rb,2,none⟩)) rfl (by kernel_rfl) rfl mD (λW hW=>by go_simp) hH ?_;refine oD 26 (by kernel_rfl) rfl λK hK=>?_
   go_simp;refine hK.out _ _ (pV (by kernel_rfl)) (λ_=>?_);clear hK K;try simp only[Act.put,mM,mP,mO]
   refine mH (by kernel_rfl) ?_ _;obtain⟨aF,HD2⟩:=mR HD.out.1 HD.out.2;clear HD ai aj;go_wp2_with (with_reducible refine aF.out.mono ?_;rintro e w1 ⟨rfl,rfl⟩)
   exact HD2.out
  have hat:=HI.out.at_ (by rw[hj,hK];exact k0);rw[hj]at hat;have g0:((K:Int)==0)=false:=by simp;omega
  have bQ:j<e:=hat.2.1
  have bR:p<=j:=hat.1;by_cases km:K=mine
  ·have hZ:=HI.out.WK (by rw[hj,hK,aa.out];exact km);have az:=HI.out.grow (by rw[hj,hK];exact k0);rw[hj]at hZ az;subst hZ;have gm:((K:Int)==(mine:Int))=true:=by simp;omega
   obtain⟨nv,c1,hgr⟩:=hS.grow c ((j+1:Nat):Int) (qp.of HI.out.ck (by have:=HI.out.sz;omega)) az;rw[show((j+1:Nat):Int)=(j:Int)+1 from by omega]at hgr;obtain⟨HG,HF⟩:=mR hgr hF
   have bg:=eu (λW R' h h2=>show Q (.returned (.int .i64 ((j:Int)+1))) W from by
    have h3:=HQ.out W R' h h2;rw[show(((j+1,(⟨nN s1.t c ((j+1:Nat):Int),s1.d⟩:Fl.St)).1:Nat):Int)=(j:Int)+1 from by show((j+1:Nat):Int)=_;omega]at h3
    exact h3)
   clear hg hj hK hE ak HI HS hat az hS hF hgr k0 km ae aa HQ ax;go_wp2_with (first|(with_reducible refine ai.out.mono ?_;rintro e w1 ⟨rfl,rfl⟩)|(with_reducible refine aj.out.mono ?_;rintro e w1 ⟨rfl,rfl⟩)|fail)
   refine HG.out.mono ?_;rintro e1 w2 ⟨ua,un,uc,rfl,d1,f1,R2,hS2,hF2⟩;have HD:=eu (bg.out _ R2 hS2 (HF.out.trans hF2));clear hS2 hF2 HG bg;go_wp2_with fail
   exact HD.out
  have gm:((K:Int)==(mine:Int))=false:=by simp;omega
  cases E with
  |true=>
   have hnx:=HI.out.bad (by rw[hj,hK];exact k0) (λg=>by rw[rH,hj,hK,fu k0,fu (by rw[aa.out];exact km),gu hE]);have af:=HI.out.err (by rw[hj,hK];exact k0) (t:=j+1) (by rw[hj];omega) (by omega);rw[hj]at hnx af;obtain⟨v,hev⟩:=BR w0 wr rb tv e l s1 R1 c j (j+1) 8 hS (qp.of HI.out.ck (by have:=HI.out.sz;omega)) af.2 (by omega) (by rw[HN.out];omega) (by have:=HI.out.dz;omega);rw[show((j+1:Nat):Int)=(j:Int)+1 from by omega]at hev;obtain⟨ah,HF,ag⟩:=nY hev hF hnx;clear hg hj hK hE HI HS hat hS hF hev k0 km ae aa HQ ax hnx af;go_wp2_with (first|(with_reducible refine ai.out.mono ?_;rintro e w1 ⟨rfl,rfl⟩)|(with_reducible refine aj.out.mono ?_;rintro e w1 ⟨rfl,rfl⟩)|(with_reducible refine ak.out.mono ?_;rintro e w1 ⟨rfl,rfl⟩)|fail)
   refine ah.out.mono ?_;rintro e1 w2 ⟨rfl,R2,hS2,hF2⟩;have HD:=eu (show CL w0 w w2 rb tv e l (Fl.err l s1 c j (j+1) 8) R from⟨R2,hS2,HF.out.trans hF2⟩);clear hS2 hF2 ah;go_wp2_with fail
   go_roundw
   case rel=>exact⟨_,j+1,_,rfl,by go_num,by omega,ag,HD⟩
   case measure=>simp[intOf];omega
  |false=>
  by_cases k7:K=7
  ·have g7:((K:Int)==7)=true:=by simp;omega
   cases h with
   |true=>
    have hnx:=HI.out.more (by rw[hj,hK];exact k0) (λg=>by rw[rH,hj,hK,fu k0,fu (by rw[aa.out];exact km),fu (by rw[hE];decide),gu k7,gu rfl]);have az:=HI.out.grow (by rw[hj,hK];exact k0);rw[hj]at hnx az;obtain⟨nv,c1,hgr⟩:=hS.grow c ((j+1:Nat):Int) (qp.of HI.out.ck (by have:=HI.out.sz;omega)) az;rw[show((j+1:Nat):Int)=(j:Int)+1 from by omega]at hgr;obtain⟨HG,HF,ag⟩:=nY hgr hF hnx;clear hg hj hK hE HI HS hat az hS hF hgr k0 km ae aa HQ ax hnx k7;go_wp2_with (first|(with_reducible refine ai.out.mono ?_;rintro e w1 ⟨rfl,rfl⟩)|(with_reducible refine aj.out.mono ?_;rintro e w1 ⟨rfl,rfl⟩)|(with_reducible refine ak.out.mono ?_;rintro e w1 ⟨rfl,rfl⟩)|fail)
    refine HG.out.mono ?_;rintro e1 w2 ⟨ua,un,uc,rfl,d1,f1,R2,hS2,hF2⟩;have HD:=eu (show CL w0 w (w2.setCell ⟨rb,1,none⟩ (.slice ua un uc)) rb tv e l ⟨nN s1.t c ((j+1:Nat):Int),s1.d⟩ R from⟨R2,by rw[show((j+1:Nat):Int)=(j:Int)+1 from by omega];exact hS2,HF.out.trans hF2⟩);clear hS2 hF2 HG;go_wp2_with fail
    go_roundw
    case rel=>exact⟨false,j+1,_,rfl,by go_num,by omega,ag,HD⟩
    case measure=>simp[intOf];omega
   |false=>
    have hnx:=HI.out.bad (by rw[hj,hK];exact k0) (λg=>by rw[rH,hj,hK,fu k0,fu (by rw[aa.out];exact km),fu (by rw[hE];decide),gu k7,fu (by decide)]);have af:=HI.out.err (by rw[hj,hK];exact k0) (t:=j+1) (by rw[hj];omega) (by omega);rw[hj]at hnx af;obtain⟨v,hev⟩:=BR w0 wr rb tv e l s1 R1 c j (j+1) 8 hS (qp.of HI.out.ck (by have:=HI.out.sz;omega)) af.2 (by omega) (by rw[HN.out];omega) (by have:=HI.out.dz;omega);rw[show((j+1:Nat):Int)=(j:Int)+1 from by omega]at hev;obtain⟨ah,HF,ag⟩:=nY hev hF hnx;clear hg hj hK hE HI HS hat hS hF hev k0 km ae aa HQ ax hnx af k7;go_wp2_with (first|(with_reducible refine ai.out.mono ?_;rintro e w1 ⟨rfl,rfl⟩)|(with_reducible refine aj.out.mono ?_;rintro e w1 ⟨rfl,rfl⟩)|(with_reducible refine ak.out.mono ?_;rintro e w1 ⟨rfl,rfl⟩)|fail)
    refine ah.out.mono ?_;rintro e1 w2 ⟨rfl,R2,hS2,hF2⟩;have HD:=eu (show CL w0 w w2 rb tv e l (Fl.err l s1 c j (j+1) 8) R from⟨R2,hS2,HF.out.trans hF2⟩);clear hS2 hF2 ah;go_wp2_with fail
    go_roundw
    case rel=>exact⟨false,j+1,_,rfl,by go_num,by omega,ag,HD⟩
    case measure=>simp[intOf];omega
  have g7:((K:Int)==7)=false:=by simp;omega
  cases h with
  |true=>
   obtain⟨hnx,hj1,hj2⟩:=HI.out.second (by rw[hj,hK];exact k0) (by rw[hj,hK];exact hE) (by rw[hj,hK];exact k7) (by rw[hj,hK,aa.out];exact km);have af:=HI.out.err (by rw[hj,hK];exact k0) hj1 hj2;have aL:=Vj rb tv e l j wr hg (by omega);rw[hj]at hnx af hj1 hj2;obtain⟨t,ht⟩:=my (qi l e j);rw[ht]at hnx af hj1 hj2 aL;obtain⟨v,hev⟩:=BR w0 wr rb tv e l s1 R1 c j t 8 hS (qp.of HI.out.ck (by have:=HI.out.sz;omega)) af.2 hj1 (by rw[HN.out];omega) (by have:=HI.out.dz;omega);obtain⟨ah,bM,HF,ag⟩:=qg hev aL hF hnx;clear hg hj hK hE HI HS hat hS hF hev aL k0 km ae aa HQ ax hnx af k7 ht;go_wp2_with (first|(with_reducible refine ai.out.mono ?_;rintro e w1 ⟨rfl,rfl⟩)|(with_reducible refine aj.out.mono ?_;rintro e w1 ⟨rfl,rfl⟩)|(with_reducible refine ak.out.mono ?_;rintro e w1 ⟨rfl,rfl⟩)|(with_reducible refine bM.out.mono ?_;rintro e w1 ⟨rfl,rfl⟩)|fail)
   refine ah.out.mono ?_;rintro e1 w2 ⟨rfl,R2,hS2,hF2⟩;have HD:=eu (show CL w0 w w2 rb tv e l (Fl.err l s1 c j t 8) R from⟨R2,hS2,HF.out.trans hF2⟩);clear hS2 hF2 ah;go_wp2_with fail
   go_roundw
   case rel=>exact⟨true,t,_,rfl,rfl,hj2,ag,HD⟩
   case measure=>simp[intOf];omega
  |false=>
   have aG:=Ox rb tv e l j wr hg (by omega);obtain⟨q,hq⟩:=my (key l e j);rw[hq]at aG;have aM:=eu aG;obtain⟨B,hB⟩:=my (begins K);have aN:=eu (show Calls prog 101 #[.int .i64 K] wr λe w'=>e=.returned (.bool B)/\wr=w' from hB▸Sl K wr);by_cases kb:0<q\/B=true
   ·obtain⟨hnx,hj1⟩:=HI.out.item (by rw[hj,hK];exact k0) (by rw[hj,hK];exact hE) (by rw[hj,hK];exact k7) (by rw[hj,hK,aa.out];exact km) (by rw[hj,hK,hq,hB];exact kb);obtain⟨x1,hx1,hx2⟩:=HI.out.kd;have hit:=WI l d HV aO w0 wr rb tv e s1 R1 c j p x1 hS HI.out.ck (HI.out.fits.le (by omega) (pW _)) HI.out.lf HI.out.no (by omega) (by rw[hK];exact k0) (by rw[hK,hq,hB];exact kb) hx1 (by have:=HI.out.sz;omega) (by have:=HI.out.dz;omega);rw[hx2,ax.out]at hit;rw[hj]at hnx hj1;obtain⟨I,hI⟩:=my (item l e (nM l e d) (raw l op==9) c j s1);rw[hI]at hit hnx hj1;obtain⟨i1,i2⟩:=I;dsimp only at hit hnx hj1;obtain⟨aH,HF,ag⟩:=nY hit hF hnx;have hi1:i1<=e:=hnx.hi;clear hg hj hK hE HI HS hat hS hF hit k0 km ae aa HQ ax hnx k7 hx1 hx2 hq hB aG hI;by_cases kq:0<q
    ·have gq:(0:Int)<(q:Int):=by omega
     clear kb kq;go_wp2_with (first|(with_reducible refine ai.out.mono ?_;rintro e w1 ⟨rfl,rfl⟩)|(with_reducible refine aj.out.mono ?_;rintro e w1 ⟨rfl,rfl⟩)|(with_reducible refine ak.out.mono ?_;rintro e w1 ⟨rfl,rfl⟩)|(with_reducible refine aM.out.mono ?_;rintro e w1 ⟨rfl,rfl⟩)|(with_reducible refine aN.out.mono ?_;rintro e w1 ⟨rfl,rfl⟩)|fail)
     refine aH.out.mono ?_;rintro e1 w2 ⟨rfl,R2,hS2,hF2⟩;have HD:=eu (show CL w0 w w2 rb tv e l i2 R from⟨R2,hS2,HF.out.trans hF2⟩);clear hS2 hF2 aH;go_wp2_with fail
     go_roundw
     case rel=>exact⟨true,i1,_,rfl,rfl,hi1,ag,HD⟩
     case measure=>simp[intOf];omega
    obtain rfl:q=0:=by omega
    obtain rfl:B=true:=kb.resolve_left kq;clear kb kq;go_wp2_with (first|(with_reducible refine ai.out.mono ?_;rintro e w1 ⟨rfl,rfl⟩)|(with_reducible refine aj.out.mono ?_;rintro e w1 ⟨rfl,rfl⟩)|(with_reducible refine ak.out.mono ?_;rintro e w1 ⟨rfl,rfl⟩)|(with_reducible refine aM.out.mono ?_;rintro e w1 ⟨rfl,rfl⟩)|(with_reducible refine aN.out.mono ?_;rintro e w1 ⟨rfl,rfl⟩)|fail)
    refine aH.out.mono ?_;rintro e1 w2 ⟨rfl,R2,hS2,hF2⟩;have HD:=eu (show CL w0 w w2 rb tv e l i2 R from⟨R2,hS2,HF.out.trans hF2⟩);clear hS2 hF2 aH;go_wp2_with fail
    go_roundw
    case rel=>exact⟨true,i1,_,rfl,rfl,hi1,ag,HD⟩
    case measure=>simp[intOf];omega
   obtain rfl:q=0:=by omega
   obtain rfl:B=false:=by simpa using(λh=>kb (.inr h):¬B=true)
   have hnx:=HI.out.bad (by rw[hj,hK];exact k0) (λg=>by rw[rH,hj,hK,fu k0,fu (by rw[aa.out];exact km),fu (by rw[hE];decide),fu k7,fu (by decide),fu (by rw[hq,hB];exact kb)]);have af:=HI.out.err (by rw[hj,hK];exact k0) (t:=j+1) (by rw[hj];omega) (by omega);rw[hj]at hnx af;clear hq hB aG kb;obtain⟨v,hev⟩:=BR w0 wr rb tv e l s1 R1 c j (j+1) 8 hS (qp.of HI.out.ck (by have:=HI.out.sz;omega)) af.2 (by omega) (by rw[HN.out];omega) (by have:=HI.out.dz;omega);rw[show((j+1:Nat):Int)=(j:Int)+1 from by omega]at hev;obtain⟨ah,HF,ag⟩:=nY hev hF hnx;clear hg hj hK hE HI HS hat hS hF hev k0 km ae aa HQ ax hnx af k7;go_wp2_with (first|(with_reducible refine ai.out.mono ?_;rintro e w1 ⟨rfl,rfl⟩)|(with_reducible refine aj.out.mono ?_;rintro e w1 ⟨rfl,rfl⟩)|(with_reducible refine ak.out.mono ?_;rintro e w1 ⟨rfl,rfl⟩)|(with_reducible refine aM.out.mono ?_;rintro e w1 ⟨rfl,rfl⟩)|(with_reducible refine aN.out.mono ?_;rintro e w1 ⟨rfl,rfl⟩)|fail)
   refine ah.out.mono ?_;rintro e1 w2 ⟨rfl,R2,hS2,hF2⟩;have HD:=eu (show CL w0 w w2 rb tv e l (Fl.err l s1 c j (j+1) 8) R from⟨R2,hS2,HF.out.trans hF2⟩);clear hS2 hF2 ah;go_wp2_with fail
   go_roundw
   case rel=>exact⟨false,j+1,_,rfl,by go_num,by omega,ag,HD⟩
   case measure=>simp[intOf];omega
end
end Go.Proofs.Ytfbiffdmhcjhbaa

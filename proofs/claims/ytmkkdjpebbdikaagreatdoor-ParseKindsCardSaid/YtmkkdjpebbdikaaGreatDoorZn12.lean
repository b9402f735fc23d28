import Derived.Test.YtmkkdjpebbdikaaGreatDoorZn09
import Derived.Test.YtmkkdjpebbdikaaGreatDoorZn10
set_option linter.all false
set_option maxHeartbeats 16000000
set_option maxRecDepth 100000
namespace Go.Proofs.YtmkkdjpebbdikaaGreatDoor
open Go.RowKit Tryz
namespace Pr
open Ar Fl
open Rw (R E)
open Ps (lo)
theorem xV(P:Nat->Bool):∀(f i k:Nat),i<=k->k<=i+f->(∀j,i<=j->j<k->P j=true)->(k=i+f\/P k=false)->iQ P f i=k
 |0,i,k=>λh1 h2 _ _=>by rw[iQ];omega
 |f+1,i,k=>λh1 h2 h3 h4=>by
  rw[iQ];by_cases e:i=k
  ·subst e;rcases h4 with h4|h4
   ·omega
   rw[eX (by rw[h4];simp)]
  rw[eY (h3 i (fB _) (by omega))];exact xV P f (i+1) k (by omega) (by omega) (λj a b=>h3 j (by omega) b) (h4.elim (λh=>.inl (by omega)) .inr)
theorem Ol(P:Nat->Bool){n a b:Nat}(h:a<=b)(hb:b<=n)(hP:∀j,a<=j->j<b->P j=true):iQ P (n-a) a=iQ P (n-b) b:=by
 have h1:=lD P (n-b) b;have h2:=mi P (n-b) b;refine xV P _ _ _ (by omega) (by omega) (λj g1 g2=>?_) ?_
 ·by_cases e:j<b
  ·exact hP j g1 e
  exact l7 P (n-b) b j (by omega) g2
 rcases ku P (n-b) b with h3|h3
 ·exact .inl (by omega)
 exact .inr h3
theorem rz(n:Nat)(i:Nat)(hn:n<=32768):Ck (gV (n:Int)) n/\Fits (gV (n:Int)) i ((i+1:Nat):Int) 0:=
 ⟨NI _ (by omega) (by omega),(Fy (n:Int) 0 (by omega) (by omega) (by omega)).le (by omega) (by omega)⟩
theorem LU(t:List Nd)(up:Nat)(k f z:Int):(add t up k f z).take t.length=hold t up z:=by
 unfold add;rw[List.take_append_of_le_length (by rw[lY];exact fB _),xK (by rw[lY];exact fB _)]
theorem GR(up:Int)(B:Nat)(q:List Nd)(hB:1<=B):shift up (B-1) (shift 0 1 q)=shift up B q:=by
 refine sN (λi=>?_);cases hx:q[i]? with
 |none=>
  have h:=wm.1 hx;rw[rC (by rw[jC,jC];exact h),rC (by rw[jC];exact h)]
 |some x=>
  rw[lW _ _ _ _ _ hx,lW _ _ _ _ _ (lW _ _ _ _ _ hx)];by_cases e:i=0
  ·simp only[e,if_true,MY];congr 2;refine Rp (λz _=>?_);show z+((1:Nat):Int)+((B-1:Nat):Int)=_;omega
  simp only[eX e,MY];congr 2
  ·omega
  refine Rp (λz _=>?_);show z+((1:Nat):Int)+((B-1:Nat):Int)=_;omega
theorem Tw{l:List Tk}{e:Nat}{n:Int}{T0:List Nd}{up0:Nat}(hn:(e:Int)<=n)(d p:Nat)(b:Int)(hck:Ck T0 n)(hf:Fits T0 p b up0)(hb:b<=p+1)(hpe:p<=e){next:Nat}{ps':fV}(h:iC l e d (-1) p ⟨[],[]⟩=(next,ps'))(hlt:p<next):∃v,ps'.q[0]?=some v/\v.t=(next:Int):=by
 have hS:=DZ (l:=l) (B:=T0.length) (up0:=up0) (T0:=T0) hn d (-1) p p ⟨T0,[]⟩ ⟨[],[]⟩ b hck (by rw[oU _ _ (by omega)];exact hf) hb hpe (Cn T0 up0 p hf.lt) (by omega) (λ_=>rfl) rfl;rw[oU _ _ (by omega)]at hS;rcases hS with⟨h1,h2,_⟩|⟨next',s',aa,h1,h2,h3,h4,h5,h6,h7,h8,⟨x,h9,h10,_⟩,_⟩
 ·rw[h]at h2;have:=congrArg Prod.fst h2;dsimp only at this;omega
 rw[h]at h2;obtain⟨rfl,rfl⟩:=EP h2;exact⟨x,h9,h10⟩
theorem PO{l:List Tk}{n:Nat}{e dd i up:Nat}{s:St}(hck:Ck s.t n)(hf:Fits s.t i ((i+1:Nat):Int) up)(hi:i<=e)(he:e<=n)(hn:n<=32768):
 (jd l e dd up i s=(-1,i,s)/\jd l e dd 0 i ⟨gV n,[]⟩=(-1,i,⟨gV n,[]⟩))\/
 ∃(next:Nat)(s':St)(v:Nd)(q:List Nd)(V:St),jd l e dd up i s=((s.t.length:Int),next,s')/\jd l e dd 0 i ⟨gV n,[]⟩=(1,next,V)/\i<next/\next<=e/\V.t.drop 1=v::q/\s'.t=pY s.t up (v::q)/\s'.d=s.d++V.d/\
  (∀ae t2,HS ae ((i+1:Nat):Int) t2 s.t->ae=up->pY t2 up (v::q)=pY s.t up (v::q)):=by
 obtain⟨aa,hf0⟩:=rz n i hn;have h1:=ug (l:=l) (n:=(n:Int)) (by omega) dd i _ hck hf (by omega) hi;have h0:=ug (l:=l) (n:=(n:Int)) (by omega) dd i _ aa hf0 (by omega) hi;have ht:=Ft.Px l e dd i up s;rcases h1 with⟨a1,a2⟩|⟨next,s',ps',a1,a2,a3,a4,a5,a6,a7,a8,a9,av,ax,v,a12,ag⟩
 ·rcases h0 with⟨b1,b2⟩|⟨next,ay,aj,b1,b2,b3,_⟩
  ·left;rw[ht,a1];exact⟨by simp,b1⟩
  rw[a2]at b2;have:=congrArg Prod.fst b2;dsimp only at this;omega
 rcases h0 with⟨b1,b2⟩|⟨ah,af,ak,b1,b2,b3,b4,b5,b6,b7,b8,b9,b10,b11,v0,b12,b13⟩
 ·rw[a2]at b2;have:=congrArg Prod.fst b2;dsimp only at this;omega
 rw[a2]at b2;obtain⟨rfl,rfl⟩:=EP b2;right;rw[ht,a1];have b1:jd l e dd 0 i ⟨gV n,[]⟩=(1,next,af):=by rw[show(0:Int)=((0:Nat):Int)from rfl,b1];rfl
 cases hq:ps'.q with
 |nil=>rw[hq]at a7;simp at a7
 |cons v q=>
  rw[hq]at a8 b8 a12 b12;obtain rfl:v=_:=jl a12;obtain rfl:v0=v:=(jl b12).symm;have p1:pJ s.t up (v0::q)=((addN s.t up v0.k v0.f v0.t).1.take s.t.length++shift up s.t.length (v0::q),(s.t.length:Int)):=by unfold pJ;exact eY ag
  have p0:pJ (gV n) (0:Nat) (v0::q)=((addN (gV n) (0:Nat) v0.k v0.f v0.t).1.take (gV (n:Int)).length++shift (0:Nat) (gV (n:Int)).length (v0::q),((gV (n:Int)).length:Int)):=by unfold pJ;exact eY b13
  rw[p1]at a8;rw[p0]at b8;have a8:=(EP a8).1;have b8:=(EP b8).1;rw[Im hck ag]at a8;rw[Im aa b13]at b8;dsimp only at a8 b8;rw[LU]at a8 b8;have hl1:(gV (n:Int)).length=1:=rfl;have hdrop:af.t.drop 1=shift 0 1 (v0::q):=by
   rw[<-b8,List.drop_append_of_le_length (by rw[lY];exact fB _),Vk (by rw[lY];exact fB _)];rfl
  have hsh:shift 0 1 (v0::q)={v0 with u:=0,ks:=v0.ks.map (·+((1:Nat):Int))}::(shift 0 1 (v0::q)).drop 1:=by
   have h0:=lW 0 1 (v0::q) 0 v0 rfl;cases hs:shift 0 1 (v0::q)with
   |nil=>rw[hs]at h0;cases h0
   |cons x y=>rw[hs]at h0;rw[jl h0];rfl
  have hpos:=hf.lt;have hg:∀t2:List Nd,t2.length=s.t.length->pY t2 up ({v0 with u:=0,ks:=v0.ks.map (·+((1:Nat):Int))}::(shift 0 1 (v0::q)).drop 1)=hold t2 up v0.t++shift up s.t.length (v0::q):=by
   intro t2 h2;show hold t2 up v0.t++shift up (t2.length-1) ({v0 with u:=0,ks:=v0.ks.map (·+((1:Nat):Int))}::(shift 0 1 (v0::q)).drop 1)=_;rw[<-hsh,h2,GR _ _ _ (by omega)]
  have ai:((i+1:Nat):Int)<=v0.t:=by
   obtain⟨v1,h1,h2⟩:=Tw (l:=l) (n:=(n:Int)) (by omega) dd i _ aa hf0 (by omega) hi a2 a3;rw[hq]at h1;obtain rfl:v0=v1:=jl h1;omega
  refine⟨next,_,_,_,af,rfl,b1,a3,a4,by rw[hdrop,hsh],?_,?_,?_⟩
  ·dsimp only;rw[hg _ rfl];exact a8.symm
  ·dsimp only;rw[a6,b6]
  intro ae t2 hs he;subst he;rw[hg _ hs.len,hg _ rfl,hs.eq _ ai]
end Pr
namespace Ps
open Ar Fl
open Rw (R E)
theorem Dz{l:List Tk}{B:Bs}{up f t kind:Nat}{e b:Int}{s:St}(h:Fe.Ok l B.1 l.length up B.2 e b s)(he:e<=f)(hft:f<=t)(ht:t<=l.length)(hk1:1<=kind)(hk2:kind<=10):
 ∃s',add s up kind f t=(s',(s.t.length:Int))/\Fe.Ok l B.1 l.length s.t.length B.2 f (max b t) s'/\Up s'.t s.t.length up/\nE s.t s'.t:=by
 obtain⟨s',a1,_,a3,⟨x,a4,a5⟩,a6⟩:=Fe.kE (kind:=kind) h he hft (by omega) hk1 hk2;obtain⟨s2,b1,_,b3,_⟩:=Fe.kE (kind:=kind) (Fe.Ok.start (l:=l) (p0:=B.1) h.ck h.fits h.lf h.no) he hft (by omega) hk1 hk2;have e2:s2=s':=by rw[a1]at b1;exact(congrArg Prod.fst b1).symm
 subst e2;exact⟨s2,a1,a3,⟨a6,x,a4,a5⟩,b3.keep⟩
theorem Om{l:List Tk}{B:Bs}{nd:Nat}{en:E}{s:St}{b:Int}(h:Fe.Ok l B.1 l.length nd B.2 en.from' b s)(hB:B.1<=en.from')(hb:b<=en.bu)(hlt:en.from'<en.bu)(hle:en.bu<=l.length):
 ∃c:Nat,(cur l s nd en).2=(c:Int)/\OK l B c en.bu (cur l s nd en).1/\Up (cur l s nd en).1.t c nd/\nE s.t (cur l s nd en).1.t:=by
 unfold cur;split
 ·obtain⟨s',a1,a2,a3,a4⟩:=Dz (kind:=4) (f:=en.from') (t:=en.bu) h (jq _) (by omega) hle (by omega) (by omega);have a1:add s nd 4 en.from' en.bu=(s',(s.t.length:Int)):=a1;rw[a1];exact⟨_,rfl,a2.le (by omega) (by omega),a3,a4⟩
 obtain⟨s',a1,a2,⟨x,a3,a4⟩,a5⟩:=Fe.D5 l l.length l.length (jq _) (c:=nd) (j:=en.from') (q:=en.bu) (s:=s) (b:=b) h.ck h.fits h.lf h.no hb hlt hle;rw[a1];exact⟨_,rfl,h.trans (a2.low hB),⟨a5,x,a3,a4⟩,a2.keep⟩
def zQ(l:List Tk)(B:Bs)(p:PS)(en:E)(q:PS):Prop:=xG l B en.bu q/\q.read=p.read/\∃t k,q.st=t::k/\t.has=false
theorem FR{l:List Tk}{B:Bs}{e d:Nat}{p:PS}{o:Op}{r:List Op}{en:E}(hd:p.doc=(d:Int))(hc:jQ p.s.t d (o::r))(h:sW l B o.node e p.s)(hB:B.1<=en.from')(he:e<=en.from')(hlt:en.from'<en.bu)(hle:en.bu<=l.length):
 (again l p o r en).1=0/\zQ l B p en (again l p o r en).2:=by
 obtain⟨⟨nd,c,q,h1,h2,h3,h4,h5⟩,h6⟩:=hc;obtain⟨m,e1,e2⟩:=h;obtain rfl:m=nd:=by omega
 unfold again;rw[h1];obtain⟨c',k1,k2,k3,k4⟩:=Om (en:=en) (e2.le (e':=en.from') (b':=en.from') (by omega) (by omega)) hB (by omega) hlt hle;refine⟨rfl,⟨d,hd,⟨⟨m,c',q,rfl,k1,k3,h4,h5.keep k4⟩,h6.keep k4⟩,?_⟩,rfl,_,_,rfl,rfl⟩;exact wO ⟨⟨m,c',q,rfl,k1,k3,h4,h5.keep k4⟩,h6.keep k4⟩ ⟨c',k1,k2⟩
theorem PU{l:List Tk}{B:Bs}{e d depth:Nat}{p:PS}{up:Int}{root:Bool}{st:List Op}{en:E}(hd:p.doc=(d:Int))(hc:jQ p.s.t d st)(hup:outer d st=up)(h:sW l B up e p.s)(hB:B.1<=en.from')(he:e<=en.from')(hlt:en.from'<en.bu)(hle:en.bu<=l.length):
 ((fresh l depth p up root st en).1=0/\zQ l B p en (fresh l depth p up root st en).2)\/(fresh l depth p up root st en).1=10:=by
 obtain⟨m,e1,e2⟩:=h;unfold fresh;split
 ·exact .inr rfl
 refine .inl ?_;rw[e1];have hk:1<=kindOf en/\kindOf en<=10:=by unfold kindOf;split<;>omega
 obtain⟨s',a1,a2,a3,a4⟩:=Dz (kind:=kindOf en) (f:=en.from') (t:=en.bu) e2 (by omega) (by omega) hle hk.1 hk.2;rw[a1];dsimp only;obtain⟨c',k1,k2,k3,k4⟩:=Om (en:=en) a2 hB (by omega) hlt hle;have hch:jQ (cur l s' (p.s.t.length:Int) en).1.t d (⟨(p.s.t.length:Int),kindOf en,en.fG,(cur l s' (p.s.t.length:Int) en).2,false⟩::st):=
  ⟨⟨p.s.t.length,c',m,rfl,k1,k3,by rw[hup,e1],a3.keep k4⟩,(hc.keep a4).keep k4⟩
 exact⟨rfl,⟨d,hd,hch,wO hch ⟨c',k1,k2⟩⟩,rfl,_,_,rfl,rfl⟩
theorem pO{l:List Tk}{B:Bs}{e depth:Nat}{p:PS}{en:E}(h:xG l B e p)(hB:B.1<=en.from')(he:e<=en.from')(hlt:en.from'<en.bu)(hle:en.bu<=l.length):
 ((place l depth p en).1=0/\zQ l B p en (place l depth p en).2)\/((place l depth p en).1≠0/\(place l depth p en).2=p/\5<=(place l depth p en).1/\(place l depth p en).1<=10/\(place l depth p en).1≠9):=by
 obtain⟨d,hd,hc,hh⟩:=h;obtain⟨hc',hh'⟩:=lJ.drop (λo=>decide (en.fG<o.fG)) hc hh;have hf:∀(up:Int)(root:Bool)(st:List Op),jQ p.s.t d st->outer d st=up->sW l B up e p.s->
  ((fresh l depth p up root st en).1=0/\zQ l B p en (fresh l depth p up root st en).2)\/((fresh l depth p up root st en).1≠0/\(fresh l depth p up root st en).2=p/\5<=(fresh l depth p up root st en).1/\(fresh l depth p up root st en).1<=10/\(fresh l depth p up root st en).1≠9):=by
  intro up root st g1 g2 g3;rcases PU (depth:=depth) (root:=root) hd g1 g2 g3 hB he hlt hle with g|g
  ·exact .inl g
  refine .inr ⟨by omega,?_,by omega,by omega,by omega⟩;unfold fresh at g⊢;split
  ·rfl
  rename_i hdp;rw[eX hdp]at g;cases g
 have bad:∀code:Nat,5<=code->code<=10->code≠9->((code,p).1=0/\zQ l B p en (code,p).2)\/((code,p).1≠0/\(code,p).2=p/\5<=(code,p).1/\(code,p).1<=10/\(code,p).1≠9):=
  λcode g1 g2 g3=>.inr ⟨by show code≠0;omega,rfl,g1,g2,g3⟩
 have hr:(place l depth p en)=(match p.st.dropWhile (λo=>decide (en.fG<o.fG))with
  |[]=>if p.root=true then(7,p)else fresh l depth p p.doc true [] en
  |o::r=>
   if o.fG=en.fG then
    if o.kind=kindOf en then again l p o r en
    else if kindOf en=3 then(if o.has=true then(5,p)else fresh l depth p o.cur p.root ({o with has:=true}::r) en)
    else match r with
     |o2::r2=>if o2.fG=en.fG/\o2.kind=5 then again l p o2 r2 en else(5,p)
     |[]=>(5,p)
   else if o.has=true then(6,p)else fresh l depth p o.cur p.root ({o with has:=true}::r) en):=rfl
 rw[hr];cases hdw:p.st.dropWhile (λo=>decide (en.fG<o.fG))with
 |nil=>
  rw[hdw]at hc' hh';dsimp only;split
  ·exact bad 7 (by omega) (by omega) (by omega)
  exact hf p.doc true [] hc' hd.symm (by rw[hd];exact hh')
 |cons o r=>
  rw[hdw]at hc' hh';dsimp only;split
  ·split
   ·exact .inl (FR hd hc' hh'.1 hB he hlt hle)
   split
   ·split
    ·exact bad 5 (by omega) (by omega) (by omega)
    rename_i ho;exact hf o.cur p.root _ hc' rfl (hh'.2 (by simpa using ho))
   cases r with
   |nil=>exact bad 5 (by omega) (by omega) (by omega)
   |cons o2 r2=>
    dsimp only;split
    ·have:=wW hc'.2 (lJ.outer hc' hh');exact .inl (FR hd hc'.2 this.1 hB he hlt hle)
    exact bad 5 (by omega) (by omega) (by omega)
  split
  ·exact bad 6 (by omega) (by omega) (by omega)
  rename_i ho;exact hf o.cur p.root _ hc' rfl (hh'.2 (by simpa using ho))
theorem yt{l:List Tk}{B:Bs}{depth b:Nat}(hb:b<=l.length):∀(es:List E)(e:Nat)(p:PS)(up:Int),xG l B e p->B.1<=e->up=holder p->nR l b e es->e<=b->
 ∃e',e<=e'/\e'<=b/\xG l B e' (places l depth b p up es).2/\(places l depth b p up es).2.read=p.read/\
  ((places l depth b p up es).1=true->(es=[]->e'=e)/\(∀x,es.getLast?=some x->e'=x.bu)/\(es≠[]->∃t k,(places l depth b p up es).2.st=t::k/\t.has=false))
 |[],e,p,up=>λh _ _ _ he=>⟨e,fB _,he,h,rfl,λ_=>⟨λ_=>rfl,λx hx=>(by cases hx),λh=>absurd rfl h⟩⟩
 |en::es,e,p,up=>λh hB hup hes aa=>by
  obtain⟨h1,h2,h3,h4⟩:=hes;rw[places];rcases pO (depth:=depth) h (by omega) h1 h2 (by omega)with⟨g1,g2,g3,t,k,g4,g5⟩|⟨g1,g2,g3,g4,g5⟩
  ·rw[eY g1];obtain⟨q,hq⟩:=fq ((place l depth p en).2);rw[hq]at g2 g3 g4⊢;obtain⟨e',k1,k2,k3,k4,k5⟩:=yt hb es en.bu q (Il q.st) g2 (by omega) (by rw[pz,g4];show t.cur=if t.has=true then t.node else t.cur;rw[eX (by rw[g5];simp)]) h4 h3;refine⟨e',by omega,k2,k3,by rw[k4,g3],λhall=>?_⟩;obtain⟨m0,m1,m2⟩:=k5 hall;refine⟨λh=>(by cases h),λx hx=>?_,λ_=>?_⟩
   ·cases es with
    |nil=>
     obtain rfl:en=x:=by simpa using hx
     exact m0 rfl
    |cons y ys=>exact m1 x (by rw[Vn]at hx;exact hx)
   by_cases hes:es=[]
   ·subst hes;refine⟨t,k,?_,g5⟩;rw[places];exact g4
   exact m2 hes
  rw[eX g1];dsimp only;have:=D6 (a:=en.from') (b:=b) (code:=(place l depth p en).1) h (by omega) h1 (by omega) hb g5 g3 g4;rw[hup];exact⟨b,aa,fB _,this,rfl,λh=>by cases h⟩
end Ps
namespace Pr
open Ar Fl
open Rw (R E)
open Ps (lo PS kindOf OK sW Bs jQ lJ xG holder outer)
theorem Ca(l:List Nd)(c i:Nat):(keyed l (c:Int))[i]?=(l[i]?).map (λx=>if i=c then{x with y:=true}else x):=by
 unfold keyed;rw[jk];cases hc:l[c]? with
 |none=>
  dsimp only;cases hi:l[i]? with
  |none=>rfl
  |some x=>
   have:i≠c:=λe=>by rw[e,hc]at hi;cases hi
   rw[yJ,eX this]
 |some x=>
  dsimp only;rw[nW];by_cases e:c=i
  ·subst e;rw[eY rfl,eY (gD.1 hc).1,hc,yJ,eY rfl]
  rw[eX e];cases hi:l[i]? with
  |none=>rfl
  |some y=>rw[yJ,eX (λh=>e h.symm)]
theorem Oo(l:List Nd)(c k:Nat)(x:Nd):keyed (l.set k x) (c:Int)=(keyed l (c:Int)).set k (if k=c then{x with y:=true}else x):=by
 refine sN (λi=>?_);rw[Ca,nW,nW,Ca];by_cases e:k=i
 ·subst e;rw[eY rfl,eY rfl];have hl:(keyed l (c:Int)).length=l.length:=by
   unfold keyed;split
   ·rfl
   rw[lT]
  rw[hl];by_cases hk:k<l.length
  ·rw[eY hk,eY hk,yJ]
  rw[eX hk,eX hk];rfl
 rw[eX e,eX e]
theorem FT:∀(g:Nat)(l:List Nd)(k:Nat)(z:Int)(c:Nat),iR g (keyed l (c:Int)) k z=keyed (iR g l k z) (c:Int)
 |0,_,_,_,_=>rfl
 |g+1,l,k,z,c=>by
  rw[iR,iR];by_cases h0:k=0
  ·rw[eY h0,eY h0]
  rw[eX h0,eX h0,Ca];cases hk:l[k]? with
  |none=>rfl
  |some x=>
   rw[yJ];dsimp only;rw[show(if k=c then({x with y:=true}:Nd)else x).u=x.u by split<;>rfl,<-FT g,Oo];congr 2;split<;>rfl
theorem Wo(a:List Nd)(c:Nat)(k f z:Int)(hc:c<a.length):add (keyed a (c:Int)) c k f z=keyed (add a c k f z) (c:Int):=by
 have hkl:(keyed a (c:Int)).length=a.length:=by
  unfold keyed;split
  ·rfl
  rw[lT]
 have aa:oH (keyed a (c:Int)) c=keyed (oH a c) (c:Int):=by
  obtain⟨x,hx⟩:=jB a c hc;unfold oH;rw[Ca,hx,yJ,eY rfl,hkl];dsimp only;rw[Oo,eY rfl]
 unfold add hold reach;rw[aa,FT];refine sN (λi=>?_);rw[Ca];have hl1:(iR (c+1) (oH a c) c z).length=a.length:=by rw[vS,Cu]
 have hl2:(keyed (iR (c+1) (oH a c) c z) (c:Int)).length=a.length:=by
  have:∀l:List Nd,(keyed l (c:Int)).length=l.length:=λl=>by
   unfold keyed;split
   ·rfl
   rw[lT]
  rw[this,hl1]
 by_cases hi:i<a.length
 ·rw[oD (by omega),oD (by omega),Ca]
 rw[oM (by omega),oM (by omega),hl1,hl2];cases h:([(⟨k,f,z,c,[],false⟩:Nd)])[i-a.length]? with
 |none=>rfl
 |some x=>rw[yJ,eX (by omega)]
theorem LV(P:Nat->Bool)(n:Nat)(h:P n=false):(List.range (n+1)).any P=(List.range n).any P:=by
 rw[List.range_succ,List.any_append];simp[h]
theorem FU{l:List Tk}{B:Bs}{nd:Nat}{en:E}{s:St}{b:Int}{h:Lv}(hok:Fe.Ok l B.1 l.length nd B.2 en.from' b s)(hb:b<=en.bu)(hlt:en.from'<en.bu)(hle:en.bu<=l.length)(hk:raw l (en.bu-1)≠13)(hn:h.node=nd):
 enter l s h en=((Ps.cur l s nd en).1,{h with full:=false,cur:=s.t.length})/\(Ps.cur l s nd en).2=(s.t.length:Int):=by
 subst hn;unfold enter Ps.cur;by_cases hd:en.dash=true
 ·rw[eY hd,eY hd];have:=(rV (kind:=4) hok (jq _) (by omega) (by omega:((en.bu:Nat):Int)<=(l.length:Int)) (by omega) (by omega) (by omega)).1;have this:Fl.add s h.node 4 en.from' en.bu=(⟨add s.t h.node 4 en.from' en.bu,s.d⟩,(s.t.length:Int)):=this;rw[this];exact⟨rfl,rfl⟩
 rw[eX hd,eX hd];obtain⟨h1,h2⟩:=rV (kind:=6) hok (jq _) (by omega) (by omega:((en.bu:Nat):Int)<=(l.length:Int)) (by omega) (by omega) (by omega);have h1:Fl.add s h.node 6 en.from' en.bu=(⟨add s.t h.node 6 en.from' en.bu,s.d⟩,(s.t.length:Int)):=h1;unfold pair;rw[h1];dsimp only;split
 ·exact⟨rfl,rfl⟩
 rename_i hw;obtain⟨s',a1,_,a3,_⟩:=Fe.kE (kind:=6) hok (jq _) (by omega) (by omega:((en.bu:Nat):Int)<=(l.length:Int)) (by omega) (by omega);have a1:Fl.add s h.node 6 en.from' en.bu=(s',(s.t.length:Int)):=a1;rw[h1]at a1;obtain rfl:s'=_:=(congrArg Prod.fst a1).symm;have hbl:=iV l (en.bu-1) (en.from'+1);have hbg:en.from'+1<=back l (en.bu-1) (en.from'+1):=uI l _ _ (by omega);have hkk:1<=(if(List.range (en.bu-en.from')).any (λx=>raw l (en.from'+x)==13)=true then 8 else 7:Nat)/\(if(List.range (en.bu-en.from')).any (λx=>raw l (en.from'+x)==13)=true then 8 else 7:Nat)<=10:=by split<;>omega
 have h3:=(rV a3 (jq _) (by omega) (by omega:((back l (en.bu-1) (en.from'+1):Nat):Int)<=(l.length:Int)) hkk.1 (by omega) (by omega)).1;dsimp only at h3;rw[h3];have hany:(List.range (en.bu-en.from')).any (λx=>raw l (en.from'+x)==13)=(List.range (en.bu-1-en.from')).any (λx=>raw l (en.from'+x)==13):=by
  rw[show en.bu-en.from'=(en.bu-1-en.from')+1 by omega];refine LV _ _ ?_;rw[show en.from'+(en.bu-1-en.from')=en.bu-1 by omega]
  simpa using hk
 rw[hany,Wo _ _ _ _ _ (by rw[kZ];omega)];refine⟨?_,rfl⟩;congr 3;split<;>rfl
def jK(o:Ps.Op):Lv:=⟨o.kind,o.node.toNat,o.fG,o.cur.toNat,o.has⟩
def jA(p:PS):Lv:=⟨2,p.doc.toNat,-1,p.doc.toNat,p.root⟩
def BK(p:PS):List Lv:=if p.doc<0 then[]else p.st.map jK++[jA p]
def BL:List Ps.Op->Prop
 |[]=>True
 |o::r=>(0<=o.fG/\(o.kind=3\/o.kind=5)/\(match r with
  |[]=>True
  |o2::_=>o2.has=true/\(o2.fG<o.fG\/(o2.fG=o.fG/\o.kind=3/\o2.kind=5))))/\BL r
def Wf(p:PS):Prop:=BL p.st/\(p.st≠[]->p.root=true)
theorem sw(e:E):kindOf e=3\/kindOf e=5:=by unfold kindOf;split<;>simp
def Y8:List Ps.Op->Int
 |[]=>-1
 |o::_=>o.fG
theorem JZ(depth n:Nat)(e:E)(D:Lv)(hk:D.kind=2)(hc:D.fG=-1)(he:0<=e.fG):∀st:List Ps.Op,BL st->
 mX depth n e (st.map jK++[D])=(match st.dropWhile (λo=>decide (e.fG<o.fG))with
  |[]=>if D.full=true then(7,[])else if depth<n then(10,[])else(1,[])
  |o::r=>
   if o.fG=e.fG then
    if o.kind=kindOf e then(0,(o::r).map jK++[D])
    else if kindOf e=3 then(if o.has=true then(5,[])else if depth<n then(10,[])else(1,[]))
    else match r with
     |o2::_=>if o2.fG=e.fG/\o2.kind=5 then(0,r.map jK++[D])else(5,[])
     |[]=>(5,[])
   else if o.has=true then(6,[])else if depth<n then(10,[])else(1,[]))
 |[]=>λ_=>by
  have h2:=sw e;show mX depth n e [D]=_;rw[mX,eX (by omega),eX (by rw[hc];omega),eX (by omega)];show _=(if D.full=true then(7,[])else if depth<n then(10,[])else(1,[]))
  by_cases hf:D.full=true
  ·rw[eY ⟨hf,hk⟩,eY hf]
  rw[eX (λh=>hf h.1),eX hf,eX hf]
 |o::r=>λhw=>by
  obtain⟨⟨w1,w2,w3⟩,w4⟩:=hw;have h2:=sw e;rw[EK];by_cases hlt:e.fG<o.fG
  ·rw[eY (lI hlt)];show mX depth n e (jK o::(r.map jK++[D]))=_;rw[mX,eX (by show¬(o.fG=e.fG/\_);omega),eY (.inl hlt)];exact JZ depth n e D hk hc he r w4
  rw[eX (by simpa using hlt)];show mX depth n e (jK o::(r.map jK++[D]))=_;have hnx:Np (r.map jK++[D])=Y8 r:=by
   cases r with
   |nil=>exact hc
   |cons o2 q=>rfl
  have hs:mX depth n e (jK o::(r.map jK++[D]))=(if o.fG=e.fG/\o.kind=kindOf e then(0,jK o::(r.map jK++[D]))
   else if e.fG<o.fG\/(o.fG=e.fG/\Y8 r=e.fG)then mX depth n e (r.map jK++[D])
   else if o.fG=e.fG/\(o.has=true\/o.kind=3)then(5,[])
   else if o.has=true/\o.kind=2 then(7,[])else if o.has=true then(6,[])else if depth<n then(10,[])else(1,[])):=by
   rw[mX,hnx];rfl
  rw[hs];clear hs hnx;dsimp only;by_cases heq:o.fG=e.fG
  ·rw[eY heq];by_cases hkd:o.kind=kindOf e
   ·rw[eY ⟨heq,hkd⟩,eY hkd];rfl
   rw[eX (λh=>hkd h.2),eX hkd]
   have tail:∀v:Int,v≠e.fG->(kindOf e≠3->o.kind=3)->(if e.fG<o.fG\/(o.fG=e.fG/\v=e.fG)then mX depth n e (r.map jK++[D])
    else if o.fG=e.fG/\(o.has=true\/o.kind=3)then(5,[])
    else if o.has=true/\o.kind=2 then(7,[])else if o.has=true then(6,[])else if depth<n then(10,[])else(1,[]))=(if kindOf e=3 then(if o.has=true then(5,[])else if depth<n then(10,[])else(1,[]))else(5,[])):=by
    intro v hv hk3;rw[eX (show¬(e.fG<o.fG\/(o.fG=e.fG/\v=e.fG))by omega)];by_cases h3:kindOf e=3
    ·have h5:o.kind=5:=by omega
     rw[eY h3];by_cases hh:o.has=true
     ·rw[eY ⟨heq,.inl hh⟩,eY hh]
     rw[eX (show¬(o.fG=e.fG/\(o.has=true\/o.kind=3))from λh=>h.2.elim hh (by omega)),eX (λh=>hh h.1),eX hh,eX hh]
    rw[eX h3,eY ⟨heq,.inr (hk3 h3)⟩]
   cases r with
   |nil=>exact tail (-1) (by omega) (λh=>by omega)
   |cons o2 q=>
    dsimp only;obtain⟨v1,v2⟩:=w3;by_cases hc2:o2.fG=e.fG
    ·have hk3:o.kind=3/\o2.kind=5:=by omega
     rw[eY (.inr ⟨heq,hc2⟩),eX (show¬kindOf e=3 by omega),eY ⟨hc2,hk3.2⟩];show mX depth n e (jK o2::(q.map jK++[D]))=_;rw[mX];exact eY (show o2.fG=e.fG/\o2.kind=kindOf e by omega)
    refine(tail o2.fG hc2 (λh=>by omega)).trans ?_;by_cases h3:kindOf e=3
    ·rw[eY h3,eY h3]
    rw[eX h3,eX h3,eX (λh=>hc2 h.1)]
  rw[eX (λh=>heq h.1),eX (show¬(e.fG<o.fG\/(o.fG=e.fG/\_))from λh=>h.elim hlt (λh=>heq h.1)),eX (λh=>heq h.1),eX heq];by_cases hh:o.has=true
  ·rw[eX (show¬(o.has=true/\o.kind=2)by omega),eY hh]
  rw[eX (λh=>hh h.1),eX hh]
end Pr
namespace Pr
open Ar Fl
open Rw (R E)
open Ps (lo PS kindOf OK sW Bs jQ lJ xG holder outer)
structure Rel(i:Nat)(q:QS)(p:PS):Prop where
 st:q.st=BK p
 doc:0<=p.doc
 d:q.s.d=p.s.d
 t:q.s.t=p.s.t\/(p.st=[]/\p.root=false/\HS p.doc.toNat ((i+1:Nat):Int) q.s.t p.s.t)
 wf:Wf p
theorem Rel.len{i:Nat}{q:QS}{p:PS}(h:Rel i q p):q.s.t.length=p.s.t.length:=by
 rcases h.t with h|⟨_,_,h⟩
 ·rw[h]
 exact h.len
theorem jG{p:PS}(h:0<=p.doc):BK p=p.st.map jK++[jA p]:=by unfold BK;rw[eX (by omega)]
theorem Rel.hs{i:Nat}{q:QS}{p:PS}(h:Rel i q p)(up:Nat)(hu:p.st=[]->p.root=false->up=p.doc.toNat):HS up ((i+1:Nat):Int) q.s.t p.s.t:=by
 rcases h.t with e|⟨h1,h2,h3⟩
 ·rw[e];exact HS.refl _ _ _
 rw[hu h1 h2];exact h3
theorem LW{p:PS}{n:Nat}(hd:0<=p.doc)(hn:holder p=(n:Int)):mq (BK p)=n:=by
 rw[jG hd];unfold holder at hn;cases hs:p.st with
 |nil=>
  rw[hs]at hn;show(if p.root=true then p.doc.toNat else p.doc.toNat)=n;have hn:p.doc=(n:Int):=hn;split<;>omega
 |cons o r=>
  rw[hs]at hn;dsimp only at hn;show(if o.has=true then o.node.toNat else o.cur.toNat)=n;split at hn
  ·rename_i h;rw[eY h];omega
  rename_i h;rw[eX h];omega
theorem Ai{l:List Tk}{B:Bs}{i a b c code:Nat}{q:QS}{p:PS}(h:Rel i q p)(ho:xG l B i p)(hia:i<=lo l a c)(hlt:lo l a c<c)(hc:c<=l.length)(ha:lo l a c=b):
 fault l q.s (mq q.st) code a c=err l p.s (holder p) b (back l c b) code:=by
 obtain⟨d,h1,h2,h3⟩:=ho;obtain⟨m,e1,e2⟩:=h3.hold;have hh:holder p=(m:Int):=by rw[Ps.pz,h1];exact e1
 have hcn:=Ps.qD l hlt;subst ha;have hbg:=Ps.oV l c (lo l a c) (lo l a c) (fB _) hlt hcn;have hbl:=iV l c (lo l a c);unfold fault;dsimp only;rw[eY hlt,h.st,LW h.doc hh,hh];rw[JO e2 (by omega) (by omega) (by omega)]
 have hs:=h.hs m (λg1 g2=>by
  unfold holder at hh;rw[g1]at hh;have hh:p.doc=(m:Int):=hh
  omega)
 rw[hs.put (by omega),h.d]
theorem BL.drop(f:Ps.Op->Bool):∀{st:List Ps.Op},BL st->BL (st.dropWhile f)
 |[],h=>h
 |o::r,h=>by
  rw[EK];split
  ·exact BL.drop f h.2
  exact h
theorem BL.has(f:Ps.Op->Bool):∀{st:List Ps.Op}{o:Ps.Op}{r:List Ps.Op},BL st->st.dropWhile f=o::r->o.has=false->st=o::r
 |[],_,_,_,h,_=>by cases h
 |a::s,o,r,hw,h,ho=>by
  rw[EK]at h;split at h
  ·have hs:=BL.has f hw.2 h ho;subst hs;have:=hw.1.2.2.1;rw[ho]at this;cases this
  exact h
structure Put(q:QS)(k:QS)(p':PS):Prop where
 s:k.s=p'.s
 st:k.st=BK p'
 row:k.row=q.row
 en:k.en=q.en
 wf:Wf p'
 doc:0<=p'.doc
theorem Wp{a b:Lv}(h1:a.kind=b.kind)(h2:a.node=b.node)(h3:a.fG=b.fG)(h4:a.cur=b.cur)(h5:a.full=b.full):a=b:=by
 cases a;cases b;dsimp only at h1 h2 h3 h4 h5;subst h1 h2 h3 h4 h5;rfl
theorem PW{l:List Tk}{B:Bs}{e:Nat}{p:PS}{o:Ps.Op}{r:List Ps.Op}{en:E}(hc:∃d,jQ p.s.t d (o::r))(h:sW l B o.node e p.s)(he:e<=en.from')(hlt:en.from'<en.bu)(hle:en.bu<=l.length)(hk:raw l (en.bu-1)≠13)(hd:0<=p.doc)(hw:BL (o::r))(hroot:p.root=true):
 (enter l p.s (jK o) en).1=(Ps.again l p o r en).2.s/\(enter l p.s (jK o) en).2::(r.map jK++[jA p])=BK (Ps.again l p o r en).2/\Wf (Ps.again l p o r en).2:=by
 obtain⟨d,⟨nd,c,k,h1,h2,h3,h4,h5⟩,h6⟩:=hc;obtain⟨m,e1,e2⟩:=h;obtain rfl:m=nd:=by omega
 obtain⟨g1,g2⟩:=FU (h:=jK o) (e2.le (e':=en.from') (b':=en.from') (by omega) (by omega)) (by omega) hlt hle hk (by show o.node.toNat=m;omega);unfold Ps.again;rw[h1];dsimp only;rw[g1];refine⟨rfl,?_,⟨⟨hw.1,hw.2⟩,λ_=>hroot⟩⟩;refine KH ?_ (jG (by exact hd)).symm;refine congrArg (λx=>x::(r.map jK++[jA p])) (Wp rfl ?_ rfl ?_ rfl)
 ·show o.node.toNat=((m:Int)).toNat;rw[h1]
 show p.s.t.length=((Ps.cur l p.s (m:Int) en).2).toNat;rw[g2];rfl
def Nx(en:E):List Ps.Op->Prop
 |[]=>True
 |o2::_=>o2.has=true/\(o2.fG<en.fG\/(o2.fG=en.fG/\kindOf en=3/\o2.kind=5))
theorem PX{l:List Tk}{B:Bs}{i d:Nat}{up:Int}{en:E}{q:QS}{p:PS}{st:List Ps.Op}(h:Rel i q p)(hch:jQ p.s.t d st)(h0:sW l B up i p.s)(hi:i<=en.from')(hlt:en.from'<en.bu)(hle:en.bu<=l.length)(hk:raw l (en.bu-1)≠13)
 (aa:0<=en.fG) (hst:∃hd tl,q.st=hd::tl/\(hd.cur:Int)=up/\{hd with full:=true}::tl=st.map jK++[jA {p with root:=true}]) (hup:p.st=[]->p.root=false->up=p.doc)
 (hw:BL st) (hnext:Nx en st) {depth:Nat} (ae:¬depth<st.length+1):
 ∀(root:Bool),root=true->∃hd tl,q.st=hd::tl/\
  (enter l ⟨add q.s.t hd.cur (kindOf en) en.from' en.bu,q.s.d⟩ ⟨kindOf en,q.s.t.length,en.fG,0,false⟩ en).1=(Ps.fresh l depth p up root st en).2.s/\
  (enter l ⟨add q.s.t hd.cur (kindOf en) en.from' en.bu,q.s.d⟩ ⟨kindOf en,q.s.t.length,en.fG,0,false⟩ en).2::{hd with full:=true}::tl=BK (Ps.fresh l depth p up root st en).2/\Wf (Ps.fresh l depth p up root st en).2/\(Ps.fresh l depth p up root st en).1=0/\0<=(Ps.fresh l depth p up root st en).2.doc:=by
 intro root hroot;subst hroot;obtain⟨hd,tl,g1,g2,g3⟩:=hst;refine⟨hd,tl,g1,?_⟩;obtain⟨m,e1,e2⟩:=h0;obtain rfl:hd.cur=m:=by omega
 have hkk:=Ps.kindOf en|>λ_=>sw en
 have hs:=h.hs hd.cur (λa b=>by have:=hup a b;omega);have hadd:add q.s.t hd.cur (kindOf en) en.from' en.bu=add p.s.t hd.cur (kindOf en) en.from' en.bu:=hs.put (by omega);obtain⟨f1,f2⟩:=rV (kind:=kindOf en) (f:=en.from') (t:=en.bu) e2 (by omega) (by omega) (by omega:((en.bu:Nat):Int)<=(l.length:Int)) (by omega) (by omega) (by omega);obtain⟨s',a1,_,a3,_⟩:=Fe.kE (kind:=kindOf en) (f:=en.from') (t:=en.bu) e2 (by omega) (by omega) (by omega:((en.bu:Nat):Int)<=(l.length:Int)) (by omega) (by omega);rw[f1]at a1;obtain rfl:s'=_:=(congrArg Prod.fst a1).symm;rw[hadd,h.d,h.len];obtain⟨k1,k2⟩:=FU (h:=⟨kindOf en,p.s.t.length,en.fG,0,false⟩) (a3.le (e':=en.from') (b':=en.bu) (by omega) (by omega)) (jq _) hlt hle hk rfl;dsimp only at k1 k2;unfold Ps.fresh;rw[eX ae,e1];dsimp only;rw[f1];dsimp only;rw[k1];refine⟨rfl,?_,?_,rfl,h.doc⟩
 ·refine KH ?_ (jG (by exact h.doc)).symm;rw[g3,k2];rfl
 refine⟨⟨⟨aa,hkk,?_⟩,hw⟩,λ_=>rfl⟩;cases st with
 |nil=>trivial
 |cons o2 r=>exact hnext
theorem PY{l:List Tk}{B:Bs}{i depth:Nat}{en:E}{q:QS}{p:PS}(h:Rel i q p)(ho:xG l B i p)(hi:i<=en.from')(hlt:en.from'<en.bu)(hle:en.bu<=l.length)(hk:raw l (en.bu-1)≠13)(af:0<=en.fG):
 (place l depth q en).1=(Ps.place l depth p en).1/\((Ps.place l depth p en).1=0->Put q (place l depth q en).2 (Ps.place l depth p en).2)/\((Ps.place l depth p en).1≠0->(place l depth q en).2=q):=by
 obtain⟨d,hd,hc,hh⟩:=ho;obtain⟨hc',hh'⟩:=lJ.drop (λo=>decide (en.fG<o.fG)) hc hh;have ae:=h.st;rw[jG h.doc]at ae;have hsk:=JZ depth q.st.length en (jA p) rfl rfl af p.st h.wf.1;have ah:q.st.length=p.st.length+1:=by rw[ae];simp
 have hw':=BL.drop (λo=>decide (en.fG<o.fG)) h.wf.1;unfold place;rw[<-ae]at hsk;rw[hsk]
 have hr:(Ps.place l depth p en)=(match p.st.dropWhile (λo=>decide (en.fG<o.fG))with
  |[]=>if p.root=true then(7,p)else Ps.fresh l depth p p.doc true [] en
  |o::r=>
   if o.fG=en.fG then
    if o.kind=kindOf en then Ps.again l p o r en
    else if kindOf en=3 then(if o.has=true then(5,p)else Ps.fresh l depth p o.cur p.root ({o with has:=true}::r) en)
    else match r with
     |o2::r2=>if o2.fG=en.fG/\o2.kind=5 then Ps.again l p o2 r2 en else(5,p)
     |[]=>(5,p)
   else if o.has=true then(6,p)else Ps.fresh l depth p o.cur p.root ({o with has:=true}::r) en):=rfl
 rw[hr];have bad:∀code:Nat,5<=code->(act l q en (code,[])).1=(code,p).1/\((code,p).1=0->Put q (act l q en (code,[])).2 (code,p).2)/\((code,p).1≠0->(act l q en (code,[])).2=q):=by
  intro code h5;have e:act l q en (code,[])=(code,q):=by
   obtain⟨c,rfl⟩:∃c,code=c+5:=⟨code-5,by omega⟩
   rfl
  rw[e];exact⟨rfl,λh=>by have h:code=0:=h;omega,λ_=>rfl⟩
 have two:∀(o:Ps.Op)(r:List Ps.Op),jQ p.s.t d (o::r)->sW l B o.node i p.s->BL (o::r)->p.st≠[]->
  (act l q en (0,(o::r).map jK++[jA p])).1=(Ps.again l p o r en).1/\((Ps.again l p o r en).1=0->Put q (act l q en (0,(o::r).map jK++[jA p])).2 (Ps.again l p o r en).2)/\((Ps.again l p o r en).1≠0->(act l q en (0,(o::r).map jK++[jA p])).2=q):=by
  intro o r g1 g2 g3 g4;have ai:q.s=p.s:=by
   rcases h.t with e|⟨e,_⟩
   ·have:=h.d;cases hq:q.s with
    |mk a b=>cases hp:p.s with
     |mk a' b'=>rw[hq,hp]at e this;dsimp only at e this;rw[e,this]
   exact absurd e g4
  obtain⟨k1,k2,k3⟩:=PW ⟨d,g1⟩ g2 hi hlt hle hk h.doc g3 (h.wf.2 g4);show(0:Nat)=0/\_/\_;refine⟨rfl,λ_=>⟨?_,?_,rfl,rfl,k3,h.doc⟩,λhx=>absurd rfl hx⟩
  ·show(enter l q.s (jK o) en).1=_;rw[ai];exact k1
  show(enter l q.s (jK o) en).2::(r.map jK++[jA p])=_;rw[ai];exact k2
 have three:∀(up:Int)(root:Bool)(st:List Ps.Op),jQ p.s.t d st->sW l B up i p.s->(∃hd tl,q.st=hd::tl/\(hd.cur:Int)=up/\{hd with full:=true}::tl=st.map jK++[jA {p with root:=true}])->(p.st=[]->p.root=false->up=p.doc)->
  BL st->Nx en st->q.st.length=st.length+1->root=true->
  (act l q en (if depth<q.st.length then(10,[])else(1,[]))).1=(Ps.fresh l depth p up root st en).1/\((Ps.fresh l depth p up root st en).1=0->Put q (act l q en (if depth<q.st.length then(10,[])else(1,[]))).2 (Ps.fresh l depth p up root st en).2)/\((Ps.fresh l depth p up root st en).1≠0->(act l q en (if depth<q.st.length then(10,[])else(1,[]))).2=q):=by
  intro up root st g1 g2 g3 g4 g5 g6 g7 g8;by_cases ag:depth<st.length+1
  ·rw[eY (by omega)];have e:Ps.fresh l depth p up root st en=(10,p):=by unfold Ps.fresh;rw[eY ag]
   rw[e];exact bad 10 (by omega)
  rw[eX (by omega)];obtain⟨hd,tl,k1,k2,k3,k4,k5,k6⟩:=PX h g1 g2 hi hlt hle hk af g3 g4 g5 g6 ag root g8;have e:act l q en (1,[])=(0,fresh l q en hd tl):=by show(match q.st with|h::r=>(0,fresh l q en h r)|[]=>(0,q))=_;rw[k1]
  rw[e,k5];exact⟨rfl,λ_=>⟨k2,k3,rfl,rfl,k4,k6⟩,λhx=>absurd rfl hx⟩
 cases hdw:p.st.dropWhile (λo=>decide (en.fG<o.fG))with
 |nil=>
  rw[hdw]at hc' hh' hw';dsimp only;show _/\_/\_;by_cases hrt:p.root=true
  ·rw[eY (show(jA p).full=true from hrt),eY hrt];exact bad 7 (by omega)
  rw[eX (show¬(jA p).full=true from hrt),eX hrt];have hp0:p.st=[]:=by
   cases hs:p.st with
   |nil=>rfl
   |cons o r=>exact absurd (h.wf.2 (by rw[hs];simp)) hrt
  refine three p.doc true [] hc' (by rw[hd];exact hh') ⟨jA p,[],by rw[ae,hp0];rfl,?_,rfl⟩ (λ_ _=>rfl) hw' trivial (by rw[ah,hp0]) rfl;show((p.doc.toNat:Nat):Int)=p.doc;have:=h.doc;omega
 |cons o r=>
  rw[hdw]at hc' hh' hw';have hne:p.st≠[]:=λe=>by rw[e]at hdw;cases hdw
  have hroot:=h.wf.2 hne;have aj:o.fG<=en.fG:=by
   have:=Xy (λo:Ps.Op=>decide (en.fG<o.fG)) p.st;rw[hdw]at this;simp at this;exact this
  have hf:o.has=false->(o.fG<en.fG\/(o.fG=en.fG/\kindOf en=3/\o.kind=5))->
   (act l q en (if depth<q.st.length then(10,[])else(1,[]))).1=(Ps.fresh l depth p o.cur p.root ({o with has:=true}::r) en).1/\((Ps.fresh l depth p o.cur p.root ({o with has:=true}::r) en).1=0->Put q (act l q en (if depth<q.st.length then(10,[])else(1,[]))).2 (Ps.fresh l depth p o.cur p.root ({o with has:=true}::r) en).2)/\((Ps.fresh l depth p o.cur p.root ({o with has:=true}::r) en).1≠0->(act l q en (if depth<q.st.length then(10,[])else(1,[]))).2=q):=by
   intro g1 g2;have hs:=BL.has _ h.wf.1 hdw g1;obtain⟨m,e1,_⟩:=hh'.2 g1;refine three o.cur p.root ({o with has:=true}::r) hc' (hh'.2 g1) ⟨jK o,r.map jK++[jA p],by rw[ae,hs];rfl,?_,?_⟩ (λg=>absurd g hne) ⟨hw'.1,hw'.2⟩ ⟨rfl,g2⟩ (by rw[ah,hs];rfl) hroot
   ·show((o.cur.toNat:Nat):Int)=o.cur;omega
   show _=jK {o with has:=true}::(r.map jK++[jA {p with root:=true}])
   have:jA {p with root:=true}=jA p:=by unfold jA;rw[hroot]
   rw[this];rfl
  dsimp only;have h2:=sw en;by_cases heq:o.fG=en.fG
  ·rw[eY heq,eY heq];by_cases hkd:o.kind=kindOf en
   ·rw[eY hkd,eY hkd];exact two o r hc' hh'.1 hw' hne
   rw[eX hkd,eX hkd];have hko:=hw'.1.2.1;by_cases h3:kindOf en=3
   ·rw[eY h3,eY h3];by_cases aa:o.has=true
    ·rw[eY aa,eY aa];exact bad 5 (by omega)
    rw[eX aa,eX aa];exact hf (by simpa using aa) (.inr ⟨heq,h3,by omega⟩)
   rw[eX h3,eX h3];cases r with
   |nil=>exact bad 5 (by omega)
   |cons o2 r2=>
    dsimp only;by_cases hc2:o2.fG=en.fG/\o2.kind=5
    ·rw[eY hc2,eY hc2];exact two o2 r2 hc'.2 (Ps.wW hc'.2 (lJ.outer hc' hh')).1 hw'.2 hne
    rw[eX hc2,eX hc2];exact bad 5 (by omega)
  rw[eX heq,eX heq];by_cases aa:o.has=true
  ·rw[eY aa,eY aa];exact bad 6 (by omega)
  rw[eX aa,eX aa];exact hf (by simpa using aa) (.inl (by omega))
end Pr
namespace Ps
open Ar Fl
open Rw (R E)
theorem Tx{l:List Tk}{B:Bs}{a b depth:Nat}{p:PS}{r:R}(h:xG l B a p)(hB:B.1<=a)(hab:a<b)(hb:b<=l.length)(hread:b<=p.read)(hrl:p.read<=l.length):
 xG l B (bare l (Rw.fA l) depth p r a b).read (bare l (Rw.fA l) depth p r a b)/\(bare l (Rw.fA l) depth p r a b).read<=l.length:=by
 have aa:xG l B p.read {p with s:=err l p.s (holder p) a b 7}:=(D6 h hB (fB _) hab hb (by omega) (by omega) (by omega)).le hread;obtain⟨d,hd,hc,hh⟩:=h;obtain⟨hc',hh'⟩:=lJ.drop (λo=>decide (r.fG<=o.fG)) hc hh
 have hr:bare l (Rw.fA l) depth p r a b=(match p.st.dropWhile (λo=>decide (r.fG<=o.fG))with
  |[]=>if p.root=true then{p with s:=err l p.s (holder p) a b 7}
   else
    let v:=value l (Rw.fA l) depth {p with st:=[]} p.doc a
    {v.1 with root:=v.2}
  |o::q=>if o.has=true then{p with s:=err l p.s (holder p) a b 7}
   else
    let v:=value l (Rw.fA l) depth {p with st:=o::q} o.cur a
    {v.1 with st:={o with has:=v.2}::q}):=rfl
 rw[hr];cases hdw:p.st.dropWhile (λo=>decide (r.fG<=o.fG))with
 |nil=>
  rw[hdw]at hc' hh';dsimp only;split
  ·exact⟨aa,hrl⟩
  obtain⟨m,e1,e2⟩:=hh';obtain rfl:m=d:=by omega
  obtain⟨P,hP⟩:∃P:PS,{p with st:=[]}=P:=⟨_,rfl⟩
  have hP1:P.s=p.s:=by rw[<-hP]
  have hP2:P.st=[]:=by rw[<-hP]
  have hP3:P.doc=(m:Int):=by rw[<-hP];exact hd
  rw[hP,hd];rw[<-hP1]at e2 hc';obtain⟨v1,v2,v3,v4,v5⟩:=lX (depth:=depth) (p:=P) (i:=a) (k:=m) e2 hB (fB _) (by omega);refine⟨⟨m,by rw[<-hP3];exact v1,?_,?_⟩,v3⟩
  ·dsimp only;rw[v2,hP2];exact Up.keep hc' v4
  dsimp only;rw[v2,hP2];exact⟨m,rfl,v5⟩
 |cons o q=>
  rw[hdw]at hc' hh';dsimp only;split
  ·exact⟨aa,hrl⟩
  rename_i ho;obtain⟨m,e1,e2⟩:=hh'.2 (by simpa using ho);obtain⟨⟨nd,c,k,g1,g2,g3,g4,g5⟩,g6⟩:=hc';obtain rfl:m=c:=by omega
  obtain⟨o1,o2,o3,o4,o5⟩:=o;have e1:o4=(m:Int):=e1;subst e1;obtain⟨v1,v2,v3,v4,v5⟩:=lX (depth:=depth) (p:={p with st:=⟨o1,o2,o3,(m:Int),o5⟩::q}) (i:=a) (k:=m) e2 hB (fB _) (by omega);have hch:jQ (value l (Rw.fA l) depth {p with st:=⟨o1,o2,o3,(m:Int),o5⟩::q} (m:Int) a).1.s.t d (⟨o1,o2,o3,(m:Int),(value l (Rw.fA l) depth {p with st:=⟨o1,o2,o3,(m:Int),o5⟩::q} (m:Int) a).2⟩::q):=
   jQ.keep (st:=⟨o1,o2,o3,(m:Int),(value l (Rw.fA l) depth {p with st:=⟨o1,o2,o3,(m:Int),o5⟩::q} (m:Int) a).2⟩::q) v4 ⟨⟨nd,m,k,g1,g2,g3,g4,g5⟩,g6⟩
  refine⟨⟨d,by rw[<-hd];exact v1,hch,?_⟩,v3⟩;refine wO hch ?_;show sW l B (if(value l (Rw.fA l) depth {p with st:=⟨o1,o2,o3,(m:Int),o5⟩::q} (m:Int) a).2=true then o1 else(m:Int)) _ _;split
  ·exact⟨nd,g1,EU v5 (g3.keep v4)⟩
  exact⟨m,g2,v5⟩
theorem Tz{l:List Tk}{B:Bs}{e depth:Nat}{p:PS}{r:R}(ht:Rw.kK 0 l)(h:Inv l B e p)(hr:oI l r)(h5:r.kind=5)(hB:B.1<=r.from')(he:e<=r.from')(hread:p.read=r.bu):
 Inv l B (body l (Rw.fA l) depth p r).read (body l (Rw.fA l) depth p r)/\(body l (Rw.fA l) depth p r).read<=l.length:=by
 have hlt:=hr.lt;have hle:=hr.le;have hlo:=hr.body h5;have hge:=kQ l r.from' r.bu;have hcn:=qD l hlo;obtain⟨n1,n2,n3,n4⟩:=wN ht hr h5;unfold body;dsimp only;obtain⟨a,ha⟩:=fq (lo l r.from' r.bu);rw[ha]at hlo hge hcn n1 n3⊢;obtain⟨b,hb⟩:=fq (back l r.bu a);have hbl:=iV l r.bu a;have hbg:=oV l r.bu a a (fB _) hlo hcn;rw[hb]at n1 hbl hbg⊢;obtain⟨o1,o2⟩:=uh h (i:=a) (by omega) (by omega);obtain⟨p1,hp1⟩:=fq (jW p a);rw[hp1]at o1 o2⊢;obtain⟨es,hes⟩:=fq (Rw.iP l r);rw[hes]at n1 n2 n3 n4⊢;split
 ·obtain⟨g1,g2⟩:=Tx (r:=r) (depth:=depth) o1 (by omega) hbg (by omega) (by omega) (by omega);exact⟨.inr g1,g2⟩
 rename_i hne;obtain⟨e',k1,k2,k3,k4,k5⟩:=yt (depth:=depth) (b:=b) (by omega) es.1 a p1 (holder p1) o1 (by omega) rfl n1 (by omega);obtain⟨q,hq⟩:=fq (places l depth b p1 (holder p1) es.1);rw[hq]at k3 k4 k5⊢;have ae:q.2.read=r.bu:=by rw[k4,o2,hread]
 have stay:Inv l B q.2.read q.2/\q.2.read<=l.length:=⟨.inr (k3.le (by omega)),by omega⟩
 split
 ·rename_i hall;split
  ·rename_i hx;obtain⟨_,m1,m2⟩:=k5 hall;obtain⟨t,k,m3,m4⟩:=m2 hne;have hlast:∃z,es.1.getLast?=some z:=by
    cases hz:es.1.getLast? with
    |none=>rw[Vo]at hz;exact absurd hz hne
    |some z=>exact⟨z,rfl⟩
   obtain⟨z,hz⟩:=hlast;have hrest:es.2=e':=by rw[n2 z hz,m1 z hz]
   have hxg:=kQ l es.2 r.bu;have hxb:=iV l r.bu (lo l es.2 r.bu);obtain⟨d,d1,d2,d3⟩:=k3;obtain⟨x,aa⟩:=fq (lo l es.2 r.bu);rw[aa]at hx hxg hxb⊢;rw[m3]at d2 d3⊢;dsimp only;obtain⟨m,e1,e2⟩:=d3.2 m4;obtain⟨⟨nd,c,kk,g1,g2,g3,g4,g5⟩,g6⟩:=d2;obtain rfl:m=c:=by omega
   obtain⟨o1,o2,o3,o4,o5⟩:=t;have e1:o4=(m:Int):=e1;subst e1;obtain⟨v1,v2,v3,v4,v5⟩:=lX (depth:=depth) (p:=q.2) (i:=x) (k:=m) e2 (by omega) (by omega) (by omega);have hch:jQ (value l (Rw.fA l) depth q.2 (m:Int) x).1.s.t d (⟨o1,o2,o3,(m:Int),(value l (Rw.fA l) depth q.2 (m:Int) x).2⟩::k):=
    jQ.keep (st:=⟨o1,o2,o3,(m:Int),(value l (Rw.fA l) depth q.2 (m:Int) x).2⟩::k) v4 ⟨⟨nd,m,kk,g1,g2,g3,g4,g5⟩,g6⟩
   refine⟨.inr ⟨d,by rw[<-d1];exact v1,hch,wO hch ?_⟩,v3⟩;show sW l B (if(value l (Rw.fA l) depth q.2 (m:Int) x).2=true then o1 else(m:Int)) _ _;split
   ·exact⟨nd,g1,EU v5 (g3.keep v4)⟩
   exact⟨m,g2,v5⟩
  exact stay
 exact stay
theorem Ir{l:List Tk}{B:Bs}{depth:Nat}{p:PS}{r:R}(ht:Rw.kK 0 l)(h:Inv l B p.read p)(hr:oI l r)(hB:B.1<=r.from')(he:p.read<=r.from'):
 Inv l B (row l (Rw.fA l) depth p r).read (row l (Rw.fA l) depth p r)/\(row l (Rw.fA l) depth p r).read<=l.length:=by
 have hlt:=hr.lt;have hle:=hr.le;have h0:Inv l B p.read {p with read:=r.bu}:=h;unfold row;dsimp only;split
 ·rename_i h4;exact Tj h0 hr h4 hB he rfl
 split
 ·rename_i h5;exact Tz ht h0 hr h5 hB he rfl
 split
 ·split
  ·rename_i hab;have hge:=kQ l r.from' r.bu;have hbl:=iV l r.bu (lo l r.from' r.bu);obtain⟨o1,o2⟩:=uh h0 (i:=lo l r.from' r.bu) (by omega) (by omega);have:=D6 (code:=8) o1 (by omega) (fB _) hab (by omega) (by omega) (by omega) (by omega);have e2:(jW {p with read:=r.bu} (lo l r.from' r.bu)).read=r.bu:=o2;refine⟨.inr (this.le ?_),?_⟩
   ·show back l r.bu (lo l r.from' r.bu)<=(jW {p with read:=r.bu} (lo l r.from' r.bu)).read;omega
   show(jW {p with read:=r.bu} (lo l r.from' r.bu)).read<=_;omega
  exact⟨h0.le (by show p.read<=r.bu;omega),hle⟩
 exact⟨h0.le (by show p.read<=r.bu;omega),hle⟩
theorem Aj{l:List Tk}{B:Bs}{depth:Nat}(ht:Rw.kK 0 l):∀(rs:List R)(p:PS),(∀r∈rs,oI l r/\B.1<=r.from')->Inv l B p.read p->p.read<=l.length->
 Inv l B (jP l (Rw.fA l) depth p rs).read (jP l (Rw.fA l) depth p rs)/\(jP l (Rw.fA l) depth p rs).read<=l.length
 |[],p=>λ_ h hl=>⟨h,hl⟩
 |r::rs,p=>λhrs h hl=>by
  rw[jP];by_cases hr:p.read<=r.from'
  ·rw[eY hr];obtain⟨h1,h2⟩:=Ir (depth:=depth) ht h (hrs r (by simp)).1 (hrs r (by simp)).2 hr;exact Aj ht rs _ (λx hx=>hrs x (by simp[hx])) h1 h2
  rw[eX hr];exact Aj ht rs p (λx hx=>hrs x (by simp[hx])) h hl
theorem ui(l:List Tk)(hl:l.length<=32768):Inv l (0,(start l).s) (start l).read (start l):=by
 refine .inl ⟨rfl,rfl,?_⟩;have hn:gV (l.length:Int)=[⟨1,0,l.length,-1,[],false⟩]:=by unfold gV;rw[eX (by omega)]
 have hx:∀(i:Nat)(x:Nd),(gV (l.length:Int))[i]?=some x->x.k=1:=by
  intro i x hx;rw[hn]at hx;cases i with
  |zero=>
   have hx:(⟨1,0,l.length,-1,[],false⟩:Nd)=x:=by simpa using hx
   subst hx;rfl
  |succ i=>simp at hx
 exact Fe.Ok.start (NI _ (by omega) (by omega)) (Fy _ _ (by omega) (by omega) (by show(0:Int)<=((0:Nat):Int);omega)) (λi x h hk=>by have:=hx i x h;omega) (λx h=>by have:=hx 0 x h;omega)
theorem J2(l:List Tk)(depth:Nat)(ht:Rw.kK 0 l)(hl:l.length<=32768):
 Ck (read l depth).t l.length/\Fe.Lf (read l depth).t/\(∀g,Fe.errs l (read l depth).t g=Fe.told (read l depth).d g)/\(∀x∈(read l depth).d,Fe.W l 0 l.length x):=by
 have h:=(Aj (depth:=depth) ht (Rw.fA l) (start l) (λr hr=>⟨rows_ok l r hr,ic _⟩) (ui l hl) (ic _)).1.root;unfold read;refine⟨h.ck,h.lf,λg=>?_,?_⟩
 ·have ht:Fe.errs l _ g+Fe.told (start l).s.d g=Fe.errs l (start l).s.t g+Fe.told _ g:=h.tells g;have h0:Fe.told (start l).s.d g=0:=rfl;have h1:Fe.errs l (start l).s.t g=0:=by
   show Fe.errs l (gV (l.length:Int)) g=0;unfold gV Fe.errs;rw[yH,BA];rfl
  omega
 obtain⟨ds,h1,h2⟩:=h.KY;rw[h1];exact λx hx=>h2 x (by simpa [start]using hx)
end Ps
namespace Pr
open Ar Fl
open Rw (R E)
open Ps (lo PS kindOf OK sW Bs jQ lJ xG holder outer oI)
structure Q6(l:List Tk):Prop where
 first:∀r∈Rw.fA l,(r.kind=4↔(raw l r.from'=20\/raw l r.from'=21))
 mark:∀r∈Rw.fA l,∀j,r.from'<j->j<r.bu->raw l j≠20/\raw l j≠21
 idle:∀r∈Rw.fA l,∀a,r.from'<a->lo l a r.bu<r.bu->∀j,a<=j->j<lo l a r.bu->raw l j=3
 tail:∀r∈Rw.fA l,r.bu<l.length->raw l (r.bu-1)=1\/raw l (r.bu-1)=19
structure YD(l:List Tk):Prop where
 zero:∀r,(Rw.fA l)[0]?=some r->r.from'=0
 next:∀(i:Nat) r r',(Rw.fA l)[i]?=some r->(Rw.fA l)[i+1]?=some r'->r'.from'=r.bu
 last:∀(i:Nat) r,(Rw.fA l)[i]?=some r->i+1=(Rw.fA l).length->r.bu=l.length
theorem FV(l:List Tk):∀(n op fr:Nat),l.length-fr<=n->fr<=l.length->(∀r,(Rw.lF op fr (l.drop fr))[0]?=some r->r.from'=fr)/\
 (∀(i:Nat) r r',(Rw.lF op fr (l.drop fr))[i]?=some r->(Rw.lF op fr (l.drop fr))[i+1]?=some r'->r'.from'=r.bu)/\
 (∀(i:Nat) r,(Rw.lF op fr (l.drop fr))[i]?=some r->i+1=(Rw.lF op fr (l.drop fr)).length->r.bu=l.length)/\(Rw.lF op fr (l.drop fr)=[]->fr=l.length)
 |0,op,fr=>λh hf=>by
  rw[mI (by omega)];exact⟨λr h=>(by cases h),λi r r' h=>(by simp[Rw.si]at h),λi r h=>(by simp[Rw.si]at h),λ_=>by omega⟩
 |n+1,op,fr=>λh hf=>by
  by_cases hfr:fr<l.length
  ·have hne:l.drop fr≠[]:=λe=>by
    have:=congrArg List.length e;rw[iT,EL]at this;omega
   rw[Rw.qo _ _ _ hne];have hp:=Rw.ow _ hne;have hle:=Rw.wJ (l.drop fr);rw[iT]at hle;obtain⟨k,hk⟩:=fq (Rw.jy (l.drop fr));rw[hk]at hp hle⊢;rw[mQ];obtain⟨g1,g2,g3,g4⟩:=FV l n (Rw.nG op ((l.drop fr).take k)) (fr+k) (by omega) (by omega);refine⟨λr h=>?_,λi r r' h h'=>?_,λi r h h'=>?_,λh=>by cases h⟩
   ·rw[<-jl h]
   ·cases i with
    |zero=>
     rw[<-jl h];rw[KJ]at h';exact g1 r' h'
    |succ i=>
     rw[KJ]at h h';exact g2 i r r' h h'
   rw[jh]at h';cases i with
   |zero=>
    rw[<-jl h];exact g4 (oC (by omega))
   |succ i=>
    rw[KJ]at h;exact g3 i r h (by omega)
  rw[mI (by omega)];exact⟨λr h=>(by cases h),λi r r' h=>(by simp[Rw.si]at h),λi r h=>(by simp[Rw.si]at h),λ_=>by omega⟩
theorem rws(l:List Tk):YD l:=by
 obtain⟨h1,h2,h3,_⟩:=FV l l.length 0 0 (by omega) (by omega);rw[lQ]at h1 h2 h3;exact⟨h1,h2,h3⟩
theorem J3{l:List Tk}(h:YD l):∀(d i:Nat)(r r':R),(Rw.fA l)[i]?=some r->(Rw.fA l)[i+1+d]?=some r'->r.bu<=r'.from'
 |0,i,r,r'=>λh1 h2=>by rw[h.next i r r' h1 h2];exact fB _
 |d+1,i,r,r'=>λh1 h2=>by
  have hl:=(gD.1 h2).1;obtain⟨x,hx⟩:=jB (Rw.fA l) (i+1+d) (by omega);have h3:=J3 h d i r x h1 hx;have h4:=h.next (i+1+d) x r' hx h2;have h5:=(Ps.rows_ok l x (iK hx)).lt;omega
theorem vg{l:List Tk}(h:YD l){i j:Nat}{r r':R}(h1:(Rw.fA l)[i]?=some r)(h2:(Rw.fA l)[j]?=some r')(hij:i<j):r.bu<=r'.from' :=
 J3 h (j-(i+1)) i r r' h1 (by rw[show i+1+(j-(i+1))=j by omega];exact h2)
theorem nC{rs:List R}{i:Nat}{r:R}(h:rs[i]?=some r):rH rs i=r.bu:=by unfold rH;rw[h]
theorem zh{l:List Tk}{i next:Nat}{r:R}(hr:(Rw.fA l)[i]?=some r)(hn:next<=l.length):
 ∃(j:Nat)(r':R),skip (Rw.fA l) i next=j/\i<=j/\(Rw.fA l)[j]?=some r'/\next<=r'.bu/\(∀k,i<=k->k<j->rH (Rw.fA l) k<next):=by
 have hi:=(gD.1 hr).1;obtain⟨N,hN⟩:=fq ((Rw.fA l).length);rw[hN]at hi;have h1:=lD (λi=>decide (rH (Rw.fA l) i<next)) (N-i) i;have h2:=mi (λi=>decide (rH (Rw.fA l) i<next)) (N-i) i;have h3:=ku (λi=>decide (rH (Rw.fA l) i<next)) (N-i) i;have h4:=l7 (λi=>decide (rH (Rw.fA l) i<next)) (N-i) i;unfold skip;rw[hN];obtain⟨j,hj⟩:=fq (iQ (λi=>decide (rH (Rw.fA l) i<next)) (N-i) i);rw[hj]at h1 h2 h3 h4⊢;have aa:j<N:=by
  rcases kS j N with h|h
  ·exact h
  exfalso;obtain⟨x,hx⟩:=jB (Rw.fA l) (N-1) (by omega);have h5:=h4 (N-1) (by omega) (by omega);rw[nC hx,(rws l).last (N-1) x hx (by omega)]at h5;simp at h5;omega
 obtain⟨x,hx⟩:=jB (Rw.fA l) j (by omega);refine⟨j,x,rfl,h1,hx,?_,λk g1 g2=>by simpa using h4 k g1 g2⟩;rcases h3 with h3|h3
 ·omega
 rw[nC hx]at h3
 simpa using h3
theorem FW{l:List Tk}{j next:Nat}{r:R}{none':Bool}(hr:(Rw.fA l)[j]?=some r)(h1:(decide (r.bu<next)||(none' &&r.bu==next))=false)(h2:∀k x,k<j->(Rw.fA l)[k]?=some x->(decide (x.bu<next)||(none' &&x.bu==next))=true):Ps.tF (Rw.fA l) next none'=r.bu:=by
 obtain⟨hj,hr'⟩:=gD.1 hr;have e:(Rw.fA l).find? (λr=>!(decide (r.bu<next)||(none' &&r.bu==next)))=some r:=by
  rw[List.find?_eq_some_iff_getElem];refine⟨by rw[h1];rfl,j,hj,hr',λk hk=>?_⟩;rw[h2 k _ hk (mR (by omega))];rfl
 unfold Ps.tF;rw[e]
theorem uO{l:List Tk}{a b:Nat}(h:a<=b)(hb:b<=l.length)(hm:∀j,a<=j->j<b->raw l j≠20/\raw l j≠21):Ps.limit l a=Ps.limit l b:=by
 unfold Ps.limit;exact Ol _ h hb (λj g1 g2=>by have:=hm j g1 g2;simp[this])
theorem DC(l:List Tk){i:Nat}(hi:i<=l.length):i<=Ps.limit l i/\Ps.limit l i<=l.length:=by
 have h1:=lD (λj=>raw l j !=20&&raw l j !=21) (l.length-i) i;have h2:=mi (λj=>raw l j !=20&&raw l j !=21) (l.length-i) i;unfold Ps.limit;omega
theorem Wq(l:List Tk){i j:Nat}(h1:i<=j)(h2:j<Ps.limit l i):raw l j≠20/\raw l j≠21:=by
 have:=l7 (λj=>raw l j !=20&&raw l j !=21) (l.length-i) i j h1 h2
 simpa using this
theorem LX{l:List Tk}{e d a x:Nat}{up:Int}{s:St}(hax:a<=x)(hxe:x<=e)(hb:∀j,a<=j->j<x->raw l j=3):
 jd l e d up a s=jd l e d up x s\/(jd l e d up a s=(-1,a,s)/\jd l e d up x s=(-1,x,s)):=by
 have hbl:blanks l e a=blanks l e x:=by
  unfold blanks;exact Ol _ hax hxe (λj g1 g2=>by simp[hb j g1 g2])
 have hf:e-blanks l e a=e-blanks l e x:=by rw[hbl]
 have key:∀fG,pV l e fG up a s=pV l e fG up x s\/(pV l e fG up a s=(-1,a,s)/\pV l e fG up x s=(-1,x,s)):=by
  intro fG;unfold pV;rw[hbl];dsimp only;obtain⟨o,ho⟩:=fq (lead l e (e-blanks l e x) none (blanks l e x));rw[ho];obtain⟨o,i⟩:=o;dsimp only;by_cases h1:kd l e i=13
  ·left;rw[eY h1,eY h1]
  rw[eX h1,eX h1];by_cases h2:ig (kd l e i)=true
  ·left;rw[eY h2,eY h2]
  rw[eX h2,eX h2];by_cases h3:kd l e i=18
  ·left;rw[eY h3,eY h3]
  rw[eX h3,eX h3];by_cases h4:opens (kd l e i)=true
  ·left;rw[eY h4,eY h4]
  rw[eX h4,eX h4];cases o with
  |some y=>left;rfl
  |none=>right;exact⟨rfl,rfl⟩
 cases d with
 |zero=>exact key none
 |succ d=>exact key _
theorem PZ{l:List Tk}{e d a b:Nat}{up:Int}{s:St}(hae:a<=e)(hel:e<=l.length)(hab:a<=b)(hn:∀j,a<=j->j<b->cnt (raw l j)=false)(hend:b=l.length\/(a<b/\raw l (b-1)=1)):
 jd l e d up a s=(-1,a,s):=by
 obtain⟨j,hj⟩:=fq (blanks l e a);have h1:=lD (λj=>raw l j==3) (e-a) a;have h2:=mi (λj=>raw l j==3) (e-a) a;have h3:=l7 (λj=>raw l j==3) (e-a) a;unfold blanks at hj;rw[hj]at h1 h2 h3;have hk:kd l e j=0\/(kd l e j=raw l j/\cnt (raw l j)=false):=by
  unfold kd;by_cases hc:e<=j\/raw l j=20\/raw l j=21
  ·left;rw[eY hc]
  rw[eX hc];right;refine⟨rfl,hn j h1 ?_⟩;rcases hend with hb|⟨hb1,hb2⟩
  ·omega
  rcases kS j b with h|h
  ·exact h
  have:=h3 (b-1) (by omega) (by omega);rw[hb2]at this;cases this
 have hcases:kd l e j=0\/kd l e j=1\/kd l e j=2\/kd l e j=3\/kd l e j=4:=by
  rcases hk with hk|⟨hk,hc⟩
  ·exact .inl hk
  rw[hk];unfold cnt at hc;simp at hc;omega
 have hp:gW (kd l e j)=false:=by rcases hcases with h|h|h|h|h<;>rw[h]<;>rfl
 have hs:ig (kd l e j)=false:=by rcases hcases with h|h|h|h|h<;>rw[h]<;>rfl
 have ho:opens (kd l e j)=false:=by rcases hcases with h|h|h|h|h<;>rw[h]<;>rfl
 have hl:=Ae (l:=l) (e:=e) (i:=j) (f:=e-j) hp;have key:∀fG,pV l e fG up a s=(-1,a,s):=by
  intro fG;unfold pV;have hb:blanks l e a=j:=hj;rw[hb,hl];dsimp only;rw[eX (by omega),eX (by rw[hs];simp),eX (by omega),eX (by rw[ho];simp)]
 cases d with
 |zero=>exact key none
 |succ d=>exact key _
theorem HS.le{up:Nat}{v v':Int}{a b:List Nd}(h:HS up v a b)(hv:v<=v'):HS up v' a b:=⟨h.len,λz hz=>h.eq z (by omega)⟩
structure Read(l:List Tk)(q q':QS)(p':PS)(full:Bool)(hd:Lv)(tl:List Lv):Prop where
 s:q'.s=p'.s
 st:q'.st={hd with full:=full}::tl
 en:q'.en=q.en
 row:q.row<=q'.row/\∃r',(Rw.fA l)[q'.row]?=some r'/\r'.bu=p'.read
 lim:Ps.limit l p'.read=q.en
theorem Ws{s:St}{t:List Nd}{d:List Dg}(h1:t=s.t)(h2:d=s.d):(⟨t,d⟩:St)=s:=by cases s;subst h1 h2;rfl
theorem Ak{l:List Tk}{B:Bs}{up e a b:Nat}{s:St}{t:List Nd}(h:OK l B up e s)(hs:∀z,((lo l a b+1:Nat):Int)<=z->hold t up z=hold s.t up z)(ht:b<=lo l a b->t=s.t)(he:e<=lo l a b)(hab:a<=b)(hb:b<=l.length):
 fault l ⟨t,s.d⟩ up 8 a b=Ps.rO l s up (lo l a b) (back l b (lo l a b)) 8:=by
 have hge:=Ps.kQ l a b;unfold fault Ps.rO;dsimp only;by_cases hlt:lo l a b<b
 ·have hcn:=Ps.qD l hlt;have hbg:=Ps.oV l b (lo l a b) (lo l a b) (fB _) hlt hcn;have hbl:=iV l b (lo l a b);rw[eY hlt,eY hbg,JO h (by omega) (by omega) (by omega)];unfold add;rw[hs _ (by omega)]
 have hle:=Ps.lo_le l hab;have e1:lo l a b=b:=by omega
 have hbl:=iV l b (lo l a b);rw[eX hlt,eX (by omega)];exact Ws (ht (by omega)) rfl
theorem wQ{l:List Tk}{x b:Nat}(h:cnt (raw l x)=true)(hx:x<=b):lo l x b=x:=by
 unfold Ps.lo;exact xV _ _ _ _ (fB _) (by omega) (λj a b=>by omega) (.inr (by rw[h];rfl))
theorem Cz{rs:List R}{i next:Nat}(h:next<=rH rs i):skip rs i next=i:=by
 unfold skip;exact xV _ _ _ _ (fB _) (by omega) (λj a b=>by omega) (.inr (by simp;omega))
theorem sD{l:List Tk}{B:Bs}{k:Nat}{r:R}{i a x depth:Nat}{q:QS}{p:PS}{hd:Lv}{tl:List Lv}(hS:Q6 l)(hrow:(Rw.fA l)[q.row]?=some r)(hl:l.length<=32768)
 (hst:q.st=hd::tl) (ah:hd.cur=k) (hfull:hd.full=false) (htl:tl.length=p.st.length) (hd1:q.s.d=p.s.d) (hs:HS k ((i+1:Nat):Int) q.s.t p.s.t) (hok:OK l B k i p.s) (hB:B.1<=i)
 (hen:q.en=Ps.limit l x) (hra:r.from'<=a) (hax:lo l a r.bu=x) (ai:x<r.bu) (hix:i<=x) (hbl:∀j,a<=j->j<x->raw l j=3) (hmk:∀j,a<=j->j<r.bu->raw l j≠20/\raw l j≠21):
 Read l q (value l (Rw.fA l) depth q a) (Ps.value l (Rw.fA l) depth p k x).1 (Ps.value l (Rw.fA l) depth p k x).2 hd tl:=by
 subst ah;have hro:=Ps.rows_ok l r (iK hrow);have ae:=hro.le;have af:=Ps.kQ l a r.bu;have hcn:=Ps.qD l (a:=a) (b:=r.bu) (by rw[hax];exact ai);rw[hax]at af hcn;have hxs:=wQ hcn (nX ai);have hlim:=DC l (i:=x) (by omega);have hval:=PO (l:=l) (n:=l.length) (e:=Ps.limit l x) (dd:=depth-p.st.length) (i:=x) (up:=hd.cur) (s:=p.s) hok.ck (hok.fits.le (by omega) (by omega)) hlim.1 hlim.2 hl;have hva:=Fe.zg l (Ps.limit l x) l.length (by omega) (depth-p.st.length) hd.cur x p.s i hok.ck (hok.fits.le (by omega) (jq _)) hok.lf hok.no (by omega) hlim.1;have hbv:=LX (l:=l) (e:=Ps.limit l x) (d:=depth-p.st.length) (a:=a) (x:=x) (up:=0) (s:=⟨gV l.length,[]⟩) af hlim.1 hbl;have hbef:∀(j:Nat)(y:R),j<q.row->(Rw.fA l)[j]?=some y->y.bu<=r.from':=λj y g1 g2=>vg (rws l) g2 hrow g1
 unfold value;rw[hst];dsimp only;rw[hen,htl];unfold Ps.value;dsimp only;rcases hval with⟨v1,v2⟩|⟨next,s',v,vq,V,v1,v2,v3,v4,v5,v6,v7,v8⟩
 ·obtain⟨n0,hn0,hv0⟩:∃n0,(n0=a\/n0=x)/\jd l (Ps.limit l x) (depth-p.st.length) 0 a ⟨gV l.length,[]⟩=(-1,n0,⟨gV l.length,[]⟩):=by
   rcases hbv with h|⟨h,_⟩
   ·exact⟨x,.inr rfl,by rw[h,v2]⟩
   exact⟨a,.inl rfl,h⟩
  have aj:lo l n0 r.bu=x:=by rcases hn0 with rfl|rfl<;>assumption
  have ag:n0<=r.bu:=by rcases hn0 with rfl|rfl<;>omega
  rw[hv0,v1];dsimp only;rw[Cz (by rw[nC hrow];exact ag),nC hrow,eY (by omega:((-1:Int)<0)),show decide ((-1:Int)<0)=true from rfl,show decide (0<=(-1:Int))=false from rfl];have hto:Ps.tF (Rw.fA l) x true=r.bu:=FW hrow (by simp;omega) (λj y g1 g2=>by have:=hbef j y g1 g2;simp;omega);unfold Ps.rest;dsimp only;rw[hto,hxs];refine⟨?_,by dsimp only;rw[eY rfl,hfull],hen.symm,⟨fB _,r,hrow,rfl⟩,?_⟩
  ·dsimp only;rw[eY rfl,mP,hd1,<-aj];exact Ak hok (λz hz=>hs.eq z (by omega)) (λh=>by omega) (by omega) ag ae
  dsimp only;rw[hen];exact(uO (by omega) ae (λj g1 g2=>hmk j (by omega) g2)).symm
 have hv0:jd l (Ps.limit l x) (depth-p.st.length) 0 a ⟨gV l.length,[]⟩=(1,next,V):=by
  rcases hbv with h|⟨_,h⟩
  ·rw[h,v2]
  rw[v2]at h;have:=congrArg Prod.fst h;dsimp only at this;omega
 have hok':OK l B hd.cur next s':=by
  rcases hva with⟨w1,_⟩|⟨next',ak,w1,w2,w3,_,w5⟩
  ·rw[v1]at w1;have:=congrArg Prod.fst w1;dsimp only at this;omega
  rw[v1]at w1;obtain⟨_,w1⟩:=EP w1;obtain⟨rfl,rfl⟩:=EP w1;exact hok.trans (w5.low (by omega))
 obtain⟨j,r',s1,s2,s3,s4,s5⟩:=zh hrow (next:=next) (by omega);have aa:=(Ps.rows_ok l r' (iK s3)).le;have hfr:r'.from'<next:=by
  by_cases e:q.row=j
  ·subst e;rw[hrow]at s3;obtain rfl:=jl s3;omega
  obtain⟨y,hy⟩:=jB (Rw.fA l) (j-1) (by have:=(gD.1 s3).1;omega);have h1:=s5 (j-1) (by omega) (by omega);rw[nC hy]at h1;rw[(rws l).next (j-1) y r' hy (by rw[show j-1+1=j by omega];exact s3)];exact h1
 rw[hv0,v1];dsimp only;rw[s1,nC s3,eX (by omega:¬(((p.s.t.length:Nat):Int)<0)),show decide (((p.s.t.length:Nat):Int)<0)=false from jE (by omega),show decide (0<=((p.s.t.length:Nat):Int))=true from lI (by omega),Vw (by omega)]
 have hto:Ps.tF (Rw.fA l) next false=r'.bu:=FW s3 (by simp;omega) (λi y g1 g2=>by
  have:y.bu<next:=by
   rcases kS i q.row with h|h
   ·have:=hbef i y h g2;omega
   have:=s5 i h g1;rw[nC g2]at this;exact this
  simp;omega)
 unfold Ps.rest;dsimp only;rw[hto,eX (by omega:¬((1:Int)=-1)),eX (by omega:¬((1:Int)=-1)),show((1:Int)).toNat=1 from rfl,v5,v8 hd.cur q.s.t (hs.le (by omega)) rfl,<-v6,hd1,<-v7];refine⟨?_,rfl,hen.symm,⟨s2,r',s3,rfl⟩,?_⟩
 ·exact Ak hok' (λz hz=>rfl) (λh=>rfl) (Ps.kQ l next r'.bu) s4 aa
 dsimp only;rw[hen];refine(uO (by omega) aa (λm g1 g2=>?_)).symm;rcases kS m next with h|h
 ·exact Wq l g1 (by omega)
 exact hS.mark r' (iK s3) m (by omega) g2
theorem Bd{l:List Tk}{r:R}{a depth:Nat}{q:QS}{hd:Lv}{tl:List Lv}(hS:Q6 l)(hrow:(Rw.fA l)[q.row]?=some r)(hst:q.st=hd::tl)(hen:q.en=Ps.limit l a)(hal:a<=r.bu)(hlo:lo l a r.bu=r.bu)(hlast:a<r.bu\/r.bu=l.length):
 value l (Rw.fA l) depth q a=q:=by
 have hro:=Ps.rows_ok l r (iK hrow);have aa:=hro.le;have hlim:=DC l (i:=a) (by omega);have hno:∀j,a<=j->j<r.bu->cnt (raw l j)=false:=λj g1 g2=>by
  have h:=l7 (λj=>!cnt (raw l j)) (r.bu-a) a j g1 (by unfold Ps.lo at hlo;omega)
  simpa using h
 have hv:=PZ (l:=l) (e:=Ps.limit l a) (d:=depth-tl.length) (a:=a) (b:=r.bu) (up:=0) (s:=⟨gV l.length,[]⟩) hlim.1 hlim.2 hal hno (by
  rcases hlast with h|h
  ·by_cases e:r.bu=l.length
   ·exact .inl e
   right;refine⟨h,?_⟩;rcases hS.tail r (iK hrow) (by omega)with g|g
   ·exact g
   have:=hno (r.bu-1) (by omega) (by omega);rw[g]at this;cases this
  exact .inl h)
 unfold value;rw[hst];dsimp only;rw[hen,hv];dsimp only;rw[Cz (by rw[nC hrow];exact hal),nC hrow,eY rfl,eY rfl,mP];unfold fault;dsimp only;rw[hlo,eX (sO _),<-hen,<-hst]
end Pr
namespace Ps
open Ar Fl
theorem Nq{l:List Nd}{n:Int}(h:Ck l n){c i:Nat}(ho:On l c i):∀(x y:Nd),l[c]?=some x->l[i]?=some y->y.f<=x.f/\x.t<=y.t:=by
 induction ho with
 |self=>intro x y hx hy;rw[hx]at hy;injection hy with hy;subst hy;omega
 |out d q i w hd hq h00 ho ih=>
  intro x y hx hy;rw[hd]at hx;injection hx with hx;subst hx
  have aa:=h.up d w h00 hd;obtain⟨z,hz⟩:=jB l q (by have:=(gD.1 hd).1;omega);have hm:=Fe.wL h hd hq h00 hz;obtain⟨j,w',hj,_,hw',_,g1,g2,g3⟩:=h.kid q z hz _ hm;obtain rfl:j=d:=by omega
  rw[hd]at hw';injection hw' with hw';subst hw'
  have g3:=g3.elim id False.elim;have:=ih z y hz hy;omega
theorem J4{l:List Nd}{c i:Nat}(ho:On l c i):c=i\/∃q w,On l c q/\l[q]?=some w/\w.u=(i:Int)/\0<q:=by
 induction ho with
 |self=>exact .inl rfl
 |out d q i w hd hq h00 ho ih=>
  rcases ih with rfl|⟨q',w',g1,g2,g3,g4⟩
  ·exact .inr ⟨d,w,.self _,hd,hq,h00⟩
  exact .inr ⟨q',w',.out d q q' w hd hq h00 g1,g2,g3,g4⟩
theorem P4{α:Type}{P:α->α->Prop}{l:List α}(h:l.Pairwise P){a b:α}(ha:a∈l)(hb:b∈l)(hab:a≠b):P a b\/P b a:=by
 induction l with
 |nil=>cases ha
 |cons x r ih=>
  rw[zF]at h;rcases l5.1 ha with rfl|ha2
  ·rcases l5.1 hb with rfl|hb2
   ·exact absurd rfl hab
   exact .inl (h.1 b hb2)
  rcases l5.1 hb with rfl|hb2
  ·exact .inr (h.1 a ha2)
  exact ih h.2 ha2 hb2
theorem apart{l:List Nd}{n:Int}(h:Ck l n):∀(m i j:Nat)(x y:Nd),i+j<=m->i<j->l[i]?=some x->l[j]?=some y->¬On l i j->¬On l j i->x.t<=y.f\/y.t<=x.f
 |0,i,j,x,y=>λh1 h2=>by omega
 |m+1,i,j,x,y=>λh1 h2 hx hy hij hji=>by
  have hu:=h.up j y (by omega) hy;obtain⟨p,hp⟩:∃p:Nat,y.u=(p:Int):=⟨y.u.toNat,by omega⟩
  have hjl:=(gD.1 hy).1;obtain⟨z,hz⟩:=jB l p (by omega);have hjp:On l j p:=.out j p p y hy hp (by omega) (.self _);have hin:=Nq h hjp y z hy hz;have hpi:¬On l p i:=λho=>hji (.out j p i y hy hp (by omega) ho)
  have hne:p≠i:=λe=>hpi (by rw[e];exact .self _)
  by_cases aa:On l i p
  ·rcases J4 aa with e|⟨q,w,g1,g2,g3,g4⟩
   ·exact absurd e.symm hne
   have hqj:q≠j:=λe=>hij (by rw[<-e];exact g1)
   have k1:=Fe.wL h g2 g3 g4 hz;have k2:=Fe.wL h hy hp (by omega) hz;have ae:=Nq h g1 x w hx g2;rcases P4 (h.ord p z hz) k1 k2 (by omega)with hA|hA
   ·have:=hA.2 w y (by rw[jk];exact g2) (by rw[jk];exact hy);left;omega
   have:=hA.2 y w (by rw[jk];exact hy) (by rw[jk];exact g2);right;omega
  rcases Hw i p with hlt|heq|hgt
  ·rcases apart h m i p x z (by omega) hlt hx hz aa hpi with g|g
   ·left;omega
   right;omega
  ·exact absurd heq.symm hne
  rcases apart h m p i z x (by omega) hgt hz hx hpi aa with g|g
  ·right;omega
  left;omega
theorem UX{l:List Nd}{n:Int}(h:Ck l n)(hl:Fe.Lf l){i j:Nat}{y:Nd}(hy:l[j]?=some y)(hk:y.k=11)(hij:i≠j):¬On l i j:=by
 intro ho;rcases J4 ho with e|⟨q,w,g1,g2,g3,g4⟩
 ·exact hij e
 have:=Fe.wL h g2 g3 g4 hy;rw[(hl j y hy hk).1]at this;cases this
theorem Jb{l:List Nd}{n:Int}(h:Ck l n)(hl:Fe.Lf l){i j:Nat}{x y:Nd}(hij:i≠j)(hx:l[i]?=some x)(hy:l[j]?=some y)(hxk:x.k=11)(hyk:y.k=11):x.f<y.f\/y.f<x.f:=by
 have h1:=UX h hl hy hyk hij;have h2:=UX h hl hx hxk (λe=>hij e.symm);have hx1:=(hl i x hx hxk).2;have hy1:=(hl j y hy hyk).2;rcases kS i j with hlt|hge
 ·rcases apart h _ i j x y (fB _) hlt hx hy h1 h2 with g|g
  ·left;omega
  right;omega
 rcases apart h _ j i y x (fB _) (by omega) hy hx h2 h1 with g|g
 ·right;omega
 left;omega
theorem count_one{α:Type}(p:α->Bool):∀(l:List α)(i:Nat)(x:α),l[i]?=some x->p x=true->(∀j y,l[j]?=some y->p y=true->j=i)->l.countP p=1
 |[],i,x=>λh=>by simp at h
 |a::r,0,x=>λh hp hu=>by
  have h:a=x:=by simpa using h
  subst h;rw[yH,eY hp];have:r.countP p=0:=by
   rw[Xv];intro y hy hpy;obtain⟨j,hj⟩:=lh hy;have:=hu (j+1) y (by simpa using hj) hpy;omega
  omega
 |a::r,i+1,x=>λh hp hu=>by
  rw[yH,eX (λha=>by have:=hu 0 a rfl ha;omega)];have:=count_one p r i x (by simpa using h) hp (λj y hj hpy=>by have:=hu (j+1) y (by simpa using hj) hpy;omega);omega
theorem Oq{l:List Tk}(ht:Rw.kK 0 l){a b:Nat}(h1:a<b)(h2:b<l.length):mM l a<mM l b:=by
 have ha:l[a]?=some l[a]:=mR (by omega);have hb:l[b]?=some l[b]:=mR h2;have g1:=ht.lt a b _ _ h1 ha hb;have g2:=(ht.le a _ ha).2;unfold mM;rw[ha,hb];dsimp only;omega
theorem UY{l:List Nd}{n:Int}(h:Ck l n){i:Nat}{x:Nd}(hx:l[i]?=some x):0<=x.f/\x.t<=n:=by
 obtain⟨z,h0,h1,h2,h3⟩:=h.zero;have key:∀i x,l[i]?=some x->On l i 0:=by
  intro i
  induction i using Nat.strongRecOn with
  |ind i ih=>
   intro x hx;rcases uB i with rfl|hi
   ·exact .self _
   have hu:=h.up i x hi hx;have hl:=(gD.1 hx).1;obtain⟨y,hy⟩:=jB l x.u.toNat (by omega);exact .out i x.u.toNat 0 x hx (by omega) hi (ih _ (by omega) y hy)
 have:=Nq h (key i x hx) x z hx h0;omega
theorem P5{tk:List Tk}{l:List Nd}(ht:Rw.kK 0 tk)(h:Ck l tk.length)(hl:Fe.Lf l){i:Nat}{x:Nd}(hx:l[i]?=some x)(hk:x.k=11):
 Fe.errs tk l (mM tk x.f.toNat,too tk (x.t-1).toNat)=1:=by
 unfold Fe.errs;refine count_one _ l i x hx (by simp[hk]) (λj y hy hp=>?_);simp at hp;by_cases hij:i=j
 ·exact hij.symm
 exfalso;have hx1:=(hl i x hx hk).2;have hy1:=(hl j y hy hp.1).2;have bx:=UY h hx;have bY:=UY h hy;rcases Jb h hl hij hx hy hk hp.1 with g|g
 ·have:=Oq ht (a:=x.f.toNat) (b:=y.f.toNat) (by omega) (by omega);omega
 have:=Oq ht (a:=y.f.toNat) (b:=x.f.toNat) (by omega) (by omega);omega
end Ps
end Go.Proofs.YtmkkdjpebbdikaaGreatDoor

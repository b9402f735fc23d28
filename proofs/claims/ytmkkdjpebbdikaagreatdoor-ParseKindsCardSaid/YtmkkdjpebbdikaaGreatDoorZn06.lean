import Derived.Test.YtmkkdjpebbdikaaGreatDoorZn03
set_option linter.all false
set_option maxHeartbeats 16000000
set_option maxRecDepth 100000
namespace Go.Proofs.YtmkkdjpebbdikaaGreatDoor
open Go.RowKit Tryz
namespace Fl
open Ar
theorem Fy(n:Int)(p:Int)(h0:0<=n)(h1:n<=32768)(hp:0<=p):Fits (gV n) p 0 0:=by
 have hn:gV n=[⟨1,0,n,-1,[],false⟩]:=by unfold gV;rw[eX (by omega)]
 rw[hn];refine⟨by simp,.root,λx hx=>?_⟩;have hx:(⟨1,0,n,-1,[],false⟩:Nd)=x:=by simpa using hx
 subst hx;exact⟨hp,λz hz=>by simp at hz⟩
end Fl
namespace Fl
open Ar
theorem Cm{q q':List Nd}(hl:q.length=q'.length)(h:∀(i:Nat)(x:Nd),q[i]?=some x->q'[i]?=some x):q=q':=by
 refine sN (λi=>?_);cases hx:q[i]? with
 |none=>
  have:q'[i]?=none:=by rw[wm]at hx⊢;omega
  rw[this]
 |some x=>exact(h i x hx).symm
theorem uX(q:List Nd)(up:Int)(k f t:Nat)(hu:up<q.length):(jm q up k f t)[q.length]?=some ⟨k,f,t,up,[],false⟩:=by
 rw[jm,nA _ _ _ _ _ (my q up k f hu),eY rfl]
theorem kN(q:List Nd)(up:Int)(k f t:Nat):(jm q up k f t).length=q.length+1:=by rw[jm,jw,iL]
theorem ru(q:List Nd)(up:Int)(k f t:Nat)(i:Nat)(x:Nd)(hx:q[i]?=some x):(jm q up k f t)[i]?=some {x with ks:=if(i:Int)=up then x.ks++[(q.length:Int)]else x.ks}:=by
 have hi:=(gD.1 hx).1;rw[jm,nA _ _ _ _ _ (tY q up k f i x hx),eX (show¬i=q.length by omega)]
theorem IL(q:List Nd)(n k f t:Nat)(up:Int)(hn:n<q.length)(hu:up<q.length):keyed (jm q up k f t) n=jm (keyed q n) up k f t:=by
 refine Cm (by rw[gL,kN,kN,gL]) (λi x hx=>?_);obtain⟨y,hy⟩:=oQ (gL _ _) hx;rw[mD _ n i y hy]at hx;injection hx with hx
 subst hx;have hi:=(gD.1 hy).1;rw[kN]at hi;by_cases e:i=q.length
 ·subst e;rw[uX q up k f t hu]at hy;injection hy with hy
  subst hy;have:=uX (keyed q n) up k f t (by rw[gL];exact hu);rw[gL]at this;rw[this,eX (by omega)]
 obtain⟨z,hz⟩:=jB q i (by omega);rw[ru q up k f t i z hz]at hy;injection hy with hy
 subst hy;rw[ru (keyed q n) up k f t i _ (mD q n i z hz),gL]
section
variable {l:List Tk}{e:Nat}{n:Int}{B up0:Nat}{T0:List Nd}
theorem Rel.same{q t q' t':List Nd}{c c':Int}{p p':Nat}(h:Rel B up0 T0 q t c p)(h':Rel B up0 T0 q' t' c' p')(hk:nE t t'){i:Nat}{x:Nd}(hx:q[i]?=some x):
 ∃x',q'[i]?=some x'/\x'.u=x.u/\x'.k=x.k/\x'.f=x.f:=by
 have hi:=(gD.1 hx).1;obtain⟨z,a1,a2,a3,a4,_⟩:=h.nd i x hx;obtain⟨z',b1,b2,b3,b4⟩:=hk.2 _ z a1;have hlt:=(gD.1 b1).1;obtain⟨x',hx'⟩:=jB q' i (by have:=h'.len;omega);obtain⟨z2,c1,c2,c3,c4,_⟩:=h'.nd i x' hx';rw[b1]at c1;injection c1 with c1;subst c1
 have u1:=(h.Q4 i x hx).1;have u2:=(h'.Q4 i x' hx').1;have hlo:=h.lo;have hu:(cT B up0 x'.u:Int)=(cT B up0 x.u:Int):=by omega
 refine⟨x',hx',?_,by omega,by omega⟩;unfold cT at hu;split at hu<;>split at hu<;>omega
theorem rU{s:St}{ps:fV}{c:Int}{P f t kind:Nat}{e0 b:Int}(hck:Ck s.t n)(hf:Fits s.t e0 b (cT B up0 c))(he:e0<=(f:Int))(hft:f<=t)(htn:(t:Int)<=n)(hk1:1<=kind)(hk2:kind<=11)
 (hr:Rel B up0 T0 ps.q s.t c P) (hq:c<0->ps.q.length=0/\P<=t):
 ∃r,addN s.t (cT B up0 c) kind f t=(r,(s.t.length:Int))/\r.length=s.t.length+1/\Rel B up0 T0 (jm ps.q c kind f t) r c (max P t)/\(P<=t->Rel B up0 T0 (iB ps.q c kind f) r ps.q.length t):=by
 obtain⟨y,hy⟩:=jB s.t (cT B up0 c) hf.lt;have hm:=yY (kind:=(kind:Int)) hck hf hy he (by omega) htn (by omega) (by omega);obtain⟨r,h1,h2,h3⟩:=hr.put hck.good hm hq;have:=h2.len;rw[kN]at this;have h4:=hr.len;exact⟨r,h1,by omega,h2,h3⟩
def SV(l:List Tk)(e:Nat)(n:Int)(B up0:Nat)(T0:List Nd)(val:Int->Nat->St->Int×Nat×St)(aa:Int->Nat->fV->Nat×fV):Prop:=
 ∀(c:Int)(p P:Nat)(s:St)(ps:fV)(b:Int),Ck s.t n->Fits s.t p b (cT B up0 c)->b<=p+1->p<=e->Rel B up0 T0 ps.q s.t c P->P<=p+1->(c<0->ps.q.length=0)->s.d=ps.d->
  (val (cT B up0 c) p s=(-1,p,s)/\aa c p ps=(p,ps)/\begins (kd l e p)=false)\/
  (∃(next:Nat)(s':St)(ps':fV),val (cT B up0 c) p s=((s.t.length:Int),next,s')/\aa c p ps=(next,ps')/\p<next/\next<=e/\cnt (raw l (next-1))=true/\Ok n (cT B up0 c) s next next s' /\
   Rel B up0 T0 ps'.q s'.t c next/\s'.d=ps'.d/\(∃x,ps'.q[ps.q.length]?=some x/\x.t=(next:Int)/\(p:Int)<=x.f/\x.f<=(next:Int)/\1<=x.k/\x.k<=11)/\s'.t.length+1<=s.t.length+2*(next-p)/\(begins (kd l e p)=true\/raw l p=3))
def SC(l:List Tk)(e:Nat)(n:Int)(B up0:Nat)(T0:List Nd)(fG:Int->Nat->St->Nat×St)(aa:Nat->Nat->fV->Nat×fV):Prop:=
 ∀(c op:Nat)(s:St)(ps:fV)(b:Int)(x:Nd),op<e->cnt (raw l op)=true->Ck s.t n->Fits s.t (op+1:Nat) b (B+c)->b<=(op+1:Nat)->Rel B up0 T0 ps.q s.t c (op+1)->s.d=ps.d->ps.q[c]?=some x->
  ∃(next:Nat)(s':St)(ps':fV),fG ((B+c:Nat):Int) op s=(next,s')/\aa c op ps=(next,ps')/\op<next/\next<=e/\cnt (raw l (next-1))=true/\Ok n (B+c) s next next s' /\
   Rel B up0 T0 ps'.q s'.t x.u next/\s'.d=ps'.d/\(∃y,ps'.q[c]?=some y/\y.t=(next:Int))/\s'.t.length+2<=s.t.length+2*(next-op)
theorem Ae{i f:Nat}(h:gW (kd l e i)=false):lead l e f none i=(none,i):=by
 cases f with
 |zero=>rfl
 |succ f=>rw[lead,eX (by simp[h])]
theorem JE(hn:(e:Int)<=n)(fG:Option (Int->Nat->St->Nat×St))(af:Option (Nat->Nat->fV->Nat×fV))
 (hk:(fG=none/\af=none)\/∃k pk,fG=some k/\af=some pk/\SC l e n B up0 T0 k pk):SV l e n B up0 T0 (pV l e fG) (yD l e af):=by
 intro c p P s ps b hck hf hb hpe hr hP hq hd;have h0:=j6 (l:=l) hpe;obtain⟨i0,hi0⟩:=fq (blanks l e p);have hl:=uJ l e i0 (e-i0) none i0 (fB _) (by omega) (λa z h=>by simp at h);have hlead:i0=p->gW (kd l e p)=false->0<e-i0->lead l e (e-i0) none i0=(none,p):=λh1 h2 h3=>by subst h1;exact Ae h2
 obtain⟨o,ho⟩:=fq ((lead l e (e-i0) none i0).1);obtain⟨i,hi⟩:=fq ((lead l e (e-i0) none i0).2);rw[hi0]at h0;rw[ho,hi]at hl;obtain⟨l1,l2,l3,l4⟩:=hl;obtain⟨fr,hfr⟩:=fq (kL o i);have ak:p<=fr/\fr<=i:=by
  rw[<-hfr];cases o with
  |none=>exact⟨by show p<=i;omega,fB _⟩
  |some x=>obtain⟨a,z⟩:=x;have:=l3 a z rfl;show p<=a/\a<=i;omega
 have hs:Ok n (cT B up0 c) s p b s:=.start hck hf;obtain⟨k,hkd⟩:=fq (kd l e i);have ae:(k≠0/\(k=13\/ig k=true\/k=18\/opens k=true))\/o≠none->begins (kd l e p)=true\/raw l p=3:=by
  intro h;by_cases hp:i0=p
  ·refine .inl ?_;by_cases h2:gW (kd l e p)=true
   ·unfold begins;rw[h2];rfl
   have h2:gW (kd l e p)=false:=by simpa using h2
   have he0:0<e-i0:=by
    rcases h with⟨h,_⟩|h
    ·have:=(jc (l:=l) (e:=e) (i:=i) (by omega)).1;omega
    cases o with
    |none=>exact absurd rfl h
    |some x=>obtain⟨a,z⟩:=x;have:=l3 a z rfl;omega
   have h3:=hlead hp h2 he0;rw[h3]at ho hi;have ho:none=o:=ho;have hi:p=i:=hi;subst ho hi;rcases h with⟨_,h⟩|h
   ·rw[hkd];unfold begins;rcases h with h|h|h|h
    ·rw[h];rfl
    ·rw[h];simp
    ·rw[h];rfl
    rw[h];simp
   exact absurd rfl h
  have:=zM (λj=>raw l j==3) (e-p) p (by unfold blanks at hi0;rw[<-hi0]at hp;exact hp);exact .inr (by simpa using this)
 have put:∀(kind t:Nat),fr<t->t<=e->cnt (raw l (t-1))=true->1<=kind->kind<=10->(begins (kd l e p)=true\/raw l p=3)->
  ∃(next:Nat)(s':St)(ps':fV),((add s (cT B up0 c) kind fr t).2,t,(add s (cT B up0 c) kind fr t).1)=((s.t.length:Int),next,s')/\(t,(⟨jm ps.q c kind fr t,ps.d⟩:fV))=(next,ps')/\p<next/\next<=e/\cnt (raw l (next-1))=true/\Ok n (cT B up0 c) s next next s' /\
   Rel B up0 T0 ps'.q s'.t c next/\s'.d=ps'.d/\(∃x,ps'.q[ps.q.length]?=some x/\x.t=(next:Int)/\(p:Int)<=x.f/\x.f<=(next:Int)/\1<=x.k/\x.k<=11)/\s'.t.length+1<=s.t.length+2*(next-p)/\(begins (kd l e p)=true\/raw l p=3):=by
  intro kind t h1 h2 h3 h4 h5 h6;obtain⟨s',a1,a2,_⟩:=kE (kind:=kind) hs (f:=fr) (t:=t) (by omega) (by omega) (by omega) h4 h5;obtain⟨r,b1,b2,b3,_⟩:=rU (ps:=ps) (kind:=kind) (f:=fr) (t:=t) hck hf (by omega) (by omega) (by omega) h4 (by omega) hr (λh=>⟨hq h,by omega⟩);have hs':s'=⟨r,s.d⟩:=by unfold add at a1;rw[b1]at a1;exact(congrArg Prod.fst a1).symm
  rw[show max P t=t by omega]at b3;have aa:=hr.cur;refine⟨t,s',⟨jm ps.q c kind fr t,ps.d⟩,by rw[a1],rfl,by omega,h2,h3,a2.le (jq _) (by omega),?_,?_,⟨_,uX ps.q c kind fr t aa.2,rfl,by show(p:Int)<=(fr:Int);omega,by show(fr:Int)<=(t:Int);omega,by show 1<=(kind:Int);omega,by show(kind:Int)<=11;omega⟩,?_,h6⟩
  ·rw[hs'];exact b3
  ·rw[hs'];exact hd
  rw[hs'];show r.length+1<=_;omega
 unfold pV yD;dsimp only;rw[hi0,ho,hi,hfr,hkd];have kin:k≠0->i<e/\raw l i=k:=λh=>by have:=jc (l:=l) (e:=e) (i:=i) (by omega);omega
 by_cases c1:k=13
 ·rw[eY c1,eY c1];have hi2:=kin (by omega);exact .inr (put 8 (i+1) (by omega) (by omega) (by rw[jH,hi2.2,c1];rfl) (by omega) (by omega) (ae (.inl ⟨by omega,.inl c1⟩)))
 rw[eX c1,eX c1];by_cases c2:ig k=true
 ·rw[eY c2,eY c2];have hk0:k≠0:=λh=>by rw[h]at c2;exact absurd c2 (by decide)
  have hi2:=kin hk0;exact .inr (put 7 (i+1) (by omega) (by omega) (by rw[jH,hi2.2];exact zY c2) (by omega) (by omega) (ae (.inl ⟨hk0,.inr (.inl c2)⟩)))
 rw[eX c2,eX c2];by_cases c3:k=18
 ·rw[eY c3,eY c3];have ht:=y8 (l:=l) (e:=e) (i:=i) (by omega);exact .inr (put 7 (text l e i) (by omega) ht.2.1 ht.2.2 (by omega) (by omega) (ae (.inl ⟨by omega,.inr (.inr (.inl c3))⟩)))
 rw[eX c3,eX c3];by_cases c4:opens k=true
 ·rw[eY c4,eY c4];have hk0:k≠0:=λh=>by rw[h]at c4;exact absurd c4 (by decide)
  have hi2:=kin hk0;have hb6:=ae (.inl ⟨hk0,.inr (.inr (.inr c4))⟩);rcases hk with⟨rfl,rfl⟩|⟨q,pq,rfl,rfl,hsc⟩
  ·have ht:=kV (l:=l) (e:=e) (i:=i) (by rw[hkd];exact c4);obtain⟨e1,e2⟩:=pG l hs (f:=fr) (t:=balanced l e i) (code:=10) (by omega) (by omega) (by omega) (by omega);obtain⟨r,b1,b2,b3,_⟩:=rU (ps:=ps) (kind:=11) (f:=fr) (t:=balanced l e i) hck hf (by omega) (by omega) (by omega) (by omega) (by omega) hr (λh=>⟨hq h,by omega⟩);rw[show max P (balanced l e i)=balanced l e i by omega]at b3;have aa:=hr.cur;refine .inr ⟨balanced l e i,_,_,by dsimp only;rw[e2],rfl,by omega,ht.2.1,ht.2.2,e1.le (jq _) (by omega),?_,?_,⟨_,uX ps.q c 11 fr _ aa.2,rfl,by show(p:Int)<=(fr:Int);omega,by show(fr:Int)<=(balanced l e i:Int);omega,by show 1<=(11:Int);omega,by show(11:Int)<=11;omega⟩,?_,hb6⟩
   ·show Rel B up0 T0 _ (addN s.t (cT B up0 c) 11 fr (balanced l e i)).1 c _;rw[show(11:Int)=((11:Nat):Int)from rfl,b1];exact b3
   ·show s.d++_=ps.d++_;rw[hd]
   show(addN s.t (cT B up0 c) 11 fr (balanced l e i)).1.length+1<=_;rw[show(11:Int)=((11:Nat):Int)from rfl,b1];show r.length+1<=_;omega
  dsimp only;obtain⟨kind,hkind⟩:∃kind:Nat,kind=(if k=9 then 10 else 9):=⟨_,rfl⟩
  rw[<-hkind];have hk1:1<=kind/\kind<=10:=by rw[hkind];split<;>omega
  obtain⟨s',a1,a2,a3,⟨x,a4,a5⟩,a6⟩:=kE (kind:=kind) hs (f:=fr) (t:=i+1) (by omega) (by omega) (by omega) hk1.1 hk1.2;obtain⟨r,b1,b2,_,b4⟩:=rU (ps:=ps) (kind:=kind) (f:=fr) (t:=i+1) hck hf (by omega) (by omega) (by omega) hk1.1 (by omega) hr (λh=>⟨hq h,by omega⟩);have b4:=b4 (by omega);have hs':s'=⟨r,s.d⟩:=by unfold add at a1;rw[b1]at a1;exact(congrArg Prod.fst a1).symm
  rw[a1];dsimp only;have aa:=hr.cur;have hlen:=hr.len;have ag:B+ps.q.length=s.t.length:=by omega
  have a3':Ok n (B+ps.q.length) s fr (max b (i+1:Nat)) s':=by rw[ag];exact a3
  obtain⟨next,s2,ps2,k1,k2,k3,k4,k5,k6,k7,k8,k9,k10⟩:=hsc ps.q.length i s' ⟨iB ps.q c kind fr,ps.d⟩ (i+1:Nat) _ hi2.1 (by rw[hi2.2];exact qQ c4) a3'.ck (a3'.fits.le (by omega) (by omega)) (jq _)
   (by rw[hs'];exact b4) (by rw[hs'];exact hd) (my ps.q c kind fr aa.2)
  rw[ag]at k1;rw[k1,k2];obtain⟨x',g1,_,_,g2⟩:=k6.keep.2 _ x a4;have ah:Rel B up0 T0 (iB ps.q c kind fr) s'.t ps.q.length (i+1):=by rw[hs'];exact b4
  obtain⟨yy,w1,_,w2,w3⟩:=ah.same k7 k6.keep (my ps.q c kind fr aa.2);obtain⟨y9,w4,w5⟩:=k9;rw[w1]at w4;injection w4 with w4;subst w4
  have w2:yy.k=(kind:Int):=w2;have w3:yy.f=(fr:Int):=w3;have hsl:s'.t.length=s.t.length+1:=by rw[hs'];exact b2
  have ai:Ok n s.t.length s' next next s2:=by rw[<-ag];exact k6
  exact .inr ⟨next,s2,ps2,rfl,rfl,by omega,k4,k5,(a2.trans ai).out g1 (by omega) a6,k7,k8,⟨yy,w1,w5,by omega,by omega,by omega,by omega⟩,by omega,hb6⟩
 rw[eX c4,eX c4];cases o with
 |some x=>
  obtain⟨a,z⟩:=x;have:=l3 a z rfl;have hfa:fr=a:=by rw[<-hfr];rfl
  exact .inr (put 7 (z+1) (by omega) (by omega) (by rw[jH];exact zX this.2.2.2) (by omega) (by omega) (ae (.inr (by simp))))
 |none=>
  refine .inl ⟨rfl,rfl,?_⟩;obtain⟨_,m2,m3⟩:=l4 rfl;have aj:gW k=false:=by
   by_cases h:i0<e
   ·rw[<-hkd,m2];exact m3 (by omega)
   have:k=0:=by rw[<-hkd];unfold kd;rw[eY (.inl (by omega))]
   rw[this];rfl
  have hbk:begins k=false:=by
   unfold begins;rw[aj,show ig k=false by simpa using c2,show opens k=false by simpa using c4,show(k==18)=false by simpa using c3];rfl
  by_cases hp:i0=p
  ·rw[<-hp,<-m2,hkd];exact hbk
  have:=zM (λj=>raw l j==3) (e-p) p (by rw[<-hi0]at hp;exact hp);have h3:raw l p=3:=by simpa using this
  unfold kd;split
  ·rfl
  rw[h3];rfl
theorem Pd(hn:(e:Int)<=n){c j q P:Nat}{s:St}{ps:fV}{b:Int}(hck:Ck s.t n)(hf:Fits s.t j b (B+c))(hb:b<=j)(hjq:j<q)(hqe:q<=e)(hr:Rel B up0 T0 ps.q s.t c P)(hP:P<=j)(hd:s.d=ps.d):
 ∃s',pair l s ((B+c:Nat):Int) j q=(s',(s.t.length:Int))/\Ok n s.t.length s q q s'/\(∃x,s'.t[s.t.length]?=some x/\x.u=((B+c:Nat):Int))/\0<s.t.length/\
  Rel B up0 T0 (l8 l ps c j q).q s'.t ps.q.length q/\s'.d=(l8 l ps c j q).d/\(∃y,(l8 l ps c j q).q[ps.q.length]?=some y/\y.u=(c:Int))/\s'.t.length<=s.t.length+(if q-j<2 then 1 else 2):=by
 have ae:=hr.cur;have hlen:=hr.len;have af:B+ps.q.length=s.t.length:=by omega
 have ag:cT B up0 (c:Int)=B+c:=oG B up0 c;have hf':Fits s.t j b (cT B up0 (c:Int)):=by rw[ag];exact hf
 obtain⟨s1,a1,_,a3,⟨x,a4,a5⟩,a6⟩:=kE (kind:=6) (Ok.start hck hf) (f:=j) (t:=q) (by omega) (by omega) (by omega) (by omega) (by omega);have a1:add s ((B+c:Nat):Int) 6 j q=(s1,(s.t.length:Int)):=a1;obtain⟨r,b1,b2,_,b4⟩:=rU (ps:=ps) (kind:=6) (f:=j) (t:=q) hck hf' (by omega) (by omega) (by omega) (by omega) (by omega) hr (λh=>by omega);have b4:=b4 (by omega);rw[ag]at b1;have hs1:s1=⟨r,s.d⟩:=by unfold add at a1;rw[b1]at a1;exact(congrArg Prod.fst a1).symm
 have hnew:=my ps.q c 6 j ae.2;unfold pair l8;dsimp only;rw[a1];dsimp only;by_cases h:q-j<2
 ·rw[eY h,eY h,eY h];exact⟨s1,rfl,a3.le (by omega) (by omega),⟨x,a4,a5⟩,a6,by rw[hs1];exact b4,by rw[hs1];exact hd,⟨_,hnew,rfl⟩,by rw[hs1];show r.length<=_;omega⟩
 rw[eX h,eX h,eX h];obtain⟨kind,hkind⟩:∃kind:Nat,kind=(if(List.range (q-j)).any (λx=>raw l (j+x)==13)=true then 8 else 7):=⟨_,rfl⟩
 rw[<-hkind];have hk1:1<=kind/\kind<=10:=by rw[hkind];split<;>omega
 have b1':=iV l (q-1) (j+1);have b2':=uI l (q-1) (j+1) (by omega);obtain⟨kt,hkt⟩:=fq (back l (q-1) (j+1));rw[hkt]at b1' b2' ⊢;obtain⟨s2,d1,d2,_⟩:=kE (kind:=kind) (Ok.start a3.ck a3.fits) (f:=j) (t:=kt) (by omega) (by omega) (by omega) hk1.1 hk1.2;have aa:cT B up0 ((ps.q.length:Nat):Int)=s.t.length:=by rw[oG];exact af
 have hr1:Rel B up0 T0 (⟨iB ps.q c 6 j,ps.d⟩:fV).q s1.t (ps.q.length:Int) q:=by rw[hs1];exact b4
 obtain⟨r2,e1,e2,e3,_⟩:=rU (s:=s1) (ps:=⟨iB ps.q c 6 j,ps.d⟩) (c:=(ps.q.length:Int)) (kind:=kind) (f:=j) (t:=kt) a3.ck (by rw[aa];exact a3.fits) (by omega) (by omega) (by omega) hk1.1 (by omega) hr1 (λh=>by omega);rw[aa]at e1;have hs2:s2=⟨r2,s1.d⟩:=by unfold add at d1;rw[e1]at d1;exact(congrArg Prod.fst d1).symm
 rw[show max q kt=q by omega]at e3;rw[d1];dsimp only;have d3:=ou (s.t.length:Int) d2;obtain⟨x',g1,_,_,g2⟩:=d3.keep.2 _ x a4;have hkl:=IL (iB ps.q c 6 j) ps.q.length kind j kt (ps.q.length:Int) (by rw[iL];omega) (by rw[iL];omega);have ah:Ck r2 n:=by have:=d2.ck;rw[hs2]at this;exact this
 have hkey:=e3.key ah.good ps.q.length (by rw[kN];rw[iL];omega);have hk0:(⟨iB ps.q c 6 j,ps.d⟩:fV).q=iB ps.q c 6 j:=rfl;rw[hk0,hkl,af]at hkey;have hold:=mD _ ps.q.length ps.q.length _ (ru (iB ps.q c 6 j) (ps.q.length:Int) kind j kt ps.q.length _ hnew);rw[hkl]at hold
 exact⟨_,rfl,(a3.trans d3).le (by omega) (by omega),⟨x',g1,by omega⟩,a6,by rw[hs2];exact hkey,by rw[hs2,hs1];exact hd,⟨_,hold,rfl⟩,by
  show(keyed s2.t _).length<=_;rw[gL,hs2];show r2.length<=_;have:s1.t.length=r.length:=by rw[hs1]
  omega⟩
theorem Pe(hn:(e:Int)<=n)(val:Int->Nat->St->Int×Nat×St)(aa:Int->Nat->fV->Nat×fV)(hv:SV l e n B up0 T0 val aa)(af:Bool){c j P:Nat}{s:St}{ps:fV}{b:Int}
 (hck:Ck s.t n) (hf:Fits s.t j b (B+c)) (hb:b<=j) (hr:Rel B up0 T0 ps.q s.t c P) (hP:P<=j) (hd:s.d=ps.d) (hj:kd l e j≠0) (hcj:cnt (raw l j)=true) (ah:0<key l e j\/begins (kd l e j)=true):
 ∃(next:Nat)(s':St)(ps':fV),item l e val af ((B+c:Nat):Int) j s=(next,s')/\pE l e aa af c j ps=(next,ps')/\j<next/\next<=e/\cnt (raw l (next-1))=true/\Ok n (B+c) s next next s' /\
  Rel B up0 T0 ps'.q s'.t c next/\s'.d=ps'.d/\s'.t.length<=s.t.length+2*(next-j):=by
 have aC:=(jc hj).1;have hlen:=hr.len;have ai:=hr.cur;have aj:B+ps.q.length=s.t.length:=by omega
 have ae:cT B up0 ((ps.q.length:Nat):Int)=s.t.length:=by rw[oG];exact aj
 unfold item pE;dsimp only;by_cases hq:0<key l e j
 ·rw[eY hq,eY hq];obtain⟨q1,q2,q3⟩:=pF (by omega) hq;obtain⟨q,az⟩:=fq (key l e j);rw[az]at q1 q2 q3⊢;obtain⟨s1,a1,a2,⟨x,a3,a4⟩,a5,a6,a7,⟨y,a8,a9⟩,ak⟩:=Pd (l:=l) (e:=e) hn hck hf hb q1 q2 hr hP hd;rw[a1];dsimp only;have hcq:cnt (raw l (q-1))=true:=by rw[q3];rfl
  have ht:=iY (l:=l) (e:=e) (i:=q) q2;obtain⟨xx,ag⟩:=fq (fZ l e q);rw[ag]at ht⊢;have aA:xx=e\/cnt (raw l xx)=true:=by
   have:=ku (λj=>!cnt (raw l j)) (e-q) q;unfold fZ at ag;rw[ag]at this;rcases this with h|h
   ·exact .inl (by omega)
   exact .inr (by simpa using h)
  obtain⟨pp,aB⟩:=fq (l8 l ps c j q);rw[aB]at a6 a7 a8⊢;have stop:val (s.t.length:Int) xx s1=(-1,xx,s1)/\aa (ps.q.length:Int) xx pp=(xx,pp)->
   ∃ps',((if(aa (ps.q.length:Int) xx pp).1=xx then q else(aa (ps.q.length:Int) xx pp).1),(⟨mV (aa (ps.q.length:Int) xx pp).2.q ps.q.length (if(aa (ps.q.length:Int) xx pp).1=xx then q else(aa (ps.q.length:Int) xx pp).1),(aa (ps.q.length:Int) xx pp).2.d⟩:fV))=(q,ps')/\
    Rel B up0 T0 ps'.q s1.t c q/\s1.d=ps'.d:=by
   intro h;rw[h.2];dsimp only;rw[eY rfl];refine⟨_,rfl,?_,a7⟩;have:=a6.close a2.ck.good a8;rw[a9]at this;exact this
  have hvv:=hv ps.q.length xx q s1 pp q a2.ck (by rw[ae];exact a2.fits.le (by omega) (jq _)) (by omega) ht.2 a6 (by omega) (λh=>by omega) a7;rw[ae]at hvv;have hbk:q-j<2\/2<=q-j:=by omega
  have hlq:s1.t.length<=s.t.length+2*(q-j):=by split at ak<;>omega
  split
  ·rename_i hst;rcases hvv with⟨v1,v2,_⟩|⟨next,s2,ps2,v1,v2,v3,v4,v5,v6,v7,v8,v9,v10,v11⟩
   ·obtain⟨ps',w1,w2,w3⟩:=stop ⟨v1,v2⟩;exact⟨q,s1,ps',rfl,w1,q1,q2,hcq,a2.out a3 a4 a5,w2,w3,hlq⟩
   exfalso;have hb2:begins (kd l e xx)=false:=by
    rcases hst with h|h|h
    ·rw[h];rfl
    ·rw[h];rfl
    unfold ends at h;simp at h;rcases h with h|h<;>rw[h]<;>rfl
   rcases v11 with h|h
   ·rw[hb2]at h;cases h
   rcases aA with h2|h2
   ·omega
   rw[h]at h2;exact absurd h2 (by decide)
  rcases hvv with⟨v1,v2,_⟩|⟨next,s2,ps2,v1,v2,v3,v4,v5,v6,v7,v8,v9,v10,v11⟩
  ·obtain⟨ps',w1,w2,w3⟩:=stop ⟨v1,v2⟩;rw[v1];exact⟨q,s1,ps',rfl,w1,q1,q2,hcq,a2.out a3 a4 a5,w2,w3,hlq⟩
  rw[v1,v2];dsimp only;rw[eX (by omega),eX (by omega)];obtain⟨x',g1,_,_,g2⟩:=v6.keep.2 _ x a3;obtain⟨y',y1,y2,_⟩:=a6.same v7 v6.keep a8;have hcl:=v7.close v6.ck.good y1;rw[y2,a9]at hcl;refine⟨next,s2,_,rfl,rfl,by omega,v4,v5,(a2.trans v6).out g1 (by omega) a5,hcl,v8,?_⟩;split at ak<;>omega
 rw[eX hq,eX hq];have hbg:begins (kd l e j)=true:=ah.resolve_left hq;cases af with
 |true=>
  rw[eY rfl,eY rfl];have av:cT B up0 (c:Int)=B+c:=oG B up0 c;obtain⟨s1,a1,_,a3,⟨x,a4,a5⟩,a6⟩:=kE (kind:=6) (Ok.start hck hf) (f:=j) (t:=j+1) (by omega) (by omega) (by omega) (by omega) (by omega);have a1:add s ((B+c:Nat):Int) 6 j (j+1)=(s1,(s.t.length:Int)):=a1;obtain⟨r,b1,b2,_,b4⟩:=rU (ps:=ps) (kind:=6) (f:=j) (t:=j+1) hck (by rw[av];exact hf) (by omega) (by omega) (by omega) (by omega) (by omega) hr (λh=>by omega);have b4:=b4 (by omega);rw[av]at b1;have hs1:s1=⟨r,s.d⟩:=by unfold add at a1;rw[b1]at a1;exact(congrArg Prod.fst a1).symm
  have hnew:=my ps.q c 6 j ai.2;rw[a1];dsimp only;have d3:=ou (s.t.length:Int) a3;obtain⟨x1,g1,_,_,g2⟩:=(ou (s.t.length:Int) (Ok.start a3.ck a3.fits)).keep.2 _ x a4;have ax:Ck r n:=by have:=a3.ck;rw[hs1]at this;exact this
  have hkey:=b4.key ax.good ps.q.length (by rw[iL];omega);rw[aj]at hkey;have ay:Rel B up0 T0 (keyed (iB ps.q c 6 j) (ps.q.length:Int)) (keyed s1.t (s.t.length:Int)) (ps.q.length:Int) (j+1):=by rw[hs1];exact hkey
  have hvv:=hv ps.q.length j (j+1) ⟨keyed s1.t (s.t.length:Int),s1.d⟩ ⟨keyed (iB ps.q c 6 j) ps.q.length,ps.d⟩ (j+1:Nat) d3.ck (by rw[ae];exact d3.fits.le (jq _) (by omega)) (by omega) (by omega) ay (by omega) (λh=>by omega) (by rw[hs1];exact hd);rw[ae]at hvv;rcases hvv with⟨_,_,v2⟩|⟨next,s2,ps2,v1,v2,v3,v4,v5,v6,v7,v8,v9,v10,v11⟩
  ·rw[hbg]at v2;exact absurd v2 (by decide)
  rw[v1,v2];dsimp only;obtain⟨x2,k1,_,_,k2⟩:=v6.keep.2 _ x1 g1;obtain⟨y',y1,y2,_⟩:=ay.same v7 v6.keep (mD _ ps.q.length ps.q.length _ hnew);have hcl:=v7.close v6.ck.good y1;rw[y2]at hcl;refine⟨next,s2,_,rfl,rfl,v3,v4,v5,(d3.trans v6).out k1 (by omega) a6,hcl,v8,?_⟩;have h1:(keyed s1.t (s.t.length:Int)).length=s.t.length+1:=by rw[gL,hs1];exact b2
  have v10:s2.t.length+1<=(keyed s1.t (s.t.length:Int)).length+2*(next-j):=v10;omega
 |false=>
  rw[eX (by decide),eX (by decide)];have hvv:=hv c j P s ps b hck (by rw[oG];exact hf) (by omega) (by omega) hr (by omega) (λh=>by omega) hd;rw[oG]at hvv;rcases hvv with⟨_,_,v2⟩|⟨next,s2,ps2,v1,v2,v3,v4,v5,v6,v7,v8,v9,v10,v11⟩
  ·rw[hbg]at v2;exact absurd v2 (by decide)
  rw[v1,v2];exact⟨next,s2,ps2,rfl,rfl,v3,v4,v5,v6,v7,v8,by omega⟩
theorem JF(hn:(e:Int)<=n)(val:Int->Nat->St->Int×Nat×St)(ae:Int->Nat->fV->Nat×fV)(hv:SV l e n B up0 T0 val ae)(c op:Nat)(u:Int):
 ∀(g p:Nat)(aa:Bool)(s:St)(ps:fV)(b:Int),e-p<g->Ck s.t n->Fits s.t p b (B+c)->b<=p->op<p->p<=e->cnt (raw l (p-1))=true->Rel B up0 T0 ps.q s.t c p->s.d=ps.d->(∃x,ps.q[c]?=some x/\x.u=u)->
 ∃(next:Nat)(s':St)(ps':fV),lU l e val ((B+c:Nat):Int) op g p aa s=(next,s')/\iI l e ae c op g p aa ps=(next,ps')/\op<next/\p<=next/\next<=e/\cnt (raw l (next-1))=true/\Ok n (B+c) s next next s' /\
  Rel B up0 T0 ps'.q s'.t u next/\s'.d=ps'.d/\(∃y,ps'.q[c]?=some y/\y.t=(next:Int))/\s'.t.length<=s.t.length+2*(next-p)
 |0,p,aa,s,ps,b=>λhg=>by omega
 |g+1,p,aa,s,ps,b=>λhg hck hf hb hop hpe hcp hr hd hx=>by
  have ht:=iY (l:=l) (e:=e) (i:=p) hpe;have hs:Ok n (B+c) s p b s:=.start hck hf;have ag:cT B up0 (c:Int)=B+c:=oG B up0 c;have hf':Fits s.t p b (cT B up0 (c:Int)):=by rw[ag];exact hf
  rw[lU,iI];obtain⟨j,hj⟩:=fq (fZ l e p);rw[hj]at ht⊢;obtain⟨k,hk⟩:=fq (kd l e j);rw[hk];obtain⟨x,hx1,hxu⟩:=hx;by_cases k0:k=0
  ·rw[eY k0,eY k0,mJ l p (op+1) (by omega) hcp];have hcl:=hr.close hck.good hx1;rw[hxu]at hcl;exact⟨p,_,_,rfl,rfl,hop,fB _,hpe,hcp,DR (hs.le (jq _) hb),hcl,by show s.d++_=ps.d++_;rw[hd],⟨_,nA _ c p c x hx1,by rw[eY rfl]⟩,by show s.t.length<=_;omega⟩
  rw[eX k0,eX k0];have hjk:=jc (l:=l) (e:=e) (i:=j) (by omega);rw[hk]at hjk;have on:∀(p':Nat)(h':Bool)(s1:St)(af:fV),Ok n (B+c) s p' p' s1->j<p'->p'<=e->cnt (raw l (p'-1))=true->Rel B up0 T0 af.q s1.t c p'->s1.d=af.d->s1.t.length<=s.t.length+2*(p'-p)->
   ∃(next:Nat)(s':St)(ps':fV),lU l e val ((B+c:Nat):Int) op g p' h' s1=(next,s')/\iI l e ae c op g p' h' af=(next,ps')/\op<next/\p<=next/\next<=e/\cnt (raw l (next-1))=true/\Ok n (B+c) s next next s' /\
    Rel B up0 T0 ps'.q s'.t u next/\s'.d=ps'.d/\(∃y,ps'.q[c]?=some y/\y.t=(next:Int))/\s'.t.length<=s.t.length+2*(next-p):=by
   intro p' h' s1 af h1 h2 h3 h4 h5 h6 h7;obtain⟨y,y1,y2,_⟩:=hr.same h5 h1.keep hx1;obtain⟨next,s',ps',g1,g2,g3,g4,g5,g6,g7,g8,g9,g10,g11⟩:=JF hn val ae hv c op u g p' h' s1 af p' (by omega) h1.ck h1.fits (jq _) (by omega) h3 h4 h5 h6 ⟨y,y1,by omega⟩;exact⟨next,s',ps',g1,g2,g3,by omega,g5,g6,h1.trans g7,g8,g9,g10,by omega⟩
  have er:∀(t code:Nat),code≠9->j<t->t<=e->Ok n (B+c) s t t (err l s ((B+c:Nat):Int) j t code)/\Rel B up0 T0 (o9 l ps c j t code).q (err l s ((B+c:Nat):Int) j t code).t c t/\(err l s ((B+c:Nat):Int) j t code).d=(o9 l ps c j t code).d/\(err l s ((B+c:Nat):Int) j t code).t.length<=s.t.length+1:=by
   intro t code h1 h2 h3;obtain⟨r,b1,b2,b3,_⟩:=rU (ps:=ps) (kind:=11) (f:=j) (t:=t) hck hf' (by omega) (by omega) (by omega) (by omega) (by omega) hr (λh=>by omega);rw[ag]at b1;rw[show max p t=t by omega]at b3;have hs1:err l s ((B+c:Nat):Int) j t code=⟨r,s.d++[⟨code,mM l j,too l (t-1)⟩]⟩:=by unfold err;rw[show(11:Int)=((11:Nat):Int)from rfl,b1]
   refine⟨(pG l hs (f:=j) (t:=t) (code:=code) (by omega) (by omega) (by omega) h1).1.le (jq _) (by omega),?_,?_,?_⟩
   ·rw[hs1];exact b3
   ·rw[hs1];show s.d++_=ps.d++_;rw[hd]
   rw[hs1];show r.length<=_;omega
  have gr:Ok n (B+c) s (j+1:Nat) (j+1:Nat) ⟨jg s.t (B+c:Nat) ((j+1:Nat):Int),s.d⟩:=qd hs (by omega) (by omega) (by omega);have ai:jg s.t (B+c:Nat) ((j+1:Nat):Int)=iG s.t (cT B up0 (c:Int):Nat) ((j+1:Nat):Int):=by
   unfold jg yX;have hl:=hf.lt;rw[hck.firstT,ag,show decide (((B+c:Nat):Int)<0)=false from jE (by omega),show decide ((s.t.length:Int)<=((B+c:Nat):Int))=false from jE (by omega),show decide (n<((j+1:Nat):Int))=false from jE (by omega)];rfl
  have ah:Rel B up0 T0 ps.q (jg s.t (B+c:Nat) ((j+1:Nat):Int)) c (j+1):=by
   have:=hr.grow hck.good (by omega) (j+1);rw[show max p (j+1)=j+1 by omega]at this;rw[ai];exact this
  have aj:(jg s.t (B+c:Nat) ((j+1:Nat):Int)).length=s.t.length:=OL hck.good _ _;have c1:cnt k=true->cnt (raw l (j+1-1))=true:=λh=>by rw[jH,hjk.2];exact h
  by_cases k1:k=(if raw l op=9 then 11 else 10)
  ·rw[eY k1,eY k1];have hcl:=ah.close gr.ck.good hx1;rw[hxu]at hcl;exact⟨j+1,_,_,rfl,rfl,by omega,by omega,by omega,c1 (by rw[k1];split<;>rfl),gr,hcl,hd,⟨_,nA _ c (j+1) c x hx1,by rw[eY rfl]⟩,by show(jg s.t (B+c:Nat) ((j+1:Nat):Int)).length<=_;omega⟩
  rw[eX k1,eX k1];by_cases k2:ends k=true
  ·rw[eY k2,eY k2];obtain⟨e1,e2,e3,e4⟩:=er (j+1) 8 (by omega) (by omega) (by omega);exact on (j+1) aa _ _ e1 (by omega) (by omega) (c1 (wG k2)) e2 e3 (by omega)
  rw[eX k2,eX k2];by_cases k3:k=7
  ·rw[eY k3,eY k3];have c7:=c1 (by rw[k3];rfl);split
   ·exact on (j+1) false _ _ gr (by omega) (by omega) c7 ah hd (by show(jg s.t (B+c:Nat) ((j+1:Nat):Int)).length<=_;omega)
   obtain⟨e1,e2,e3,e4⟩:=er (j+1) 8 (by omega) (by omega) (by omega);exact on (j+1) aa _ _ e1 (by omega) (by omega) c7 e2 e3 (by omega)
  rw[eX k3,eX k3];have hcj:cnt (raw l j)=true:=by
   have hnt:j=e\/(λj=>!cnt (raw l j)) j=false:=by
    have:=ku (λj=>!cnt (raw l j)) (e-p) p;unfold fZ at hj;rw[hj]at this;rcases this with h|h
    ·exact .inl (by omega)
    exact .inr h
   rcases hnt with h|h
   ·omega
   simpa using h
  by_cases k4:aa=true
  ·rw[eY k4,eY k4];obtain⟨t1,t2,t3⟩:=qR (l:=l) (e:=e) (j:=j) (by omega) hcj (by omega) (by rw[hk];simpa using k2);obtain⟨e1,e2,e3,e4⟩:=er (jY l e j) 8 (by omega) t1 t2;exact on _ aa _ _ e1 t1 t2 t3 e2 e3 (by omega)
  rw[eX k4,eX k4];by_cases k5:0<key l e j\/begins k=true
  ·rw[eY k5,eY k5];obtain⟨next,s',ps',i1,i2,i3,i4,i5,i6,i7,i8,i9⟩:=Pe hn val ae hv (raw l op==9) (c:=c) (j:=j) hck (hf.le (by omega) (jq _)) (by omega) hr (by omega) hd (by omega) hcj (by rw[hk];exact k5);rw[i1,i2];exact on next true s' ps' i6 i3 i4 i5 i7 i8 (by omega)
  rw[eX k5,eX k5];obtain⟨e1,e2,e3,e4⟩:=er (j+1) 8 (by omega) (by omega) (by omega);exact on (j+1) aa _ _ e1 (by omega) (by omega) (c1 (by rw[<-hjk.2];exact hcj)) e2 e3 (by omega)
theorem DZ(hn:(e:Int)<=n):∀d:Nat,SV l e n B up0 T0 (jd l e d) (iC l e d)
 |0=>JE hn none none (.inl ⟨rfl,rfl⟩)
 |d+1=>JE hn _ _ (.inr ⟨_,_,rfl,rfl,λc op s ps b x ho hc hck hf hb hr hd hx=>by
  obtain⟨next,s',ps',g1,g2,g3,g4,g5,g6,g7,g8,g9,g10,g11⟩:=JF hn _ _ (DZ hn d) c op x.u (e-op) (op+1) false s ps b (by omega) hck hf hb (by omega) (by omega) (by rw[jH];exact hc) hr hd ⟨x,hx,rfl⟩
  exact⟨next,s',ps',g1,g2,g3,g5,g6,g7,g8,g9,g10,by omega⟩⟩)
end
end Fl
namespace Fl
open Ar
def shift(up:Int)(B:Nat)(q:List Nd):List Nd:=q.mapIdx (λi x=>{x with u:=if i=0 then up else x.u+(B:Int),ks:=x.ks.map (·+(B:Int))})
theorem jC(up:Int)(B:Nat)(q:List Nd):(shift up B q).length=q.length:=by simp[shift]
theorem lW(up:Int)(B:Nat)(q:List Nd)(i:Nat)(x:Nd)(hx:q[i]?=some x):(shift up B q)[i]?=some {x with u:=if i=0 then up else x.u+(B:Int),ks:=x.ks.map (·+(B:Int))}:=by
 unfold shift;rw[Rn,hx];rfl
def pJ(T:List Nd)(up:Int)(q:List Nd):List Nd×Int:=match q with
 |[]=>(T,-1)
 |v::r=>if iH T up v.k v.f v.t=true then((addN T up v.k v.f v.t).1.take T.length++shift up T.length (v::r),(T.length:Int))else(T,-1)
section
variable {l:List Tk}{e:Nat}{n:Int}{T0:List Nd}{up0:Nat}
theorem Cn(T0:List Nd)(up0 p:Nat)(h:up0<T0.length):Rel T0.length up0 T0 [] T0 (-1) p:=
 ⟨by simp,⟨rfl,h⟩,by simp,λi x hx=>by simp at hx,λi x hx=>by simp at hx,λi x hx=>⟨x,hx,rfl,rfl,rfl,rfl,by simp,.inr ⟨.inr rfl,rfl⟩⟩⟩
theorem JG{x y:Nd}(h1:x.k=y.k)(h2:x.f=y.f)(h3:x.t=y.t)(h4:x.u=y.u)(h5:x.ks=y.ks)(h6:x.y=y.y):x=y:=by
 cases x;cases y;dsimp only at h1 h2 h3 h4 h5 h6;subst h1 h2 h3 h4 h5 h6;rfl
theorem ug(hn:(e:Int)<=n)(d p:Nat)(b:Int)(hck:Ck T0 n)(hf:Fits T0 p b up0)(hb:b<=p+1)(hpe:p<=e):
 (jd l e d up0 p ⟨T0,[]⟩=(-1,p,⟨T0,[]⟩)/\iC l e d (-1) p ⟨[],[]⟩=(p,⟨[],[]⟩))\/
 (∃(next:Nat)(s':St)(ps':fV),jd l e d up0 p ⟨T0,[]⟩=((T0.length:Int),next,s')/\iC l e d (-1) p ⟨[],[]⟩=(next,ps')/\p<next/\next<=e/\Ok n up0 ⟨T0,[]⟩ next next s'/\s'.d=ps'.d/\
  0<ps'.q.length/\pJ T0 up0 ps'.q=(s'.t,(T0.length:Int))/\s'.t.length=T0.length+ps'.q.length/\s'.t.length+1<=T0.length+2*(next-p)/\
  (∀(i:Nat)(x:Nd),ps'.q[i]?=some x->-1<=x.u/\x.u<=i/\∀z∈x.ks,-(T0.length:Int)<=z/\z<=ps'.q.length)/\(∃v,ps'.q[0]?=some v/\iH T0 up0 v.k v.f v.t=true)):=by
 have hlt:=hf.lt;have hS:=DZ (l:=l) (B:=T0.length) (up0:=up0) (T0:=T0) hn d (-1) p p ⟨T0,[]⟩ ⟨[],[]⟩ b hck (by rw[oU _ _ (by omega)];exact hf) hb hpe (Cn T0 up0 p hlt) (by omega) (λ_=>rfl) rfl;rw[oU _ _ (by omega)]at hS;rcases hS with⟨h1,h2,_⟩|⟨next,s',ps',h1,h2,h3,h4,h5,h6,h7,h8,⟨x,h9,h10,h11,h12,aa,ae⟩,af,_⟩
 ·exact .inl ⟨h1,h2⟩
 have hbd:∀(i:Nat)(x:Nd),ps'.q[i]?=some x->-1<=x.u/\x.u<=i/\∀z∈x.ks,-(T0.length:Int)<=z/\z<=ps'.q.length:=λi x hx=>by
  obtain⟨z,a1,a2,a3,a4,a5,_⟩:=h7.nd i x hx;have hgu:=(h6.ck.good.up _ z a1).2;have hup:=(h7.Q4 i x hx).1;refine⟨hup,?_,λy hy=>?_⟩
  ·rw[a4]at hgu;unfold cT at hgu;split at hgu<;>omega
  have:=h6.ck.good.kid _ z a1 (y+(T0.length:Int)) (by rw[a5];exact Ru hy);have:=h7.len;omega
 refine .inr ⟨next,s',ps',h1,h2,h3,h4,h6,h8,(gD.1 h9).1,?_,h7.len,af,hbd,⟨_,h9,?_⟩⟩
 case refine_2=>
  obtain⟨k,hk⟩:∃k:Nat,x.k=(k:Int):=⟨x.k.toNat,by omega⟩
  obtain⟨y,hy⟩:=jB T0 up0 hlt;exact yY hck hf hy h11 (by omega) (by omega) aa ae
 have h9:ps'.q[0]?=some x:=h9;have hpos:=(gD.1 h9).1;obtain⟨xk,xf,xt,xu,ag,xy⟩:=x;dsimp only at h10 h11 h12 aa ae;obtain⟨k,rfl⟩:∃k:Nat,xk=(k:Int):=⟨xk.toNat,by omega⟩
 obtain⟨f,rfl⟩:∃f:Nat,xf=(f:Int):=⟨xf.toNat,by omega⟩
 subst h10;obtain⟨y,hy⟩:=jB T0 up0 hlt;have hm:=yY (kind:=(k:Int)) (f:=(f:Int)) (t:=(next:Int)) hck hf hy h11 h12 (by omega) aa ae;obtain⟨r,a1,a2,a3,a4⟩:=NK hck.good hm;have hlen:=h7.len;have hU:∀(i:Nat)(x:Nd),T0[i]?=some x->∃x',s'.t[i]?=some x'/\x'.u=x.u:=λi x hx=>by obtain⟨z,b1,_,_,b4,_⟩:=h7.old i x hx;exact⟨z,b1,b4⟩
 have hon:∀i,On s'.t up0 i↔On T0 up0 i:=λi=>qf hck.good hlt hU
 have hpl:pJ T0 up0 ps'.q=(r.take T0.length++shift up0 T0.length ps'.q,(T0.length:Int)):=by
  unfold pJ;cases hq:ps'.q with
  |nil=>rw[hq]at hpos;simp at hpos
  |cons v w=>
   have hv:v=⟨k,f,next,xu,ag,xy⟩:=by rw[hq]at h9;simpa using h9
   rw[hv];dsimp only;rw[eY hm,a1]
 rw[hpl];refine Prod.ext ?_ rfl;refine(Cm ?_ (λi z hz=>?_)).symm
 ·rw[iJ,kD,a2,jC,hlen];show T0.length+_=min T0.length (T0.length+1)+_;omega
 have hi:i<s'.t.length:=(gD.1 hz).1
 by_cases hlo:i<T0.length
 ·obtain⟨x0,hx0⟩:=jB T0 i hlo;rw[oD (by rw[kD,a2];show i<min T0.length (T0.length+1);omega),rD hlo];obtain⟨z1,b1,b2,b3,b4,b5,b6,b7⟩:=h7.old i x0 hx0;rw[hz]at b1;injection b1 with b1;subst b1
  obtain⟨z2,c1,c2,c3,c4,c5,c6,c7⟩:=a4 i x0 hx0;rw[c1];have ht:z2.t=z.t:=by
   rw[hon]at b7;rcases b7 with⟨b7,_,b8⟩|⟨b7,b8⟩
   ·rcases c7 with⟨_,c8⟩|⟨c7,_⟩
    ·omega
    exact absurd b7 c7
   rcases c7 with⟨c7,_⟩|⟨_,c8⟩
   ·rcases b7 with b7|b7
    ·exact absurd c7 b7
    omega
   omega
  refine congrArg some (JG (by omega) (by omega) ht (by omega) ?_ (by rw[c5,b5]));rw[c6,b6];by_cases e:i=up0
  ·rw[eY e,eY ⟨e,hpos⟩]
  rw[eX e,eX (λh=>e h.1)]
 obtain⟨j,rfl⟩:∃j,i=T0.length+j:=⟨i-T0.length,by omega⟩
 obtain⟨x0,hx0⟩:=jB ps'.q j (by omega);have htl:(r.take T0.length).length=T0.length:=by rw[kD,a2];show min T0.length (T0.length+1)=_;omega
 rw[oM (by omega),htl,BB,lW _ _ _ j x0 hx0];obtain⟨z1,b1,b2,b3,b4,b5,b6,b7⟩:=h7.nd j x0 hx0;rw[hz]at b1;injection b1 with b1;subst b1
 rw[oU _ _ (by omega)]at b7;have ht:x0.t=z.t:=by
  rcases b7 with⟨b7,_⟩|⟨_,b7⟩
  ·have:=((hon _).1 b7).low hck.good;omega
  omega
 have hup:=h7.Q4 j x0 hx0;refine congrArg some (JG b2.symm b3.symm ht ?_ b5.symm b6.symm);show(if j=0 then(up0:Int)else x0.u+(T0.length:Int))=z.u;rw[b4];by_cases e:j=0
 ·subst e;have h1:=h7.nd 0 x0 hx0;have hu0:x0.u<0:=by
   have hc:=(h6.ck.good.up _ z hz).2;rw[b4]at hc;unfold cT at hc;by_cases h2:x0.u<0
   ·exact h2
   rw[eX h2]at hc;omega
  rw[eY rfl,oU _ _ hu0]
 have h0:=hup.2 (by omega);rw[eX e];unfold cT;rw[eX (by omega)];omega
end
end Fl
namespace Fe
open Ar Fl
def Lf(l:List Nd):Prop:=∀(i:Nat)(x:Nd),l[i]?=some x->x.k=11->x.ks=[]/\x.f<x.t
def No(l:List Nd)(c:Nat):Prop:=∀x,l[c]?=some x->x.k≠11
def errs(l:List Tk)(t:List Nd)(g:Nat×Nat):Nat:=t.countP (λx=>x.k==11&&(mM l x.f.toNat==g.1&&too l (x.t-1).toNat==g.2))
def told(d:List Dg)(g:Nat×Nat):Nat:=d.countP (λx=>x.code !=9&&(x.f==g.1&&x.t==g.2))
def W(l:List Tk)(p:Nat)(n:Int)(x:Dg):Prop:=∃f t:Nat,p<=f/\f<t/\(t:Int)<=n/\x.f=mM l f/\x.t=too l (t-1)/\5<=x.code/\x.code<=10
theorem W.le{l:List Tk}{p q:Nat}{n:Int}{x:Dg}(h:W l p n x)(hq:q<=p):W l q n x:=by
 obtain⟨f,t,h1,h2⟩:=h;exact⟨f,t,by omega,h2⟩
theorem wL{l:List Nd}{n:Int}(h:Ck l n){c p:Nat}{x y:Nd}(hx:l[c]?=some x)(hu:x.u=(p:Int))(h0:0<c)(hy:l[p]?=some y):(c:Int)∈y.ks:=by
 have hc:=(gD.1 hx).1;have hs:=h.seen c h0 hc;have hpos:0<(l.flatMap (·.ks)).countP (λz=>z==(c:Int)):=by omega
 rw[Xw]at hpos;obtain⟨z,hz,he⟩:=hpos;obtain rfl:z=(c:Int):=by simpa using he
 rw[KL]at hz;obtain⟨w,hw,hz⟩:=hz;obtain⟨i,hi⟩:=lh hw;obtain⟨j,y',hj,_,hy',hu',_⟩:=h.kid i w hi _ hz;obtain rfl:j=c:=by omega
 rw[hx]at hy';injection hy' with hy';subst hy'
 obtain rfl:i=p:=by omega
 rw[hy]at hi;injection hi with hi;subst hi
 exact hz
theorem NU{l:List Nd}{n:Int}(h:Ck l n)(hl:Lf l){c p:Nat}{x:Nd}(hx:l[c]?=some x)(hu:x.u=(p:Int))(h0:0<c):No l p:=by
 intro y hy hk;have:=wL h hx hu h0 hy;rw[(hl p y hy hk).1]at this;simp at this
theorem UL{l:List Nd}{n:Int}(h:Ck l n)(hl:Lf l){c i:Nat}(ho:On l c i):No l c->No l i:=by
 induction ho with
 |self=>exact id
 |out d q i x hd hq h00 ho ih=>exact λ_=>ih (NU h hl hd hq h00)
theorem Lc{l r:List Nd}{up:Nat}{kind f t:Int}(hg:eu l)(hup:up<l.length)(h:addN l up kind f t=(r,(l.length:Int))):∀(i:Nat)(x:Nd),l[i]?=some x->¬On l up i->r[i]?=some x:=by
 intro i x hx hno;have hi:=(gD.1 hx).1;have hiu:i≠up:=λe=>hno (by rw[e];exact .self _)
 unfold addN at h;by_cases hm:iH l up kind f t=true
 ·rw[eY hm]at h;obtain⟨h0,_,p,hp⟩:=xP hm;have hg':=wS hg up kind f t p h0 hp (Dl hm hp).1;rw[hp]at h;dsimp only at h;rw[jk]at h hp hg';have hr:=congrArg Prod.fst h;dsimp only at hr;obtain⟨m,hmd⟩:=fq ((l++[(⟨kind,f,t,up,[],false⟩:Nd)]).set up {p with ks:=p.ks++[(l.length:Int)]});rw[hmd]at hr hg';have ae:m.length=l.length+1:=by rw[<-hmd];simp
  have aa:m[i]?=some x:=by rw[<-hmd,wo (λe=>hiu e.symm),oD hi];exact hx
  have hon:On m up i->On l up i:=by
   have key:∀c j,On m c j->c<l.length->On l c j:=by
    intro c j ho
    induction ho with
    |self=>exact λ_=>.self _
    |out d q j w hd hq h00 ho ih=>
     intro hdl;have af:q<d:=by have:=hg'.up d w hd;omega
     by_cases e:d=up
     ·subst e;rw[<-hmd,wu (by simp;omega)]at hd;injection hd with hd;subst hd
      exact .out d q j p hp hq h00 (ih (by omega))
     rw[<-hmd,wo (λh=>e h.symm),oD hdl]at hd;exact .out d q j w hd hq h00 (ih (by omega))
   exact λho=>key up i ho hup
  obtain⟨x',h1,h2⟩:=tV up m t hg' (by omega) i x aa;rw[hr]at h1;rcases h2 with⟨h2,_⟩|⟨_,rfl⟩
  ·exact absurd (hon h2) hno
  exact h1
 rw[eX hm]at h;have h2:=congrArg Prod.snd h;dsimp only at h2;omega
def ek(x:Nd):Option (Int×Int):=if x.k=11 then some (x.f,x.t)else none
def hit(l:List Tk)(g:Nat×Nat):Option (Int×Int)->Bool
 |some q=>mM l q.1.toNat==g.1&&too l (q.2-1).toNat==g.2
 |none=>false
theorem Dr(l:List Tk)(g:Nat×Nat)(x:Nd):hit l g (ek x)=(x.k==11&&(mM l x.f.toNat==g.1&&too l (x.t-1).toNat==g.2)):=by
 unfold ek;split
 ·rename_i h;rw[h];rfl
 rename_i h;rw[show(x.k==11)=false by simpa using h];rfl
theorem tX(l:List Tk)(t:List Nd)(g:Nat×Nat):errs l t g=(t.map ek).countP (hit l g):=by
 unfold errs;rw[Vj];refine List.countP_congr (λx _=>?_);rw[Function.comp_apply,Dr]
def Still(l r:List Nd):Prop:=∀(i:Nat)(x:Nd),l[i]?=some x->∃x',r[i]?=some x'/\x'.k=x.k/\(x.k=11->x'.f=x.f/\x'.t=x.t)
theorem Ta{x x':Nd}(h1:x'.k=x.k)(h2:x.k=11->x'.f=x.f/\x'.t=x.t):ek x'=ek x:=by
 unfold ek;rw[h1];split
 ·rename_i h;rw[(h2 h).1,(h2 h).2]
 rfl
theorem nS(tk:List Tk){l r:List Nd}(hl:r.length=l.length)(h:Still l r)(g:Nat×Nat):errs tk r g=errs tk l g:=by
 rw[tX,tX];congr 1;refine sN (λi=>?_);rw[lS,lS];cases hx:l[i]? with
 |none=>
  have:r[i]?=none:=by rw[wm]at hx⊢;omega
  rw[this]
 |some x=>
  obtain⟨x',h1,h2,h3⟩:=h i x hx;rw[h1];simp[Ta h2 h3]
theorem xZ(tk:List Tk){l r:List Nd}{z:Nd}(hl:r.length=l.length+1)(h:Still l r)(hz:r[l.length]?=some z)(g:Nat×Nat):
 errs tk r g=errs tk l g+(if hit tk g (ek z)=true then 1 else 0):=by
 have h1:r=r.take l.length++[z]:=by
  refine sN (λi=>?_);by_cases hi:i<l.length
  ·rw[oD (by rw[kD];omega),rD hi]
  by_cases e:i=l.length
  ·subst e;rw[hz,oM (by rw[kD];omega),kD,zG (by omega),uC];rfl
  rw[rC (by omega),rC (by rw[iJ,kD];simp;omega)]
 have h2:errs tk (r.take l.length) g=errs tk l g:=nS tk (by rw[kD];omega) (λi x hx=>by
  have hi:=(gD.1 hx).1;obtain⟨x',g1,g2⟩:=h i x hx
  exact⟨x',by rw[rD hi];exact g1,g2⟩) g
 rw[h1];unfold errs at h2⊢;rw[zD,h2,yH,BA,Dr];omega
structure Ok(l:List Tk)(p0:Nat)(n:Int)(up:Nat)(s0:St)(e b:Int)(s:St):Prop where
 ck:Ck s.t n
 fits:Fits s.t e b up
 keep:nE s0.t s.t
 lf:Lf s.t
 no:No s.t up
 tells:∀g,errs l s.t g+told s0.d g=errs l s0.t g+told s.d g
 KY:∃ds,s.d=s0.d++ds/\∀x∈ds,W l p0 n x
theorem Ok.le{l:List Tk}{p0:Nat}{n e b e' b':Int}{up:Nat}{s0 s:St}(h:Ok l p0 n up s0 e b s)(he:e<=e')(hb:b<=b'):Ok l p0 n up s0 e' b' s:=⟨h.ck,h.fits.le he hb,h.keep,h.lf,h.no,h.tells,h.KY⟩
theorem Ok.low{l:List Tk}{p0 p1:Nat}{n e b:Int}{up:Nat}{s0 s:St}(h:Ok l p0 n up s0 e b s)(hp:p1<=p0):Ok l p1 n up s0 e b s:=
 ⟨h.ck,h.fits,h.keep,h.lf,h.no,h.tells,by obtain⟨ds,h1,h2⟩:=h.KY;exact⟨ds,h1,λx hx=>(h2 x hx).le hp⟩⟩
theorem Ok.start{l:List Tk}{p0:Nat}{n e b:Int}{up:Nat}{s:St}(h:Ck s.t n)(g:Fits s.t e b up)(hl:Lf s.t)(hn:No s.t up):Ok l p0 n up s e b s:=
 ⟨h,g,nE.refl _,hl,hn,λ_=>rfl,[],by simp,λx hx=>by cases hx⟩
theorem Ok.trans{l:List Tk}{p0:Nat}{n e b e1 b1:Int}{up c:Nat}{s0 s s':St}(h:Ok l p0 n up s0 e b s)(g:Ok l p0 n c s e1 b1 s'):Ok l p0 n c s0 e1 b1 s' :=
 ⟨g.ck,g.fits,h.keep.trans g.keep,g.lf,g.no,λq=>by have h1:=h.tells q;have h2:=g.tells q;omega,by
  obtain⟨d1,h1,h2⟩:=h.KY;obtain⟨d2,g1,g2⟩:=g.KY
  exact⟨d1++d2,by rw[g1,h1,nQ],λx hx=>(mU.1 hx).elim (h2 x) (g2 x)⟩⟩
theorem Ok.out{l:List Tk}{p0:Nat}{n e b:Int}{c p:Nat}{s0 s:St}(h:Ok l p0 n c s0 e b s){x:Nd}(hx:s.t[c]?=some x)(hu:x.u=(p:Int))(h0:0<c):Ok l p0 n p s0 b b s:=
 ⟨h.ck,h.fits.out h.ck hx hu h0,h.keep,h.lf,NU h.ck h.lf hx hu h0,h.tells,h.KY⟩
theorem xQ{l:List Tk}{p0:Nat}{n e b:Int}{up f t kind:Nat}{s0 s:St}(h:Ok l p0 n up s0 e b s)(he:e<=f)(hft:f<=t)(htn:(t:Int)<=n)(hk1:1<=kind)(hk2:kind<=11)(hk3:kind=11->f<t):
 ∃r,addN s.t up kind f t=(r,(s.t.length:Int))/\Ck r n/\Fits r t (max b t) up/\Fits r f (max b t) s.t.length/\nE s.t r/\Lf r/\No r up/\(kind≠11->No r s.t.length)/\
  (∀g,errs l r g=errs l s.t g+(if hit l g (ek ⟨kind,f,t,up,[],false⟩)=true then 1 else 0))/\(∃x,r[s.t.length]?=some x/\x.u=(up:Int)/\x.k=(kind:Int))/\0<s.t.length:=by
 obtain⟨r,h1,h2,h3,h4,h5,h6,h7⟩:=Dm (f:=(f:Int)) (t:=(t:Int)) (kind:=(kind:Int)) h.ck h.fits he (by omega) htn (by omega) (by omega);have hst:=Lc h.ck.good h.fits.lt h1;have hE:∀(i:Nat)(x:Nd),s.t[i]?=some x->x.k=11->r[i]?=some x:=λi x hx hk=>hst i x hx (λho=>UL h.ck h.lf ho h.no x hx hk)
 have hS:Still s.t r:=by
  intro i x hx;obtain⟨x',g1,g2,g3,_⟩:=h7 i x hx;refine⟨x',g1,g2,λhk=>?_⟩;rw[hE i x hx hk]at g1;injection g1 with g1;subst g1
  exact⟨rfl,rfl⟩
 have hB:∀(i:Nat)(x':Nd),r[i]?=some x'->i<s.t.length->∃x,s.t[i]?=some x/\x'.k=x.k/\(x.k=11->x'=x):=by
  intro i x' hx' hi;obtain⟨x,hx⟩:=jB s.t i hi;obtain⟨y,g1,g2,_⟩:=h7 i x hx;rw[hx']at g1;injection g1 with g1;subst g1
  refine⟨x,hx,g2,λhk=>?_⟩;have:=hE i x hx hk;rw[hx']at this;injection this
 refine⟨r,h1,h2,h3,h4,⟨by omega,λi x hx=>?_⟩,λi x hx hk=>?_,λx hx=>?_,λhk x hx=>?_,xZ l h6 hS h5,⟨_,h5,rfl,rfl⟩,h.ck.pos⟩
 ·obtain⟨x',g1,g2,g3,g4,_⟩:=h7 i x hx;exact⟨x',g1,g2,g3,g4⟩
 ·by_cases hi:i<s.t.length
  ·obtain⟨y,hy,hyk,hye⟩:=hB i x hx hi;have:=hye (by omega);subst this;exact h.lf i x hy hk
  have hil:=(gD.1 hx).1;obtain rfl:i=s.t.length:=by omega
  rw[h5]at hx;injection hx with hx;subst hx
  exact⟨rfl,by have hk':(kind:Int)=11:=hk;have:=hk3 (by omega);show(f:Int)<(t:Int);omega⟩
 ·obtain⟨y,hy,hyk,_⟩:=hB up x hx h.fits.lt;rw[hyk];exact h.no y hy
 rw[h5]at hx;injection hx with hx;subst hx
 show(kind:Int)≠11;omega
theorem kE{l:List Tk}{p0:Nat}{n e b:Int}{up f t kind:Nat}{s0 s:St}(h:Ok l p0 n up s0 e b s)(he:e<=f)(hft:f<=t)(htn:(t:Int)<=n)(hk1:1<=kind)(hk2:kind<=10):
 ∃s',add s up kind f t=(s',(s.t.length:Int))/\Ok l p0 n up s0 t (max b t) s'/\Ok l p0 n s.t.length s0 f (max b t) s'/\(∃x,s'.t[s.t.length]?=some x/\x.u=(up:Int))/\0<s.t.length:=by
 obtain⟨r,h1,h2,h3,h4,h5,h6,h7,h8,h9,⟨x,ha,hb,_⟩,hc⟩:=xQ h he hft htn hk1 (by omega) (λe=>by omega);have ht:∀g,errs l r g+told s0.d g=errs l s0.t g+told s.d g:=by
  intro g;have hh:hit l g (ek ⟨kind,f,t,up,[],false⟩)=false:=by
   rw[Dr,show(((kind:Int)==11))=false by simp;omega];rfl
  rw[h9,hh];have:=h.tells g;simp;omega
 refine⟨⟨r,s.d⟩,by unfold add;rw[h1],⟨h2,h3,h.keep.trans h5,h6,h7,ht,h.KY⟩,⟨h2,h4,h.keep.trans h5,h6,h8 (by omega),ht,h.KY⟩,⟨x,ha,hb⟩,hc⟩
theorem pG{l:List Tk}{p0:Nat}{n e b:Int}{up f t code:Nat}{s0 s:St}(h:Ok l p0 n up s0 e b s)(he:e<=f)(hft:f<t)(htn:(t:Int)<=n)(hc:code≠9)(hp:p0<=f)(h5:5<=code)(h10:code<=10):
 Ok l p0 n up s0 t (max b t) (err l s up f t code)/\(addN s.t up 11 f t).2=(s.t.length:Int):=by
 obtain⟨r,h1,h2,h3,h4,h5',h6,h7,h8,h9,_,ha⟩:=xQ (kind:=11) h he (by omega) htn (by omega) (by omega) (λ_=>hft);have h1:addN s.t up 11 f t=(r,(s.t.length:Int)):=h1;refine⟨?_,by rw[h1]⟩;unfold err;rw[h1];refine⟨h2,h3,h.keep.trans h5',h6,h7,λg=>?_,?_⟩
 ·show errs l r g+told s0.d g=errs l s0.t g+told (s.d++[_]) g;have hh:hit l g (ek ⟨(11:Nat),f,t,up,[],false⟩)=((mM l f==g.1&&too l (t-1)==g.2)):=by
   rw[Dr];show((((11:Nat):Int)==11)&&(mM l ((f:Nat):Int).toNat==g.1&&too l (((t:Nat):Int)-1).toNat==g.2))=_;rw[jk,show(((t:Nat):Int)-1).toNat=t-1 by omega];rfl
  have hq:told (s.d++[⟨code,mM l f,too l (t-1)⟩]) g=told s.d g+(if(mM l f==g.1&&too l (t-1)==g.2)=true then 1 else 0):=by
   unfold told;rw[zD,yH,BA,show(code !=9)=true by simpa using hc];simp
  rw[h9,hh,hq];have:=h.tells g;omega
 obtain⟨ds,g1,g2⟩:=h.KY;refine⟨ds++[⟨code,mM l f,too l (t-1)⟩],by show s.d++_=_;rw[g1,nQ],λx hx=>?_⟩;rcases mU.1 hx with hx|hx
 ·exact g2 x hx
 obtain rfl:x=_:=by simpa using hx
 exact⟨f,t,hp,hft,htn,rfl,rfl,h5,h10⟩
theorem qd{l:List Tk}{p0:Nat}{n e b:Int}{up t:Nat}{s0 s:St}(h:Ok l p0 n up s0 e b s)(he:e<=t)(hb:b<=t)(htn:(t:Int)<=n):Ok l p0 n up s0 t t ⟨jg s.t up t,s.d⟩:=by
 obtain⟨h1,h2,h3,h4⟩:=Jw h.ck h.fits he hb htn;have hk:nE s.t (jg s.t up t):=⟨by omega,λi x hx=>by obtain⟨x',g1,g2,g3,g4,_⟩:=h4 i x hx;exact⟨x',g1,g2,g3,g4⟩⟩
 have hE:∀(i:Nat)(x:Nd),s.t[i]?=some x->x.k=11->(jg s.t up t)[i]?=some x:=by
  intro i x hx hk;unfold jg;split
  ·obtain⟨x',g1,g2⟩:=tV up s.t t h.ck.good h.fits.lt i x hx;rcases g2 with⟨g2,_⟩|⟨_,rfl⟩
   ·exact absurd hk (UL h.ck h.lf g2 h.no x hx)
   exact g1
  exact hx
 have hB:∀(i:Nat)(x':Nd),(jg s.t up t)[i]?=some x'->∃x,s.t[i]?=some x/\x'.k=x.k/\(x.k=11->x'=x):=by
  intro i x' hx';have hi:=(gD.1 hx').1;obtain⟨x,hx⟩:=jB s.t i (by omega);obtain⟨y,g1,g2,_⟩:=h4 i x hx;rw[hx']at g1;injection g1 with g1;subst g1
  refine⟨x,hx,g2,λhk=>?_⟩;have:=hE i x hx hk;rw[hx']at this;injection this
 refine⟨h1,h2,h.keep.trans hk,λi x hx hk=>?_,λx hx=>?_,λg=>?_,h.KY⟩
 ·obtain⟨y,hy,hyk,hye⟩:=hB i x hx;have:=hye (by omega);subst this;exact h.lf i x hy hk
 ·obtain⟨y,hy,hyk,_⟩:=hB up x hx;rw[hyk];exact h.no y hy
 show errs l (jg s.t up t) g+_=_+told s.d g
 rw[nS l h3 (λi x hx=>by
  obtain⟨x',g1,g2,_⟩:=hk.2 i x hx;refine⟨x',g1,g2,λhk=>?_⟩;rw[hE i x hx hk]at g1;injection g1 with g1;subst g1
  exact⟨rfl,rfl⟩) g]
 exact h.tells g
theorem DR{l:List Tk}{p0:Nat}{n e b:Int}{up op:Nat}{s0 s:St}(h:Ok l p0 n up s0 e b s)(hp:p0<=op)(hn:(op:Int)<n):Ok l p0 n up s0 e b ⟨s.t,s.d++[⟨9,mM l op,too l op⟩]⟩:=by
 refine⟨h.ck,h.fits,h.keep,h.lf,h.no,λg=>?_,?_⟩
 ·show errs l s.t g+told s0.d g=errs l s0.t g+told (s.d++[_]) g;have:=h.tells g;unfold told at this⊢;rw[zD,yH,BA,eX (by simp)];omega
 obtain⟨ds,g1,g2⟩:=h.KY;refine⟨ds++[⟨9,mM l op,too l op⟩],by show s.d++_=_;rw[g1,nQ],λx hx=>?_⟩;rcases mU.1 hx with hx|hx
 ·exact g2 x hx
 obtain rfl:x=_:=by simpa using hx
 exact⟨op,op+1,hp,by omega,by omega,rfl,by rw[jH],by show 5<=9;omega,by show 9<=10;omega⟩
theorem ou{l:List Tk}{p0:Nat}{n e b:Int}{up:Nat}{s0 s:St}(i:Int)(h:Ok l p0 n up s0 e b s):Ok l p0 n up s0 e b ⟨keyed s.t i,s.d⟩:=by
 obtain⟨k1,k2⟩:=x8 s.t i;obtain⟨h1,h2⟩:=Jy k1 k2 h.ck h.fits;have hk:nE s.t (keyed s.t i):=⟨by omega,λj x hx=>by obtain⟨x',g1,g2,g3,_,g5,_⟩:=k2 j x hx;exact⟨x',g1,g2,g3,g5⟩⟩
 have hB:∀(j:Nat)(x':Nd),(keyed s.t i)[j]?=some x'->∃x,s.t[j]?=some x/\x'.k=x.k/\x'.f=x.f/\x'.t=x.t/\x'.ks=x.ks:=by
  intro j x' hx';have hj:=(gD.1 hx').1;obtain⟨x,hx⟩:=jB s.t j (by omega);obtain⟨y,g1,g2,g3,g4,_,g6⟩:=k2 j x hx;rw[hx']at g1;injection g1 with g1;subst g1
  exact⟨x,hx,g2,g3,g4,g6⟩
 refine⟨h1,h2,h.keep.trans hk,λj x hx hk=>?_,λx hx=>?_,λg=>?_,h.KY⟩
 ·obtain⟨y,hy,e1,e2,e3,e4⟩:=hB j x hx;have:=h.lf j y hy (by omega);exact⟨by rw[e4];exact this.1,by rw[e2,e3];exact this.2⟩
 ·obtain⟨y,hy,e1,_⟩:=hB up x hx;rw[e1];exact h.no y hy
 show errs l (keyed s.t i) g+_=_+told s.d g;rw[nS l k1 (λj x hx=>by obtain⟨x',g1,g2,g3,g4,_⟩:=k2 j x hx;exact⟨x',g1,g2,λ_=>⟨g3,g4⟩⟩) g];exact h.tells g
end Fe
namespace Fl
open Ar
def KB(q:List Nd):Prop:=∀(i:Nat)(x:Nd),q[i]?=some x->x.ks.length<=q.length
structure Gr(s s':fV)(n:Nat):Prop where
 le:s.q.length<=s'.q.length
 len:s'.q.length<=s.q.length+2*n
 dl:s'.d.length<=s.d.length+n
 kinds:∀(i:Nat)(x:Nd),s.q[i]?=some x->∃x',s'.q[i]?=some x'/\x'.k=x.k
 kids:KB s.q->KB s'.q
theorem Gr.refl(s:fV):Gr s s 0:=⟨fB _,by omega,by omega,λi x h=>⟨x,h,rfl⟩,id⟩
theorem Gr.trans{a b c:fV}{n m:Nat}(h:Gr a b n)(g:Gr b c m):Gr a c (n+m):=
 ⟨jU h.le g.le,by have:=h.len;have:=g.len;omega,by have:=h.dl;have:=g.dl;omega,λi x hx=>by
  obtain⟨y,h1,h2⟩:=h.kinds i x hx;obtain⟨z,g1,g2⟩:=g.kinds i y h1
  exact⟨z,g1,g2.trans h2⟩,λk=>g.kids (h.kids k)⟩
theorem Gr.mono{a b:fV}{n m:Nat}(h:Gr a b n)(hm:n<=m):Gr a b m:=⟨h.le,by have:=h.len;omega,by have:=h.dl;omega,h.kinds,h.kids⟩
theorem xU{q:List Nd}(h:KB q)(up:Int)(k f:Nat)(hu:up<q.length):KB (iB q up k f):=by
 intro i x hx;rw[iL];have hi:=(gD.1 hx).1;rw[iL]at hi;by_cases e:i=q.length
 ·subst e;rw[my q up k f hu]at hx;injection hx with hx
  subst hx;exact ic _
 obtain⟨y,hy⟩:=jB q i (by omega);rw[tY q up k f i y hy]at hx;injection hx with hx
 subst hx;have:=h i y hy;dsimp only;split
 ·rw[iJ];simp;omega
 omega
theorem Dt{q:List Nd}(h:KB q)(j t:Nat):KB (mV q j t):=by
 intro i x hx;rw[jw];obtain⟨y,hy⟩:=oQ (jw _ _ _) hx;rw[nA q j t i y hy]at hx;injection hx with hx
 subst hx;exact h i y hy
theorem Du{q:List Nd}(h:KB q)(j:Nat):KB (keyed q j):=by
 intro i x hx;rw[gL];obtain⟨y,hy⟩:=oQ (gL _ _) hx;rw[mD q j i y hy]at hx;injection hx with hx
 subst hx;exact h i y hy
theorem Dv(s:fV)(i t:Nat):Gr s ⟨mV s.q i t,s.d⟩ 0:=
 ⟨by show _<=(mV s.q i t).length;rw[jw];exact fB _,by show(mV s.q i t).length<=_;rw[jw];omega,by show s.d.length<=_;omega,λj x hx=>⟨_,nA s.q i t j x hx,rfl⟩,λh=>Dt h i t⟩
structure Gh(s s':fV):Prop where
 le:s'.q.length=s.q.length+1
 d:s'.d=s.d
 kinds:∀(i:Nat)(x:Nd),s.q[i]?=some x->∃x',s'.q[i]?=some x'/\x'.k=x.k
 kids:KB s.q->KB s'.q
theorem Dw(s:fV)(up:Int)(k f:Nat)(hu:up<s.q.length):Gh s ⟨iB s.q up k f,s.d⟩:=
 ⟨iL _ _ _ _,rfl,λi x hx=>⟨_,tY s.q up k f i x hx,rfl⟩,λh=>xU h up k f hu⟩
theorem JH(s:fV)(up:Int)(k f t:Nat)(hu:up<s.q.length):Gh s ⟨jm s.q up k f t,s.d⟩:=
 ⟨kN _ _ _ _ _,rfl,λi x hx=>⟨_,ru s.q up k f t i x hx,rfl⟩,λh=>Dt (xU h up k f hu) _ _⟩
theorem Gh.gr{s s':fV}(h:Gh s s'){n:Nat}(hn:1<=n):Gr s s' n:=⟨by have:=h.le;omega,by have:=h.le;omega,by rw[h.d];omega,h.kinds,h.kids⟩
theorem Ii(l:List Tk)(s:fV)(up:Int)(f t code:Nat)(hu:up<s.q.length):Gr s (o9 l s up f t code) 1:=by
 have h:=JH s up 11 f t hu;refine⟨by have:=h.le;show _<=(jm s.q up 11 f t).length;exact nX (by rw[kN];omega),?_,?_,h.kinds,h.kids⟩
 ·show(jm s.q up 11 f t).length<=_;rw[kN];omega
 show(s.d++_).length<=_;rw[iJ];simp
section
variable {l:List Tk}{e:Nat}
def PV(l:List Tk)(e:Nat)(aa:Int->Nat->fV->Nat×fV):Prop:=
 ∀(c:Int)(p:Nat)(s:fV),p<=e->-1<=c->c<s.q.length->
  (aa c p s=(p,s)/\begins (kd l e p)=false)\/
  (∃(next:Nat)(s':fV),aa c p s=(next,s')/\p<next/\next<=e/\cnt (raw l (next-1))=true/\Gr s s' (next-p)/\s'.q.length+1<=s.q.length+2*(next-p)/\(begins (kd l e p)=true\/raw l p=3))
def PC(l:List Tk)(e:Nat)(aa:Nat->Nat->fV->Nat×fV):Prop:=
 ∀(c op:Nat)(s:fV),op<e->cnt (raw l op)=true->c<s.q.length->
  ∃(next:Nat)(s':fV),aa c op s=(next,s')/\op<next/\next<=e/\cnt (raw l (next-1))=true/\Gr s s' (next-op)/\s'.q.length+2<=s.q.length+2*(next-op)
theorem NV(ae:Option (Nat->Nat->fV->Nat×fV))(hk:∀k,ae=some k->PC l e k):PV l e (yD l e ae):=by
 intro c p s hpe hc1 hc2;have h0:=j6 (l:=l) hpe;obtain⟨i0,hi0⟩:=fq (blanks l e p);have hl:=uJ l e i0 (e-i0) none i0 (fB _) (by omega) (λa z h=>by simp at h);have hlead:i0=p->gW (kd l e p)=false->lead l e (e-i0) none i0=(none,p):=λh1 h2=>by subst h1;exact Ae h2
 obtain⟨o,ho⟩:=fq ((lead l e (e-i0) none i0).1);obtain⟨i,hi⟩:=fq ((lead l e (e-i0) none i0).2);rw[hi0]at h0;rw[ho,hi]at hl;obtain⟨l1,l2,l3,l4⟩:=hl;obtain⟨fr,hfr⟩:=fq (kL o i);have ah:p<=fr/\fr<=i:=by
  rw[<-hfr];cases o with
  |none=>exact⟨by show p<=i;omega,fB _⟩
  |some x=>obtain⟨a,z⟩:=x;have:=l3 a z rfl;show p<=a/\a<=i;omega
 obtain⟨k,hkd⟩:=fq (kd l e i);have aa:(k≠0/\(k=13\/ig k=true\/k=18\/opens k=true))\/o≠none->begins (kd l e p)=true\/raw l p=3:=by
  intro h;by_cases hp:i0=p
  ·refine .inl ?_;by_cases h2:gW (kd l e p)=true
   ·unfold begins;rw[h2];rfl
   have h2:gW (kd l e p)=false:=by simpa using h2
   have h3:=hlead hp h2;rw[h3]at ho hi;have ho:none=o:=ho;have hi:p=i:=hi;subst ho hi;rcases h with⟨_,h⟩|h
   ·rw[hkd];unfold begins;rcases h with h|h|h|h
    ·rw[h];rfl
    ·rw[h];simp
    ·rw[h];rfl
    rw[h];simp
   exact absurd rfl h
  have:=zM (λj=>raw l j==3) (e-p) p (by unfold blanks at hi0;rw[<-hi0]at hp;exact hp);exact .inr (by simpa using this)
 have put:∀(kind t:Nat),fr<t->t<=e->cnt (raw l (t-1))=true->(begins (kd l e p)=true\/raw l p=3)->
  ∃(next:Nat)(s':fV),(t,(⟨jm s.q c kind fr t,s.d⟩:fV))=(next,s')/\p<next/\next<=e/\cnt (raw l (next-1))=true/\Gr s s' (next-p)/\s'.q.length+1<=s.q.length+2*(next-p)/\(begins (kd l e p)=true\/raw l p=3):=by
  intro kind t h1 h2 h3 h6;have hg:=JH s c kind fr t hc2;exact⟨t,_,rfl,by omega,h2,h3,hg.gr (by omega),by rw[hg.le];omega,h6⟩
 unfold yD;dsimp only;rw[hi0,ho,hi,hfr,hkd];have kin:k≠0->i<e/\raw l i=k:=λh=>by have:=jc (l:=l) (e:=e) (i:=i) (by omega);omega
 by_cases c1:k=13
 ·rw[eY c1];have hi2:=kin (by omega);exact .inr (put 8 (i+1) (by omega) (by omega) (by rw[jH,hi2.2,c1];rfl) (aa (.inl ⟨by omega,.inl c1⟩)))
 rw[eX c1];by_cases c2:ig k=true
 ·rw[eY c2];have hk0:k≠0:=λh=>by rw[h]at c2;exact absurd c2 (by decide)
  have hi2:=kin hk0;exact .inr (put 7 (i+1) (by omega) (by omega) (by rw[jH,hi2.2];exact zY c2) (aa (.inl ⟨hk0,.inr (.inl c2)⟩)))
 rw[eX c2];by_cases c3:k=18
 ·rw[eY c3];have ht:=y8 (l:=l) (e:=e) (i:=i) (by omega);exact .inr (put 7 (text l e i) (by omega) ht.2.1 ht.2.2 (aa (.inl ⟨by omega,.inr (.inr (.inl c3))⟩)))
 rw[eX c3];by_cases c4:opens k=true
 ·rw[eY c4];have hk0:k≠0:=λh=>by rw[h]at c4;exact absurd c4 (by decide)
  have hi2:=kin hk0;have hb6:=aa (.inl ⟨hk0,.inr (.inr (.inr c4))⟩);cases af:ae with
  |none=>
   have ht:=kV (l:=l) (e:=e) (i:=i) (by rw[hkd];exact c4);have hg:=Ii l s c fr (balanced l e i) 10 hc2;exact .inr ⟨balanced l e i,_,rfl,by omega,ht.2.1,ht.2.2,hg.mono (by omega),by show(jm s.q c 11 fr (balanced l e i)).length+1<=_;rw[kN];omega,hb6⟩
  |some q=>
   dsimp only;obtain⟨kind,hkind⟩:∃kind:Nat,kind=(if k=9 then 10 else 9):=⟨_,rfl⟩
   rw[<-hkind];have hg:=Dw s c kind fr hc2;obtain⟨next,s2,k2,k3,k4,k5,k6,k7⟩:=hk q af s.q.length i ⟨iB s.q c kind fr,s.d⟩ hi2.1 (by rw[hi2.2];exact qQ c4) (by show s.q.length<(iB s.q c kind fr).length;rw[iL];omega);have k7:s2.q.length+2<=(iB s.q c kind fr).length+2*(next-i):=k7;rw[iL]at k7;rw[k2];refine .inr ⟨next,s2,rfl,by omega,k4,k5,⟨?_,by omega,?_,λj x hx=>?_,λh=>k6.kids (hg.kids h)⟩,by omega,hb6⟩
   ·have:=k6.le;have:=hg.le;omega
   ·have:=k6.dl;have h2:(⟨iB s.q c kind fr,s.d⟩:fV).d=s.d:=rfl;rw[h2]at this;omega
   obtain⟨y,y1,y2⟩:=hg.kinds j x hx;obtain⟨z,z1,z2⟩:=k6.kinds j y y1;exact⟨z,z1,z2.trans y2⟩
 rw[eX c4];cases o with
 |some x=>
  obtain⟨a,z⟩:=x;have:=l3 a z rfl;have hfa:fr=a:=by rw[<-hfr];rfl
  exact .inr (put 7 (z+1) (by omega) (by omega) (by rw[jH];exact zX this.2.2.2) (aa (.inr (by simp))))
 |none=>
  refine .inl ⟨rfl,?_⟩;obtain⟨_,m2,m3⟩:=l4 rfl;have ag:gW k=false:=by
   by_cases h:i0<e
   ·rw[<-hkd,m2];exact m3 (by omega)
   have:k=0:=by rw[<-hkd];unfold kd;rw[eY (.inl (by omega))]
   rw[this];rfl
  have hbk:begins k=false:=by
   unfold begins;rw[ag,show ig k=false by simpa using c2,show opens k=false by simpa using c4,show(k==18)=false by simpa using c3];rfl
  by_cases hp:i0=p
  ·rw[<-hp,<-m2,hkd];exact hbk
  have:=zM (λj=>raw l j==3) (e-p) p (by rw[<-hi0]at hp;exact hp);have h3:raw l p=3:=by simpa using this
  unfold kd;split
  ·rfl
  rw[h3];rfl
theorem JI(s:fV)(c j q:Nat)(hc:c<s.q.length):s.q.length+1<=(l8 l s c j q).q.length/\(l8 l s c j q).q.length<=s.q.length+(if q-j<2 then 1 else 2)/\(l8 l s c j q).d=s.d/\(∀(i:Nat)(x:Nd),s.q[i]?=some x->∃x',(l8 l s c j q).q[i]?=some x'/\x'.k=x.k)/\(KB s.q->KB (l8 l s c j q).q):=by
 have hg:=Dw s c 6 j (by omega);unfold l8;by_cases h:q-j<2
 ·rw[eY h,eY h];exact⟨by rw[hg.le];omega,by rw[hg.le];omega,rfl,hg.kinds,hg.kids⟩
 rw[eX h,eX h];have hl:(keyed (iB s.q c 6 j) (s.q.length:Int)).length=s.q.length+1:=by rw[gL,iL]
 refine⟨?_,?_,rfl,λi x hx=>?_,λhk=>?_⟩
 ·show _<=(jm _ _ _ _ _).length;rw[kN,hl];omega
 ·show(jm _ _ _ _ _).length<=_;rw[kN,hl];omega
 ·have h1:=mD _ s.q.length i _ (tY s.q c 6 j i x hx);exact⟨_,ru _ _ _ _ _ i _ h1,rfl⟩
 exact Dt (xU (Du (xU hk c 6 j (by omega)) s.q.length) _ _ _ (by rw[hl];omega)) _ _
theorem JJ(aa:Int->Nat->fV->Nat×fV)(hv:PV l e aa)(ae:Bool){c j:Nat}{s:fV}(hc:c<s.q.length)(hj:kd l e j≠0)(af:0<key l e j\/begins (kd l e j)=true):
 ∃(next:Nat)(s':fV),pE l e aa ae c j s=(next,s')/\j<next/\next<=e/\cnt (raw l (next-1))=true/\Gr s s' (next-j):=by
 have ak:=(jc hj).1;unfold pE;dsimp only;by_cases hq:0<key l e j
 ·rw[eY hq];obtain⟨q1,q2,q3⟩:=pF (by omega) hq;obtain⟨q,ah⟩:=fq (key l e j);rw[ah]at q1 q2 q3⊢;obtain⟨a1,a2,a3,a4,a5⟩:=JI (l:=l) s c j q hc;obtain⟨pp,ai⟩:=fq (l8 l s c j q);rw[ai]at a1 a2 a3 a4 a5⊢;have hcq:cnt (raw l (q-1))=true:=by rw[q3];rfl
  have ht:=iY (l:=l) (e:=e) (i:=q) q2;obtain⟨xx,aj⟩:=fq (fZ l e q);rw[aj]at ht⊢;have ag:Gr s pp (q-j):=⟨by omega,by split at a2<;>omega,by rw[a3];omega,a4,a5⟩
  rcases hv s.q.length xx pp ht.2 (by omega) (by omega)with⟨v1,_⟩|⟨next,s2,v1,v2,v3,v4,v5,v6,v7⟩
  ·rw[v1];dsimp only;rw[eY rfl];exact⟨q,_,rfl,q1,q2,hcq,by have:=ag.trans (Dv pp s.q.length q);rw[qI]at this;exact this⟩
  rw[v1];dsimp only;rw[eX (by omega)];have h1:=(ag.trans v5).trans (Dv s2 s.q.length next);exact⟨next,_,rfl,by omega,v3,v4,h1.mono (by omega)⟩
 rw[eX hq];have hbg:begins (kd l e j)=true:=af.resolve_left hq;cases ae with
 |true=>
  rw[eY rfl];have hg:=Dw s c 6 j (by omega);rcases hv s.q.length j ⟨keyed (iB s.q c 6 j) s.q.length,s.d⟩ (by omega) (by omega) (by show(s.q.length:Int)<((keyed (iB s.q c 6 j) (s.q.length:Int)).length:Int);rw[gL,iL];omega)with⟨_,v2⟩|⟨next,s2,v1,v2,v3,v4,v5,v6,v7⟩
  ·rw[hbg]at v2;exact absurd v2 (by decide)
  rw[v1];dsimp only;have v6:s2.q.length+1<=(keyed (iB s.q c 6 j) (s.q.length:Int)).length+2*(next-j):=v6;rw[gL,iL]at v6;refine⟨next,_,rfl,v2,v3,v4,?_,?_,?_,λi x hx=>?_,λhk=>?_⟩
  ·show _<=(mV s2.q s.q.length next).length;rw[jw];have h3:(keyed (iB s.q c 6 j) (s.q.length:Int)).length<=s2.q.length:=v5.le;rw[gL,iL]at h3;omega
  ·show(mV s2.q s.q.length next).length<=_;rw[jw];omega
  ·exact v5.dl
  ·obtain⟨y,y1,y2⟩:=hg.kinds i x hx;obtain⟨z,z1,z2⟩:=v5.kinds i _ (mD _ s.q.length i y y1);exact⟨_,nA s2.q s.q.length next i z z1,z2.trans y2⟩
  exact Dt (v5.kids (Du (hg.kids hk) _)) _ _
 |false=>
  rw[eX (by decide)];rcases hv c j s (by omega) (by omega) (by omega)with⟨_,v2⟩|⟨next,s2,v1,v2,v3,v4,v5,v6,v7⟩
  ·rw[hbg]at v2;exact absurd v2 (by decide)
  rw[v1];exact⟨next,s2,rfl,v2,v3,v4,v5⟩
theorem NW(ae:Int->Nat->fV->Nat×fV)(hv:PV l e ae)(c op:Nat):
 ∀(g p:Nat)(aa:Bool)(s:fV),e-p<g->op<p->p<=e->cnt (raw l (p-1))=true->c<s.q.length->
 ∃(next:Nat)(s':fV),iI l e ae c op g p aa s=(next,s')/\p<=next/\next<=e/\cnt (raw l (next-1))=true/\s.q.length<=s'.q.length/\s'.q.length<=s.q.length+2*(next-p)/\s'.d.length<=s.d.length+(next-p)+1/\
  (∀(i:Nat)(x:Nd),s.q[i]?=some x->∃x',s'.q[i]?=some x'/\x'.k=x.k)/\(KB s.q->KB s'.q)
 |0,p,aa,s=>λhg=>by omega
 |g+1,p,aa,s=>λhg hop hpe hcp hc=>by
  have ht:=iY (l:=l) (e:=e) (i:=p) hpe;rw[iI];obtain⟨j,hj⟩:=fq (fZ l e p);rw[hj]at ht⊢;obtain⟨k,hk⟩:=fq (kd l e j);rw[hk];by_cases k0:k=0
  ·rw[eY k0,mJ l p (op+1) (by omega) hcp];have h1:=Dv s c p;exact⟨p,_,rfl,fB _,hpe,hcp,h1.le,by have:=h1.len;exact jU this (by omega),by show(s.d++_).length<=_;rw[iJ];simp,h1.kinds,h1.kids⟩
  rw[eX k0];have hjk:=jc (l:=l) (e:=e) (i:=j) (by omega);rw[hk]at hjk;have on:∀(p':Nat)(h':Bool)(s1:fV),Gr s s1 (p'-p)->j<p'->p'<=e->cnt (raw l (p'-1))=true->
   ∃(next:Nat)(s':fV),iI l e ae c op g p' h' s1=(next,s')/\p<=next/\next<=e/\cnt (raw l (next-1))=true/\s.q.length<=s'.q.length/\s'.q.length<=s.q.length+2*(next-p)/\s'.d.length<=s.d.length+(next-p)+1/\
    (∀(i:Nat)(x:Nd),s.q[i]?=some x->∃x',s'.q[i]?=some x'/\x'.k=x.k)/\(KB s.q->KB s'.q):=by
   intro p' h' s1 h1 h2 h3 h4;obtain⟨next,s',g1,g2,g3,g4,g5,g6,g7,g8,g9⟩:=NW ae hv c op g p' h' s1 (by omega) (by omega) h3 h4 (by have:=h1.le;omega);refine⟨next,s',g1,by omega,g3,g4,?_,?_,?_,λi x hx=>?_,λh=>g9 (h1.kids h)⟩
   ·have:=h1.le;omega
   ·have:=h1.len;omega
   ·have:=h1.dl;omega
   obtain⟨y,y1,y2⟩:=h1.kinds i x hx;obtain⟨z,z1,z2⟩:=g8 i y y1;exact⟨z,z1,z2.trans y2⟩
  have er:∀(t code:Nat),j<t->Gr s (o9 l s c j t code) (t-p):=λt code h=>(Ii l s c j t code (by omega)).mono (by omega)
  have c1:cnt k=true->cnt (raw l (j+1-1))=true:=λh=>by rw[jH,hjk.2];exact h
  by_cases k1:k=(if raw l op=9 then 11 else 10)
  ·rw[eY k1];have h1:=Dv s c (j+1);exact⟨j+1,_,rfl,by omega,by omega,c1 (by rw[k1];split<;>rfl),h1.le,by have:=h1.len;exact jU this (by omega),by show s.d.length<=_;omega,h1.kinds,h1.kids⟩
  rw[eX k1];by_cases k2:ends k=true
  ·rw[eY k2];exact on (j+1) aa _ (er (j+1) 8 (by omega)) (by omega) (by omega) (c1 (wG k2))
  rw[eX k2];by_cases k3:k=7
  ·rw[eY k3];have c7:=c1 (by rw[k3];rfl);split
   ·exact on (j+1) false _ ((Gr.refl s).mono (by omega)) (by omega) (by omega) c7
   exact on (j+1) aa _ (er (j+1) 8 (by omega)) (by omega) (by omega) c7
  rw[eX k3];have hcj:cnt (raw l j)=true:=by
   have hnt:j=e\/(λj=>!cnt (raw l j)) j=false:=by
    have:=ku (λj=>!cnt (raw l j)) (e-p) p;unfold fZ at hj;rw[hj]at this;rcases this with h|h
    ·exact .inl (by omega)
    exact .inr h
   rcases hnt with h|h
   ·omega
   simpa using h
  by_cases k4:aa=true
  ·rw[eY k4];obtain⟨t1,t2,t3⟩:=qR (l:=l) (e:=e) (j:=j) (by omega) hcj (by omega) (by rw[hk];simpa using k2);exact on _ aa _ (er (jY l e j) 8 t1) t1 t2 t3
  rw[eX k4];by_cases k5:0<key l e j\/begins k=true
  ·rw[eY k5];obtain⟨next,s',i1,i2,i3,i4,i5⟩:=JJ ae hv (raw l op==9) (c:=c) (j:=j) hc (by omega) (by rw[hk];exact k5);rw[i1];exact on next true s' (i5.mono (by omega)) i2 i3 i4
  rw[eX k5];exact on (j+1) aa _ (er (j+1) 8 (by omega)) (by omega) (by omega) (c1 (by rw[<-hjk.2];exact hcj))
theorem tO:∀d:Nat,PV l e (iC l e d)
 |0=>NV none (λk h=>by simp at h)
 |d+1=>NV _ (λk h c op s ho hc hcl=>by
  injection h with h
  subst h;obtain⟨next,s',g1,g2,g3,g4,g5,g6,g7,g8,g9⟩:=NW _ (tO d) c op (e-op) (op+1) false s (by omega) (by omega) (by omega) (by rw[jH];exact hc) hcl
  exact⟨next,s',g1,by omega,g3,g4,⟨g5,by omega,by omega,g8,g9⟩,by omega⟩)
end
end Fl
end Go.Proofs.YtmkkdjpebbdikaaGreatDoor

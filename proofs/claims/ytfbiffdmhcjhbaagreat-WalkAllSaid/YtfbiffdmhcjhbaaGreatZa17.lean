import Derived.Test.YtfbiffdmhcjhbaaGreatZa11
set_option linter.all false
set_option maxHeartbeats 16000000
set_option maxRecDepth 100000
set_option synthInstance.maxSize 4000
set_option synthInstance.maxHeartbeats 0
namespace Go.Proofs.YtfbiffdmhcjhbaaGreat
open Go.RowKit Tryz
namespace Fl
open Ar
theorem yQ{q q':List Nd}(hl:q.length=q'.length)(h:∀(i:Nat)(x:Nd),q[i]?=some x->q'[i]?=some x):q=q':=by
 refine xV (λi=>?_);cases hx:q[i]? with
 |none=>
  have:q'[i]?=none:=by rw[Aq]at hx⊢;omega
  rw[this]
 |some x=>exact(h i x hx).symm
theorem rH(q:List Nd)(up:Int)(k f t:Nat)(hu:up<q.length):(jX q up k f t)[q.length]?=some ⟨k,f,t,up,[],false⟩:=by
 rw[jX,nY _ _ _ _ _ (oM q up k f hu),eT rfl]
theorem oV(q:List Nd)(up:Int)(k f t:Nat):(jX q up k f t).length=q.length+1:=by rw[jX,j3,oL]
theorem uJ(q:List Nd)(up:Int)(k f t:Nat)(i:Nat)(x:Nd)(hx:q[i]?=some x):(jX q up k f t)[i]?=some {x with ks:=if(i:Int)=up then x.ks++[(q.length:Int)]else x.ks}:=by
 have hi:=(fT.1 hx).1;rw[jX,nY _ _ _ _ _ (Be q up k f i x hx),eQ (show¬i=q.length by omega)]
theorem Dw(q:List Nd)(n k f t:Nat)(up:Int)(hn:n<q.length)(hu:up<q.length):keyed (jX q up k f t) n=jX (keyed q n) up k f t:=by
 refine yQ (by rw[iB,oV,oV,iB]) (λi x hx=>?_);obtain⟨y,hy⟩:=pU (iB _ _) hx;rw[nH _ n i y hy]at hx;injection hx with hx
 subst hx;have hi:=(fT.1 hy).1;rw[oV]at hi;by_cases e:i=q.length
 ·subst e;rw[rH q up k f t hu]at hy;injection hy with hy
  subst hy;have:=rH (keyed q n) up k f t (by rw[iB];exact hu);rw[iB]at this;rw[this,eQ (by omega)]
 obtain⟨z,hz⟩:=iT q i (by omega);rw[uJ q up k f t i z hz]at hy;injection hy with hy
 subst hy;rw[uJ (keyed q n) up k f t i _ (nH q n i z hz),iB]
section
variable {l:List Tk}{e:Nat}{n:Int}{B up0:Nat}{T0:List Nd}
theorem Rel.same{q t q' t':List Nd}{c c':Int}{p p':Nat}(h:Rel B up0 T0 q t c p)(h':Rel B up0 T0 q' t' c' p')(hk:lz t t'){i:Nat}{x:Nd}(hx:q[i]?=some x):
 ∃x',q'[i]?=some x'/\x'.u=x.u/\x'.k=x.k/\x'.f=x.f:=by
 have hi:=(fT.1 hx).1;obtain⟨z,a1,a2,a3,a4,_⟩:=h.nd i x hx;obtain⟨z',b1,b2,b3,b4⟩:=hk.2 _ z a1;have hlt:=(fT.1 b1).1;obtain⟨x',hx'⟩:=iT q' i (by have:=h'.len;omega);obtain⟨z2,c1,c2,c3,c4,_⟩:=h'.nd i x' hx';rw[b1]at c1;injection c1 with c1;subst c1
 have u1:=(h.AF i x hx).1;have u2:=(h'.AF i x' hx').1;have hlo:=h.lo;have hu:(cT B up0 x'.u:Int)=(cT B up0 x.u:Int):=by omega
 refine⟨x',hx',?_,by omega,by omega⟩;unfold cT at hu;split at hu<;>split at hu<;>omega
theorem pX{s:St}{ps:mI}{c:Int}{P f t kind:Nat}{e0 b:Int}(hck:Ck s.t n)(hf:Fits s.t e0 b (cT B up0 c))(he:e0<=(f:Int))(hft:f<=t)(htn:(t:Int)<=n)(hk1:1<=kind)(hk2:kind<=11)
 (hr:Rel B up0 T0 ps.q s.t c P) (hq:c<0->ps.q.length=0/\P<=t):
 ∃r,addN s.t (cT B up0 c) kind f t=(r,(s.t.length:Int))/\r.length=s.t.length+1/\Rel B up0 T0 (jX ps.q c kind f t) r c (max P t)/\(P<=t->Rel B up0 T0 (lV ps.q c kind f) r ps.q.length t):=by
 obtain⟨y,hy⟩:=iT s.t (cT B up0 c) hf.lt;have hm:=vE (kind:=(kind:Int)) hck hf hy he (by omega) htn (by omega) (by omega);obtain⟨r,h1,h2,h3⟩:=hr.put hck.good hm hq;have:=h2.len;rw[oV]at this;have h4:=hr.len;exact⟨r,h1,by omega,h2,h3⟩
def SV(l:List Tk)(e:Nat)(n:Int)(B up0:Nat)(T0:List Nd)(val:Int->Nat->St->Int×Nat×St)(aa:Int->Nat->mI->Nat×mI):Prop:=
 ∀(c:Int)(p P:Nat)(s:St)(ps:mI)(b:Int),Ck s.t n->Fits s.t p b (cT B up0 c)->b<=p+1->p<=e->Rel B up0 T0 ps.q s.t c P->P<=p+1->(c<0->ps.q.length=0)->s.d=ps.d->
  (val (cT B up0 c) p s=(-1,p,s)/\aa c p ps=(p,ps)/\begins (kd l e p)=false)\/
  (∃(next:Nat)(s':St)(ps':mI),val (cT B up0 c) p s=((s.t.length:Int),next,s')/\aa c p ps=(next,ps')/\p<next/\next<=e/\cnt (raw l (next-1))=true/\Ok n (cT B up0 c) s next next s' /\
   Rel B up0 T0 ps'.q s'.t c next/\s'.d=ps'.d/\(∃x,ps'.q[ps.q.length]?=some x/\x.t=(next:Int)/\(p:Int)<=x.f/\x.f<=(next:Int)/\1<=x.k/\x.k<=11)/\s'.t.length+1<=s.t.length+2*(next-p)/\(begins (kd l e p)=true\/raw l p=3))
def SC(l:List Tk)(e:Nat)(n:Int)(B up0:Nat)(T0:List Nd)(fo:Int->Nat->St->Nat×St)(aa:Nat->Nat->mI->Nat×mI):Prop:=
 ∀(c op:Nat)(s:St)(ps:mI)(b:Int)(x:Nd),op<e->cnt (raw l op)=true->Ck s.t n->Fits s.t (op+1:Nat) b (B+c)->b<=(op+1:Nat)->Rel B up0 T0 ps.q s.t c (op+1)->s.d=ps.d->ps.q[c]?=some x->
  ∃(next:Nat)(s':St)(ps':mI),fo ((B+c:Nat):Int) op s=(next,s')/\aa c op ps=(next,ps')/\op<next/\next<=e/\cnt (raw l (next-1))=true/\Ok n (B+c) s next next s' /\
   Rel B up0 T0 ps'.q s'.t x.u next/\s'.d=ps'.d/\(∃y,ps'.q[c]?=some y/\y.t=(next:Int))/\s'.t.length+2<=s.t.length+2*(next-op)
theorem JW{i f:Nat}(h:gM (kd l e i)=false):lead l e f none i=(none,i):=by
 cases f with
 |zero=>rfl
 |succ f=>rw[lead,eQ (by simp[h])]
theorem EP(hn:(e:Int)<=n)(fo:Option (Int->Nat->St->Nat×St))(af:Option (Nat->Nat->mI->Nat×mI))
 (hk:(fo=none/\af=none)\/∃k pk,fo=some k/\af=some pk/\SC l e n B up0 T0 k pk):SV l e n B up0 T0 (vU l e fo) (D8 l e af):=by
 intro c p P s ps b hck hf hb hpe hr hP hq hd;have h0:=jR (l:=l) hpe;obtain⟨i0,hi0⟩:=eX (blanks l e p);have hl:=sV l e i0 (e-i0) none i0 (fC _) (by omega) (λa z h=>by simp at h);have hlead:i0=p->gM (kd l e p)=false->0<e-i0->lead l e (e-i0) none i0=(none,p):=λh1 h2 h3=>by subst h1;exact JW h2
 obtain⟨o,ho⟩:=eX ((lead l e (e-i0) none i0).1);obtain⟨i,hi⟩:=eX ((lead l e (e-i0) none i0).2);rw[hi0]at h0;rw[ho,hi]at hl;obtain⟨l1,l2,l3,l4⟩:=hl;obtain⟨fr,hfr⟩:=eX (gN o i);have ak:p<=fr/\fr<=i:=by
  rw[<-hfr];cases o with
  |none=>exact⟨by show p<=i;omega,fC _⟩
  |some x=>obtain⟨a,z⟩:=x;have:=l3 a z rfl;show p<=a/\a<=i;omega
 have hs:Ok n (cT B up0 c) s p b s:=.start hck hf;obtain⟨k,hkd⟩:=eX (kd l e i);have ae:(k≠0/\(k=13\/gF k=true\/k=18\/opens k=true))\/o≠none->begins (kd l e p)=true\/raw l p=3:=by
  intro h;by_cases hp:i0=p
  ·refine .inl ?_;by_cases h2:gM (kd l e p)=true
   ·unfold begins;rw[h2];rfl
   have h2:gM (kd l e p)=false:=by simpa using h2
   have he0:0<e-i0:=by
    rcases h with⟨h,_⟩|h
    ·have:=(jW (l:=l) (e:=e) (i:=i) (by omega)).1;omega
    cases o with
    |none=>exact absurd rfl h
    |some x=>obtain⟨a,z⟩:=x;have:=l3 a z rfl;omega
   have h3:=hlead hp h2 he0;rw[h3]at ho hi;have ho:none=o:=ho;have hi:p=i:=hi;subst ho hi;rcases h with⟨_,h⟩|h
   ·rw[hkd];unfold begins;rcases h with h|h|h|h
    ·rw[h];rfl
    ·rw[h];simp
    ·rw[h];rfl
    rw[h];simp
   exact absurd rfl h
  have:=CF (λj=>raw l j==3) (e-p) p (by unfold blanks at hi0;rw[<-hi0]at hp;exact hp);exact .inr (by simpa using this)
 have put:∀(kind t:Nat),fr<t->t<=e->cnt (raw l (t-1))=true->1<=kind->kind<=10->(begins (kd l e p)=true\/raw l p=3)->
  ∃(next:Nat)(s':St)(ps':mI),((add s (cT B up0 c) kind fr t).2,t,(add s (cT B up0 c) kind fr t).1)=((s.t.length:Int),next,s')/\(t,(⟨jX ps.q c kind fr t,ps.d⟩:mI))=(next,ps')/\p<next/\next<=e/\cnt (raw l (next-1))=true/\Ok n (cT B up0 c) s next next s' /\
   Rel B up0 T0 ps'.q s'.t c next/\s'.d=ps'.d/\(∃x,ps'.q[ps.q.length]?=some x/\x.t=(next:Int)/\(p:Int)<=x.f/\x.f<=(next:Int)/\1<=x.k/\x.k<=11)/\s'.t.length+1<=s.t.length+2*(next-p)/\(begins (kd l e p)=true\/raw l p=3):=by
  intro kind t h1 h2 h3 h4 h5 h6;obtain⟨s',a1,a2,_⟩:=iW (kind:=kind) hs (f:=fr) (t:=t) (by omega) (by omega) (by omega) h4 h5;obtain⟨r,b1,b2,b3,_⟩:=pX (ps:=ps) (kind:=kind) (f:=fr) (t:=t) hck hf (by omega) (by omega) (by omega) h4 (by omega) hr (λh=>⟨hq h,by omega⟩);have hs':s'=⟨r,s.d⟩:=by unfold add at a1;rw[b1]at a1;exact(congrArg Prod.fst a1).symm
  rw[show max P t=t by omega]at b3;have aa:=hr.cur;refine⟨t,s',⟨jX ps.q c kind fr t,ps.d⟩,by rw[a1],rfl,by omega,h2,h3,a2.le (ji _) (by omega),?_,?_,⟨_,rH ps.q c kind fr t aa.2,rfl,by show(p:Int)<=(fr:Int);omega,by show(fr:Int)<=(t:Int);omega,by show 1<=(kind:Int);omega,by show(kind:Int)<=11;omega⟩,?_,h6⟩
  ·rw[hs'];exact b3
  ·rw[hs'];exact hd
  rw[hs'];show r.length+1<=_;omega
 unfold vU D8;dsimp only;rw[hi0,ho,hi,hfr,hkd];have kin:k≠0->i<e/\raw l i=k:=λh=>by have:=jW (l:=l) (e:=e) (i:=i) (by omega);omega
 by_cases c1:k=13
 ·rw[eT c1,eT c1];have hi2:=kin (by omega);exact .inr (put 8 (i+1) (by omega) (by omega) (by rw[lJ,hi2.2,c1];rfl) (by omega) (by omega) (ae (.inl ⟨by omega,.inl c1⟩)))
 rw[eQ c1,eQ c1];by_cases c2:gF k=true
 ·rw[eT c2,eT c2];have hk0:k≠0:=λh=>by rw[h]at c2;exact absurd c2 (by decide)
  have hi2:=kin hk0;exact .inr (put 7 (i+1) (by omega) (by omega) (by rw[lJ,hi2.2];exact A7 c2) (by omega) (by omega) (ae (.inl ⟨hk0,.inr (.inl c2)⟩)))
 rw[eQ c2,eQ c2];by_cases c3:k=18
 ·rw[eT c3,eT c3];have ht:=sU (l:=l) (e:=e) (i:=i) (by omega);exact .inr (put 7 (text l e i) (by omega) ht.2.1 ht.2.2 (by omega) (by omega) (ae (.inl ⟨by omega,.inr (.inr (.inl c3))⟩)))
 rw[eQ c3,eQ c3];by_cases c4:opens k=true
 ·rw[eT c4,eT c4];have hk0:k≠0:=λh=>by rw[h]at c4;exact absurd c4 (by decide)
  have hi2:=kin hk0;have hb6:=ae (.inl ⟨hk0,.inr (.inr (.inr c4))⟩);rcases hk with⟨rfl,rfl⟩|⟨q,pq,rfl,rfl,hsc⟩
  ·have ht:=mD (l:=l) (e:=e) (i:=i) (by rw[hkd];exact c4);obtain⟨e1,e2⟩:=jL l hs (f:=fr) (t:=balanced l e i) (code:=10) (by omega) (by omega) (by omega) (by omega);obtain⟨r,b1,b2,b3,_⟩:=pX (ps:=ps) (kind:=11) (f:=fr) (t:=balanced l e i) hck hf (by omega) (by omega) (by omega) (by omega) (by omega) hr (λh=>⟨hq h,by omega⟩);rw[show max P (balanced l e i)=balanced l e i by omega]at b3;have aa:=hr.cur;refine .inr ⟨balanced l e i,_,_,by dsimp only;rw[e2],rfl,by omega,ht.2.1,ht.2.2,e1.le (ji _) (by omega),?_,?_,⟨_,rH ps.q c 11 fr _ aa.2,rfl,by show(p:Int)<=(fr:Int);omega,by show(fr:Int)<=(balanced l e i:Int);omega,by show 1<=(11:Int);omega,by show(11:Int)<=11;omega⟩,?_,hb6⟩
   ·show Rel B up0 T0 _ (addN s.t (cT B up0 c) 11 fr (balanced l e i)).1 c _;rw[show(11:Int)=((11:Nat):Int)from rfl,b1];exact b3
   ·show s.d++_=ps.d++_;rw[hd]
   show(addN s.t (cT B up0 c) 11 fr (balanced l e i)).1.length+1<=_;rw[show(11:Int)=((11:Nat):Int)from rfl,b1];show r.length+1<=_;omega
  dsimp only;obtain⟨kind,hkind⟩:∃kind:Nat,kind=(if k=9 then 10 else 9):=⟨_,rfl⟩
  rw[<-hkind];have hk1:1<=kind/\kind<=10:=by rw[hkind];split<;>omega
  obtain⟨s',a1,a2,a3,⟨x,a4,a5⟩,a6⟩:=iW (kind:=kind) hs (f:=fr) (t:=i+1) (by omega) (by omega) (by omega) hk1.1 hk1.2;obtain⟨r,b1,b2,_,b4⟩:=pX (ps:=ps) (kind:=kind) (f:=fr) (t:=i+1) hck hf (by omega) (by omega) (by omega) hk1.1 (by omega) hr (λh=>⟨hq h,by omega⟩);have b4:=b4 (by omega);have hs':s'=⟨r,s.d⟩:=by unfold add at a1;rw[b1]at a1;exact(congrArg Prod.fst a1).symm
  rw[a1];dsimp only;have aa:=hr.cur;have hlen:=hr.len;have ag:B+ps.q.length=s.t.length:=by omega
  have a3':Ok n (B+ps.q.length) s fr (max b (i+1:Nat)) s':=by rw[ag];exact a3
  obtain⟨next,s2,ps2,k1,k2,k3,k4,k5,k6,k7,k8,k9,k10⟩:=hsc ps.q.length i s' ⟨lV ps.q c kind fr,ps.d⟩ (i+1:Nat) _ hi2.1 (by rw[hi2.2];exact oK c4) a3'.ck (a3'.fits.le (by omega) (by omega)) (ji _)
   (by rw[hs'];exact b4) (by rw[hs'];exact hd) (oM ps.q c kind fr aa.2)
  rw[ag]at k1;rw[k1,k2];obtain⟨x',g1,_,_,g2⟩:=k6.keep.2 _ x a4;have ah:Rel B up0 T0 (lV ps.q c kind fr) s'.t ps.q.length (i+1):=by rw[hs'];exact b4
  obtain⟨yy,w1,_,w2,w3⟩:=ah.same k7 k6.keep (oM ps.q c kind fr aa.2);obtain⟨y9,w4,w5⟩:=k9;rw[w1]at w4;injection w4 with w4;subst w4
  have w2:yy.k=(kind:Int):=w2;have w3:yy.f=(fr:Int):=w3;have hsl:s'.t.length=s.t.length+1:=by rw[hs'];exact b2
  have ai:Ok n s.t.length s' next next s2:=by rw[<-ag];exact k6
  exact .inr ⟨next,s2,ps2,rfl,rfl,by omega,k4,k5,(a2.trans ai).out g1 (by omega) a6,k7,k8,⟨yy,w1,w5,by omega,by omega,by omega,by omega⟩,by omega,hb6⟩
 rw[eQ c4,eQ c4];cases o with
 |some x=>
  obtain⟨a,z⟩:=x;have:=l3 a z rfl;have hfa:fr=a:=by rw[<-hfr];rfl
  exact .inr (put 7 (z+1) (by omega) (by omega) (by rw[lJ];exact AZ this.2.2.2) (by omega) (by omega) (ae (.inr (by simp))))
 |none=>
  refine .inl ⟨rfl,rfl,?_⟩;obtain⟨_,m2,m3⟩:=l4 rfl;have aj:gM k=false:=by
   by_cases h:i0<e
   ·rw[<-hkd,m2];exact m3 (by omega)
   have:k=0:=by rw[<-hkd];unfold kd;rw[eT (.inl (by omega))]
   rw[this];rfl
  have hbk:begins k=false:=by
   unfold begins;rw[aj,show gF k=false by simpa using c2,show opens k=false by simpa using c4,show(k==18)=false by simpa using c3];rfl
  by_cases hp:i0=p
  ·rw[<-hp,<-m2,hkd];exact hbk
  have:=CF (λj=>raw l j==3) (e-p) p (by rw[<-hi0]at hp;exact hp);have h3:raw l p=3:=by simpa using this
  unfold kd;split
  ·rfl
  rw[h3];rfl
theorem JX(hn:(e:Int)<=n){c j q P:Nat}{s:St}{ps:mI}{b:Int}(hck:Ck s.t n)(hf:Fits s.t j b (B+c))(hb:b<=j)(hjq:j<q)(hqe:q<=e)(hr:Rel B up0 T0 ps.q s.t c P)(hP:P<=j)(hd:s.d=ps.d):
 ∃s',pair l s ((B+c:Nat):Int) j q=(s',(s.t.length:Int))/\Ok n s.t.length s q q s'/\(∃x,s'.t[s.t.length]?=some x/\x.u=((B+c:Nat):Int))/\0<s.t.length/\
  Rel B up0 T0 (yz l ps c j q).q s'.t ps.q.length q/\s'.d=(yz l ps c j q).d/\(∃y,(yz l ps c j q).q[ps.q.length]?=some y/\y.u=(c:Int))/\s'.t.length<=s.t.length+(if q-j<2 then 1 else 2):=by
 have ae:=hr.cur;have hlen:=hr.len;have af:B+ps.q.length=s.t.length:=by omega
 have ag:cT B up0 (c:Int)=B+c:=mF B up0 c;have hf':Fits s.t j b (cT B up0 (c:Int)):=by rw[ag];exact hf
 obtain⟨s1,a1,_,a3,⟨x,a4,a5⟩,a6⟩:=iW (kind:=6) (Ok.start hck hf) (f:=j) (t:=q) (by omega) (by omega) (by omega) (by omega) (by omega);have a1:add s ((B+c:Nat):Int) 6 j q=(s1,(s.t.length:Int)):=a1;obtain⟨r,b1,b2,_,b4⟩:=pX (ps:=ps) (kind:=6) (f:=j) (t:=q) hck hf' (by omega) (by omega) (by omega) (by omega) (by omega) hr (λh=>by omega);have b4:=b4 (by omega);rw[ag]at b1;have hs1:s1=⟨r,s.d⟩:=by unfold add at a1;rw[b1]at a1;exact(congrArg Prod.fst a1).symm
 have hnew:=oM ps.q c 6 j ae.2;unfold pair yz;dsimp only;rw[a1];dsimp only;by_cases h:q-j<2
 ·rw[eT h,eT h,eT h];exact⟨s1,rfl,a3.le (by omega) (by omega),⟨x,a4,a5⟩,a6,by rw[hs1];exact b4,by rw[hs1];exact hd,⟨_,hnew,rfl⟩,by rw[hs1];show r.length<=_;omega⟩
 rw[eQ h,eQ h,eQ h];obtain⟨kind,hkind⟩:∃kind:Nat,kind=(if(List.range (q-j)).any (λx=>raw l (j+x)==13)=true then 8 else 7):=⟨_,rfl⟩
 rw[<-hkind];have hk1:1<=kind/\kind<=10:=by rw[hkind];split<;>omega
 have b1':=fQ l (q-1) (j+1);have b2':=pQ l (q-1) (j+1) (by omega);obtain⟨kt,hkt⟩:=eX (back l (q-1) (j+1));rw[hkt]at b1' b2' ⊢;obtain⟨s2,d1,d2,_⟩:=iW (kind:=kind) (Ok.start a3.ck a3.fits) (f:=j) (t:=kt) (by omega) (by omega) (by omega) hk1.1 hk1.2;have aa:cT B up0 ((ps.q.length:Nat):Int)=s.t.length:=by rw[mF];exact af
 have hr1:Rel B up0 T0 (⟨lV ps.q c 6 j,ps.d⟩:mI).q s1.t (ps.q.length:Int) q:=by rw[hs1];exact b4
 obtain⟨r2,e1,e2,e3,_⟩:=pX (s:=s1) (ps:=⟨lV ps.q c 6 j,ps.d⟩) (c:=(ps.q.length:Int)) (kind:=kind) (f:=j) (t:=kt) a3.ck (by rw[aa];exact a3.fits) (by omega) (by omega) (by omega) hk1.1 (by omega) hr1 (λh=>by omega);rw[aa]at e1;have hs2:s2=⟨r2,s1.d⟩:=by unfold add at d1;rw[e1]at d1;exact(congrArg Prod.fst d1).symm
 rw[show max q kt=q by omega]at e3;rw[d1];dsimp only;have d3:=l9 (s.t.length:Int) d2;obtain⟨x',g1,_,_,g2⟩:=d3.keep.2 _ x a4;have hkl:=Dw (lV ps.q c 6 j) ps.q.length kind j kt (ps.q.length:Int) (by rw[oL];omega) (by rw[oL];omega);have ah:Ck r2 n:=by have:=d2.ck;rw[hs2]at this;exact this
 have hkey:=e3.key ah.good ps.q.length (by rw[oV];rw[oL];omega);have hk0:(⟨lV ps.q c 6 j,ps.d⟩:mI).q=lV ps.q c 6 j:=rfl;rw[hk0,hkl,af]at hkey;have hold:=nH _ ps.q.length ps.q.length _ (uJ (lV ps.q c 6 j) (ps.q.length:Int) kind j kt ps.q.length _ hnew);rw[hkl]at hold
 exact⟨_,rfl,(a3.trans d3).le (by omega) (by omega),⟨x',g1,by omega⟩,a6,by rw[hs2];exact hkey,by rw[hs2,hs1];exact hd,⟨_,hold,rfl⟩,by
  show(keyed s2.t _).length<=_;rw[iB,hs2];show r2.length<=_;have:s1.t.length=r.length:=by rw[hs1]
  omega⟩
theorem JY(hn:(e:Int)<=n)(val:Int->Nat->St->Int×Nat×St)(aa:Int->Nat->mI->Nat×mI)(hv:SV l e n B up0 T0 val aa)(af:Bool){c j P:Nat}{s:St}{ps:mI}{b:Int}
 (hck:Ck s.t n) (hf:Fits s.t j b (B+c)) (hb:b<=j) (hr:Rel B up0 T0 ps.q s.t c P) (hP:P<=j) (hd:s.d=ps.d) (hj:kd l e j≠0) (hcj:cnt (raw l j)=true) (ah:0<key l e j\/begins (kd l e j)=true):
 ∃(next:Nat)(s':St)(ps':mI),item l e val af ((B+c:Nat):Int) j s=(next,s')/\D9 l e aa af c j ps=(next,ps')/\j<next/\next<=e/\cnt (raw l (next-1))=true/\Ok n (B+c) s next next s' /\
  Rel B up0 T0 ps'.q s'.t c next/\s'.d=ps'.d/\s'.t.length<=s.t.length+2*(next-j):=by
 have aC:=(jW hj).1;have hlen:=hr.len;have ai:=hr.cur;have aj:B+ps.q.length=s.t.length:=by omega
 have ae:cT B up0 ((ps.q.length:Nat):Int)=s.t.length:=by rw[mF];exact aj
 unfold item D9;dsimp only;by_cases hq:0<key l e j
 ·rw[eT hq,eT hq];obtain⟨q1,q2,q3⟩:=pI (by omega) hq;obtain⟨q,az⟩:=eX (key l e j);rw[az]at q1 q2 q3⊢;obtain⟨s1,a1,a2,⟨x,a3,a4⟩,a5,a6,a7,⟨y,a8,a9⟩,ak⟩:=JX (l:=l) (e:=e) hn hck hf hb q1 q2 hr hP hd;rw[a1];dsimp only;have hcq:cnt (raw l (q-1))=true:=by rw[q3];rfl
  have ht:=iN (l:=l) (e:=e) (i:=q) q2;obtain⟨xx,ag⟩:=eX (fq l e q);rw[ag]at ht⊢;have aA:xx=e\/cnt (raw l xx)=true:=by
   have:=nE (λj=>!cnt (raw l j)) (e-q) q;unfold fq at ag;rw[ag]at this;rcases this with h|h
   ·exact .inl (by omega)
   exact .inr (by simpa using h)
  obtain⟨pp,aB⟩:=eX (yz l ps c j q);rw[aB]at a6 a7 a8⊢;have stop:val (s.t.length:Int) xx s1=(-1,xx,s1)/\aa (ps.q.length:Int) xx pp=(xx,pp)->
   ∃ps',((if(aa (ps.q.length:Int) xx pp).1=xx then q else(aa (ps.q.length:Int) xx pp).1),(⟨vV (aa (ps.q.length:Int) xx pp).2.q ps.q.length (if(aa (ps.q.length:Int) xx pp).1=xx then q else(aa (ps.q.length:Int) xx pp).1),(aa (ps.q.length:Int) xx pp).2.d⟩:mI))=(q,ps')/\
    Rel B up0 T0 ps'.q s1.t c q/\s1.d=ps'.d:=by
   intro h;rw[h.2];dsimp only;rw[eT rfl];refine⟨_,rfl,?_,a7⟩;have:=a6.close a2.ck.good a8;rw[a9]at this;exact this
  have hvv:=hv ps.q.length xx q s1 pp q a2.ck (by rw[ae];exact a2.fits.le (by omega) (ji _)) (by omega) ht.2 a6 (by omega) (λh=>by omega) a7;rw[ae]at hvv;have hbk:q-j<2\/2<=q-j:=by omega
  have hlq:s1.t.length<=s.t.length+2*(q-j):=by split at ak<;>omega
  split
  ·rename_i hst;rcases hvv with⟨v1,v2,_⟩|⟨next,s2,ps2,v1,v2,v3,v4,v5,v6,v7,v8,v9,v10,v11⟩
   ·obtain⟨ps',w1,w2,w3⟩:=stop ⟨v1,v2⟩;exact⟨q,s1,ps',rfl,w1,q1,q2,hcq,a2.out a3 a4 a5,w2,w3,hlq⟩
   exfalso;have hb2:begins (kd l e xx)=false:=by
    rcases hst with h|h|h
    ·rw[h];rfl
    ·rw[h];rfl
    unfold ends at h;simp at h;rcases h with h|h<;>rw[h]<;>rfl
   rcases v11 with h|h
   ·rw[hb2]at h;cases h
   rcases aA with h2|h2
   ·omega
   rw[h]at h2;exact absurd h2 (by decide)
  rcases hvv with⟨v1,v2,_⟩|⟨next,s2,ps2,v1,v2,v3,v4,v5,v6,v7,v8,v9,v10,v11⟩
  ·obtain⟨ps',w1,w2,w3⟩:=stop ⟨v1,v2⟩;rw[v1];exact⟨q,s1,ps',rfl,w1,q1,q2,hcq,a2.out a3 a4 a5,w2,w3,hlq⟩
  rw[v1,v2];dsimp only;rw[eQ (by omega),eQ (by omega)];obtain⟨x',g1,_,_,g2⟩:=v6.keep.2 _ x a3;obtain⟨y',y1,y2,_⟩:=a6.same v7 v6.keep a8;have hcl:=v7.close v6.ck.good y1;rw[y2,a9]at hcl;refine⟨next,s2,_,rfl,rfl,by omega,v4,v5,(a2.trans v6).out g1 (by omega) a5,hcl,v8,?_⟩;split at ak<;>omega
 rw[eQ hq,eQ hq];have hbg:begins (kd l e j)=true:=ah.resolve_left hq;cases af with
 |true=>
  rw[eT rfl,eT rfl];have av:cT B up0 (c:Int)=B+c:=mF B up0 c;obtain⟨s1,a1,_,a3,⟨x,a4,a5⟩,a6⟩:=iW (kind:=6) (Ok.start hck hf) (f:=j) (t:=j+1) (by omega) (by omega) (by omega) (by omega) (by omega);have a1:add s ((B+c:Nat):Int) 6 j (j+1)=(s1,(s.t.length:Int)):=a1;obtain⟨r,b1,b2,_,b4⟩:=pX (ps:=ps) (kind:=6) (f:=j) (t:=j+1) hck (by rw[av];exact hf) (by omega) (by omega) (by omega) (by omega) (by omega) hr (λh=>by omega);have b4:=b4 (by omega);rw[av]at b1;have hs1:s1=⟨r,s.d⟩:=by unfold add at a1;rw[b1]at a1;exact(congrArg Prod.fst a1).symm
  have hnew:=oM ps.q c 6 j ai.2;rw[a1];dsimp only;have d3:=l9 (s.t.length:Int) a3;obtain⟨x1,g1,_,_,g2⟩:=(l9 (s.t.length:Int) (Ok.start a3.ck a3.fits)).keep.2 _ x a4;have ax:Ck r n:=by have:=a3.ck;rw[hs1]at this;exact this
  have hkey:=b4.key ax.good ps.q.length (by rw[oL];omega);rw[aj]at hkey;have ay:Rel B up0 T0 (keyed (lV ps.q c 6 j) (ps.q.length:Int)) (keyed s1.t (s.t.length:Int)) (ps.q.length:Int) (j+1):=by rw[hs1];exact hkey
  have hvv:=hv ps.q.length j (j+1) ⟨keyed s1.t (s.t.length:Int),s1.d⟩ ⟨keyed (lV ps.q c 6 j) ps.q.length,ps.d⟩ (j+1:Nat) d3.ck (by rw[ae];exact d3.fits.le (ji _) (by omega)) (by omega) (by omega) ay (by omega) (λh=>by omega) (by rw[hs1];exact hd);rw[ae]at hvv;rcases hvv with⟨_,_,v2⟩|⟨next,s2,ps2,v1,v2,v3,v4,v5,v6,v7,v8,v9,v10,v11⟩
  ·rw[hbg]at v2;exact absurd v2 (by decide)
  rw[v1,v2];dsimp only;obtain⟨x2,k1,_,_,k2⟩:=v6.keep.2 _ x1 g1;obtain⟨y',y1,y2,_⟩:=ay.same v7 v6.keep (nH _ ps.q.length ps.q.length _ hnew);have hcl:=v7.close v6.ck.good y1;rw[y2]at hcl;refine⟨next,s2,_,rfl,rfl,v3,v4,v5,(d3.trans v6).out k1 (by omega) a6,hcl,v8,?_⟩;have h1:(keyed s1.t (s.t.length:Int)).length=s.t.length+1:=by rw[iB,hs1];exact b2
  have v10:s2.t.length+1<=(keyed s1.t (s.t.length:Int)).length+2*(next-j):=v10;omega
 |false=>
  rw[eQ (by decide),eQ (by decide)];have hvv:=hv c j P s ps b hck (by rw[mF];exact hf) (by omega) (by omega) hr (by omega) (λh=>by omega) hd;rw[mF]at hvv;rcases hvv with⟨_,_,v2⟩|⟨next,s2,ps2,v1,v2,v3,v4,v5,v6,v7,v8,v9,v10,v11⟩
  ·rw[hbg]at v2;exact absurd v2 (by decide)
  rw[v1,v2];exact⟨next,s2,ps2,rfl,rfl,v3,v4,v5,v6,v7,v8,by omega⟩
theorem ER(hn:(e:Int)<=n)(val:Int->Nat->St->Int×Nat×St)(ae:Int->Nat->mI->Nat×mI)(hv:SV l e n B up0 T0 val ae)(c op:Nat)(u:Int):
 ∀(g p:Nat)(aa:Bool)(s:St)(ps:mI)(b:Int),e-p<g->Ck s.t n->Fits s.t p b (B+c)->b<=p->op<p->p<=e->cnt (raw l (p-1))=true->Rel B up0 T0 ps.q s.t c p->s.d=ps.d->(∃x,ps.q[c]?=some x/\x.u=u)->
 ∃(next:Nat)(s':St)(ps':mI),jB l e val ((B+c:Nat):Int) op g p aa s=(next,s')/\rQ l e ae c op g p aa ps=(next,ps')/\op<next/\p<=next/\next<=e/\cnt (raw l (next-1))=true/\Ok n (B+c) s next next s' /\
  Rel B up0 T0 ps'.q s'.t u next/\s'.d=ps'.d/\(∃y,ps'.q[c]?=some y/\y.t=(next:Int))/\s'.t.length<=s.t.length+2*(next-p)
 |0,p,aa,s,ps,b=>λhg=>by omega
 |g+1,p,aa,s,ps,b=>λhg hck hf hb hop hpe hcp hr hd hx=>by
  have ht:=iN (l:=l) (e:=e) (i:=p) hpe;have hs:Ok n (B+c) s p b s:=.start hck hf;have ag:cT B up0 (c:Int)=B+c:=mF B up0 c;have hf':Fits s.t p b (cT B up0 (c:Int)):=by rw[ag];exact hf
  rw[jB,rQ];obtain⟨j,hj⟩:=eX (fq l e p);rw[hj]at ht⊢;obtain⟨k,hk⟩:=eX (kd l e j);rw[hk];obtain⟨x,hx1,hxu⟩:=hx;by_cases k0:k=0
  ·rw[eT k0,eT k0,rz l p (op+1) (by omega) hcp];have hcl:=hr.close hck.good hx1;rw[hxu]at hcl;exact⟨p,_,_,rfl,rfl,hop,fC _,hpe,hcp,zI (hs.le (ji _) hb),hcl,by show s.d++_=ps.d++_;rw[hd],⟨_,nY _ c p c x hx1,by rw[eT rfl]⟩,by show s.t.length<=_;omega⟩
  rw[eQ k0,eQ k0];have hjk:=jW (l:=l) (e:=e) (i:=j) (by omega);rw[hk]at hjk;have on:∀(p':Nat)(h':Bool)(s1:St)(af:mI),Ok n (B+c) s p' p' s1->j<p'->p'<=e->cnt (raw l (p'-1))=true->Rel B up0 T0 af.q s1.t c p'->s1.d=af.d->s1.t.length<=s.t.length+2*(p'-p)->
   ∃(next:Nat)(s':St)(ps':mI),jB l e val ((B+c:Nat):Int) op g p' h' s1=(next,s')/\rQ l e ae c op g p' h' af=(next,ps')/\op<next/\p<=next/\next<=e/\cnt (raw l (next-1))=true/\Ok n (B+c) s next next s' /\
    Rel B up0 T0 ps'.q s'.t u next/\s'.d=ps'.d/\(∃y,ps'.q[c]?=some y/\y.t=(next:Int))/\s'.t.length<=s.t.length+2*(next-p):=by
   intro p' h' s1 af h1 h2 h3 h4 h5 h6 h7;obtain⟨y,y1,y2,_⟩:=hr.same h5 h1.keep hx1;obtain⟨next,s',ps',g1,g2,g3,g4,g5,g6,g7,g8,g9,g10,g11⟩:=ER hn val ae hv c op u g p' h' s1 af p' (by omega) h1.ck h1.fits (ji _) (by omega) h3 h4 h5 h6 ⟨y,y1,by omega⟩;exact⟨next,s',ps',g1,g2,g3,by omega,g5,g6,h1.trans g7,g8,g9,g10,by omega⟩
  have er:∀(t code:Nat),code≠9->j<t->t<=e->Ok n (B+c) s t t (err l s ((B+c:Nat):Int) j t code)/\Rel B up0 T0 (Cz l ps c j t code).q (err l s ((B+c:Nat):Int) j t code).t c t/\(err l s ((B+c:Nat):Int) j t code).d=(Cz l ps c j t code).d/\(err l s ((B+c:Nat):Int) j t code).t.length<=s.t.length+1:=by
   intro t code h1 h2 h3;obtain⟨r,b1,b2,b3,_⟩:=pX (ps:=ps) (kind:=11) (f:=j) (t:=t) hck hf' (by omega) (by omega) (by omega) (by omega) (by omega) hr (λh=>by omega);rw[ag]at b1;rw[show max p t=t by omega]at b3;have hs1:err l s ((B+c:Nat):Int) j t code=⟨r,s.d++[⟨code,pF l j,too l (t-1)⟩]⟩:=by unfold err;rw[show(11:Int)=((11:Nat):Int)from rfl,b1]
   refine⟨(jL l hs (f:=j) (t:=t) (code:=code) (by omega) (by omega) (by omega) h1).1.le (ji _) (by omega),?_,?_,?_⟩
   ·rw[hs1];exact b3
   ·rw[hs1];show s.d++_=ps.d++_;rw[hd]
   rw[hs1];show r.length<=_;omega
  have gr:Ok n (B+c) s (j+1:Nat) (j+1:Nat) ⟨gJ s.t (B+c:Nat) ((j+1:Nat):Int),s.d⟩:=nX hs (by omega) (by omega) (by omega);have ai:gJ s.t (B+c:Nat) ((j+1:Nat):Int)=gP s.t (cT B up0 (c:Int):Nat) ((j+1:Nat):Int):=by
   unfold gJ ku;have hl:=hf.lt;rw[hck.firstT,ag,show decide (((B+c:Nat):Int)<0)=false from iF (by omega),show decide ((s.t.length:Int)<=((B+c:Nat):Int))=false from iF (by omega),show decide (n<((j+1:Nat):Int))=false from iF (by omega)];rfl
  have ah:Rel B up0 T0 ps.q (gJ s.t (B+c:Nat) ((j+1:Nat):Int)) c (j+1):=by
   have:=hr.grow hck.good (by omega) (j+1);rw[show max p (j+1)=j+1 by omega]at this;rw[ai];exact this
  have aj:(gJ s.t (B+c:Nat) ((j+1:Nat):Int)).length=s.t.length:=Jo hck.good _ _;have c1:cnt k=true->cnt (raw l (j+1-1))=true:=λh=>by rw[lJ,hjk.2];exact h
  by_cases k1:k=(if raw l op=9 then 11 else 10)
  ·rw[eT k1,eT k1];have hcl:=ah.close gr.ck.good hx1;rw[hxu]at hcl;exact⟨j+1,_,_,rfl,rfl,by omega,by omega,by omega,c1 (by rw[k1];split<;>rfl),gr,hcl,hd,⟨_,nY _ c (j+1) c x hx1,by rw[eT rfl]⟩,by show(gJ s.t (B+c:Nat) ((j+1:Nat):Int)).length<=_;omega⟩
  rw[eQ k1,eQ k1];by_cases k2:ends k=true
  ·rw[eT k2,eT k2];obtain⟨e1,e2,e3,e4⟩:=er (j+1) 8 (by omega) (by omega) (by omega);exact on (j+1) aa _ _ e1 (by omega) (by omega) (c1 (vF k2)) e2 e3 (by omega)
  rw[eQ k2,eQ k2];by_cases k3:k=7
  ·rw[eT k3,eT k3];have c7:=c1 (by rw[k3];rfl);split
   ·exact on (j+1) false _ _ gr (by omega) (by omega) c7 ah hd (by show(gJ s.t (B+c:Nat) ((j+1:Nat):Int)).length<=_;omega)
   obtain⟨e1,e2,e3,e4⟩:=er (j+1) 8 (by omega) (by omega) (by omega);exact on (j+1) aa _ _ e1 (by omega) (by omega) c7 e2 e3 (by omega)
  rw[eQ k3,eQ k3];have hcj:cnt (raw l j)=true:=by
   have hnt:j=e\/(λj=>!cnt (raw l j)) j=false:=by
    have:=nE (λj=>!cnt (raw l j)) (e-p) p;unfold fq at hj;rw[hj]at this;rcases this with h|h
    ·exact .inl (by omega)
    exact .inr h
   rcases hnt with h|h
   ·omega
   simpa using h
  by_cases k4:aa=true
  ·rw[eT k4,eT k4];obtain⟨t1,t2,t3⟩:=tJ (l:=l) (e:=e) (j:=j) (by omega) hcj (by omega) (by rw[hk];simpa using k2);obtain⟨e1,e2,e3,e4⟩:=er (jr l e j) 8 (by omega) t1 t2;exact on _ aa _ _ e1 t1 t2 t3 e2 e3 (by omega)
  rw[eQ k4,eQ k4];by_cases k5:0<key l e j\/begins k=true
  ·rw[eT k5,eT k5];obtain⟨next,s',ps',i1,i2,i3,i4,i5,i6,i7,i8,i9⟩:=JY hn val ae hv (raw l op==9) (c:=c) (j:=j) hck (hf.le (by omega) (ji _)) (by omega) hr (by omega) hd (by omega) hcj (by rw[hk];exact k5);rw[i1,i2];exact on next true s' ps' i6 i3 i4 i5 i7 i8 (by omega)
  rw[eQ k5,eQ k5];obtain⟨e1,e2,e3,e4⟩:=er (j+1) 8 (by omega) (by omega) (by omega);exact on (j+1) aa _ _ e1 (by omega) (by omega) (c1 (by rw[<-hjk.2];exact hcj)) e2 e3 (by omega)
theorem ET(hn:(e:Int)<=n):∀d:Nat,SV l e n B up0 T0 (gI l e d) (Ea l e d)
 |0=>EP hn none none (.inl ⟨rfl,rfl⟩)
 |d+1=>EP hn _ _ (.inr ⟨_,_,rfl,rfl,λc op s ps b x ho hc hck hf hb hr hd hx=>by
  obtain⟨next,s',ps',g1,g2,g3,g4,g5,g6,g7,g8,g9,g10,g11⟩:=ER hn _ _ (ET hn d) c op x.u (e-op) (op+1) false s ps b (by omega) hck hf hb (by omega) (by omega) (by rw[lJ];exact hc) hr hd ⟨x,hx,rfl⟩
  exact⟨next,s',ps',g1,g2,g3,g5,g6,g7,g8,g9,g10,by omega⟩⟩)
end
end Fl
namespace Fl
open Ar
def shift(up:Int)(B:Nat)(q:List Nd):List Nd:=q.mapIdx (λi x=>{x with u:=if i=0 then up else x.u+(B:Int),ks:=x.ks.map (·+(B:Int))})
theorem Gj(up:Int)(B:Nat)(q:List Nd):(shift up B q).length=q.length:=by simp[shift]
theorem JZ(up:Int)(B:Nat)(q:List Nd)(i:Nat)(x:Nd)(hx:q[i]?=some x):(shift up B q)[i]?=some {x with u:=if i=0 then up else x.u+(B:Int),ks:=x.ks.map (·+(B:Int))}:=by
 unfold shift;rw[List.getElem?_mapIdx,hx];rfl
def CX(T:List Nd)(up:Int)(q:List Nd):List Nd×Int:=match q with
 |[]=>(T,-1)
 |v::r=>if iL T up v.k v.f v.t=true then((addN T up v.k v.f v.t).1.take T.length++shift up T.length (v::r),(T.length:Int))else(T,-1)
section
variable {l:List Tk}{e:Nat}{n:Int}{T0:List Nd}{up0:Nat}
theorem Gl(T0:List Nd)(up0 p:Nat)(h:up0<T0.length):Rel T0.length up0 T0 [] T0 (-1) p:=
 ⟨by simp,⟨rfl,h⟩,by simp,λi x hx=>by simp at hx,λi x hx=>by simp at hx,λi x hx=>⟨x,hx,rfl,rfl,rfl,rfl,by simp,.inr ⟨.inr rfl,rfl⟩⟩⟩
theorem EU{x y:Nd}(h1:x.k=y.k)(h2:x.f=y.f)(h3:x.t=y.t)(h4:x.u=y.u)(h5:x.ks=y.ks)(h6:x.y=y.y):x=y:=by
 cases x;cases y;dsimp only at h1 h2 h3 h4 h5 h6;subst h1 h2 h3 h4 h5 h6;rfl
theorem J2(hn:(e:Int)<=n)(d p:Nat)(b:Int)(hck:Ck T0 n)(hf:Fits T0 p b up0)(hb:b<=p+1)(hpe:p<=e):
 (gI l e d up0 p ⟨T0,[]⟩=(-1,p,⟨T0,[]⟩)/\Ea l e d (-1) p ⟨[],[]⟩=(p,⟨[],[]⟩))\/
 (∃(next:Nat)(s':St)(ps':mI),gI l e d up0 p ⟨T0,[]⟩=((T0.length:Int),next,s')/\Ea l e d (-1) p ⟨[],[]⟩=(next,ps')/\p<next/\next<=e/\Ok n up0 ⟨T0,[]⟩ next next s'/\s'.d=ps'.d/\
  0<ps'.q.length/\CX T0 up0 ps'.q=(s'.t,(T0.length:Int))/\s'.t.length=T0.length+ps'.q.length/\s'.t.length+1<=T0.length+2*(next-p)/\
  (∀(i:Nat)(x:Nd),ps'.q[i]?=some x->-1<=x.u/\x.u<=i/\∀z∈x.ks,-(T0.length:Int)<=z/\z<=ps'.q.length)/\(∃v,ps'.q[0]?=some v/\iL T0 up0 v.k v.f v.t=true)):=by
 have hlt:=hf.lt;have hS:=ET (l:=l) (B:=T0.length) (up0:=up0) (T0:=T0) hn d (-1) p p ⟨T0,[]⟩ ⟨[],[]⟩ b hck (by rw[pV _ _ (by omega)];exact hf) hb hpe (Gl T0 up0 p hlt) (by omega) (λ_=>rfl) rfl;rw[pV _ _ (by omega)]at hS;rcases hS with⟨h1,h2,_⟩|⟨next,s',ps',h1,h2,h3,h4,h5,h6,h7,h8,⟨x,h9,h10,h11,h12,aa,ae⟩,af,_⟩
 ·exact .inl ⟨h1,h2⟩
 have hbd:∀(i:Nat)(x:Nd),ps'.q[i]?=some x->-1<=x.u/\x.u<=i/\∀z∈x.ks,-(T0.length:Int)<=z/\z<=ps'.q.length:=λi x hx=>by
  obtain⟨z,a1,a2,a3,a4,a5,_⟩:=h7.nd i x hx;have hgu:=(h6.ck.good.up _ z a1).2;have hup:=(h7.AF i x hx).1;refine⟨hup,?_,λy hy=>?_⟩
  ·rw[a4]at hgu;unfold cT at hgu;split at hgu<;>omega
  have:=h6.ck.good.kid _ z a1 (y+(T0.length:Int)) (by rw[a5];exact List.mem_map_of_mem hy);have:=h7.len;omega
 refine .inr ⟨next,s',ps',h1,h2,h3,h4,h6,h8,(fT.1 h9).1,?_,h7.len,af,hbd,⟨_,h9,?_⟩⟩
 case refine_2=>
  obtain⟨k,hk⟩:∃k:Nat,x.k=(k:Int):=⟨x.k.toNat,by omega⟩
  obtain⟨y,hy⟩:=iT T0 up0 hlt;exact vE hck hf hy h11 (by omega) (by omega) aa ae
 have h9:ps'.q[0]?=some x:=h9;have hpos:=(fT.1 h9).1;obtain⟨xk,xf,xt,xu,ag,xy⟩:=x;dsimp only at h10 h11 h12 aa ae;obtain⟨k,rfl⟩:∃k:Nat,xk=(k:Int):=⟨xk.toNat,by omega⟩
 obtain⟨f,rfl⟩:∃f:Nat,xf=(f:Int):=⟨xf.toNat,by omega⟩
 subst h10;obtain⟨y,hy⟩:=iT T0 up0 hlt;have hm:=vE (kind:=(k:Int)) (f:=(f:Int)) (t:=(next:Int)) hck hf hy h11 h12 (by omega) aa ae;obtain⟨r,a1,a2,a3,a4⟩:=I4 hck.good hm;have hlen:=h7.len;have hU:∀(i:Nat)(x:Nd),T0[i]?=some x->∃x',s'.t[i]?=some x'/\x'.u=x.u:=λi x hx=>by obtain⟨z,b1,_,_,b4,_⟩:=h7.old i x hx;exact⟨z,b1,b4⟩
 have hon:∀i,On s'.t up0 i↔On T0 up0 i:=λi=>nZ hck.good hlt hU
 have hpl:CX T0 up0 ps'.q=(r.take T0.length++shift up0 T0.length ps'.q,(T0.length:Int)):=by
  unfold CX;cases hq:ps'.q with
  |nil=>rw[hq]at hpos;simp at hpos
  |cons v w=>
   have hv:v=⟨k,f,next,xu,ag,xy⟩:=by rw[hq]at h9;simpa using h9
   rw[hv];dsimp only;rw[eT hm,a1]
 rw[hpl];refine Prod.ext ?_ rfl;refine(yQ ?_ (λi z hz=>?_)).symm
 ·rw[ig,jQ,a2,Gj,hlen];show T0.length+_=min T0.length (T0.length+1)+_;omega
 have hi:i<s'.t.length:=(fT.1 hz).1
 by_cases hlo:i<T0.length
 ·obtain⟨x0,hx0⟩:=iT T0 i hlo;rw[qx (by rw[jQ,a2];show i<min T0.length (T0.length+1);omega),FB hlo];obtain⟨z1,b1,b2,b3,b4,b5,b6,b7⟩:=h7.old i x0 hx0;rw[hz]at b1;injection b1 with b1;subst b1
  obtain⟨z2,c1,c2,c3,c4,c5,c6,c7⟩:=a4 i x0 hx0;rw[c1];have ht:z2.t=z.t:=by
   rw[hon]at b7;rcases b7 with⟨b7,_,b8⟩|⟨b7,b8⟩
   ·rcases c7 with⟨_,c8⟩|⟨c7,_⟩
    ·omega
    exact absurd b7 c7
   rcases c7 with⟨c7,_⟩|⟨_,c8⟩
   ·rcases b7 with b7|b7
    ·exact absurd c7 b7
    omega
   omega
  refine congrArg some (EU (by omega) (by omega) ht (by omega) ?_ (by rw[c5,b5]));rw[c6,b6];by_cases e:i=up0
  ·rw[eT e,eT ⟨e,hpos⟩]
  rw[eQ e,eQ (λh=>e h.1)]
 obtain⟨j,rfl⟩:∃j,i=T0.length+j:=⟨i-T0.length,by omega⟩
 obtain⟨x0,hx0⟩:=iT ps'.q j (by omega);have htl:(r.take T0.length).length=T0.length:=by rw[jQ,a2];show min T0.length (T0.length+1)=_;omega
 rw[uU (by omega),htl,Qx,JZ _ _ _ j x0 hx0];obtain⟨z1,b1,b2,b3,b4,b5,b6,b7⟩:=h7.nd j x0 hx0;rw[hz]at b1;injection b1 with b1;subst b1
 rw[pV _ _ (by omega)]at b7;have ht:x0.t=z.t:=by
  rcases b7 with⟨b7,_⟩|⟨_,b7⟩
  ·have:=((hon _).1 b7).low hck.good;omega
  omega
 have hup:=h7.AF j x0 hx0;refine congrArg some (EU b2.symm b3.symm ht ?_ b5.symm b6.symm);show(if j=0 then(up0:Int)else x0.u+(T0.length:Int))=z.u;rw[b4];by_cases e:j=0
 ·subst e;have h1:=h7.nd 0 x0 hx0;have hu0:x0.u<0:=by
   have hc:=(h6.ck.good.up _ z hz).2;rw[b4]at hc;unfold cT at hc;by_cases h2:x0.u<0
   ·exact h2
   rw[eQ h2]at hc;omega
  rw[eT rfl,pV _ _ hu0]
 have h0:=hup.2 (by omega);rw[eQ e];unfold cT;rw[eQ (by omega)];omega
end
end Fl
end Go.Proofs.YtfbiffdmhcjhbaaGreat

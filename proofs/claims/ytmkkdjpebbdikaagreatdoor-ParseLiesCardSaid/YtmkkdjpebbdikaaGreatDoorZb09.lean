import Derived.Test.YtmkkdjpebbdikaaGreatDoorZb06
set_option linter.all false
set_option maxHeartbeats 16000000
set_option maxRecDepth 100000
namespace Go.Proofs.YtmkkdjpebbdikaaGreatDoor
open Go.RowKit Tryz
namespace Fl
open Ar
theorem He{q q':List Nd}(hl:q.length=q'.length)(h:∀(i:Nat)(x:Nd),q[i]?=some x->q'[i]?=some x):q=q':=by
 refine r9 (λi=>?_);cases hx:q[i]? with
 |none=>
  have:q'[i]?=none:=by rw[AA]at hx⊢;omega
  rw[this]
 |some x=>exact(h i x hx).symm
theorem x8(q:List Nd)(up:Int)(k f t:Nat)(hu:up<q.length):(jr q up k f t)[q.length]?=some ⟨k,f,t,up,[],false⟩:=by
 rw[jr,oq _ _ _ _ _ (nz q up k f hu),dX rfl]
theorem lg(q:List Nd)(up:Int)(k f t:Nat):(jr q up k f t).length=q.length+1:=by rw[jr,jD,iM]
theorem uC(q:List Nd)(up:Int)(k f t:Nat)(i:Nat)(x:Nd)(hx:q[i]?=some x):(jr q up k f t)[i]?=some {x with ks:=if(i:Int)=up then x.ks++[(q.length:Int)]else x.ks}:=by
 have hi:=(eY.1 hx).1;rw[jr,oq _ _ _ _ _ (wR q up k f i x hx),dW (show¬i=q.length by omega)]
theorem RQ(q:List Nd)(n k f t:Nat)(up:Int)(hn:n<q.length)(hu:up<q.length):keyed (jr q up k f t) n=jr (keyed q n) up k f t:=by
 refine He (by rw[fQ,lg,lg,fQ]) (λi x hx=>?_);obtain⟨y,hy⟩:=qy (fQ _ _) hx;rw[nA _ n i y hy]at hx;injection hx with hx
 subst hx;have hi:=(eY.1 hy).1;rw[lg]at hi;by_cases e:i=q.length
 ·subst e;rw[x8 q up k f t hu]at hy;injection hy with hy
  subst hy;have:=x8 (keyed q n) up k f t (by rw[fQ];exact hu);rw[fQ]at this;rw[this,dW dS]
 ·obtain⟨z,hz⟩:∃z,q[i]?=some z:=⟨_,fu dS⟩
  rw[uC q up k f t i z hz]at hy;injection hy with hy
  subst hy;rw[uC (keyed q n) up k f t i _ (nA q n i z hz),fQ]
section
variable {l:List Tk}{e:Nat}{n:Int}{B up0:Nat}{T0:List Nd}
theorem Rel.same{q t q' t':List Nd}{c c':Int}{p p':Nat}(h:Rel B up0 T0 q t c p)(h':Rel B up0 T0 q' t' c' p')(hk:oM t t'){i:Nat}{x:Nd}(hx:q[i]?=some x):
 ∃x',q'[i]?=some x'/\x'.u=x.u/\x'.k=x.k/\x'.f=x.f:=by
 have hi:=(eY.1 hx).1;obtain⟨z,a1,a2,a3,a4,_⟩:=h.nd i x hx;obtain⟨z',b1,b2,b3,b4⟩:=hk.2 _ z a1;have hlt:=(eY.1 b1).1;obtain⟨x',hx'⟩:∃x',q'[i]?=some x':=⟨_,fu (by have:=h'.len;omega)⟩
 obtain⟨z2,c1,c2,c3,c4,_⟩:=h'.nd i x' hx';rw[b1]at c1;injection c1 with c1;subst c1
 have u1:=(h.ups i x hx).1;have u2:=(h'.ups i x' hx').1;have hlo:=h.lo;have hu:(cT B up0 x'.u:Int)=(cT B up0 x.u:Int):=dS
 refine⟨x',hx',?_,dS,dS⟩;unfold cT at hu;split at hu<;>split at hu<;>omega
theorem uX{s:St}{ps:fF}{c:Int}{P f t kind:Nat}{e0 b:Int}(hck:Ck s.t n)(hf:Fits s.t e0 b (cT B up0 c))(he:e0<=(f:Int))(hft:f<=t)(htn:(t:Int)<=n)(hk1:1<=kind)(hk2:kind<=11)
 (hr:Rel B up0 T0 ps.q s.t c P) (hq:c<0->ps.q.length=0/\P<=t):
 ∃r,addN s.t (cT B up0 c) kind f t=(r,(s.t.length:Int))/\r.length=s.t.length+1/\Rel B up0 T0 (jr ps.q c kind f t) r c (max P t)/\(P<=t->Rel B up0 T0 (iq ps.q c kind f) r ps.q.length t):=by
 obtain⟨y,hy⟩:∃y,s.t[cT B up0 c]?=some y:=⟨_,fu hf.lt⟩
 have hm:=CJ (kind:=(kind:Int)) hck hf hy he dS htn dS dS;obtain⟨r,h1,h2,h3⟩:=hr.put hck.good hm hq;have:=h2.len;rw[lg]at this;have h4:=hr.len;exact⟨r,h1,dS,h2,h3⟩
def SV(l:List Tk)(e:Nat)(n:Int)(B up0:Nat)(T0:List Nd)(val:Int->Nat->St->Int×Nat×St)(aa:Int->Nat->fF->Nat×fF):Prop:=
 ∀(c:Int)(p P:Nat)(s:St)(ps:fF)(b:Int),Ck s.t n->Fits s.t p b (cT B up0 c)->b<=p+1->p<=e->Rel B up0 T0 ps.q s.t c P->P<=p+1->(c<0->ps.q.length=0)->s.d=ps.d->
  (val (cT B up0 c) p s=(-1,p,s)/\aa c p ps=(p,ps)/\begins (kd l e p)=false)\/
  (∃(next:Nat)(s':St)(ps':fF),val (cT B up0 c) p s=((s.t.length:Int),next,s')/\aa c p ps=(next,ps')/\p<next/\next<=e/\cnt (raw l (next-1))=true/\Ok n (cT B up0 c) s next next s' /\
   Rel B up0 T0 ps'.q s'.t c next/\s'.d=ps'.d/\(∃x,ps'.q[ps.q.length]?=some x/\x.t=(next:Int)/\(p:Int)<=x.f/\x.f<=(next:Int)/\1<=x.k/\x.k<=11)/\s'.t.length+1<=s.t.length+2*(next-p)/\(begins (kd l e p)=true\/raw l p=3))
def SC(l:List Tk)(e:Nat)(n:Int)(B up0:Nat)(T0:List Nd)(eT:Int->Nat->St->Nat×St)(aa:Nat->Nat->fF->Nat×fF):Prop:=
 ∀(c op:Nat)(s:St)(ps:fF)(b:Int)(x:Nd),op<e->cnt (raw l op)=true->Ck s.t n->Fits s.t (op+1:Nat) b (B+c)->b<=(op+1:Nat)->Rel B up0 T0 ps.q s.t c (op+1)->s.d=ps.d->ps.q[c]?=some x->
  ∃(next:Nat)(s':St)(ps':fF),eT ((B+c:Nat):Int) op s=(next,s')/\aa c op ps=(next,ps')/\op<next/\next<=e/\cnt (raw l (next-1))=true/\Ok n (B+c) s next next s' /\
   Rel B up0 T0 ps'.q s'.t x.u next/\s'.d=ps'.d/\(∃y,ps'.q[c]?=some y/\y.t=(next:Int))/\s'.t.length+2<=s.t.length+2*(next-op)
theorem EH{i f:Nat}(h:gG (kd l e i)=false):lead l e f none i=(none,i):=by
 cases f with
 |zero=>rfl
 |succ f=>rw[lead,dW (by simp[h])]
theorem T7(hn:(e:Int)<=n)(eT:Option (Int->Nat->St->Nat×St))(ae:Option (Nat->Nat->fF->Nat×fF))
 (hk:(eT=none/\ae=none)\/∃k pk,eT=some k/\ae=some pk/\SC l e n B up0 T0 k pk):SV l e n B up0 T0 (oJ l e eT) (Ca l e ae):=by
 intro c p P s ps b hck hf hb hpe hr hP hq hd;have h0:=kN (l:=l) hpe;obtain⟨i0,hi0⟩:=eu (blanks l e p);have hl:=xI l e i0 (e-i0) none i0 (eO _) dS (λa z h=>jQ);have hlead:i0=p->gG (kd l e p)=false->0<e-i0->lead l e (e-i0) none i0=(none,p):=λh1 h2 h3=>by subst h1;exact EH h2
 obtain⟨o,ho⟩:=eu ((lead l e (e-i0) none i0).1);obtain⟨i,hi⟩:=eu ((lead l e (e-i0) none i0).2);rw[hi0]at h0;rw[ho,hi]at hl;obtain⟨l1,l2,l3,l4⟩:=hl;obtain⟨fr,hfr⟩:=eu (j5 o i);have ai:p<=fr/\fr<=i:=by
  rw[<-hfr];cases o with
  |none=>exact⟨by show p<=i;omega,eO _⟩
  |some x=>obtain⟨a,z⟩:=x;have:=l3 a z rfl;show p<=a/\a<=i;omega
 have hs:Ok n (cT B up0 c) s p b s:=.start hck hf;obtain⟨k,hkd⟩:=eu (kd l e i);have aa:(k≠0/\(k=13\/gX k=true\/k=18\/opens k=true))\/o≠none->begins (kd l e p)=true\/raw l p=3:=by
  intro h;by_cases hp:i0=p
  ·refine .inl ?_;by_cases h2:gG (kd l e p)=true
   ·unfold begins;rw[h2];rfl
   ·have h2:gG (kd l e p)=false:=by simpa using h2
    have he0:0<e-i0:=by
     rcases h with⟨h,_⟩|h
     ·have:=(ji (l:=l) (e:=e) (i:=i) dS).1;omega
     ·cases o with
      |none=>exact absurd rfl h
      |some x=>obtain⟨a,z⟩:=x;have:=l3 a z rfl;omega
    have h3:=hlead hp h2 he0;rw[h3]at ho hi;have ho:none=o:=ho;have hi:p=i:=hi;subst ho hi;rcases h with⟨_,h⟩|h
    ·exact Zt
    ·exact absurd rfl h
  ·have:=Qz (λj=>raw l j==3) (e-p) p (by unfold blanks at hi0;rw[<-hi0]at hp;exact hp);exact .inr (by simpa using this)
 have put:∀(kind t:Nat),fr<t->t<=e->cnt (raw l (t-1))=true->1<=kind->kind<=10->(begins (kd l e p)=true\/raw l p=3)->
  ∃(next:Nat)(s':St)(ps':fF),((add s (cT B up0 c) kind fr t).2,t,(add s (cT B up0 c) kind fr t).1)=((s.t.length:Int),next,s')/\(t,(⟨jr ps.q c kind fr t,ps.d⟩:fF))=(next,ps')/\p<next/\next<=e/\cnt (raw l (next-1))=true/\Ok n (cT B up0 c) s next next s' /\
   Rel B up0 T0 ps'.q s'.t c next/\s'.d=ps'.d/\(∃x,ps'.q[ps.q.length]?=some x/\x.t=(next:Int)/\(p:Int)<=x.f/\x.f<=(next:Int)/\1<=x.k/\x.k<=11)/\s'.t.length+1<=s.t.length+2*(next-p)/\(begins (kd l e p)=true\/raw l p=3):=by
  intro kind t h1 h2 h3 h4 h5 h6;obtain⟨s',a1,a2,_⟩:=kJ (kind:=kind) hs (f:=fr) (t:=t) dS dS dS h4 h5;obtain⟨r,b1,b2,b3,_⟩:=uX (ps:=ps) (kind:=kind) (f:=fr) (t:=t) hck hf dS dS dS h4 dS hr (λh=>⟨hq h,dS⟩);have hs':s'=⟨r,s.d⟩:=Jf
  rw[show max P t=t by omega]at b3;have qp:=hr.cur;refine⟨t,s',⟨jr ps.q c kind fr t,ps.d⟩,by rw[a1],rfl,dS,h2,h3,a2.le (jk _) dS,?_,?_,⟨_,x8 ps.q c kind fr t qp.2,rfl,by show(p:Int)<=(fr:Int);omega,by show(fr:Int)<=(t:Int);omega,by show 1<=(kind:Int);omega,by show(kind:Int)<=11;omega⟩,?_,h6⟩
  ·rw[hs'];exact b3
  ·rw[hs'];exact hd
  ·rw[hs'];show r.length+1<=_;omega
 unfold oJ Ca;dsimp only;rw[hi0,ho,hi,hfr,hkd];have kin:k≠0->i<e/\raw l i=k:=λh=>JF
 by_cases c1:k=13
 ·rw[dX c1,dX c1];have hi2:=kin dS;exact .inr (put 8 (i+1) dS dS PO dS dS (aa (.inl ⟨dS,.inl c1⟩)))
 rw[dW c1,dW c1];by_cases c2:gX k=true
 ·rw[dX c2,dX c2];have hk0:k≠0:=λh=>by rw[h]at c2;exact absurd c2 dU
  have hi2:=kin hk0;exact .inr (put 7 (i+1) dS dS PU dS dS (aa (.inl ⟨hk0,.inr (.inl c2)⟩)))
 rw[dW c2,dW c2];by_cases c3:k=18
 ·rw[dX c3,dX c3];have ht:=CL (l:=l) (e:=e) (i:=i) dS;exact .inr (put 7 (text l e i) dS ht.2.1 ht.2.2 dS dS (aa (.inl ⟨dS,.inr (.inr (.inl c3))⟩)))
 rw[dW c3,dW c3];by_cases c4:opens k=true
 ·rw[dX c4,dX c4];have hk0:k≠0:=λh=>by rw[h]at c4;exact absurd c4 dU
  have hi2:=kin hk0;have hb6:=aa (.inl ⟨hk0,.inr (.inr (.inr c4))⟩);rcases hk with⟨rfl,rfl⟩|⟨q,pq,rfl,rfl,hsc⟩
  ·have ht:=my (l:=l) (e:=e) (i:=i) (by rw[hkd];exact c4);obtain⟨e1,e2⟩:=qY l hs (f:=fr) (t:=balanced l e i) (code:=10) dS dS dS dS;obtain⟨r,b1,b2,b3,_⟩:=uX (ps:=ps) (kind:=11) (f:=fr) (t:=balanced l e i) hck hf dS dS dS dS dS hr (λh=>⟨hq h,dS⟩);rw[show max P (balanced l e i)=balanced l e i by omega]at b3;have qp:=hr.cur;refine .inr ⟨balanced l e i,_,_,by dsimp only;rw[e2],rfl,dS,ht.2.1,ht.2.2,e1.le (jk _) dS,?_,?_,⟨_,x8 ps.q c 11 fr _ qp.2,rfl,by show(p:Int)<=(fr:Int);omega,by show(fr:Int)<=(balanced l e i:Int);omega,by show 1<=(11:Int);omega,by show(11:Int)<=11;omega⟩,?_,hb6⟩
   ·show Rel B up0 T0 _ (addN s.t (cT B up0 c) 11 fr (balanced l e i)).1 c _;rw[show(11:Int)=((11:Nat):Int)from rfl,b1];exact b3
   ·show s.d++_=ps.d++_;rw[hd]
   ·show(addN s.t (cT B up0 c) 11 fr (balanced l e i)).1.length+1<=_;rw[show(11:Int)=((11:Nat):Int)from rfl,b1];show r.length+1<=_;omega
  ·dsimp only;obtain⟨kind,hkind⟩:∃kind:Nat,kind=(if k=9 then 10 else 9):=⟨_,rfl⟩
   rw[<-hkind];have hk1:1<=kind/\kind<=10:=DU
   obtain⟨s',a1,a2,a3,⟨x,a4,a5⟩,a6⟩:=kJ (kind:=kind) hs (f:=fr) (t:=i+1) dS dS dS hk1.1 hk1.2;obtain⟨r,b1,b2,_,b4⟩:=uX (ps:=ps) (kind:=kind) (f:=fr) (t:=i+1) hck hf dS dS dS hk1.1 dS hr (λh=>⟨hq h,dS⟩);have b4:=b4 dS;have hs':s'=⟨r,s.d⟩:=Jf
   rw[a1];dsimp only;have qp:=hr.cur;have hlen:=hr.len;have af:B+ps.q.length=s.t.length:=dS
   have a3':Ok n (B+ps.q.length) s fr (max b (i+1:Nat)) s':=by rw[af];exact a3
   obtain⟨next,s2,ps2,k1,k2,k3,k4,k5,k6,k7,k8,k9,k10⟩:=hsc ps.q.length i s' ⟨iq ps.q c kind fr,ps.d⟩ (i+1:Nat) _ hi2.1 Jg a3'.ck (a3'.fits.le dS dS) (jk _)
    (by rw[hs'];exact b4) (by rw[hs'];exact hd) (nz ps.q c kind fr qp.2)
   rw[af]at k1;rw[k1,k2];obtain⟨x',g1,_,_,g2⟩:=k6.keep.2 _ x a4;have ag:Rel B up0 T0 (iq ps.q c kind fr) s'.t ps.q.length (i+1):=by rw[hs'];exact b4
   obtain⟨yy,w1,_,w2,w3⟩:=ag.same k7 k6.keep (nz ps.q c kind fr qp.2);obtain⟨y9,w4,w5⟩:=k9;rw[w1]at w4;injection w4 with w4;subst w4
   have w2:yy.k=(kind:Int):=w2;have w3:yy.f=(fr:Int):=w3;have hsl:s'.t.length=s.t.length+1:=by rw[hs'];exact b2
   have ah:Ok n s.t.length s' next next s2:=by rw[<-af];exact k6
   exact .inr ⟨next,s2,ps2,rfl,rfl,dS,k4,k5,(a2.trans ah).out g1 dS a6,k7,k8,⟨yy,w1,w5,dS,dS,dS,dS⟩,dS,hb6⟩
 rw[dW c4,dW c4];cases o with
 |some x=>
  obtain⟨a,z⟩:=x;have:=l3 a z rfl;have hfa:fr=a:=by rw[<-hfr];rfl
  exact .inr (put 7 (z+1) dS dS PW dS dS (aa (.inr eG)))
 |none=>
  refine .inl ⟨rfl,rfl,?_⟩;obtain⟨_,m2,m3⟩:=l4 rfl;have uN:gG k=false:=Y5
  exact YX
theorem acd(hn:(e:Int)<=n){c j q P:Nat}{s:St}{ps:fF}{b:Int}(hck:Ck s.t n)(hf:Fits s.t j b (B+c))(hb:b<=j)(hjq:j<q)(hqe:q<=e)(hr:Rel B up0 T0 ps.q s.t c P)(hP:P<=j)(hd:s.d=ps.d):
 ∃s',pair l s ((B+c:Nat):Int) j q=(s',(s.t.length:Int))/\Ok n s.t.length s q q s'/\(∃x,s'.t[s.t.length]?=some x/\x.u=((B+c:Nat):Int))/\0<s.t.length/\
  Rel B up0 T0 (mH l ps c j q).q s'.t ps.q.length q/\s'.d=(mH l ps c j q).d/\(∃y,(mH l ps c j q).q[ps.q.length]?=some y/\y.u=(c:Int))/\s'.t.length<=s.t.length+(if q-j<2 then 1 else 2):=by
 have qp:=hr.cur;have hlen:=hr.len;have ae:B+ps.q.length=s.t.length:=dS
 have af:cT B up0 (c:Int)=B+c:=qg B up0 c;have hf':Fits s.t j b (cT B up0 (c:Int)):=by rw[af];exact hf
 obtain⟨s1,a1,_,a3,⟨x,a4,a5⟩,a6⟩:=kJ (kind:=6) (Ok.start hck hf) (f:=j) (t:=q) dS dS dS dS dS;have a1:add s ((B+c:Nat):Int) 6 j q=(s1,(s.t.length:Int)):=a1;obtain⟨r,b1,b2,_,b4⟩:=uX (ps:=ps) (kind:=6) (f:=j) (t:=q) hck hf' dS dS dS dS dS hr (λh=>dS);have b4:=b4 dS;rw[af]at b1;have hs1:s1=⟨r,s.d⟩:=Jf
 have hnew:=nz ps.q c 6 j qp.2;unfold pair mH;dsimp only;rw[a1];dsimp only;by_cases h:q-j<2
 ·rw[dX h,dX h,dX h];exact⟨s1,rfl,a3.le dS dS,⟨x,a4,a5⟩,a6,by rw[hs1];exact b4,by rw[hs1];exact hd,⟨_,hnew,rfl⟩,by rw[hs1];show r.length<=_;omega⟩
 ·rw[dW h,dW h,dW h];obtain⟨kind,hkind⟩:∃kind:Nat,kind=(if(List.range (q-j)).any (λx=>raw l (j+x)==13)=true then 8 else 7):=⟨_,rfl⟩
  rw[<-hkind];have hk1:1<=kind/\kind<=10:=DU
  have b1':=gH l (q-1) (j+1);have b2':=xH l (q-1) (j+1) dS;obtain⟨kt,hkt⟩:=eu (back l (q-1) (j+1));rw[hkt]at b1' b2' ⊢;obtain⟨s2,d1,d2,_⟩:=kJ (kind:=kind) (Ok.start a3.ck a3.fits) (f:=j) (t:=kt) dS dS dS hk1.1 hk1.2;have aa:cT B up0 ((ps.q.length:Nat):Int)=s.t.length:=by rw[qg];exact ae
  have hr1:Rel B up0 T0 (⟨iq ps.q c 6 j,ps.d⟩:fF).q s1.t (ps.q.length:Int) q:=by rw[hs1];exact b4
  obtain⟨r2,e1,e2,e3,_⟩:=uX (s:=s1) (ps:=⟨iq ps.q c 6 j,ps.d⟩) (c:=(ps.q.length:Int)) (kind:=kind) (f:=j) (t:=kt) a3.ck (by rw[aa];exact a3.fits) dS dS dS hk1.1 dS hr1 (λh=>dS);rw[aa]at e1;have hs2:s2=⟨r2,s1.d⟩:=by unfold add at d1;rw[e1]at d1;exact(congrArg Prod.fst d1).symm
  rw[show max q kt=q by omega]at e3;rw[d1];dsimp only;have d3:=pY (s.t.length:Int) d2;obtain⟨x',g1,_,_,g2⟩:=d3.keep.2 _ x a4;have hkl:=RQ (iq ps.q c 6 j) ps.q.length kind j kt (ps.q.length:Int) (by rw[iM];omega) (by rw[iM];omega);have ag:Ck r2 n:=by have:=d2.ck;rw[hs2]at this;exact this
  have hkey:=e3.key ag.good ps.q.length (by rw[lg];rw[iM];omega);have hk0:(⟨iq ps.q c 6 j,ps.d⟩:fF).q=iq ps.q c 6 j:=rfl;rw[hk0,hkl,ae]at hkey;have hold:=nA _ ps.q.length ps.q.length _ (uC (iq ps.q c 6 j) (ps.q.length:Int) kind j kt ps.q.length _ hnew);rw[hkl]at hold
  exact⟨_,rfl,(a3.trans d3).le dS dS,⟨x',g1,dS⟩,a6,by rw[hs2];exact hkey,by rw[hs2,hs1];exact hd,⟨_,hold,rfl⟩,by
   show(keyed s2.t _).length<=_;rw[fQ,hs2];show r2.length<=_;have:s1.t.length=r.length:=by rw[hs1]
   omega⟩
theorem ace(hn:(e:Int)<=n)(val:Int->Nat->St->Int×Nat×St)(aa:Int->Nat->fF->Nat×fF)(hv:SV l e n B up0 T0 val aa)(af:Bool){c j P:Nat}{s:St}{ps:fF}{b:Int}
 (hck:Ck s.t n) (hf:Fits s.t j b (B+c)) (hb:b<=j) (hr:Rel B up0 T0 ps.q s.t c P) (hP:P<=j) (hd:s.d=ps.d) (hj:kd l e j≠0) (hcj:cnt (raw l j)=true) (ah:0<key l e j\/begins (kd l e j)=true):
 ∃(next:Nat)(s':St)(ps':fF),item l e val af ((B+c:Nat):Int) j s=(next,s')/\qO l e aa af c j ps=(next,ps')/\j<next/\next<=e/\cnt (raw l (next-1))=true/\Ok n (B+c) s next next s' /\
  Rel B up0 T0 ps'.q s'.t c next/\s'.d=ps'.d/\s'.t.length<=s.t.length+2*(next-j):=by
 have aB:=(ji hj).1;have hlen:=hr.len;have qp:=hr.cur;have ai:B+ps.q.length=s.t.length:=dS
 have ae:cT B up0 ((ps.q.length:Nat):Int)=s.t.length:=by rw[qg];exact ai
 unfold item qO;dsimp only;by_cases hq:0<key l e j
 ·rw[dX hq,dX hq];obtain⟨q1,q2,q3⟩:=qW dS hq;obtain⟨q,ay⟩:=eu (key l e j);rw[ay]at q1 q2 q3⊢;obtain⟨s1,a1,a2,⟨x,a3,a4⟩,a5,a6,a7,⟨y,a8,a9⟩,aj⟩:=acd (l:=l) (e:=e) hn hck hf hb q1 q2 hr hP hd;rw[a1];dsimp only;have hcq:cnt (raw l (q-1))=true:=by rw[q3];rfl
  have ht:=iW (l:=l) (e:=e) (i:=q) q2;obtain⟨xx,ag⟩:=eu (fI l e q);rw[ag]at ht⊢;have az:xx=e\/cnt (raw l xx)=true:=by
   have:=ma (λj=>!cnt (raw l j)) (e-q) q;unfold fI at ag;rw[ag]at this;rcases this with h|h
   ·exact .inl dS
   ·exact .inr kU
  obtain⟨pp,aA⟩:=eu (mH l ps c j q);rw[aA]at a6 a7 a8⊢;have stop:val (s.t.length:Int) xx s1=(-1,xx,s1)/\aa (ps.q.length:Int) xx pp=(xx,pp)->
   ∃ps',((if(aa (ps.q.length:Int) xx pp).1=xx then q else(aa (ps.q.length:Int) xx pp).1),(⟨nR (aa (ps.q.length:Int) xx pp).2.q ps.q.length (if(aa (ps.q.length:Int) xx pp).1=xx then q else(aa (ps.q.length:Int) xx pp).1),(aa (ps.q.length:Int) xx pp).2.d⟩:fF))=(q,ps')/\
    Rel B up0 T0 ps'.q s1.t c q/\s1.d=ps'.d:=by
   intro h;rw[h.2];dsimp only;rw[dX rfl];refine⟨_,rfl,?_,a7⟩;have:=a6.close a2.ck.good a8;rw[a9]at this;exact this
  have hvv:=hv ps.q.length xx q s1 pp q a2.ck (by rw[ae];exact a2.fits.le dS (jk _)) dS ht.2 a6 dS (λh=>dS) a7;rw[ae]at hvv;have hbk:q-j<2\/2<=q-j:=dS
  have hlq:s1.t.length<=s.t.length+2*(q-j):=by split at aj<;>omega
  split
  ·rename_i hst;rcases hvv with⟨v1,v2,_⟩|⟨next,s2,ps2,v1,v2,v3,v4,v5,v6,v7,v8,v9,v10,v11⟩
   ·obtain⟨ps',w1,w2,w3⟩:=stop ⟨v1,v2⟩;exact⟨q,s1,ps',rfl,w1,q1,q2,hcq,a2.out a3 a4 a5,w2,w3,hlq⟩
   ·exfalso;have hb2:begins (kd l e xx)=false:=by
     rcases hst with h|h|h
     ·rw[h];rfl
     ·rw[h];rfl
     ·unfold ends at h;simp at h;rcases h with h|h<;>rw[h]<;>rfl
    rcases v11 with h|h
    ·rw[hb2]at h;cases h
    ·rcases az with h2|h2
     ·omega
     ·rw[h]at h2;exact absurd h2 dU
  ·rcases hvv with⟨v1,v2,_⟩|⟨next,s2,ps2,v1,v2,v3,v4,v5,v6,v7,v8,v9,v10,v11⟩
   ·obtain⟨ps',w1,w2,w3⟩:=stop ⟨v1,v2⟩;rw[v1];exact⟨q,s1,ps',rfl,w1,q1,q2,hcq,a2.out a3 a4 a5,w2,w3,hlq⟩
   ·rw[v1,v2];dsimp only;rw[dW dS,dW dS];obtain⟨x',g1,_,_,g2⟩:=v6.keep.2 _ x a3;obtain⟨y',y1,y2,_⟩:=a6.same v7 v6.keep a8;have hcl:=v7.close v6.ck.good y1;rw[y2,a9]at hcl;refine⟨next,s2,_,rfl,rfl,dS,v4,v5,(a2.trans v6).out g1 dS a5,hcl,v8,?_⟩;split at aj<;>omega
 ·rw[dW hq,dW hq];have hbg:begins (kd l e j)=true:=ah.resolve_left hq;cases af with
  |true=>
   rw[dX rfl,dX rfl];have ak:cT B up0 (c:Int)=B+c:=qg B up0 c;obtain⟨s1,a1,_,a3,⟨x,a4,a5⟩,a6⟩:=kJ (kind:=6) (Ok.start hck hf) (f:=j) (t:=j+1) dS dS dS dS dS;have a1:add s ((B+c:Nat):Int) 6 j (j+1)=(s1,(s.t.length:Int)):=a1;obtain⟨r,b1,b2,_,b4⟩:=uX (ps:=ps) (kind:=6) (f:=j) (t:=j+1) hck (by rw[ak];exact hf) dS dS dS dS dS hr (λh=>dS);have b4:=b4 dS;rw[ak]at b1;have hs1:s1=⟨r,s.d⟩:=Jf
   have hnew:=nz ps.q c 6 j qp.2;rw[a1];dsimp only;have d3:=pY (s.t.length:Int) a3;obtain⟨x1,g1,_,_,g2⟩:=(pY (s.t.length:Int) (Ok.start a3.ck a3.fits)).keep.2 _ x a4;have av:Ck r n:=by have:=a3.ck;rw[hs1]at this;exact this
   have hkey:=b4.key av.good ps.q.length (by rw[iM];omega);rw[ai]at hkey;have ax:Rel B up0 T0 (keyed (iq ps.q c 6 j) (ps.q.length:Int)) (keyed s1.t (s.t.length:Int)) (ps.q.length:Int) (j+1):=by rw[hs1];exact hkey
   have hvv:=hv ps.q.length j (j+1) ⟨keyed s1.t (s.t.length:Int),s1.d⟩ ⟨keyed (iq ps.q c 6 j) ps.q.length,ps.d⟩ (j+1:Nat) d3.ck (by rw[ae];exact d3.fits.le (jk _) dS) dS dS ax dS (λh=>dS) (by rw[hs1];exact hd);rw[ae]at hvv;rcases hvv with⟨_,_,v2⟩|⟨next,s2,ps2,v1,v2,v3,v4,v5,v6,v7,v8,v9,v10,v11⟩
   ·exact A9
   ·rw[v1,v2];dsimp only;obtain⟨x2,k1,_,_,k2⟩:=v6.keep.2 _ x1 g1;obtain⟨y',y1,y2,_⟩:=ax.same v7 v6.keep (nA _ ps.q.length ps.q.length _ hnew);have hcl:=v7.close v6.ck.good y1;rw[y2]at hcl;refine⟨next,s2,_,rfl,rfl,v3,v4,v5,(d3.trans v6).out k1 dS a6,hcl,v8,?_⟩;have h1:(keyed s1.t (s.t.length:Int)).length=s.t.length+1:=by rw[fQ,hs1];exact b2
    have v10:s2.t.length+1<=(keyed s1.t (s.t.length:Int)).length+2*(next-j):=v10;omega
  |false=>
   rw[dW dU,dW dU];have hvv:=hv c j P s ps b hck (by rw[qg];exact hf) dS dS hr dS (λh=>dS) hd;rw[qg]at hvv;rcases hvv with⟨_,_,v2⟩|⟨next,s2,ps2,v1,v2,v3,v4,v5,v6,v7,v8,v9,v10,v11⟩
   ·exact A9
   ·rw[v1,v2];exact⟨next,s2,ps2,rfl,rfl,v3,v4,v5,v6,v7,v8,dS⟩
theorem T8(hn:(e:Int)<=n)(val:Int->Nat->St->Int×Nat×St)(ae:Int->Nat->fF->Nat×fF)(hv:SV l e n B up0 T0 val ae)(c op:Nat)(u:Int):
 ∀(g p:Nat)(aa:Bool)(s:St)(ps:fF)(b:Int),e-p<g->Ck s.t n->Fits s.t p b (B+c)->b<=p->op<p->p<=e->cnt (raw l (p-1))=true->Rel B up0 T0 ps.q s.t c p->s.d=ps.d->(∃x,ps.q[c]?=some x/\x.u=u)->
 ∃(next:Nat)(s':St)(ps':fF),lN l e val ((B+c:Nat):Int) op g p aa s=(next,s')/\iN l e ae c op g p aa ps=(next,ps')/\op<next/\p<=next/\next<=e/\cnt (raw l (next-1))=true/\Ok n (B+c) s next next s' /\
  Rel B up0 T0 ps'.q s'.t u next/\s'.d=ps'.d/\(∃y,ps'.q[c]?=some y/\y.t=(next:Int))/\s'.t.length<=s.t.length+2*(next-p)
 |0,p,aa,s,ps,b=>λhg=>dS
 |g+1,p,aa,s,ps,b=>λhg hck hf hb hop hpe hcp hr hd hx=>by
  have ht:=iW (l:=l) (e:=e) (i:=p) hpe;have hs:Ok n (B+c) s p b s:=.start hck hf;have ag:cT B up0 (c:Int)=B+c:=qg B up0 c;have hf':Fits s.t p b (cT B up0 (c:Int)):=by rw[ag];exact hf
  rw[lN,iN];obtain⟨j,hj⟩:=eu (fI l e p);rw[hj]at ht⊢;obtain⟨k,hk⟩:=eu (kd l e j);rw[hk];obtain⟨x,hx1,hxu⟩:=hx;by_cases k0:k=0
  ·rw[dX k0,dX k0,nL l p (op+1) dS hcp];have hcl:=hr.close hck.good hx1;rw[hxu]at hcl;exact⟨p,_,_,rfl,rfl,hop,eO _,hpe,hcp,Kz (hs.le (jk _) hb),hcl,by show s.d++_=ps.d++_;rw[hd],⟨_,oq _ c p c x hx1,by rw[dX rfl]⟩,by show s.t.length<=_;omega⟩
  rw[dW k0,dW k0];have hjk:=ji (l:=l) (e:=e) (i:=j) dS;rw[hk]at hjk;have on:∀(p':Nat)(h':Bool)(s1:St)(af:fF),Ok n (B+c) s p' p' s1->j<p'->p'<=e->cnt (raw l (p'-1))=true->Rel B up0 T0 af.q s1.t c p'->s1.d=af.d->s1.t.length<=s.t.length+2*(p'-p)->
   ∃(next:Nat)(s':St)(ps':fF),lN l e val ((B+c:Nat):Int) op g p' h' s1=(next,s')/\iN l e ae c op g p' h' af=(next,ps')/\op<next/\p<=next/\next<=e/\cnt (raw l (next-1))=true/\Ok n (B+c) s next next s' /\
    Rel B up0 T0 ps'.q s'.t u next/\s'.d=ps'.d/\(∃y,ps'.q[c]?=some y/\y.t=(next:Int))/\s'.t.length<=s.t.length+2*(next-p):=by
   intro p' h' s1 af h1 h2 h3 h4 h5 h6 h7;obtain⟨y,y1,y2,_⟩:=hr.same h5 h1.keep hx1;obtain⟨next,s',ps',g1,g2,g3,g4,g5,g6,g7,g8,g9,g10,g11⟩:=T8 hn val ae hv c op u g p' h' s1 af p' dS h1.ck h1.fits (jk _) dS h3 h4 h5 h6 ⟨y,y1,dS⟩;exact⟨next,s',ps',g1,g2,g3,dS,g5,g6,h1.trans g7,g8,g9,g10,dS⟩
  have er:∀(t code:Nat),code≠9->j<t->t<=e->Ok n (B+c) s t t (err l s ((B+c:Nat):Int) j t code)/\Rel B up0 T0 (rQ l ps c j t code).q (err l s ((B+c:Nat):Int) j t code).t c t/\(err l s ((B+c:Nat):Int) j t code).d=(rQ l ps c j t code).d/\(err l s ((B+c:Nat):Int) j t code).t.length<=s.t.length+1:=by
   intro t code h1 h2 h3;obtain⟨r,b1,b2,b3,_⟩:=uX (ps:=ps) (kind:=11) (f:=j) (t:=t) hck hf' dS dS dS dS dS hr (λh=>dS);rw[ag]at b1;rw[show max p t=t by omega]at b3;have hs1:err l s ((B+c:Nat):Int) j t code=⟨r,s.d++[⟨code,kW l j,too l (t-1)⟩]⟩:=by unfold err;rw[show(11:Int)=((11:Nat):Int)from rfl,b1]
   refine⟨(qY l hs (f:=j) (t:=t) (code:=code) dS dS dS h1).1.le (jk _) dS,?_,?_,?_⟩
   ·rw[hs1];exact b3
   ·rw[hs1];show s.d++_=ps.d++_;rw[hd]
   ·rw[hs1];show r.length<=_;omega
  have gr:Ok n (B+c) s (j+1:Nat) (j+1:Nat) ⟨iB s.t (B+c:Nat) ((j+1:Nat):Int),s.d⟩:=sD hs dS dS dS;have ai:iB s.t (B+c:Nat) ((j+1:Nat):Int)=gY s.t (cT B up0 (c:Int):Nat) ((j+1:Nat):Int):=by
   unfold iB zD;have hl:=hf.lt;rw[hck.firstT,ag,show decide (((B+c:Nat):Int)<0)=false from ic dS,show decide ((s.t.length:Int)<=((B+c:Nat):Int))=false from ic dS,show decide (n<((j+1:Nat):Int))=false from ic dS];rfl
  have ah:Rel B up0 T0 ps.q (iB s.t (B+c:Nat) ((j+1:Nat):Int)) c (j+1):=by
   have:=hr.grow hck.good dS (j+1);rw[show max p (j+1)=j+1 by omega]at this;rw[ai];exact this
  have aj:(iB s.t (B+c:Nat) ((j+1:Nat):Int)).length=s.t.length:=abP hck.good _ _;have c1:cnt k=true->cnt (raw l (j+1-1))=true:=λh=>Jh
  by_cases k1:k=(if raw l op=9 then 11 else 10)
  ·rw[dX k1,dX k1];have hcl:=ah.close gr.ck.good hx1;rw[hxu]at hcl;exact⟨j+1,_,_,rfl,rfl,dS,dS,dS,c1 (by rw[k1];split<;>rfl),gr,hcl,hd,⟨_,oq _ c (j+1) c x hx1,by rw[dX rfl]⟩,Yy⟩
  rw[dW k1,dW k1];by_cases k2:ends k=true
  ·rw[dX k2,dX k2];obtain⟨e1,e2,e3,e4⟩:=er (j+1) 8 dS dS dS;exact on (j+1) aa _ _ e1 dS dS (c1 (zF k2)) e2 e3 dS
  rw[dW k2,dW k2];by_cases k3:k=7
  ·rw[dX k3,dX k3];have c7:=c1 (by rw[k3];rfl);split
   ·exact on (j+1) false _ _ gr dS dS c7 ah hd Yy
   ·obtain⟨e1,e2,e3,e4⟩:=er (j+1) 8 dS dS dS;exact on (j+1) aa _ _ e1 dS dS c7 e2 e3 dS
  rw[dW k3,dW k3];have hcj:cnt (raw l j)=true:=Eb
  by_cases k4:aa=true
  ·rw[dX k4,dX k4];obtain⟨t1,t2,t3⟩:=uh (l:=l) (e:=e) (j:=j) dS hcj dS DV;obtain⟨e1,e2,e3,e4⟩:=er (kE l e j) 8 dS t1 t2;exact on _ aa _ _ e1 t1 t2 t3 e2 e3 dS
  rw[dW k4,dW k4];by_cases k5:0<key l e j\/begins k=true
  ·rw[dX k5,dX k5];obtain⟨next,s',ps',i1,i2,i3,i4,i5,i6,i7,i8,i9⟩:=ace hn val ae hv (raw l op==9) (c:=c) (j:=j) hck (hf.le dS (jk _)) dS hr dS hd dS hcj DW;rw[i1,i2];exact on next true s' ps' i6 i3 i4 i5 i7 i8 dS
  ·rw[dW k5,dW k5];obtain⟨e1,e2,e3,e4⟩:=er (j+1) 8 dS dS dS;exact on (j+1) aa _ _ e1 dS dS (c1 Ji) e2 e3 dS
theorem KF(hn:(e:Int)<=n):∀d:Nat,SV l e n B up0 T0 (gP l e d) (iw l e d)
 |0=>T7 hn none none (.inl ⟨rfl,rfl⟩)
 |d+1=>T7 hn _ _ (.inr ⟨_,_,rfl,rfl,λc op s ps b x ho hc hck hf hb hr hd hx=>by
  obtain⟨next,s',ps',g1,g2,g3,g4,g5,g6,g7,g8,g9,g10,g11⟩:=T8 hn _ _ (KF hn d) c op x.u (e-op) (op+1) false s ps b dS hck hf hb dS dS DX hr hd ⟨x,hx,rfl⟩
  exact⟨next,s',ps',g1,g2,g3,g5,g6,g7,g8,g9,g10,dS⟩⟩)
end
end Fl
namespace Fl
open Ar
def shift(up:Int)(B:Nat)(q:List Nd):List Nd:=q.mapIdx (λi x=>{x with u:=if i=0 then up else x.u+(B:Int),ks:=x.ks.map (·+(B:Int))})
theorem jL(up:Int)(B:Nat)(q:List Nd):(shift up B q).length=q.length:=by simp[shift]
theorem mf(up:Int)(B:Nat)(q:List Nd)(i:Nat)(x:Nd)(hx:q[i]?=some x):(shift up B q)[i]?=some {x with u:=if i=0 then up else x.u+(B:Int),ks:=x.ks.map (·+(B:Int))}:=by
 unfold shift;rw[aeo,hx];rfl
def qZ(T:List Nd)(up:Int)(q:List Nd):List Nd×Int:=match q with
 |[]=>(T,-1)
 |v::r=>if il T up v.k v.f v.t=true then((addN T up v.k v.f v.t).1.take T.length++shift up T.length (v::r),(T.length:Int))else(T,-1)
section
variable {l:List Tk}{e:Nat}{n:Int}{T0:List Nd}{up0:Nat}
theorem Hf(T0:List Nd)(up0 p:Nat)(h:up0<T0.length):Rel T0.length up0 T0 [] T0 (-1) p:=
 ⟨eG,⟨rfl,h⟩,eG,λi x hx=>by simp at hx,λi x hx=>by simp at hx,λi x hx=>⟨x,hx,rfl,rfl,rfl,rfl,eG,.inr ⟨.inr rfl,rfl⟩⟩⟩
theorem T9{x y:Nd}(h1:x.k=y.k)(h2:x.f=y.f)(h3:x.t=y.t)(h4:x.u=y.u)(h5:x.ks=y.ks)(h6:x.y=y.y):x=y:=by
 cases x;cases y;dsimp only at h1 h2 h3 h4 h5 h6;subst h1 h2 h3 h4 h5 h6;rfl
theorem uj(hn:(e:Int)<=n)(d p:Nat)(b:Int)(hck:Ck T0 n)(hf:Fits T0 p b up0)(hb:b<=p+1)(hpe:p<=e):
 (gP l e d up0 p ⟨T0,[]⟩=(-1,p,⟨T0,[]⟩)/\iw l e d (-1) p ⟨[],[]⟩=(p,⟨[],[]⟩))\/
 (∃(next:Nat)(s':St)(ps':fF),gP l e d up0 p ⟨T0,[]⟩=((T0.length:Int),next,s')/\iw l e d (-1) p ⟨[],[]⟩=(next,ps')/\p<next/\next<=e/\Ok n up0 ⟨T0,[]⟩ next next s'/\s'.d=ps'.d/\
  0<ps'.q.length/\qZ T0 up0 ps'.q=(s'.t,(T0.length:Int))/\s'.t.length=T0.length+ps'.q.length/\s'.t.length+1<=T0.length+2*(next-p)/\
  (∀(i:Nat)(x:Nd),ps'.q[i]?=some x->-1<=x.u/\x.u<=i/\∀z∈x.ks,-(T0.length:Int)<=z/\z<=ps'.q.length)/\(∃v,ps'.q[0]?=some v/\il T0 up0 v.k v.f v.t=true)):=by
 have hlt:=hf.lt;have hS:=KF (l:=l) (B:=T0.length) (up0:=up0) (T0:=T0) hn d (-1) p p ⟨T0,[]⟩ ⟨[],[]⟩ b hck (by rw[qD _ _ dS];exact hf) hb hpe (Hf T0 up0 p hlt) dS (λ_=>rfl) rfl;rw[qD _ _ dS]at hS;rcases hS with⟨h1,h2,_⟩|⟨next,s',ps',h1,h2,h3,h4,h5,h6,h7,h8,⟨x,h9,h10,h11,h12,aa,ae⟩,af,_⟩
 ·exact .inl ⟨h1,h2⟩
 ·have hbd:∀(i:Nat)(x:Nd),ps'.q[i]?=some x->-1<=x.u/\x.u<=i/\∀z∈x.ks,-(T0.length:Int)<=z/\z<=ps'.q.length:=λi x hx=>by
   obtain⟨z,a1,a2,a3,a4,a5,_⟩:=h7.nd i x hx;have hgu:=(h6.ck.good.up _ z a1).2;have hup:=(h7.ups i x hx).1;refine⟨hup,?_,λy hy=>?_⟩
   ·rw[a4]at hgu;unfold cT at hgu;split at hgu<;>omega
   ·have:=h6.ck.good.kid _ z a1 (y+(T0.length:Int)) (by rw[a5];exact akh hy);have:=h7.len;omega
  refine .inr ⟨next,s',ps',h1,h2,h3,h4,h6,h8,(eY.1 h9).1,?_,h7.len,af,hbd,⟨_,h9,?_⟩⟩
  case refine_2=>
   obtain⟨k,hk⟩:∃k:Nat,x.k=(k:Int):=⟨x.k.toNat,dS⟩
   obtain⟨y,hy⟩:∃y,T0[up0]?=some y:=⟨_,fu hlt⟩
   exact CJ hck hf hy h11 dS dS aa ae
  have h9:ps'.q[0]?=some x:=h9;have hpos:=(eY.1 h9).1;obtain⟨xk,xf,xt,xu,ag,xy⟩:=x;dsimp only at h10 h11 h12 aa ae;obtain⟨k,rfl⟩:∃k:Nat,xk=(k:Int):=⟨xk.toNat,dS⟩
  obtain⟨f,rfl⟩:∃f:Nat,xf=(f:Int):=⟨xf.toNat,dS⟩
  subst h10;obtain⟨y,hy⟩:∃y,T0[up0]?=some y:=⟨_,fu hlt⟩
  have hm:=CJ (kind:=(k:Int)) (f:=(f:Int)) (t:=(next:Int)) hck hf hy h11 h12 dS aa ae;obtain⟨r,a1,a2,a3,a4⟩:=aaZ hck.good hm;have hlen:=h7.len;have hU:∀(i:Nat)(x:Nd),T0[i]?=some x->∃x',s'.t[i]?=some x'/\x'.u=x.u:=λi x hx=>by obtain⟨z,b1,_,_,b4,_⟩:=h7.old i x hx;exact⟨z,b1,b4⟩
  have hon:∀i,On s'.t up0 i↔On T0 up0 i:=λi=>sF hck.good hlt hU
  have hpl:qZ T0 up0 ps'.q=(r.take T0.length++shift up0 T0.length ps'.q,(T0.length:Int)):=by
   unfold qZ;cases hq:ps'.q with
   |nil=>rw[hq]at hpos;simp at hpos
   |cons v w=>
    have hv:v=⟨k,f,next,xu,ag,xy⟩:=by rw[hq]at h9;simpa using h9
    rw[hv];dsimp only;rw[dX hm,a1]
  rw[hpl];refine Prod.ext ?_ rfl;refine(He ?_ (λi z hz=>?_)).symm
  ·rw[iK,mX,a2,jL,hlen];show T0.length+_=min T0.length (T0.length+1)+_;omega
  ·have hi:i<s'.t.length:=(eY.1 hz).1
   by_cases hlo:i<T0.length
   ·obtain⟨x0,hx0⟩:∃x0,T0[i]?=some x0:=⟨_,fu hlo⟩
    rw[nK (by rw[mX,a2];show i<min T0.length (T0.length+1);omega),tu hlo];obtain⟨z1,b1,b2,b3,b4,b5,b6,b7⟩:=h7.old i x0 hx0;rw[hz]at b1;injection b1 with b1;subst b1
    obtain⟨z2,c1,c2,c3,c4,c5,c6,c7⟩:=a4 i x0 hx0;rw[c1];have ht:z2.t=z.t:=by
     rw[hon]at b7;rcases b7 with⟨b7,_,b8⟩|⟨b7,b8⟩
     ·rcases c7 with⟨_,c8⟩|⟨c7,_⟩
      ·omega
      ·exact absurd b7 c7
     ·rcases c7 with⟨c7,_⟩|⟨_,c8⟩
      ·rcases b7 with b7|b7
       ·exact absurd c7 b7
       ·omega
      ·omega
    refine congrArg some (T9 dS dS ht dS ?_ (by rw[c5,b5]));rw[c6,b6];by_cases e:i=up0
    ·rw[dX e,dX ⟨e,hpos⟩]
    ·rw[dW e,dW (λh=>e h.1)]
   ·obtain⟨j,rfl⟩:∃j,i=T0.length+j:=⟨i-T0.length,dS⟩
    obtain⟨x0,hx0⟩:∃x0,ps'.q[j]?=some x0:=⟨_,fu dS⟩
    have htl:(r.take T0.length).length=T0.length:=by rw[mX,a2];show min T0.length (T0.length+1)=_;omega
    rw[oH dS,htl,Gm,mf _ _ _ j x0 hx0];obtain⟨z1,b1,b2,b3,b4,b5,b6,b7⟩:=h7.nd j x0 hx0;rw[hz]at b1;injection b1 with b1;subst b1
    rw[qD _ _ dS]at b7;have ht:x0.t=z.t:=by
     rcases b7 with⟨b7,_⟩|⟨_,b7⟩
     ·have:=((hon _).1 b7).low hck.good;omega
     ·omega
    have hup:=h7.ups j x0 hx0;refine congrArg some (T9 b2.symm b3.symm ht ?_ b5.symm b6.symm);show(if j=0 then(up0:Int)else x0.u+(T0.length:Int))=z.u;rw[b4];by_cases e:j=0
    ·subst e;have h1:=h7.nd 0 x0 hx0;have hu0:x0.u<0:=by
      have hc:=(h6.ck.good.up _ z hz).2;rw[b4]at hc;unfold cT at hc;by_cases h2:x0.u<0
      ·exact h2
      ·rw[dW h2]at hc;omega
     rw[dX rfl,qD _ _ hu0]
    ·have h0:=hup.2 dS;rw[dW e];unfold cT;rw[dW dS];omega
end
end Fl
namespace Fl
open Ar
def KB(q:List Nd):Prop:=∀(i:Nat)(x:Nd),q[i]?=some x->x.ks.length<=q.length
structure Gr(s s':fF)(n:Nat):Prop where
 le:s.q.length<=s'.q.length
 len:s'.q.length<=s.q.length+2*n
 dl:s'.d.length<=s.d.length+n
 kinds:∀(i:Nat)(x:Nd),s.q[i]?=some x->∃x',s'.q[i]?=some x'/\x'.k=x.k
 kids:KB s.q->KB s'.q
theorem Gr.refl(s:fF):Gr s s 0:=⟨eO _,dS,dS,λi x h=>⟨x,h,rfl⟩,id⟩
theorem Gr.trans{a b c:fF}{n m:Nat}(h:Gr a b n)(g:Gr b c m):Gr a c (n+m):=
 ⟨iU h.le g.le,by have:=h.len;have:=g.len;omega,by have:=h.dl;have:=g.dl;omega,λi x hx=>by
  obtain⟨y,h1,h2⟩:=h.kinds i x hx;obtain⟨z,g1,g2⟩:=g.kinds i y h1
  exact⟨z,g1,g2.trans h2⟩,λk=>g.kids (h.kids k)⟩
theorem Gr.mono{a b:fF}{n m:Nat}(h:Gr a b n)(hm:n<=m):Gr a b m:=⟨h.le,by have:=h.len;omega,by have:=h.dl;omega,h.kinds,h.kids⟩
theorem Bh{q:List Nd}(h:KB q)(up:Int)(k f:Nat)(hu:up<q.length):KB (iq q up k f):=by
 intro i x hx;rw[iM];have hi:=(eY.1 hx).1;rw[iM]at hi;by_cases e:i=q.length
 ·subst e;rw[nz q up k f hu]at hx;injection hx with hx
  subst hx;exact fP _
 ·obtain⟨y,hy⟩:∃y,q[i]?=some y:=⟨_,fu dS⟩
  rw[wR q up k f i y hy]at hx;injection hx with hx
  subst hx;have:=h i y hy;dsimp only;split
  ·rw[iK];simp;omega
  ·omega
theorem Kg{q:List Nd}(h:KB q)(j t:Nat):KB (nR q j t):=by
 intro i x hx;rw[jD];obtain⟨y,hy⟩:=qy (jD _ _ _) hx;rw[oq q j t i y hy]at hx;injection hx with hx
 subst hx;exact h i y hy
theorem Kh{q:List Nd}(h:KB q)(j:Nat):KB (keyed q j):=by
 intro i x hx;rw[fQ];obtain⟨y,hy⟩:=qy (fQ _ _) hx;rw[nA q j i y hy]at hx;injection hx with hx
 subst hx;exact h i y hy
theorem Ki(s:fF)(i t:Nat):Gr s ⟨nR s.q i t,s.d⟩ 0:=
 ⟨by show _<=(nR s.q i t).length;rw[jD];exact eO _,by show(nR s.q i t).length<=_;rw[jD];omega,by show s.d.length<=_;omega,λj x hx=>⟨_,oq s.q i t j x hx,rfl⟩,λh=>Kg h i t⟩
structure Gh(s s':fF):Prop where
 le:s'.q.length=s.q.length+1
 d:s'.d=s.d
 kinds:∀(i:Nat)(x:Nd),s.q[i]?=some x->∃x',s'.q[i]?=some x'/\x'.k=x.k
 kids:KB s.q->KB s'.q
theorem Kj(s:fF)(up:Int)(k f:Nat)(hu:up<s.q.length):Gh s ⟨iq s.q up k f,s.d⟩:=
 ⟨iM _ _ _ _,rfl,λi x hx=>⟨_,wR s.q up k f i x hx,rfl⟩,λh=>Bh h up k f hu⟩
theorem Ua(s:fF)(up:Int)(k f t:Nat)(hu:up<s.q.length):Gh s ⟨jr s.q up k f t,s.d⟩:=
 ⟨lg _ _ _ _ _,rfl,λi x hx=>⟨_,uC s.q up k f t i x hx,rfl⟩,λh=>Kg (Bh h up k f hu) _ _⟩
theorem Gh.gr{s s':fF}(h:Gh s s'){n:Nat}(hn:1<=n):Gr s s' n:=⟨by have:=h.le;omega,by have:=h.le;omega,by rw[h.d];omega,h.kinds,h.kids⟩
theorem Ra(l:List Tk)(s:fF)(up:Int)(f t code:Nat)(hu:up<s.q.length):Gr s (rQ l s up f t code) 1:=by
 have h:=Ua s up 11 f t hu;refine⟨by have:=h.le;show _<=(jr s.q up 11 f t).length;exact pJ (by rw[lg];omega),?_,?_,h.kinds,h.kids⟩
 ·show(jr s.q up 11 f t).length<=_;rw[lg];omega
 ·show(s.d++_).length<=_;rw[iK];simp
section
variable {l:List Tk}{e:Nat}
def PV(l:List Tk)(e:Nat)(aa:Int->Nat->fF->Nat×fF):Prop:=
 ∀(c:Int)(p:Nat)(s:fF),p<=e->-1<=c->c<s.q.length->
  (aa c p s=(p,s)/\begins (kd l e p)=false)\/
  (∃(next:Nat)(s':fF),aa c p s=(next,s')/\p<next/\next<=e/\cnt (raw l (next-1))=true/\Gr s s' (next-p)/\s'.q.length+1<=s.q.length+2*(next-p)/\(begins (kd l e p)=true\/raw l p=3))
def PC(l:List Tk)(e:Nat)(aa:Nat->Nat->fF->Nat×fF):Prop:=
 ∀(c op:Nat)(s:fF),op<e->cnt (raw l op)=true->c<s.q.length->
  ∃(next:Nat)(s':fF),aa c op s=(next,s')/\op<next/\next<=e/\cnt (raw l (next-1))=true/\Gr s s' (next-op)/\s'.q.length+2<=s.q.length+2*(next-op)
theorem aa7(ae:Option (Nat->Nat->fF->Nat×fF))(hk:∀k,ae=some k->PC l e k):PV l e (Ca l e ae):=by
 intro c p s hpe hc1 hc2;have h0:=kN (l:=l) hpe;obtain⟨i0,hi0⟩:=eu (blanks l e p);have hl:=xI l e i0 (e-i0) none i0 (eO _) dS (λa z h=>jQ);have hlead:i0=p->gG (kd l e p)=false->lead l e (e-i0) none i0=(none,p):=λh1 h2=>by subst h1;exact EH h2
 obtain⟨o,ho⟩:=eu ((lead l e (e-i0) none i0).1);obtain⟨i,hi⟩:=eu ((lead l e (e-i0) none i0).2);rw[hi0]at h0;rw[ho,hi]at hl;obtain⟨l1,l2,l3,l4⟩:=hl;obtain⟨fr,hfr⟩:=eu (j5 o i);have ag:p<=fr/\fr<=i:=by
  rw[<-hfr];cases o with
  |none=>exact⟨by show p<=i;omega,eO _⟩
  |some x=>obtain⟨a,z⟩:=x;have:=l3 a z rfl;show p<=a/\a<=i;omega
 obtain⟨k,hkd⟩:=eu (kd l e i);have aa:(k≠0/\(k=13\/gX k=true\/k=18\/opens k=true))\/o≠none->begins (kd l e p)=true\/raw l p=3:=by
  intro h;by_cases hp:i0=p
  ·refine .inl ?_;by_cases h2:gG (kd l e p)=true
   ·unfold begins;rw[h2];rfl
   ·have h2:gG (kd l e p)=false:=by simpa using h2
    have h3:=hlead hp h2;rw[h3]at ho hi;have ho:none=o:=ho;have hi:p=i:=hi;subst ho hi;rcases h with⟨_,h⟩|h
    ·exact Zt
    ·exact absurd rfl h
  ·have:=Qz (λj=>raw l j==3) (e-p) p (by unfold blanks at hi0;rw[<-hi0]at hp;exact hp);exact .inr (by simpa using this)
 have put:∀(kind t:Nat),fr<t->t<=e->cnt (raw l (t-1))=true->(begins (kd l e p)=true\/raw l p=3)->
  ∃(next:Nat)(s':fF),(t,(⟨jr s.q c kind fr t,s.d⟩:fF))=(next,s')/\p<next/\next<=e/\cnt (raw l (next-1))=true/\Gr s s' (next-p)/\s'.q.length+1<=s.q.length+2*(next-p)/\(begins (kd l e p)=true\/raw l p=3):=by
  intro kind t h1 h2 h3 h6;have hg:=Ua s c kind fr t hc2;exact⟨t,_,rfl,dS,h2,h3,hg.gr dS,by rw[hg.le];omega,h6⟩
 unfold Ca;dsimp only;rw[hi0,ho,hi,hfr,hkd];have kin:k≠0->i<e/\raw l i=k:=λh=>JF
 by_cases c1:k=13
 ·rw[dX c1];have hi2:=kin dS;exact .inr (put 8 (i+1) dS dS PO (aa (.inl ⟨dS,.inl c1⟩)))
 rw[dW c1];by_cases c2:gX k=true
 ·rw[dX c2];have hk0:k≠0:=λh=>by rw[h]at c2;exact absurd c2 dU
  have hi2:=kin hk0;exact .inr (put 7 (i+1) dS dS PU (aa (.inl ⟨hk0,.inr (.inl c2)⟩)))
 rw[dW c2];by_cases c3:k=18
 ·rw[dX c3];have ht:=CL (l:=l) (e:=e) (i:=i) dS;exact .inr (put 7 (text l e i) dS ht.2.1 ht.2.2 (aa (.inl ⟨dS,.inr (.inr (.inl c3))⟩)))
 rw[dW c3];by_cases c4:opens k=true
 ·rw[dX c4];have hk0:k≠0:=λh=>by rw[h]at c4;exact absurd c4 dU
  have hi2:=kin hk0;have hb6:=aa (.inl ⟨hk0,.inr (.inr (.inr c4))⟩);cases af:ae with
  |none=>
   have ht:=my (l:=l) (e:=e) (i:=i) (by rw[hkd];exact c4);have hg:=Ra l s c fr (balanced l e i) 10 hc2;exact .inr ⟨balanced l e i,_,rfl,dS,ht.2.1,ht.2.2,hg.mono dS,by show(jr s.q c 11 fr (balanced l e i)).length+1<=_;rw[lg];omega,hb6⟩
  |some q=>
   dsimp only;obtain⟨kind,hkind⟩:∃kind:Nat,kind=(if k=9 then 10 else 9):=⟨_,rfl⟩
   rw[<-hkind];have hg:=Kj s c kind fr hc2;obtain⟨next,s2,k2,k3,k4,k5,k6,k7⟩:=hk q af s.q.length i ⟨iq s.q c kind fr,s.d⟩ hi2.1 Jg (by show s.q.length<(iq s.q c kind fr).length;rw[iM];omega);have k7:s2.q.length+2<=(iq s.q c kind fr).length+2*(next-i):=k7;rw[iM]at k7;rw[k2];refine .inr ⟨next,s2,rfl,dS,k4,k5,⟨?_,dS,?_,λj x hx=>?_,λh=>k6.kids (hg.kids h)⟩,dS,hb6⟩
   ·have:=k6.le;have:=hg.le;omega
   ·have:=k6.dl;have h2:(⟨iq s.q c kind fr,s.d⟩:fF).d=s.d:=rfl;rw[h2]at this;omega
   ·obtain⟨y,y1,y2⟩:=hg.kinds j x hx;obtain⟨z,z1,z2⟩:=k6.kinds j y y1;exact⟨z,z1,z2.trans y2⟩
 rw[dW c4];cases o with
 |some x=>
  obtain⟨a,z⟩:=x;have:=l3 a z rfl;have hfa:fr=a:=by rw[<-hfr];rfl
  exact .inr (put 7 (z+1) dS dS PW (aa (.inr eG)))
 |none=>
  exact ZD
theorem Ub(s:fF)(c j q:Nat)(hc:c<s.q.length):s.q.length+1<=(mH l s c j q).q.length/\(mH l s c j q).q.length<=s.q.length+(if q-j<2 then 1 else 2)/\(mH l s c j q).d=s.d/\(∀(i:Nat)(x:Nd),s.q[i]?=some x->∃x',(mH l s c j q).q[i]?=some x'/\x'.k=x.k)/\(KB s.q->KB (mH l s c j q).q):=by
 have hg:=Kj s c 6 j dS;unfold mH;by_cases h:q-j<2
 ·rw[dX h,dX h];exact⟨by rw[hg.le];omega,by rw[hg.le];omega,rfl,hg.kinds,hg.kids⟩
 ·rw[dW h,dW h];have hl:(keyed (iq s.q c 6 j) (s.q.length:Int)).length=s.q.length+1:=by rw[fQ,iM]
  refine⟨?_,?_,rfl,λi x hx=>?_,λhk=>?_⟩
  ·show _<=(jr _ _ _ _ _).length;rw[lg,hl];omega
  ·show(jr _ _ _ _ _).length<=_;rw[lg,hl];omega
  ·have h1:=nA _ s.q.length i _ (wR s.q c 6 j i x hx);exact⟨_,uC _ _ _ _ _ i _ h1,rfl⟩
  ·exact Kg (Bh (Kh (Bh hk c 6 j dS) s.q.length) _ _ _ (by rw[hl];omega)) _ _
theorem Uc(aa:Int->Nat->fF->Nat×fF)(hv:PV l e aa)(ae:Bool){c j:Nat}{s:fF}(hc:c<s.q.length)(hj:kd l e j≠0)(af:0<key l e j\/begins (kd l e j)=true):
 ∃(next:Nat)(s':fF),qO l e aa ae c j s=(next,s')/\j<next/\next<=e/\cnt (raw l (next-1))=true/\Gr s s' (next-j):=by
 have ak:=(ji hj).1;unfold qO;dsimp only;by_cases hq:0<key l e j
 ·rw[dX hq];obtain⟨q1,q2,q3⟩:=qW dS hq;obtain⟨q,ah⟩:=eu (key l e j);rw[ah]at q1 q2 q3⊢;obtain⟨a1,a2,a3,a4,a5⟩:=Ub (l:=l) s c j q hc;obtain⟨pp,ai⟩:=eu (mH l s c j q);rw[ai]at a1 a2 a3 a4 a5⊢;have hcq:cnt (raw l (q-1))=true:=by rw[q3];rfl
  have ht:=iW (l:=l) (e:=e) (i:=q) q2;obtain⟨xx,aj⟩:=eu (fI l e q);rw[aj]at ht⊢;have ag:Gr s pp (q-j):=⟨dS,by split at a2<;>omega,by rw[a3];omega,a4,a5⟩
  rcases hv s.q.length xx pp ht.2 dS dS with⟨v1,_⟩|⟨next,s2,v1,v2,v3,v4,v5,v6,v7⟩
  ·rw[v1];dsimp only;rw[dX rfl];exact⟨q,_,rfl,q1,q2,hcq,by have:=ag.trans (Ki pp s.q.length q);rw[oW]at this;exact this⟩
  ·rw[v1];dsimp only;rw[dW dS];have h1:=(ag.trans v5).trans (Ki s2 s.q.length next);exact⟨next,_,rfl,dS,v3,v4,h1.mono dS⟩
 ·rw[dW hq];have hbg:begins (kd l e j)=true:=af.resolve_left hq;cases ae with
  |true=>
   rw[dX rfl];have hg:=Kj s c 6 j dS;rcases hv s.q.length j ⟨keyed (iq s.q c 6 j) s.q.length,s.d⟩ dS dS (by show(s.q.length:Int)<((keyed (iq s.q c 6 j) (s.q.length:Int)).length:Int);rw[fQ,iM];omega)with⟨_,v2⟩|⟨next,s2,v1,v2,v3,v4,v5,v6,v7⟩
   ·exact A9
   ·rw[v1];dsimp only;have v6:s2.q.length+1<=(keyed (iq s.q c 6 j) (s.q.length:Int)).length+2*(next-j):=v6;rw[fQ,iM]at v6;refine⟨next,_,rfl,v2,v3,v4,?_,?_,?_,λi x hx=>?_,λhk=>?_⟩
    ·show _<=(nR s2.q s.q.length next).length;rw[jD];have h3:(keyed (iq s.q c 6 j) (s.q.length:Int)).length<=s2.q.length:=v5.le;rw[fQ,iM]at h3;omega
    ·show(nR s2.q s.q.length next).length<=_;rw[jD];omega
    ·exact v5.dl
    ·obtain⟨y,y1,y2⟩:=hg.kinds i x hx;obtain⟨z,z1,z2⟩:=v5.kinds i _ (nA _ s.q.length i y y1);exact⟨_,oq s2.q s.q.length next i z z1,z2.trans y2⟩
    ·exact Kg (v5.kids (Kh (hg.kids hk) _)) _ _
  |false=>
   rw[dW dU];rcases hv c j s dS dS dS with⟨_,v2⟩|⟨next,s2,v1,v2,v3,v4,v5,v6,v7⟩
   ·exact A9
   ·rw[v1];exact⟨next,s2,rfl,v2,v3,v4,v5⟩
theorem aa8(ae:Int->Nat->fF->Nat×fF)(hv:PV l e ae)(c op:Nat):
 ∀(g p:Nat)(aa:Bool)(s:fF),e-p<g->op<p->p<=e->cnt (raw l (p-1))=true->c<s.q.length->
 ∃(next:Nat)(s':fF),iN l e ae c op g p aa s=(next,s')/\p<=next/\next<=e/\cnt (raw l (next-1))=true/\s.q.length<=s'.q.length/\s'.q.length<=s.q.length+2*(next-p)/\s'.d.length<=s.d.length+(next-p)+1/\
  (∀(i:Nat)(x:Nd),s.q[i]?=some x->∃x',s'.q[i]?=some x'/\x'.k=x.k)/\(KB s.q->KB s'.q)
 |0,p,aa,s=>λhg=>dS
 |g+1,p,aa,s=>λhg hop hpe hcp hc=>by
  have ht:=iW (l:=l) (e:=e) (i:=p) hpe;rw[iN];obtain⟨j,hj⟩:=eu (fI l e p);rw[hj]at ht⊢;obtain⟨k,hk⟩:=eu (kd l e j);rw[hk];by_cases k0:k=0
  ·rw[dX k0,nL l p (op+1) dS hcp];have h1:=Ki s c p;exact⟨p,_,rfl,eO _,hpe,hcp,h1.le,by have:=h1.len;exact iU this dS,by show(s.d++_).length<=_;rw[iK];simp,h1.kinds,h1.kids⟩
  rw[dW k0];have hjk:=ji (l:=l) (e:=e) (i:=j) dS;rw[hk]at hjk;have on:∀(p':Nat)(h':Bool)(s1:fF),Gr s s1 (p'-p)->j<p'->p'<=e->cnt (raw l (p'-1))=true->
   ∃(next:Nat)(s':fF),iN l e ae c op g p' h' s1=(next,s')/\p<=next/\next<=e/\cnt (raw l (next-1))=true/\s.q.length<=s'.q.length/\s'.q.length<=s.q.length+2*(next-p)/\s'.d.length<=s.d.length+(next-p)+1/\
    (∀(i:Nat)(x:Nd),s.q[i]?=some x->∃x',s'.q[i]?=some x'/\x'.k=x.k)/\(KB s.q->KB s'.q):=by
   intro p' h' s1 h1 h2 h3 h4;obtain⟨next,s',g1,g2,g3,g4,g5,g6,g7,g8,g9⟩:=aa8 ae hv c op g p' h' s1 dS dS h3 h4 (by have:=h1.le;omega);refine⟨next,s',g1,dS,g3,g4,?_,?_,?_,λi x hx=>?_,λh=>g9 (h1.kids h)⟩
   ·have:=h1.le;omega
   ·have:=h1.len;omega
   ·have:=h1.dl;omega
   ·obtain⟨y,y1,y2⟩:=h1.kinds i x hx;obtain⟨z,z1,z2⟩:=g8 i y y1;exact⟨z,z1,z2.trans y2⟩
  have er:∀(t code:Nat),j<t->Gr s (rQ l s c j t code) (t-p):=λt code h=>(Ra l s c j t code dS).mono dS
  have c1:cnt k=true->cnt (raw l (j+1-1))=true:=λh=>Jh
  by_cases k1:k=(if raw l op=9 then 11 else 10)
  ·rw[dX k1];have h1:=Ki s c (j+1);exact⟨j+1,_,rfl,dS,dS,c1 (by rw[k1];split<;>rfl),h1.le,by have:=h1.len;exact iU this dS,by show s.d.length<=_;omega,h1.kinds,h1.kids⟩
  rw[dW k1];by_cases k2:ends k=true
  ·rw[dX k2];exact on (j+1) aa _ (er (j+1) 8 dS) dS dS (c1 (zF k2))
  rw[dW k2];by_cases k3:k=7
  ·rw[dX k3];have c7:=c1 (by rw[k3];rfl);split
   ·exact on (j+1) false _ ((Gr.refl s).mono dS) dS dS c7
   ·exact on (j+1) aa _ (er (j+1) 8 dS) dS dS c7
  rw[dW k3];have hcj:cnt (raw l j)=true:=Eb
  by_cases k4:aa=true
  ·rw[dX k4];obtain⟨t1,t2,t3⟩:=uh (l:=l) (e:=e) (j:=j) dS hcj dS DV;exact on _ aa _ (er (kE l e j) 8 t1) t1 t2 t3
  rw[dW k4];by_cases k5:0<key l e j\/begins k=true
  ·rw[dX k5];obtain⟨next,s',i1,i2,i3,i4,i5⟩:=Uc ae hv (raw l op==9) (c:=c) (j:=j) hc dS DW;rw[i1];exact on next true s' (i5.mono dS) i2 i3 i4
  ·rw[dW k5];exact on (j+1) aa _ (er (j+1) 8 dS) dS dS (c1 Ji)
theorem wM:∀d:Nat,PV l e (iw l e d)
 |0=>aa7 none (λk h=>jQ)
 |d+1=>aa7 _ (λk h c op s ho hc hcl=>by
  injection h with h
  subst h;obtain⟨next,s',g1,g2,g3,g4,g5,g6,g7,g8,g9⟩:=aa8 _ (wM d) c op (e-op) (op+1) false s dS dS dS DX hcl
  exact⟨next,s',g1,dS,g3,g4,⟨g5,dS,dS,g8,g9⟩,dS⟩)
end
end Fl
end Go.Proofs.YtmkkdjpebbdikaaGreatDoor

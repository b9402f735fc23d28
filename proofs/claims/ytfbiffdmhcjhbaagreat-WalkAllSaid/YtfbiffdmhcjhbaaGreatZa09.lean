import Derived.Test.YtfbiffdmhcjhbaaGreatZa06
import Derived.Test.YtfbiffdmhcjhbaaGreatZa07
set_option linter.all false
set_option maxHeartbeats 16000000
set_option maxRecDepth 100000
set_option synthInstance.maxSize 4000
set_option synthInstance.maxHeartbeats 0
namespace Go.Proofs.YtfbiffdmhcjhbaaGreat
open Go.RowKit Tryz
def gB:=@Go.below_drewN
def jC:=@IntWalk.i64_in
namespace Fe
open Ar Fl
theorem kX:∀(f:Nat)(l:List Nd)(k t:Int),(jK f l k t).length=l.length
 |0,l,k,t=>rfl
 |f+1,l,k,t=>by
  rw[jK];split
  ·rfl
  split
  ·rfl
  rw[kX,qU]
theorem mf(l:List Nd)(up kind f t:Int):(addN l up kind f t).1.length<=l.length+1:=by
 unfold addN;split
 ·split
  ·exact Au _
  show(gP _ _ _).length<=_;unfold gP;rw[kX,qU,ig];exact fC _
 exact Au _
theorem oO(l:List Nd)(i t:Int):(gJ l i t).length=l.length:=by
 unfold gJ;split
 ·unfold gP;rw[kX]
 rfl
theorem iU(s:St)(up:Int)(k f t:Nat):(add s up k f t).1.t.length<=s.t.length+1/\(add s up k f t).1.d=s.d:=⟨mf _ _ _ _ _,rfl⟩
theorem lZ(l:List Tk)(s:St)(up:Int)(f t code:Nat):(err l s up f t code).t.length<=s.t.length+1/\(err l s up f t code).d.length=s.d.length+1:=⟨mf _ _ _ _ _,by show(s.d++_).length=_;rw[ig];rfl⟩
theorem nG(l:List Tk)(s:St)(c:Int)(j q:Nat)(h:j<q):(pair l s c j q).1.t.length<=s.t.length+2*(q-j)/\(pair l s c j q).1.d=s.d:=by
 unfold pair;dsimp only;have a:=iU s c 6 j q;obtain⟨x,hx⟩:=eX (add s c 6 j q);rw[hx]at a⊢;split
 ·exact⟨by omega,a.2⟩
 obtain⟨kind,hkind⟩:∃kind:Nat,kind=(if(List.range (q-j)).any (λx=>raw l (j+x)==13)=true then 8 else 7):=⟨_,rfl⟩
 rw[<-hkind];have b:=iU x.1 x.2 kind j (back l (q-1) (j+1));refine⟨?_,b.2.trans a.2⟩;show(keyed _ _).length<=_;rw[(lQ _ _).1];omega
def VC(l:List Tk)(e:Nat)(n:Int)(val:Int->Nat->St->Int×Nat×St):Prop:=
 ∀(up p:Nat)(s:St)(b:Int),Ck s.t n->Fits s.t p b up->Lf s.t->No s.t up->b<=p+1->p<=e->
  (val up p s=(-1,p,s)/\begins (kd l e p)=false)\/
  (∃(next:Nat)(s':St),val up p s=((s.t.length:Int),next,s')/\p<next/\next<=e/\cnt (raw l (next-1))=true/\Ok l p n up s next next s'/\s'.t.length+1<=s.t.length+2*(next-p)/\s'.d.length<=s.d.length+(next-p))
theorem IW(l:List Tk)(e:Nat)(n:Int)(hn:(e:Int)<=n)(fo:Option (Int->Nat->St->Nat×St)):
 (∀k,fo=some k->∀(c op:Nat)(s:St)(b:Int),op<e->cnt (raw l op)=true->Ck s.t n->Fits s.t (op+1:Nat) b c->Lf s.t->No s.t c->b<=(op+1:Nat)->
  ∃(next:Nat)(s':St),k c op s=(next,s')/\op<next/\next<=e/\cnt (raw l (next-1))=true/\Ok l op n c s next next s'/\s'.t.length+2<=s.t.length+2*(next-op)/\s'.d.length<=s.d.length+(next-op))->VC l e n (vU l e fo):=by
 intro hk up p s b hck hf hlf hno hb hpe;have h0:=jR (l:=l) hpe;obtain⟨i0,hi0⟩:=eX (blanks l e p);have hl:=sV l e i0 (e-i0) none i0 (fC _) (by omega) (λa z h=>by simp at h);obtain⟨o,ho⟩:=eX ((lead l e (e-i0) none i0).1);obtain⟨i,hi⟩:=eX ((lead l e (e-i0) none i0).2);rw[hi0]at h0;rw[ho,hi]at hl;obtain⟨l1,l2,l3,l4⟩:=hl;obtain⟨fr,hfr⟩:=eX (gN o i);have af:p<=fr/\fr<=i:=by
  rw[<-hfr];cases o with
  |none=>exact⟨by show p<=i;omega,fC _⟩
  |some x=>obtain⟨a,z⟩:=x;have:=l3 a z rfl;show p<=a/\a<=i;omega
 have hs:Ok l p n up s p b s:=.start hck hf hlf hno;obtain⟨k,hkd⟩:=eX (kd l e i);have put:∀(kind t:Nat),fr<t->t<=e->cnt (raw l (t-1))=true->1<=kind->kind<=10->
  ∃(next:Nat)(s':St),((add s up kind fr t).2,t,(add s up kind fr t).1)=((s.t.length:Int),next,s')/\p<next/\next<=e/\cnt (raw l (next-1))=true/\Ok l p n up s next next s'/\s'.t.length+1<=s.t.length+2*(next-p)/\s'.d.length<=s.d.length+(next-p):=by
  intro kind t h1 h2 h3 h4 h5;obtain⟨s',a1,a2,_⟩:=iW (kind:=kind) hs (f:=fr) (t:=t) (by omega) (by omega) (by omega) h4 h5;have hz:=iU s up kind fr t;rw[a1]at hz;exact⟨t,s',by rw[a1],by omega,h2,h3,a2.le (ji _) (by omega),by have:=hz.1;dsimp only at this;omega,by rw[hz.2];omega⟩
 unfold vU;dsimp only;rw[hi0,ho,hi,hfr,hkd];have kin:k≠0->i<e/\raw l i=k:=λh=>by have:=jW (l:=l) (e:=e) (i:=i) (by omega);omega
 by_cases c1:k=13
 ·rw[eT c1];have hi2:=kin (by omega);exact .inr (put 8 (i+1) (by omega) (by omega) (by rw[lJ,hi2.2,c1];rfl) (by omega) (by omega))
 rw[eQ c1];by_cases c2:gF k=true
 ·rw[eT c2];have hi2:=kin (λh=>by rw[h]at c2;exact absurd c2 (by decide));exact .inr (put 7 (i+1) (by omega) (by omega) (by rw[lJ,hi2.2];exact A7 c2) (by omega) (by omega))
 rw[eQ c2];by_cases c3:k=18
 ·rw[eT c3];have ht:=sU (l:=l) (e:=e) (i:=i) (by omega);exact .inr (put 7 (text l e i) (by omega) ht.2.1 ht.2.2 (by omega) (by omega))
 rw[eQ c3];by_cases c4:opens k=true
 ·rw[eT c4];have hi2:=kin (λh=>by rw[h]at c4;exact absurd c4 (by decide));cases aa:fo with
  |none=>
   have ht:=mD (l:=l) (e:=e) (i:=i) (by rw[hkd];exact c4);obtain⟨e1,e2⟩:=jL hs (f:=fr) (t:=balanced l e i) (code:=10) (by omega) (by omega) (by omega) (by omega) (by omega) (by omega) (by omega);exact .inr ⟨balanced l e i,_,by dsimp only;rw[e2],by omega,ht.2.1,ht.2.2,e1.le (ji _) (by omega),by have:=(lZ l s up fr (balanced l e i) 10).1;omega,by have:=(lZ l s up fr (balanced l e i) 10).2;omega⟩
  |some q=>
   dsimp only;obtain⟨kind,hkind⟩:∃kind:Nat,kind=(if k=9 then 10 else 9):=⟨_,rfl⟩
   rw[<-hkind];have hk1:1<=kind/\kind<=10:=by rw[hkind];split<;>omega
   obtain⟨s',a1,a2,a3,⟨x,a4,a5⟩,a6⟩:=iW (kind:=kind) hs (f:=fr) (t:=i+1) (by omega) (by omega) (by omega) hk1.1 hk1.2;rw[a1];dsimp only;have hz:=iU s up kind fr (i+1);rw[a1]at hz;have hz1:s'.t.length<=s.t.length+1:=hz.1;have hz2:s'.d=s.d:=hz.2;obtain⟨next,s2,k1,k2,k3,k4,k5,k6,k7⟩:=hk q aa s.t.length i s' (i+1:Nat) hi2.1 (by rw[hi2.2];exact oK c4) a3.ck (a3.fits.le (by omega) (by omega)) a3.lf a3.no (ji _);rw[k1];obtain⟨x',b1,_,_,b2⟩:=k5.keep.2 _ x a4;exact .inr ⟨next,s2,rfl,by omega,k3,k4,(a2.trans (k5.low (by omega))).out b1 (by omega) a6,by omega,by rw[hz2]at k7;omega⟩
 rw[eQ c4];cases o with
 |some x=>
  obtain⟨a,z⟩:=x;have:=l3 a z rfl;have hfa:fr=a:=by rw[<-hfr];rfl
  exact .inr (put 7 (z+1) (by omega) (by omega) (by rw[lJ];exact AZ this.2.2.2) (by omega) (by omega))
 |none=>
  refine .inl ⟨rfl,?_⟩;obtain⟨_,m2,m3⟩:=l4 rfl;have ae:gM k=false:=by
   by_cases h:i0<e
   ·rw[<-hkd,m2];exact m3 (by omega)
   have:k=0:=by rw[<-hkd];unfold kd;rw[eT (.inl (by omega))]
   rw[this];rfl
  have hbk:begins k=false:=by
   unfold begins;rw[ae,show gF k=false by simpa using c2,show opens k=false by simpa using c4,show(k==18)=false by simpa using c3];rfl
  by_cases hp:i0=p
  ·rw[<-hp,<-m2,hkd];exact hbk
  have:=CF (λj=>raw l j==3) (e-p) p (by rw[<-hi0]at hp;exact hp);have h3:raw l p=3:=by simpa using this
  unfold kd;split
  ·rfl
  rw[h3];rfl
theorem zM(l:List Tk)(e:Nat)(n:Int)(hn:(e:Int)<=n){c j q:Nat}{s:St}{b:Int}(hck:Ck s.t n)(hf:Fits s.t j b c)(hlf:Lf s.t)(hno:No s.t c)(hb:b<=q)(hjq:j<q)(hqe:q<=e):
 ∃s',pair l s c j q=(s',(s.t.length:Int))/\Ok l j n s.t.length s q q s'/\(∃x,s'.t[s.t.length]?=some x/\x.u=(c:Int))/\0<s.t.length:=by
 obtain⟨s1,a1,_,a3,⟨x,a4,a5⟩,a6⟩:=iW (kind:=6) (Ok.start (l:=l) (p0:=j) hck hf hlf hno) (f:=j) (t:=q) (by omega) (by omega) (by omega) (by omega) (by omega);have a1:add s c 6 j q=(s1,(s.t.length:Int)):=a1;unfold pair;dsimp only;rw[a1];dsimp only;by_cases h:q-j<2
 ·rw[eT h];exact⟨s1,rfl,a3.le (by omega) (by omega),⟨x,a4,a5⟩,a6⟩
 rw[eQ h];obtain⟨kind,hkind⟩:∃kind:Nat,kind=(if(List.range (q-j)).any (λx=>raw l (j+x)==13)=true then 8 else 7):=⟨_,rfl⟩
 rw[<-hkind];have hk1:1<=kind/\kind<=10:=by rw[hkind];split<;>omega
 have b1:=fQ l (q-1) (j+1);have b2:=pQ l (q-1) (j+1) (by omega);obtain⟨s2,d1,d2,_⟩:=iW (kind:=kind) (Ok.start (l:=l) (p0:=j) a3.ck a3.fits a3.lf a3.no) (f:=j) (t:=back l (q-1) (j+1)) (by omega) (by omega) (by omega) hk1.1 hk1.2;rw[d1];dsimp only;have d3:=l9 (s.t.length:Int) d2;obtain⟨x',g1,_,_,g2⟩:=d3.keep.2 _ x a4;exact⟨_,rfl,(a3.trans d3).le (by omega) (by omega),⟨x',g1,by omega⟩,a6⟩
theorem Ez(l:List Tk)(e:Nat)(n:Int)(hn:(e:Int)<=n)(val:Int->Nat->St->Int×Nat×St)(hv:VC l e n val)(aa:Bool){c j:Nat}{s:St}{b:Int}
 (hck:Ck s.t n) (hf:Fits s.t j b c) (hlf:Lf s.t) (hno:No s.t c) (hb:b<=j) (hj:kd l e j≠0) (ae:0<key l e j\/begins (kd l e j)=true):
 ∃(next:Nat)(s':St),item l e val aa c j s=(next,s')/\j<next/\next<=e/\cnt (raw l (next-1))=true/\Ok l j n c s next next s'/\s'.t.length<=s.t.length+2*(next-j)/\s'.d.length<=s.d.length+(next-j):=by
 have ag:=(jW hj).1;unfold item;dsimp only;by_cases hq:0<key l e j
 ·rw[eT hq];obtain⟨q1,q2,q3⟩:=pI (by omega) hq;obtain⟨q,af⟩:=eX (key l e j);rw[af]at q1 q2 q3⊢;have hz:=nG l s c j q q1;obtain⟨s1,a1,a2,⟨x,a3,a4⟩,a5⟩:=zM l e n hn hck hf hlf hno (by omega) q1 q2;rw[a1]at hz⊢;dsimp only at hz⊢;obtain⟨z1,z2⟩:=hz;have hcq:cnt (raw l (q-1))=true:=by rw[q3];rfl
  split
  ·exact⟨q,s1,rfl,q1,q2,hcq,a2.out a3 a4 a5,z1,by rw[z2];omega⟩
  have ht:=iN (l:=l) (e:=e) (i:=q) q2;rcases hv s.t.length (fq l e q) s1 q a2.ck (a2.fits.le (by omega) (ji _)) a2.lf a2.no (by omega) ht.2 with⟨v1,_⟩|⟨next,s2,v1,v2,v3,v4,v5,v6,v7⟩
  ·rw[v1];exact⟨q,s1,rfl,q1,q2,hcq,a2.out a3 a4 a5,z1,by rw[z2];omega⟩
  rw[v1];dsimp only;rw[eQ (by omega)];obtain⟨x',g1,_,_,g2⟩:=v5.keep.2 _ x a3;exact⟨next,s2,rfl,by omega,v3,v4,(a2.trans (v5.low (by omega))).out g1 (by omega) a5,by omega,by rw[z2]at v7;omega⟩
 rw[eQ hq];have hbg:begins (kd l e j)=true:=ae.resolve_left hq;cases aa with
 |true=>
  rw[eT rfl];obtain⟨s1,a1,_,a3,⟨x,a4,a5⟩,a6⟩:=iW (kind:=6) (Ok.start (l:=l) (p0:=j) hck hf hlf hno) (f:=j) (t:=j+1) (by omega) (by omega) (by omega) (by omega) (by omega);have a1:add s c 6 j (j+1)=(s1,(s.t.length:Int)):=a1;have hz:=iU s c 6 j (j+1);rw[a1]at hz⊢;dsimp only at hz⊢;obtain⟨z1,z2⟩:=hz;have d3:=l9 (s.t.length:Int) a3;obtain⟨x1,g1,_,_,g2⟩:=(l9 (s.t.length:Int) (Ok.start (l:=l) (p0:=j) a3.ck a3.fits a3.lf a3.no)).keep.2 _ x a4;rcases hv s.t.length j _ (j+1:Nat) d3.ck (d3.fits.le (ji _) (by omega)) d3.lf d3.no (by omega) (by omega)with⟨_,v2⟩|⟨next,s2,v1,v2,v3,v4,v5,v6,v7⟩
  ·rw[hbg]at v2;exact absurd v2 (by decide)
  rw[v1];dsimp only;obtain⟨x2,k1,_,_,k2⟩:=v5.keep.2 _ x1 g1;exact⟨next,s2,rfl,v2,v3,v4,(d3.trans v5).out k1 (by omega) a6,by have:=(lQ s1.t (s.t.length:Int)).1;dsimp only at v6;omega,by dsimp only at v7;rw[z2]at v7;exact v7⟩
 |false=>
  rw[eQ (by decide)];rcases hv c j s b hck hf hlf hno (by omega) (by omega)with⟨_,v2⟩|⟨next,s2,v1,v2,v3,v4,v5,v6,v7⟩
  ·rw[hbg]at v2;exact absurd v2 (by decide)
  rw[v1];exact⟨next,s2,rfl,v2,v3,v4,v5,by omega,v7⟩
theorem IX(l:List Tk)(e:Nat)(n:Int)(hn:(e:Int)<=n)(val:Int->Nat->St->Int×Nat×St)(hv:VC l e n val)(c op:Nat):
 ∀(g p:Nat)(aa:Bool)(s:St)(b:Int),Ck s.t n->Fits s.t p b c->Lf s.t->No s.t c->b<=p->op<p->p<=e->cnt (raw l (p-1))=true->
 ∃(next:Nat)(s':St),jB l e val c op g p aa s=(next,s')/\op<next/\next<=e/\cnt (raw l (next-1))=true/\Ok l op n c s next next s'/\s'.t.length<=s.t.length+2*(next-p)/\s'.d.length<=s.d.length+(next-p)+1/\p<=next
 |0,p,aa,s,b=>λhck hf hlf hno hb hop hpe hcp=>⟨p,s,rfl,hop,hpe,hcp,(Ok.start hck hf hlf hno).le (ji _) hb,by omega,by omega,fC _⟩
 |g+1,p,aa,s,b=>λhck hf hlf hno hb hop hpe hcp=>by
  have ht:=iN (l:=l) (e:=e) (i:=p) hpe;have hs:Ok l op n c s p b s:=.start hck hf hlf hno;rw[jB];obtain⟨j,hj⟩:=eX (fq l e p);rw[hj]at ht⊢;obtain⟨k,hk⟩:=eX (kd l e j);rw[hk];by_cases k0:k=0
  ·rw[eT k0,rz l p (op+1) (by omega) hcp];exact⟨p,_,rfl,hop,hpe,hcp,zI (hs.le (ji _) hb) (fC _) (by omega),by show s.t.length<=_;omega,by show(s.d++_).length<=_;rw[ig];simp,fC _⟩
  rw[eQ k0];have hjk:=jW (l:=l) (e:=e) (i:=j) (by omega);rw[hk]at hjk;have on:∀(p':Nat)(h':Bool)(s1:St),Ok l op n c s p' p' s1->j<p'->p'<=e->cnt (raw l (p'-1))=true->s1.t.length<=s.t.length+2*(p'-p)->s1.d.length<=s.d.length+(p'-p)->
   ∃(next:Nat)(s':St),jB l e val c op g p' h' s1=(next,s')/\op<next/\next<=e/\cnt (raw l (next-1))=true/\Ok l op n c s next next s'/\s'.t.length<=s.t.length+2*(next-p)/\s'.d.length<=s.d.length+(next-p)+1/\p<=next:=by
   intro p' h' s1 h1 h2 h3 h4 h5 h6;obtain⟨next,s',g1,g2,g3,g4,g5,g6,g7,g8⟩:=IX l e n hn val hv c op g p' h' s1 p' h1.ck h1.fits h1.lf h1.no (ji _) (by omega) h3 h4;exact⟨next,s',g1,g2,g3,g4,h1.trans g5,by omega,by omega,by omega⟩
  have er:∀(t code:Nat),code=8->j<t->t<=e->Ok l op n c s t t (err l s c j t code):=by
   intro t code h1 h2 h3;exact(jL hs (f:=j) (t:=t) (code:=code) (by omega) (by omega) (by omega) (by omega) (by omega) (by omega) (by omega)).1.le (ji _) (by omega)
  have ez:∀t,(err l s c j t 8).t.length<=s.t.length+1/\(err l s c j t 8).d.length=s.d.length+1:=λt=>lZ l s c j t 8
  have gz:(gJ s.t c ((j+1:Nat):Int)).length=s.t.length:=oO _ _ _;have gr:Ok l op n c s (j+1:Nat) (j+1:Nat) ⟨gJ s.t c ((j+1:Nat):Int),s.d⟩:=nX hs (by omega) (by omega) (by omega);have c1:cnt k=true->cnt (raw l (j+1-1))=true:=λh=>by rw[lJ,hjk.2];exact h
  by_cases k1:k=(if raw l op=9 then 11 else 10)
  ·rw[eT k1];exact⟨j+1,_,rfl,by omega,by omega,c1 (by rw[k1];split<;>rfl),gr,jN (kZ gz) (by omega),by show s.d.length<=_;omega,by omega⟩
  rw[eQ k1];by_cases k2:ends k=true
  ·rw[eT k2];exact on (j+1) aa _ (er (j+1) 8 rfl (by omega) (by omega)) (by omega) (by omega) (c1 (vF k2)) (by have:=(ez (j+1)).1;omega) (by have:=(ez (j+1)).2;omega)
  rw[eQ k2];by_cases k3:k=7
  ·rw[eT k3];have c7:=c1 (by rw[k3];rfl);split
   ·exact on (j+1) false _ gr (by omega) (by omega) c7 (jN (kZ gz) (by omega)) (by show s.d.length<=_;omega)
   exact on (j+1) aa _ (er (j+1) 8 rfl (by omega) (by omega)) (by omega) (by omega) c7 (by have:=(ez (j+1)).1;omega) (by have:=(ez (j+1)).2;omega)
  rw[eQ k3];have hcj:cnt (raw l j)=true:=by
   have hnt:j=e\/(λj=>!cnt (raw l j)) j=false:=by
    have:=nE (λj=>!cnt (raw l j)) (e-p) p;unfold fq at hj;rw[hj]at this;rcases this with h|h
    ·exact .inl (by omega)
    exact .inr h
   rcases hnt with h|h
   ·omega
   simpa using h
  by_cases k4:aa=true
  ·rw[eT k4];obtain⟨t1,t2,t3⟩:=tJ (l:=l) (e:=e) (j:=j) (by omega) hcj (by omega) (by rw[hk];simpa using k2);exact on _ aa _ (er _ 8 rfl t1 t2) t1 t2 t3 (by have:=(ez (jr l e j)).1;omega) (by have:=(ez (jr l e j)).2;omega)
  rw[eQ k4];by_cases k5:0<key l e j\/begins k=true
  ·rw[eT k5];obtain⟨next,s',i1,i2,i3,i4,i5,i6,i7⟩:=Ez l e n hn val hv (raw l op==9) (c:=c) (j:=j) hck (hf.le (by omega) (ji _)) hlf hno (by omega) (by omega) (by rw[hk];exact k5);rw[i1];exact on next true s' (i5.low (by omega)) i2 i3 i4 (by omega) (by omega)
  rw[eQ k5];exact on (j+1) aa _ (er (j+1) 8 rfl (by omega) (by omega)) (by omega) (by omega) (c1 (by rw[<-hjk.2];exact hcj)) (by have:=(ez (j+1)).1;omega) (by have:=(ez (j+1)).2;omega)
theorem rf(l:List Tk)(e:Nat)(n:Int)(hn:(e:Int)<=n):∀d:Nat,VC l e n (gI l e d)
 |0=>IW l e n hn none (λk h=>by simp at h)
 |d+1=>IW l e n hn _ (λk h c op s b ho hc hck hf hlf hno hb=>by
  injection h with h
  subst h;obtain⟨next,s',h1,h2,h3,h4,h5,h6,h7,h8⟩:=IX l e n hn _ (rf l e n hn d) c op (e-op) (op+1) false s b hck hf hlf hno hb (by omega) (by omega) (by rw[lJ];exact hc)
  exact⟨next,s',h1,h2,h3,h4,h5,by omega,by omega⟩)
end Fe
section
open Go.RowKit
open Sq
open Ar
theorem Rp(v:Value)(l:List Nd)(up kind f t:Int)(w:World)(h:iR w v l)(hG:Ar.bu l)(hs:l.length<=900000000000)(hk:∀x∈l,x.ks.length<=900000000000):
 Calls prog 79 #[.agg #[v],.int .i64 up,.int .i64 kind,.int .i64 f,.int .i64 t] w (CJ (iL l up kind f t) (addN l up kind f t) w):=by
 obtain⟨a,cap,rfl⟩:=h.shape;obtain⟨y,hy,bf⟩:=A8 hG.pos;have HX:=eu (λW (hb:Below w.heap.size w W)=>h.below hb);have HC:=eu (λW (hb:Below w.heap.size w W)=>Eo _ l W (h.below hb) (by omega) (λx hx=>jN (hk x hx) (by omega)));obtain⟨N,hN⟩:=eX (l.length);have aF:=Js l up kind f t;have hmp:=FX l up kind f t
 have had:addN l up kind f t=if iL l up kind f t=true then(match l[up.toNat]? with
  |none=>(l,-1)
  |some p=>(gP ((l++[(⟨kind,f,t,up,[],false⟩:Nd)]).set up.toNat {p with ks:=p.ks++[(l.length:Int)]}) up t,(l.length:Int)))else(l,-1):=rfl
 obtain⟨b1,hb1⟩:=eX ((decide (up<0)||decide ((l.length:Int)<=up)||decide (kind<1)||decide (11<kind)||decide (t<f)||decide (firstT l<t)));rw[hb1]at aF hmp;rw[hN,bf]at hb1;obtain⟨M,hM⟩:=eX (iL l up kind f t);obtain⟨R,hR⟩:=eX (addN l up kind f t);rw[hM]at had aF hmp;rw[hR,hN]at had;have HQ:=eu (λu z w'=>show(R.2=z/\iR w' u R.1/\(M=true->∃L,L.map Ln.nd=R.1/\OT w' w.heap.size u L)/\Below w.heap.size w w')->CJ M R w (.returned (.tuple #[.agg #[u],.int .i64 z])) w' from λh=>⟨u,by rw[h.1],h.2⟩);rw[hM,hR];obtain⟨Q,hQ⟩:=eX (CJ M R w);rw[hQ]at HQ⊢;rw[hN]at HX HC⊢;rw[hN]at hs;have hpos:=hG.pos;rw[hN]at hpos;obtain⟨HG,HY,HN,bg,bH,bI⟩:=j6 hG hy hN had aF hmp;obtain⟨HB1,dA⟩:=fD hb1 hk;obtain⟨w2,hw2⟩:=eX ((w.alloc (.cells #[.slice a N cap] 31)).alloc (.cells #[.slice none 0 0] 31));obtain⟨Bt,bn⟩:=eX (w.heap.size);obtain⟨Br,hBr⟩:=eX (w.heap.size+1);have hb2:=mQ (eZ w (.cells #[.slice a N cap] 31)) (.cells #[.slice none 0 0] 31);have ct:w2.cell? ⟨Bt,0,none⟩=some (.slice a N cap):=by rw[<-hw2,<-bn];exact gX (at_new rfl)
 have cr:Lj w2 Br 0 (.slice none 0 0):=by
  rw[<-hw2,<-hBr];have h:=pP (W:=w.alloc (.cells #[.slice a N cap] 31)) (C:=#[.slice none 0 0]) (t:=31) (k:=0) rfl;rw[size_alloc]at h;exact h
 rw[hw2]at hb2;obtain⟨HB2,bq,HW2,bJ⟩:=jk hb2 cr hw2 bn;have hlt:Br<w2.heap.size:=lt_of_cell cr.1
 have hbr:w.heap.size<=Br:=by omega
 have bK:=eu hBr;have y0:=h.below hb2;obtain⟨b,off,ka,kc,rfl,-,-,y2,-,-,-,-⟩:=y0.at_ 0 y hy;simp only[vT,sO]at y2;have hN0:(0:Int)<(N:Int):=by omega
 clear h hy bf hk hN hM hR hQ had aF hmp hb1 hG hw2 bn hBr hb2 cr y0
 go_enter func79,ntmps79
 go_upto_region 1 with fail
 rw[HW2.out,bK.out,bJ.out];clear HW2 bK bJ
 go_cut [45] (λq wx=>q=.bool b1/\w2=wx)
 case first=>
  have hb1:=HB1.out;by_cases q1:up<0
  ·obtain rfl:b1=true:=by rw[<-hb1];simp[q1]
   clear hb1;go_wp2_with fail
   go_meet
   exact⟨rfl,rfl⟩
  by_cases q2:(N:Int)<=up
  ·obtain rfl:b1=true:=by rw[<-hb1];simp[q2]
   clear hb1;go_wp2_with fail
   go_meet
   exact⟨rfl,rfl⟩
  by_cases q3:kind<1
  ·obtain rfl:b1=true:=by rw[<-hb1];simp[q3]
   clear hb1;go_wp2_with fail
   go_meet
   exact⟨rfl,rfl⟩
  by_cases q4:11<kind
  ·obtain rfl:b1=true:=by rw[<-hb1];simp[q4]
   clear hb1;go_wp2_with fail
   go_meet
   exact⟨rfl,rfl⟩
  by_cases q5:t<f
  ·obtain rfl:b1=true:=by rw[<-hb1];simp[q5]
   clear hb1;go_wp2_with fail
   go_meet
   exact⟨rfl,rfl⟩
  by_cases q6:y.t<t
  ·obtain rfl:b1=true:=by rw[<-hb1];simp[q6]
   clear hb1;go_wp2_with fail
   go_meet
   exact⟨rfl,rfl⟩
  obtain rfl:b1=false:=by rw[<-hb1];simp[q1,q2,q3,q4,q5,q6]
  clear hb1;go_wp2_with fail
  go_meet
  exact⟨rfl,rfl⟩
 case rest=>
 obtain⟨rfl,rfl⟩:=hcut;have bL:=bq.out.1;have dB:=bq.out.2;cases b1 with
 |true=>
  obtain rfl:M=false:=bH.out rfl;have hr:R=(l,-1):=by rw[bg.out];rfl
  have HD:=eu (HQ.out (.slice (some ⟨b,off,none⟩) N cap) (-1) _ ⟨by rw[hr],by rw[hr];exact HX.out _ (HB2.out.setCell (p:=⟨Br,0,none⟩) hbr (.slice (some ⟨b,off,none⟩) N cap)),λe=>absurd e (by decide),HB2.out.setCell (p:=⟨Br,0,none⟩) hbr (.slice (some ⟨b,off,none⟩) N cap)⟩);clear hr;go_wp2_with fail
  refine o8 (v:=.tuple #[.agg #[.slice (some ⟨b,off,none⟩) N cap],.int .i64 (-1)]) ?_ rfl HD.out;simp[results,results79,go_sem,bL,jO]
 |false=>
  have hb1:=HB1.out;obtain⟨⟨⟨⟨⟨h0,hN1⟩,hk1⟩,hk2⟩,hft⟩,bf⟩:((((0<=up/\up<N)/\1<=kind)/\kind<=11)/\f<=t)/\t<=y.t:=by simpa using hb1
  obtain⟨i,rfl⟩:∃i:Nat,up=(i:Int):=⟨up.toNat,by omega⟩
  have hi:i<N:=by omega
  obtain⟨p,hp⟩:=iT l i (by rw[HN.out];exact hi);have hmp:=bI.out p (by rw[iE];exact hp);have had:=bg.out;rw[iE,hp]at had;dsimp only at had;have aL:=eu had;have y0:=HX.out w2 HB2.out;rw[<-HN.out]at y0;obtain⟨b',off',bz,aG,he,p0,p1,p2,p3,p4,p5,hkr⟩:=y0.at_ i p hp;injection he with he
  injection he with e1 e2
  subst e1 e2;obtain⟨pb,hpb⟩:=eX (w2.heap.size);obtain⟨w3,hw3⟩:=eX (w2.alloc (.cells #[.int .i64 p.k,.int .i64 p.f,.int .i64 p.t,.int .i64 p.u,.slice bz p.ks.length aG,.bool p.y] 47));have hb3:Below w2.heap.size w2 w3:=hw3▸eZ w2 _;have blk:w3.heap[pb]?=some (.cells #[.int .i64 p.k,.int .i64 p.f,.int .i64 p.t,.int .i64 p.u,.slice bz p.ks.length aG,.bool p.y] 47 (0,0)):=by rw[<-hw3,<-hpb];exact qj _ _
  have n1:w3.cell? ⟨pb,1,none⟩=some (.int .i64 p.f):=gQ blk 1;have n4:w3.cell? ⟨pb,4,none⟩=some (.slice bz p.ks.length aG):=gQ blk 4;have bM:=fe hb3 ct;obtain⟨bN,HB3⟩:=fD (hkr.below hb3) (j4 HB2.out hb3);have aM:=oN hb3 bq.out;have aN:=eu aM;have dR:=hb3.size;obtain⟨HW3,bO,HP⟩:=gW hw3 hpb hp;have aj:=eu (show M=wC l p f by rw[hmp];rfl)
  have bP:=eu (show M=true->p.f<=t from λe=>by
   have h:=aj.out;rw[e]at h;unfold wC at h;by_cases hc:f<p.f
   ·rw[iO hc]at h;cases h
   omega)
  have hii:(i:Int)<(N:Int):=by omega
  have hkl:=dA.out p (nQ hp);clear hb1 hmp had y0 hkr hpb hw3 hb3 blk hp aM bg bH bI HB1;go_upto_region 4 with fail
  rw[HW3.out,bO.out];clear HW3 bO p0 p1 p2 p3 p4 p5 bL dB ct y2
  go_cut [78] (λq wx=>q=.bool (!M)/\Below w3.heap.size w3 wx)
  case first=>
   have hm:=aj.out;unfold wC at hm;by_cases q1:f<p.f
   ·obtain rfl:M=false:=by rw[hm];simp[q1]
    clear hm;go_wp2_with fail
    go_quiet (fail)
    have hq:=gB (fu w3.heap.size w3) nq;go_wp2_with fail
    go_meet
    exact⟨rfl,hq⟩
   have e1:decide (f<p.f)=false:=by simp;omega
   cases hks:p.ks with
   |nil=>
    obtain rfl:M=true:=by rw[hm,hks,e1];rfl
    rw[hks]at n4;clear hm hks;simp only[lI]at n4;go_wp2_with fail
    go_quiet (fail)
    have hq:=gB (fu w3.heap.size w3) nq;go_wp2_with fail
    go_meet
    exact⟨rfl,hq⟩
   |cons k0 kr=>
    obtain⟨m,hm1⟩:∃m,p.ks.length=m+1:=⟨kr.length,by rw[hks];rfl⟩
    obtain⟨z,hz⟩:=iT p.ks m (by omega);have hlast:p.ks.getLast?=some z:=by rw[Qn,hm1];exact hz
    rw[hlast,e1]at hm;dsimp only at hm;have bQ:=HG.out.kid i p HP.out z (nQ hz);rw[HN.out]at bQ;obtain⟨zn,rfl⟩:∃zn:Nat,z=(zn:Int):=⟨z.toNat,by omega⟩
    obtain⟨c,hc⟩:=iT l zn (by rw[HN.out];omega);have hat:Qb l (zn:Int)=c.t:=by unfold Qb;rw[iE,hc]
    rw[hat]at hm;obtain⟨kb,ko,rfl,z0⟩:=qZ bN.out m _ hz;have yc:=HX.out w3 HB3.out;rw[<-HN.out]at yc;obtain⟨b9,dS,_,_,he,-,-,c2,-,-,-,-⟩:=yc.at_ zn c hc;injection he with he
    injection he with e2 e3
    subst e2 e3;rw[hm1]at n4;have g0:(0:Int)<(m:Int)+1:=by omega
    have gw:IntKind.i64.wrap ((m:Int)+1-1)=(m:Int):=by
     have:(m:Int)+1-1=(m:Int):=by omega
     rw[this];exact jC _ (by omega)
    have ed:IntKind.i64.wrap (m:Int)=(m:Int):=jC _ (by omega);have g1:(m:Int)<(m:Int)+1:=by omega
    have g2:(zn:Int)<(N:Int):=by omega
    have eB:w3.cell? ⟨pb,4,none⟩=some (.slice (some ⟨kb,ko,none⟩) (m+1) aG):=n4;clear n4 hks hlast bQ hz hc hat yc hm1;by_cases q2:f<c.t
    ·obtain rfl:M=false:=by rw[hm];simp[q2]
     clear hm;go_wp2_with fail
     go_quiet (fail)
     have hq:=gB (fu w3.heap.size w3) nq;go_wp2_with fail
     go_meet
     exact⟨rfl,hq⟩
    obtain rfl:M=true:=by rw[hm];simp[q2]
    have e4:decide (f<c.t)=false:=by simp;omega
    clear hm;go_wp2_with fail
    go_quiet (fail)
    have hq:=gB (fu w3.heap.size w3) nq;go_wp2_with fail
    go_meet
    exact⟨rfl,hq⟩
  case rest=>
  obtain⟨rfl,hbc⟩:=hcut
  rename World=>w4
  have dC:=fe hbc bM;have aH:=oN hbc aN.out;have aO:=aH.1;have bR:=aH.2;obtain⟨bS,aa⟩:=fD aH (j4 HB3.out hbc);have dU:=hbc.size;clear hbc bM n1 n4 bN aN aH aj;cases M with
  |false=>
   have hr:R=(l,-1):=by rw[aL.out];rfl
   have HD:=eu (HQ.out (.slice (some ⟨b,off,none⟩) N cap) (-1) _ ⟨by rw[hr],by rw[hr];exact HX.out _ (aa.out.setCell (p:=⟨Br,0,none⟩) hbr (.slice (some ⟨b,off,none⟩) N cap)),λe=>absurd e (by decide),aa.out.setCell (p:=⟨Br,0,none⟩) hbr (.slice (some ⟨b,off,none⟩) N cap)⟩);clear hr;go_wp2_with fail
   refine o8 (v:=.tuple #[.agg #[.slice (some ⟨b,off,none⟩) N cap],.int .i64 (-1)]) ?_ rfl HD.out;simp[results,results79,go_sem,aO,jO]
  |true=>
   have hr:=aL.out;rw[eT rfl]at hr;obtain⟨dD,bT,dE⟩:=gW (bP.out rfl) hr (HC.out w4 aa.out);clear hr;go_wp2_with fail
   refine dE.out.mono ?_;rintro e w5 ⟨u,rfl,⟨L,hL,hO⟩,hb5⟩;have hln:L.length=N:=by rw[<-HN.out,<-hL,nP]
   obtain⟨g,cp,hu,hBg,_,_,_⟩:=jG hO.row (by omega);subst hu;obtain⟨pl,hpl⟩:=iT L i (by omega);have hpn:pl.nd=p:=by
    have h1:(L.map Ln.nd)[i]?=some pl.nd:=by rw[nO,hpl];rfl
    rw[hL,HP.out]at h1;exact(jF h1).symm
   rw[hln]at hO⊢;obtain⟨HO,HL,bA,dF,bU,dG⟩:=j6 hO hL hln hpl hpn (j4 aa.out hb5);have bV:=oN hb5 bS.out;have aP:=eu bV;have ak:=hb5.size;have dV:=eu hb5;have ae:=eu (show w5.ownsRow w4.heap.size 47 nR.k (.slice (some ⟨g,0,none⟩) N cp) L.length (nR.all L)from hO.row);have hmx:L.length+1<=maxLen:=by simp only[maxLen];omega
   have bW:(L.length+1)*64<=140737488355328:=by omega
   obtain⟨dH,dI⟩:=fD hmx bW;clear hL hO hln hpl hpn hBg hb5 bV hmx bW aO bR dC;go_upto_region 9 with(at_builtin;go_must (refine jA Rm rfl (.tmp 84) (.tmp 90) rfl w4.heap.size _ L (⟨⟨kind,f,t,(i:Int),[],false⟩,none,0,0⟩:Ln) _ rfl rfl ae.out rfl dH.out dI.out ak ?_;intro v6 w6 hown6 bX;obtain⟨g6,av,hv6,aQ,aR,bY,dW⟩:=jG hown6 (by simp);rw[show(L++[(⟨⟨kind,f,t,(i:Int),[],false⟩,none,0,0⟩:Ln)]).length=N+1 from by rw[ig,bA.out];rfl]at hv6 bY;subst hv6;have bB:=eu hown6;have bZ:=eu bX;have cz:=eu aQ;have dX:=eu aR;clear hown6 bX aQ aR))
   have aI:=HO.out.push (p:=(⟨⟨kind,f,t,(i:Int),[],false⟩,none,0,0⟩:Ln)) (jq encI _ _) (λj q _ gg hgg=>by cases hgg) bZ.out bB.out;have hb6:Below w4.heap.size w5 w6:=((eZ w5 _).mono ak).grown bZ.out (by simp;omega) (λq hq=>(ae.out.lt q hq).1);have hL6:(L++[(⟨⟨kind,f,t,(i:Int),[],false⟩,none,0,0⟩:Ln)]).map Ln.nd=l++[⟨kind,f,t,(i:Int),[],false⟩]:=by rw[Cu,HL.out];rfl
   have ah:(L++[(⟨⟨kind,f,t,(i:Int),[],false⟩,none,0,0⟩:Ln)])[i]?=some pl:=by rw[qx (by rw[bA.out];exact hi)];exact dF.out
   have ax:(L++[(⟨⟨kind,f,t,(i:Int),[],false⟩,none,0,0⟩:Ln)]).length=N+1:=by rw[ig,bA.out];rfl
   obtain⟨L6,aS⟩:=eX (L++[(⟨⟨kind,f,t,(i:Int),[],false⟩,none,0,0⟩:Ln)]);rw[aS]at aI hL6 ah ax;have ay:=aI.row;have c4:w6.cell? ⟨g6,i*6+4,none⟩=some pl.val:=by
    have:=ay.cells (g:=g6) rfl _ _ ((ky nR L6 i pl ah 4 (by decide)).trans rfl);rw[iy,j5]at this;exact this
   obtain⟨az,dJ,ai,aT⟩:=jk aI hL6 ah ax;have dK:=eu (dG.out.trans (hb6.mono aa.out.size));have cB:Lj w6 Br 0 (.slice none 0 0):=⟨by rw[hb6.cell (p:=⟨Br,0,none⟩) (by show Br<w4.heap.size;omega)];exact aP.out.1,by rw[hb6.frozen (p:=⟨Br,0,none⟩) (by show Br<w4.heap.size;omega)];exact aP.out.2⟩
   have aU:=eu cB;have cK:w4.heap.size<=w6.heap.size:=jN ak hb6.size;have bC:=eu (az.out.kids i pl ai.out);have dL:=(Reads.fJ (E:=encI) bC.out)
   have dY:pl.nd.ks.length<=900000000000:=by rw[bU.out];exact hkl
   have dM:=eu (show pl.nd.ks.length+[(N:Int)].length<=maxLen by simp only[maxLen,gy,lI];omega);have dN:=eu (show(pl.nd.ks.length+[(N:Int)].length)*8<=140737488355328 by simp only[gy,lI];omega);have eD:(i:Int)<(N:Int)+1:=by omega
   clear aI hL6 ah ax aS ay hb6 cB dL HO ae;have aV:w4.heap.size<=(w6.alloc (.cells #[.int .i64 (N:Int)] 3)).heap.size:=by simp;omega
   go_upto_region 10 with(at_builtin;go_must (refine iw Od rfl (.tmp 98) (.tmp 100) rfl w4.heap.size _ pl.nd.ks rfl (bC.out.alloc _) _ [(N:Int)] rfl (Dh w6 (N:Int) [.int .i64 (N:Int)] 3 rfl) dM.out dN.out aV ?_;intro eF w7 af bD aW;obtain⟨a7,c7,hv7⟩:=(Reads.fJ (E:=encI) af).shape;obtain⟨n7,cO⟩:∃n7,(pl.nd.ks++[(N:Int)]).length=n7:=⟨_,rfl⟩;rw[cO]at hv7;clear cO;subst hv7;have bE:=eu af;have cZ:=eu bD;have df:=eu aW;have ag:=(az.out.row.alloc _).kept bD (sW (gU (az.out.kids i pl ai.out) az.out.row (by decide)));have d4:w7.cell? ⟨g6,i*6+4,none⟩=some pl.val:=(by have h5:=ag.cells (g:=g6) rfl _ _ ((ky nR L6 i pl ai.out 4 (by decide)).trans rfl);rw[iy,j5]at h5;exact h5);obtain⟨gx,eG,dh,_,hfx,_,_⟩:=jG (E:=nR) ag (by rw[aT.out];omega);have ex:=(mq dh).1;injection ex with ex;injection ex with ex;have dO:w7.frozen? ⟨g6,i*6+4,none⟩=false:=(by rw[ex];exact hfx _);clear af bD aW ag dh hfx ex))
   have aA:=az.out.kid ai.out (N:Int) cZ.out bE.out df.out;have aB:Below w4.heap.size w6 (w7.setCell ⟨g6,i*6+4,none⟩ (.slice a7 n7 c7)):=((((eZ w6 _).mono cK).grown cZ.out aV (λq hq=>(bC.out.lt q hq).1))).setCell (p:=⟨g6,i*6+4,none⟩) cz.out _;obtain⟨w8,hw8⟩:=eX (w7.setCell ⟨g6,i*6+4,none⟩ (.slice a7 n7 c7));rw[hw8]at aA aB;have hnd:({pl.nd with ks:=pl.nd.ks++[(N:Int)]}:Nd)={p with ks:=p.ks++[(N:Int)]}:=by rw[bU.out]
   rw[hnd]at aA;have aJ:(L6.set i ⟨{p with ks:=p.ks++[(N:Int)]},a7,n7,c7⟩).map Ln.nd=(l++[(⟨kind,f,t,(i:Int),[],false⟩:Nd)]).set i {p with ks:=p.ks++[(N:Int)]}:=by rw[Ov,dJ.out]
   have aC:(L6.set i ⟨{p with ks:=p.ks++[(N:Int)]},a7,n7,c7⟩).length=N+1:=by rw[qU];exact aT.out
   obtain⟨L8,aX⟩:=eX (L6.set i ⟨{p with ks:=p.ks++[(N:Int)]},a7,n7,c7⟩);rw[aX]at aA aJ aC;have di:Ar.bu (L8.map Ln.nd):=by
    rw[aJ];have:=wH HG.out (i:Int) kind f t p (by omega) (by rw[iE];exact HP.out) dD.out;rw[iE,HN.out]at this;exact this
   have hre:=IQ g6 av w4.heap.size (N+1) L8 (i:Int) t w8 aA aC di (by omega) (by omega);rw[aJ]at hre;have hr1:R.1=gP ((l++[(⟨kind,f,t,(i:Int),[],false⟩:Nd)]).set i {p with ks:=p.ks++[(N:Int)]}) (i:Int) t:=by rw[bT.out]
   have hr2:R.2=(N:Int):=by rw[bT.out]
   rw[<-hr1]at hre;obtain⟨HR2,dP⟩:=fD hr2 hre;have dQ:=eu (dK.out.trans (aB.mono aa.out.size));have dm:Lj w8 Br 0 (.slice none 0 0):=⟨by rw[aB.cell (p:=⟨Br,0,none⟩) (by show Br<w4.heap.size;omega)];exact aU.out.1,by rw[aB.frozen (p:=⟨Br,0,none⟩) (by show Br<w4.heap.size;omega)];exact aU.out.2⟩
   obtain⟨aY,dn⟩:=fD dm hw8;clear aA aB hw8 hnd aJ aC aX di hre hr1 hr2 dm d4 dO c4;rw[dn.out];clear dn;go_wp2_with fail
   refine dP.out.mono ?_;rintro e w9 ⟨rfl,⟨L9,bF,dw⟩,aK⟩;have hbl:Br<w4.heap.size:=by omega
   have bG:Lj w9 Br 0 (.slice none 0 0):=⟨by rw[aK.cell (p:=⟨Br,0,none⟩) hbl];exact aY.out.1,by rw[aK.frozen (p:=⟨Br,0,none⟩) hbl];exact aY.out.2⟩
   have dx:=bG.1;have dZ:=bG.2;have aD:=dw.NV Br hbl (.slice (some ⟨g6,0,none⟩) (N+1) av);have aZ:=(dQ.out.trans (aK.mono aa.out.size)).setCell (p:=⟨Br,0,none⟩) hbr (.slice (some ⟨g6,0,none⟩) (N+1) av);have HD:=eu (HQ.out (.slice (some ⟨g6,0,none⟩) (N+1) av) (N:Int) _ ⟨HR2.out,bF▸aD.nodes,λ_=>⟨L9,bF,aD.base aa.out.size⟩,aZ⟩);clear bF dw aK bG aD aZ;go_wp2;refine o8 (v:=.tuple #[.agg #[.slice (some ⟨g6,0,none⟩) (N+1) av],.int .i64 (N:Int)]) ?_ rfl HD.out;simp[results,results79,go_sem,dx,jO]
end
end Go.Proofs.YtfbiffdmhcjhbaaGreat

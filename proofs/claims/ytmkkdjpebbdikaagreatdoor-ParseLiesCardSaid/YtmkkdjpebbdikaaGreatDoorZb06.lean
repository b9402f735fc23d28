import Derived.Test.YtmkkdjpebbdikaaGreatDoorZb03
set_option linter.all false
set_option maxHeartbeats 16000000
set_option maxRecDepth 100000
namespace Go.Proofs.YtmkkdjpebbdikaaGreatDoor
open Go.RowKit Tryz
namespace Fl
open Ar
def errs(l:List Nd):Nat:=l.countP (λx=>x.k==11)
def told(d:List Dg):Nat:=d.countP (λx=>x.code !=9)
def oM(l l':List Nd):Prop:=l.length<=l'.length/\∀(i:Nat)(x:Nd),l[i]?=some x->∃x',l'[i]?=some x'/\x'.k=x.k/\x'.f=x.f/\x'.u=x.u
theorem oM.refl(l:List Nd):oM l l:=⟨eO _,λ_ x h=>⟨x,h,rfl,rfl,rfl⟩⟩
theorem oM.trans{a b c:List Nd}(h:oM a b)(g:oM b c):oM a c:=by
 refine⟨iU h.1 g.1,λi x hx=>?_⟩;obtain⟨y,h1,h2,h3,h4⟩:=h.2 i x hx;obtain⟨z,g1,g2,g3,g4⟩:=g.2 i y h1;exact⟨z,g1,dS,dS,dS⟩
structure Ok(n:Int)(up:Nat)(s0:St)(e b:Int)(s:St):Prop where
 ck:Ck s.t n
 fits:Fits s.t e b up
 keep:oM s0.t s.t
 tells:errs s.t+told s0.d=errs s0.t+told s.d
theorem Ok.le{n e b e' b':Int}{up:Nat}{s0 s:St}(h:Ok n up s0 e b s)(he:e<=e')(hb:b<=b'):Ok n up s0 e' b' s:=⟨h.ck,h.fits.le he hb,h.keep,h.tells⟩
theorem Ok.start{n e b:Int}{up:Nat}{s:St}(h:Ck s.t n)(g:Fits s.t e b up):Ok n up s e b s:=⟨h,g,oM.refl _,rfl⟩
theorem Ok.trans{n e b e1 b1:Int}{up c:Nat}{s0 s s':St}(h:Ok n up s0 e b s)(g:Ok n c s e1 b1 s'):Ok n c s0 e1 b1 s' :=
 ⟨g.ck,g.fits,h.keep.trans g.keep,by have h1:=h.tells;have h2:=g.tells;omega⟩
theorem Ok.out{n e b:Int}{c p:Nat}{s0 s:St}(h:Ok n c s0 e b s){x:Nd}(hx:s.t[c]?=some x)(hu:x.u=(p:Int))(h0:0<c):Ok n p s0 b b s:=
 ⟨h.ck,h.fits.out h.ck hx hu h0,h.keep,h.tells⟩
theorem RG{l r:List Nd}(hl:r.length=l.length)(h:∀(i:Nat)(x:Nd),l[i]?=some x->∃x',r[i]?=some x'/\x'.k=x.k):r.map (·.k)=l.map (·.k):=by
 refine r9 (λi=>?_);rw[kS,kS];cases hx:l[i]? with
 |none=>
  exact JL
 |some x=>
  obtain⟨x',h1,h2⟩:=h i x hx;rw[h1];simp[h2]
theorem wQ(l:List Nd):errs l=(l.map (·.k)).countP (λk=>k==11):=by
 unfold errs;rw[XM];rfl
theorem pF{l r:List Nd}(hl:r.length=l.length)(h:∀(i:Nat)(x:Nd),l[i]?=some x->∃x',r[i]?=some x'/\x'.k=x.k):errs r=errs l:=by
 rw[wQ,wQ,RG hl h]
theorem BJ{l r:List Nd}{z:Nd}(hl:r.length=l.length+1)(h:∀(i:Nat)(x:Nd),l[i]?=some x->∃x',r[i]?=some x'/\x'.k=x.k)(hz:r[l.length]?=some z):errs r=errs l+(if z.k==11 then 1 else 0):=by
 have h1:r=r.take l.length++[z]:=Y3
 have h2:errs (r.take l.length)=errs l:=pF nX (λi x hx=>by
  have hi:=(eY.1 hx).1;obtain⟨x',g1,g2⟩:=h i x hx
  exact⟨x',by rw[tu hi];exact g1,g2⟩)
 rw[h1];unfold errs at h2⊢;rw[rZ,h2,qH,Dn];omega
theorem Bf{n e b:Int}{up f t kind:Nat}{s0 s:St}(h:Ok n up s0 e b s)(he:e<=f)(hft:f<=t)(htn:(t:Int)<=n)(hk1:1<=kind)(hk2:kind<=11):
 ∃r,addN s.t up kind f t=(r,(s.t.length:Int))/\Ck r n/\Fits r t (max b t) up/\Fits r f (max b t) s.t.length/\oM s.t r/\errs r=errs s.t+(if kind=11 then 1 else 0)/\
  (∃x,r[s.t.length]?=some x/\x.u=(up:Int)/\x.k=(kind:Int))/\0<s.t.length:=by
 obtain⟨r,h1,h2,h3,h4,h5,h6,h7⟩:=J8 (f:=(f:Int)) (t:=(t:Int)) (kind:=(kind:Int)) h.ck h.fits he dS htn dS dS;refine⟨r,h1,h2,h3,h4,⟨dS,λi x hx=>?_⟩,?_,⟨_,h5,rfl,rfl⟩,h.ck.pos⟩
 ·obtain⟨x',g1,g2,g3,g4,_⟩:=h7 i x hx;exact⟨x',g1,g2,g3,g4⟩
 ·rw[BJ h6 (λi x hx=>by obtain⟨x',g1,g2,_⟩:=h7 i x hx;exact⟨x',g1,g2⟩) h5];congr 1;by_cases e:kind=11
  ·subst e;rfl
  ·rw[dW eQ,dW e]
theorem kJ{n e b:Int}{up f t kind:Nat}{s0 s:St}(h:Ok n up s0 e b s)(he:e<=f)(hft:f<=t)(htn:(t:Int)<=n)(hk1:1<=kind)(hk2:kind<=10):
 ∃s',add s up kind f t=(s',(s.t.length:Int))/\Ok n up s0 t (max b t) s'/\Ok n s.t.length s0 f (max b t) s'/\(∃x,s'.t[s.t.length]?=some x/\x.u=(up:Int))/\0<s.t.length:=by
 obtain⟨r,h1,h2,h3,h4,h5,h6,⟨x,h7,h8,_⟩,h9⟩:=Bf h he hft htn hk1 dS;have ht:errs r+told s0.d=errs s0.t+told s.d:=by rw[h6,dW dS];have:=h.tells;omega
 refine⟨⟨r,s.d⟩,by unfold add;rw[h1],⟨h2,h3,h.keep.trans h5,ht⟩,⟨h2,h4,h.keep.trans h5,ht⟩,⟨x,h7,h8⟩,h9⟩
theorem qY{n e b:Int}{up f t code:Nat}{s0 s:St}(l:List Tk)(h:Ok n up s0 e b s)(he:e<=f)(hft:f<=t)(htn:(t:Int)<=n)(hc:code≠9):
 Ok n up s0 t (max b t) (err l s up f t code)/\(addN s.t up 11 f t).2=(s.t.length:Int):=by
 obtain⟨r,h1,h2,h3,h4,h5,h6,_,h9⟩:=Bf (kind:=11) h he hft htn dS dS;have h1:addN s.t up 11 f t=(r,(s.t.length:Int)):=h1;refine⟨?_,by rw[h1]⟩;unfold err;rw[h1];refine⟨h2,h3,h.keep.trans h5,?_⟩;show errs r+told s0.d=errs s0.t+told (s.d++[_]);unfold told;rw[rZ,qH,Dn,dX (by simpa using hc),h6,dX rfl];have:=h.tells;unfold told at this;omega
theorem sD{n e b:Int}{up t:Nat}{s0 s:St}(h:Ok n up s0 e b s)(he:e<=t)(hb:b<=t)(htn:(t:Int)<=n):Ok n up s0 t t ⟨iB s.t up t,s.d⟩:=by
 obtain⟨h1,h2,h3,h4⟩:=TS h.ck h.fits he hb htn;have hk:oM s.t (iB s.t up t):=⟨dS,λi x hx=>Yv⟩
 refine⟨h1,h2,h.keep.trans hk,?_⟩;show errs (iB s.t up t)+_=_+told s.d;rw[pF h3 (λi x hx=>by obtain⟨x',g1,g2,_⟩:=hk.2 i x hx;exact⟨x',g1,g2⟩)];exact h.tells
theorem Kz{n e b:Int}{up f t:Nat}{s0 s:St}(h:Ok n up s0 e b s):Ok n up s0 e b ⟨s.t,s.d++[⟨9,f,t⟩]⟩:=by
 refine⟨h.ck,h.fits,h.keep,?_⟩;show errs s.t+told s0.d=errs s0.t+told (s.d++[_]);have:=h.tells;unfold told at this⊢;rw[rZ,qH,Dn,dW eG];omega
theorem xY(l:List Nd)(i:Int):(keyed l i).length=l.length/\∀(j:Nat)(x:Nd),l[j]?=some x->∃x',(keyed l i)[j]?=some x'/\x'.k=x.k/\x'.f=x.f/\x'.t=x.t/\x'.u=x.u/\x'.ks=x.ks:=by
 unfold keyed;cases hx:l[i.toNat]? with
 |none=>exact⟨rfl,λj x h=>⟨x,h,rfl,rfl,rfl,rfl,rfl⟩⟩
 |some y=>
  have hi:=(eY.1 hx).1;refine⟨eG,λj x h=>?_⟩;dsimp only;by_cases e:i.toNat=j
  ·subst e;rw[hx]at h;injection h with h;subst h
   exact⟨_,yE hi,rfl,rfl,rfl,rfl,rfl⟩
  ·exact⟨x,by rw[zu e];exact h,rfl,rfl,rfl,rfl,rfl⟩
theorem TY{l r:List Nd}{n e b:Int}{c:Nat}(hl:r.length=l.length)(G:∀(j:Nat)(x:Nd),l[j]?=some x->∃x',r[j]?=some x'/\x'.k=x.k/\x'.f=x.f/\x'.t=x.t/\x'.u=x.u/\x'.ks=x.ks)
 (h:Ck l n) (hf:Fits l e b c):Ck r n/\Fits r e b c:=by
 have B:∀(i:Nat)(x':Nd),r[i]?=some x'->∃x,l[i]?=some x/\x'.k=x.k/\x'.f=x.f/\x'.t=x.t/\x'.u=x.u/\x'.ks=x.ks:=Y7
 refine⟨⟨?_,?_,?_,?_,?_⟩,⟨by have:=hf.lt;omega,?_,?_⟩⟩
 ·obtain⟨x,q,rfl,h1,h2,h3,h4,h5⟩:=h.first;obtain⟨x',g1,e1,e2,e3,e4,e5⟩:=G 0 x rfl;cases r with
  |nil=>simp at g1
  |cons y q'=>simp at g1;subst g1;exact⟨_,_,rfl,dS,dS,dS,dS,h5⟩
 ·intro i x' hi hx';obtain⟨x,hx,_,_,_,e4,_⟩:=B i x' hx';rw[e4];exact h.up i x hi hx
 ·intro i x' hx' z hz;obtain⟨x,hx,_,e2,e3,e4,e5⟩:=B i x' hx';rw[e5]at hz;obtain⟨j,y,rfl,j0,hy,k1,k2,k3,k4⟩:=h.kid i x hx z hz;obtain⟨y',g1,_,g3,g4,g5,_⟩:=G j y hy;exact⟨j,y',rfl,j0,g1,dS,dS,dS,.inl PI⟩
 ·intro i x' hx';obtain⟨x,hx,_,e2,e3,e4,e5⟩:=B i x' hx';rw[e5];refine(h.ord i x hx).imp (fun{a b} hab=>⟨hab.1,λxa yb hxa hyb=>?_⟩);obtain⟨aa,q1,_,_,q2,_⟩:=B _ xa hxa;obtain⟨ae,r1,_,r2,_⟩:=B _ yb hyb;have:=hab.2 aa ae q1 r1;omega
 ·intro i hi hil;have hm:r.map (·.ks)=l.map (·.ks):=by
   refine r9 (λi=>?_);rw[kS,kS];cases hx:l[i]? with
   |none=>
    exact JL
   |some x=>
    obtain⟨x',g1,_,_,_,_,e5⟩:=G i x hx;rw[g1];simp[e5]
  rw[aem,hm,<-aem];exact h.seen i hi dS
 ·have hs:=hf.sp;clear hf
  induction hs with
  |root=>exact .root
  |up d p x y h0 hx hy hu hla ht hsp ih=>
   obtain⟨x',g1,_,_,g3,g4,_⟩:=G d x hx;obtain⟨y',k1,_,_,_,_,k5⟩:=G p y hy;exact .up d p x' y' h0 g1 k1 dS (by rw[k5];exact hla) dS ih
 ·intro x' hx';obtain⟨x,hx,_,e2,_,_,e5⟩:=B c x' hx';refine⟨by have:=(hf.here x hx).1;omega,λz hz y' hy'=>?_⟩;rw[e5]at hz;obtain⟨y,hy,_,_,q3,_⟩:=B _ y' hy';have:=(hf.here x hx).2 z hz y hy;omega
theorem pY{n e b:Int}{up:Nat}{s0 s:St}(i:Int)(h:Ok n up s0 e b s):Ok n up s0 e b ⟨keyed s.t i,s.d⟩:=by
 obtain⟨k1,k2⟩:=xY s.t i;obtain⟨h1,h2⟩:=TY k1 k2 h.ck h.fits;have hk:oM s.t (keyed s.t i):=⟨dS,λj x hx=>Yw⟩
 refine⟨h1,h2,h.keep.trans hk,?_⟩;show errs (keyed s.t i)+_=_+told s.d;rw[pF k1 (λj x hx=>by obtain⟨x',g1,g2,_⟩:=k2 j x hx;exact⟨x',g1,g2⟩)];exact h.tells
end Fl
namespace Fl
open Ar
theorem My(n:Int)(p:Int)(h0:0<=n)(h1:n<=32768)(hp:0<=p):Fits (fU n) p 0 0:=by
 have hn:fU n=[⟨1,0,n,-1,[],false⟩]:=yT
 rw[hn];refine⟨eG,.root,λx hx=>?_⟩;have hx:(⟨1,0,n,-1,[],false⟩:Nd)=x:=jJ
 subst hx;exact⟨hp,λz hz=>by simp at hz⟩
end Fl
namespace Fl
open Ar
structure fF where
 q:List Nd
 d:List Dg
def iq(q:List Nd)(up:Int)(k f:Nat):List Nd:=
 if up<0 then q++[(⟨k,f,0,up,[],false⟩:Nd)]else match q[up.toNat]? with
  |none=>q++[(⟨k,f,0,up,[],false⟩:Nd)]
  |some p=>(q++[(⟨k,f,0,up,[],false⟩:Nd)]).set up.toNat {p with ks:=p.ks++[(q.length:Int)]}
def nR(q:List Nd)(i t:Nat):List Nd:=match q[i]? with
 |none=>q
 |some x=>q.set i {x with t:=t}
def jr(q:List Nd)(up:Int)(k f t:Nat):List Nd:=nR (iq q up k f) q.length t
def rQ(l:List Tk)(s:fF)(up:Int)(f t code:Nat):fF:=⟨jr s.q up 11 f t,s.d++[⟨code,kW l f,too l (t-1)⟩]⟩
def Ca(l:List Tk)(e:Nat)(eT:Option (Nat->Nat->fF->Nat×fF))(up:Int)(p:Nat)(s:fF):Nat×fF:=
 let o:=(lead l e (e-blanks l e p) none (blanks l e p)).1
 let i:=(lead l e (e-blanks l e p) none (blanks l e p)).2
 let fr:=j5 o i
 let k:=kd l e i
 if k=13 then(i+1,⟨jr s.q up 8 fr (i+1),s.d⟩)
 else if gX k=true then(i+1,⟨jr s.q up 7 fr (i+1),s.d⟩)
 else if k=18 then(text l e i,⟨jr s.q up 7 fr (text l e i),s.d⟩)
 else if opens k=true then match eT with
  |none=>(balanced l e i,rQ l s up fr (balanced l e i) 10)
  |some eT=>eT s.q.length i ⟨iq s.q up (if k=9 then 10 else 9) fr,s.d⟩
 else match o with
  |some x=>(x.2+1,⟨jr s.q up 7 fr (x.2+1),s.d⟩)
  |none=>(p,s)
def mH(l:List Tk)(s:fF)(c:Nat)(j q:Nat):fF:=
 if q-j<2 then⟨iq s.q c 6 j,s.d⟩
 else⟨jr (keyed (iq s.q c 6 j) s.q.length) s.q.length (if(List.range (q-j)).any (λx=>raw l (j+x)==13)=true then 8 else 7) j (back l (q-1) (j+1)),s.d⟩
def qO(l:List Tk)(e:Nat)(val:Int->Nat->fF->Nat×fF)(aa:Bool)(c:Nat)(j:Nat)(s:fF):Nat×fF:=
 let q:=key l e j
 let n:=s.q.length
 if 0<q then
  let x:=fI l e q
  let r:=val n x (mH l s c j q)
  let jC:=if r.1=x then q else r.1
  (jC,⟨nR r.2.q n jC,r.2.d⟩)
 else if aa=true then
  let r:=val n j ⟨keyed (iq s.q c 6 j) n,s.d⟩
  (r.1,⟨nR r.2.q n r.1,r.2.d⟩)
 else val c j s
def iN(l:List Tk)(e:Nat)(val:Int->Nat->fF->Nat×fF)(c:Nat)(op:Nat):Nat->Nat->Bool->fF->Nat×fF
 |0,p,_,s=>(p,s)
 |g+1,p,aa,s=>
  let j:=fI l e p
  let k:=kd l e j
  if k=0 then(back l p (op+1),⟨nR s.q c (back l p (op+1)),s.d++[⟨9,kW l op,too l op⟩]⟩)
  else if k=(if raw l op=9 then 11 else 10)then(j+1,⟨nR s.q c (j+1),s.d⟩)
  else if ends k=true then iN l e val c op g (j+1) aa (rQ l s c j (j+1) 8)
  else if k=7 then
   if aa=true then iN l e val c op g (j+1) false s
   else iN l e val c op g (j+1) aa (rQ l s c j (j+1) 8)
  else if aa=true then iN l e val c op g (kE l e j) aa (rQ l s c j (kE l e j) 8)
  else if 0<key l e j\/begins k=true then iN l e val c op g (qO l e val (raw l op==9) c j s).1 true (qO l e val (raw l op==9) c j s).2
  else iN l e val c op g (j+1) aa (rQ l s c j (j+1) 8)
def iw(l:List Tk)(e:Nat):Nat->Int->Nat->fF->Nat×fF
 |0=>Ca l e none
 |d+1=>Ca l e (some (λc op s=>iN l e (iw l e d) c op (e-op) (op+1) false s))
theorem iM(q:List Nd)(up:Int)(k f:Nat):(iq q up k f).length=q.length+1:=by
 unfold iq;split
 ·simp
 ·split<;>simp
theorem nz(q:List Nd)(up:Int)(k f:Nat)(hu:up<q.length):(iq q up k f)[q.length]?=some ⟨k,f,0,up,[],false⟩:=by
 unfold iq;split
 ·simp
 ·split
  ·simp
  ·rw[zu dS];simp
theorem wR(q:List Nd)(up:Int)(k f:Nat)(i:Nat)(x:Nd)(hx:q[i]?=some x):(iq q up k f)[i]?=some {x with ks:=if(i:Int)=up then x.ks++[(q.length:Int)]else x.ks}:=by
 have hi:=(eY.1 hx).1;unfold iq;split
 ·rw[nK hi,hx,dW dS]
 ·split
  ·rename_i h0 h1;rw[nK hi,hx,dW (λe=>by rw[<-e,jd,hx]at h1;cases h1)]
  ·rename_i h0 p hp;by_cases e:(i:Int)=up
   ·subst e;rw[jd,hx]at hp;injection hp with hp;subst hp
    rw[dX rfl,jd,yE eQ]
   ·rw[dW e,zu dS,nK hi,hx]
theorem jD(q:List Nd)(i t:Nat):(nR q i t).length=q.length:=by
 unfold nR;split<;>simp
theorem oq(q:List Nd)(i t j:Nat)(x:Nd)(hx:q[j]?=some x):(nR q i t)[j]?=some {x with t:=if j=i then(t:Int)else x.t}:=by
 have hj:=(eY.1 hx).1;unfold nR;split
 ·rename_i h1;rw[hx,dW (λe=>by rw[<-e,hx]at h1;cases h1)]
 ·rename_i y hy;by_cases e:j=i
  ·exact Zv
  ·rw[zu (λh=>e h.symm),hx,dW e]
theorem fQ(q:List Nd)(i:Int):(keyed q i).length=q.length:=(xY q i).1
theorem nA(q:List Nd)(i j:Nat)(x:Nd)(hx:q[j]?=some x):(keyed q i)[j]?=some {x with y:=if j=i then true else x.y}:=by
 have hj:=(eY.1 hx).1;unfold keyed;rw[jd];cases hy:q[i]? with
 |none=>
  dsimp only;rw[hx,dW (λe=>by rw[<-e,hx]at hy;cases hy)]
 |some y=>
  dsimp only;by_cases e:j=i
  ·exact Zv
  ·rw[zu (λh=>e h.symm),hx,dW e]
theorem qy{l l':List Nd}(hl:l'.length=l.length){i:Nat}{x':Nd}(h:l'[i]?=some x'):∃x,l[i]?=some x:=by
 have:=(eY.1 h).1;exact⟨_,fu dS⟩
theorem sF{l l':List Nd}{c i:Nat}(hg:dR l)(hc:c<l.length)(h:∀(d:Nat)(x:Nd),l[d]?=some x->∃x',l'[d]?=some x'/\x'.u=x.u):On l' c i↔On l c i:=by
 refine⟨λho=>?_,On.mono h⟩
 induction ho with
 |self c=>exact .self c
 |out c p' i x hx hu h00 ho ih=>
  obtain⟨y,hy⟩:∃y,l[c]?=some y:=⟨_,fu hc⟩
  obtain⟨x',h1,h2⟩:=h c y hy;rw[hx]at h1;injection h1 with h1;subst h1
  have:=(hg.up c y hy).2;exact .out c p' i y hy dS h00 (ih dS)
theorem aaY{l:List Nd}{c i p:Nat}{x:Nd}(hx:l[c]?=some x)(hu:x.u=(p:Int))(h0:0<c)(hi:i≠c):On l c i↔On l p i:=by
 constructor
 ·intro ho;cases ho with
  |self=>exact absurd rfl hi
  |out _ p' _ y hy hp _ ho=>
   rw[hx]at hy;injection hy with hy;subst hy
   obtain rfl:p'=p:=dS
   exact ho
 ·exact λho=>.out _ _ i x hx hu h0 ho
theorem aaZ{l:List Nd}{up k f t:Nat}(hg:dR l)(hm:il l up k f t=true):
 ∃r,addN l up k f t=(r,(l.length:Int))/\r.length=l.length+1/\r[l.length]?=some ⟨k,f,t,up,[],false⟩/\
  ∀(i:Nat)(x:Nd),l[i]?=some x->∃z,r[i]?=some z/\z.k=x.k/\z.f=x.f/\z.u=x.u/\z.y=x.y/\z.ks=(if i=up then x.ks++[(l.length:Int)]else x.ks)/\((On l up i/\z.t=max x.t t)\/(¬On l up i/\z.t=x.t)):=by
 obtain⟨h0,h1,p,hp⟩:=yY hm;have ae:=(J7 hm hp).1;have aa:=zU hg up k f t p h0 hp ae;rw[jd]at hp aa;obtain⟨m,hmd⟩:=eu ((l++[(⟨k,f,t,up,[],false⟩:Nd)]).set up {p with ks:=p.ks++[(l.length:Int)]});have hadd:addN l up k f t=(gY m up t,(l.length:Int)):=by
  unfold addN;rw[dX hm,jd,hp];dsimp only;rw[hmd]
 rw[hmd]at aa;have af:m.length=l.length+1:=by rw[<-hmd];simp
 have mn:m[l.length]?=some ⟨k,f,t,up,[],false⟩:=by
  rw[<-hmd,zu dS,oH (eO _)];simp
 have mo:∀(i:Nat)(x:Nd),l[i]?=some x->m[i]?=some {x with ks:=if i=up then x.ks++[(l.length:Int)]else x.ks}:=by
  intro i x hx;have hi:=(eY.1 hx).1;by_cases e:i=up
  ·subst e;rw[hp]at hx;injection hx with hx;subst hx
   rw[<-hmd,yE eQ,dX rfl]
  ·rw[<-hmd,zu (λh=>e h.symm),nK hi,hx,dW e]
 have hon:∀i,i<l.length->(On m up i↔On l up i):=by
  intro i hi;exact sF hg dS (λd x hd=>⟨_,mo d x hd,rfl⟩)
 have H:=wO up m t aa dS;refine⟨gY m up t,hadd,by rw[rC _ _ aa,af],?_,λi x hx=>?_⟩
 ·obtain⟨z,h2,h3⟩:=H l.length _ mn;rcases h3 with⟨h3,_⟩|⟨_,rfl⟩
  ·have:=h3.low aa;omega
  ·exact h2
 ·have hi:=(eY.1 hx).1;obtain⟨z,h2,h3⟩:=H i _ (mo i x hx);rcases h3 with⟨h3,rfl⟩|⟨h3,rfl⟩
  ·exact⟨_,h2,rfl,rfl,rfl,rfl,rfl,.inl ⟨(hon i hi).1 h3,rfl⟩⟩
  ·exact⟨_,h2,rfl,rfl,rfl,rfl,rfl,.inr ⟨λh=>h3 ((hon i hi).2 h),rfl⟩⟩
def cT(B up0:Nat)(c:Int):Nat:=if c<0 then up0 else B+c.toNat
structure Rel(B up0:Nat)(T0 q t:List Nd)(c:Int)(p:Nat):Prop where
 len:t.length=B+q.length
 lo:B=T0.length/\up0<B
 cur:-1<=c/\c<q.length
 nd:∀(i:Nat)(x:Nd),q[i]?=some x->∃z,t[B+i]?=some z/\z.k=x.k/\z.f=x.f/\z.u=(cT B up0 x.u:Int)/\z.ks=x.ks.map (·+(B:Int))/\z.y=x.y/\
  ((On t (cT B up0 c) (B+i)/\z.t=p)\/(¬On t (cT B up0 c) (B+i)/\z.t=x.t))
 ups:∀(i:Nat)(x:Nd),q[i]?=some x->-1<=x.u/\(0<i->0<=x.u)
 old:∀(i:Nat)(x:Nd),T0[i]?=some x->∃z,t[i]?=some z/\z.k=x.k/\z.f=x.f/\z.u=x.u/\z.y=x.y/\z.ks=(if i=up0/\0<q.length then x.ks++[(B:Int)]else x.ks)/\
  ((On t up0 i/\0<q.length/\z.t=max x.t p)\/((¬On t up0 i\/q.length=0)/\z.t=x.t))
section
variable {B up0:Nat}{T0 q t:List Nd}{c:Int}{p:Nat}
theorem qg(B up0 c:Nat):cT B up0 (c:Int)=B+c:=by unfold cT;rw[dW dS,jd]
theorem qD(B up0:Nat){c:Int}(h:c<0):cT B up0 c=up0:=by unfold cT;rw[dX h]
theorem Rel.lt(h:Rel B up0 T0 q t c p):cT B up0 c<t.length:=by
 have:=h.len;have:=h.lo;have:=h.cur;unfold cT;split<;>omega
theorem Rel.ag7(h:Rel B up0 T0 q t c p){a:Nat}{x:Nd}(hx:q[a]?=some x)(i:Nat)(hi:i≠B+a):On t (B+a) i↔On t (cT B up0 x.u) i:=by
 obtain⟨z,hz,_,_,hu,_⟩:=h.nd a x hx;have:=h.lo;exact aaY hz hu dS hi
theorem Rel.aiS(h:Rel B up0 T0 q t c p)(hg:dR t):∀a:Nat,a<q.length->∀i,i<B->(On t (B+a) i↔On t up0 i):=by
 intro a
 induction a using Nat.strongRecOn with
 |ind a ih=>
  intro ha i hi;obtain⟨x,hx⟩:∃x,q[a]?=some x:=⟨_,fu ha⟩
  rw[h.ag7 hx i dS];obtain⟨z,hz,_,_,hu,_⟩:=h.nd a x hx;have h1:=(hg.up _ z hz).2;by_cases hc:x.u<0
  ·rw[qD B up0 hc]
  ·obtain⟨u,hu2⟩:∃u:Nat,x.u=(u:Int):=⟨x.u.toNat,dS⟩
   rw[hu2,qg]at hu⊢;exact ih u dS dS i hi
theorem Rel.aa0(h:Rel B up0 T0 q t c p)(hg:dR t){i:Nat}(hi:i<B):On t (cT B up0 c) i↔On t up0 i:=by
 have qp:=h.cur;by_cases hc:c<0
 ·rw[qD B up0 hc]
 ·obtain⟨u,rfl⟩:∃u:Nat,c=(u:Int):=⟨c.toNat,dS⟩
  rw[qg];exact h.aiS hg u dS i hi
theorem Rel.put(h:Rel B up0 T0 q t c p)(hg:dR t){k f jC:Nat}(hm:il t (cT B up0 c) k f jC=true)(hq:c<0->q.length=0/\p<=jC):
 ∃r,addN t (cT B up0 c) k f jC=(r,(t.length:Int))/\
  Rel B up0 T0 (jr q c k f jC) r c (max p jC)/\
  (p<=jC->Rel B up0 T0 (iq q c k f) r q.length jC):=by
 obtain⟨r,h1,h2,h3,h4⟩:=aaZ hg hm;have hlen:=h.len;have hlo:=h.lo;have qp:=h.cur;have hlt:=h.lt;have hon:∀i,On r (cT B up0 c) i↔On t (cT B up0 c) i:=λi=>sF hg hlt (λd x hd=>Yx)
 have ae:∀i,On r up0 i↔On t up0 i:=λi=>sF hg dS (λd x hd=>Yx)
 have elder:∀(i:Nat)(x:Nd),q[i]?=some x->∃z,r[B+i]?=some z/\z.k=x.k/\z.f=x.f/\z.u=(cT B up0 x.u:Int)/\z.ks=(if(i:Int)=c then x.ks++[(q.length:Int)]else x.ks).map (·+(B:Int))/\z.y=x.y/\
  ((On r (cT B up0 c) (B+i)/\z.t=(max p jC:Nat))\/(¬On r (cT B up0 c) (B+i)/\z.t=x.t)):=by
  intro i x hx;have hi:=(eY.1 hx).1;obtain⟨z,a1,a2,a3,a4,a5,a6,a7⟩:=h.nd i x hx;obtain⟨z',b1,b2,b3,b4,b5,b6,b7⟩:=h4 (B+i) z a1;refine⟨z',b1,dS,dS,dS,?_,by rw[b5,a6],?_⟩
  ·rw[b6,a5,hlen];by_cases e:(i:Int)=c
   ·subst e;rw[qg,dX rfl,dX rfl,yF];simp;omega
   ·rw[dW e,dW];unfold cT;split<;>omega
  ·rw[hon];rcases b7 with⟨b7,b8⟩|⟨b7,b8⟩
   ·rcases a7 with⟨_,a8⟩|⟨a7,_⟩
    ·exact .inl ⟨b7,dS⟩
    ·exact absurd b7 a7
   ·rcases a7 with⟨a7,_⟩|⟨_,a8⟩
    ·exact absurd a7 b7
    ·exact .inr ⟨b7,dS⟩
 have older:∀(i:Nat)(x:Nd),T0[i]?=some x->∃z,r[i]?=some z/\z.k=x.k/\z.f=x.f/\z.u=x.u/\z.y=x.y/\z.ks=(if i=up0/\0<q.length+1 then x.ks++[(B:Int)]else x.ks)/\
  ((On r up0 i/\0<q.length+1/\z.t=max x.t (max p jC:Nat))\/((¬On r up0 i\/q.length+1=0)/\z.t=x.t)):=by
  intro i x hx;have hi:=(eY.1 hx).1;obtain⟨z,a1,a2,a3,a4,a5,a6,a7⟩:=h.old i x hx;obtain⟨z',b1,b2,b3,b4,b5,b6,b7⟩:=h4 i z a1;rw[h.aa0 hg dS]at b7;refine⟨z',b1,dS,dS,dS,by rw[b5,a5],?_,?_⟩
  ·rw[b6,a6];by_cases hc:c<0
   ·have:=(hq hc).1;rw[qD B up0 hc];by_cases e:i=up0
    ·rw[dX e,dW dS,dX dS,hlen,this,oW]
    ·rw[dW e,dW dS,dW dS]
   ·rw[dW (by unfold cT;rw[dW hc];omega)];by_cases e:i=up0
    ·rw[dX dS,dX dS]
    ·rw[dW dS,dW dS]
  ·rw[ae];rcases b7 with⟨b7,b8⟩|⟨b7,b8⟩
   ·refine .inl ⟨b7,dS,?_⟩;rcases a7 with⟨_,_,a8⟩|⟨a7,a8⟩
    ·omega
    ·have hq0:q.length=0:=a7.resolve_left (λh=>h b7);have:=(hq dS).2;omega
   ·refine .inr ⟨.inl b7,?_⟩;rcases a7 with⟨a7,_⟩|⟨_,a8⟩
    ·exact absurd a7 b7
    ·omega
 have hnew:=nz q c k f qp.2;have aa:=iM q c k f;have new:∀(i:Nat)(x:Nd),(iq q c k f)[i]?=some x->(i=q.length/\x=⟨k,f,0,c,[],false⟩)\/(i<q.length/\∃y,q[i]?=some y/\x={y with ks:=if(i:Int)=c then y.ks++[(q.length:Int)]else y.ks}):=by
  intro i x hx;have hi:=(eY.1 hx).1;by_cases e:i=q.length
  ·subst e;rw[hnew]at hx;injection hx with hx;exact .inl ⟨rfl,hx.symm⟩
  ·obtain⟨y,hy⟩:∃y,q[i]?=some y:=⟨_,fu dS⟩
   rw[wR q c k f i y hy]at hx;injection hx with hx
   exact .inr ⟨dS,y,hy,hx.symm⟩
 have hrn:r[B+q.length]?=some ⟨k,f,jC,cT B up0 c,[],false⟩:=by rw[<-hlen];exact h3
 have hnot:¬On r (cT B up0 c) (B+q.length):=λho=>by have:=((hon _).1 ho).low hg;omega
 refine⟨r,h1,⟨by rw[h2,jr,jD,aa];omega,hlo,by rw[jr,jD,aa];omega,λi x hx=>?_,λi x hx=>?_,by rw[jr,jD,aa];exact older⟩,λhp=>⟨by rw[h2,aa];omega,hlo,by rw[aa];omega,λi x hx=>?_,λi x hx=>?_,?_⟩⟩
 ·obtain⟨y,hy⟩:=qy (jD _ _ _) hx;have hx2:=oq (iq q c k f) q.length jC i y hy;rw[jr,hx2]at hx;injection hx with hx
  rcases new i y hy with⟨rfl,rfl⟩|⟨hi,y',hy',rfl⟩
  ·subst hx;refine⟨_,hrn,rfl,rfl,rfl,rfl,rfl,.inr ⟨hnot,?_⟩⟩;rw[dX rfl]
  ·subst hx;obtain⟨z,e1,e2,e3,e4,e5,e6,e7⟩:=elder i y' hy';refine⟨z,e1,e2,e3,e4,e5,e6,?_⟩;rw[dW (show¬i=q.length by omega)];exact e7
 ·obtain⟨y,hy⟩:=qy (jD _ _ _) hx;have hx2:=oq (iq q c k f) q.length jC i y hy;rw[jr,hx2]at hx;injection hx with hx
  subst hx;rcases new i y hy with⟨rfl,rfl⟩|⟨hi,y',hy',rfl⟩
  ·exact Zw
  ·exact h.ups i y' hy'
 ·rw[qg];rcases new i x hx with⟨rfl,rfl⟩|⟨hi,y',hy',rfl⟩
  ·exact⟨_,hrn,rfl,rfl,rfl,rfl,rfl,.inl ⟨.self _,rfl⟩⟩
  ·obtain⟨z,e1,e2,e3,e4,e5,e6,e7⟩:=elder i y' hy';refine⟨z,e1,e2,e3,e4,e5,e6,?_⟩;have hup:On r (B+q.length) (B+i)↔On r (cT B up0 c) (B+i):=aaY hrn rfl dS dS;rw[hup];rcases e7 with⟨e7,e8⟩|e7
   ·exact .inl ⟨e7,dS⟩
   ·exact .inr e7
 ·rcases new i x hx with⟨rfl,rfl⟩|⟨hi,y',hy',rfl⟩
  ·exact Zw
  ·exact h.ups i y' hy'
 ·rw[aa];intro i x hx;obtain⟨z,e1,e2,e3,e4,e5,e6,e7⟩:=older i x hx;refine⟨z,e1,e2,e3,e4,e5,e6,?_⟩;rw[show max p jC=jC by omega]at e7;exact e7
theorem Rel.close{a:Nat}{x:Nd}(h:Rel B up0 T0 q t (a:Int) p)(hg:dR t)(hx:q[a]?=some x):Rel B up0 T0 (nR q a p) t x.u p:=by
 have hlo:=h.lo;have ha:=(eY.1 hx).1;have hlen:=h.len;obtain⟨z0,hz0,_,_,hu0,_⟩:=h.nd a x hx;have aa:=(hg.up _ z0 hz0).2;have hxu:=(h.ups a x hx).1;have hcl:cT B up0 x.u<B+a:=dS
 refine⟨by rw[jD];exact h.len,hlo,⟨hxu,?_⟩,λi y hy=>?_,λi y hy=>?_,by rw[jD];exact h.old⟩
 ·rw[jD];unfold cT at hcl;split at hcl<;>omega
 ·obtain⟨y',hy'⟩:=qy (jD _ _ _) hy;rw[oq q a p i y' hy']at hy;injection hy with hy
  subst hy;obtain⟨z,e1,e2,e3,e4,e5,e6,e7⟩:=h.nd i y' hy';refine⟨z,e1,e2,e3,e4,e5,e6,?_⟩;rw[qg]at e7;by_cases e:i=a
  ·subst e;rw[dX rfl];refine .inr ⟨λho=>by have:=ho.low hg;omega,?_⟩;rcases e7 with⟨_,e7⟩|⟨e7,_⟩
   ·exact e7
   ·exact absurd (.self _) e7
  ·rw[dW e,<-h.ag7 hx (B+i) dS];exact e7
 ·obtain⟨y',hy'⟩:=qy (jD _ _ _) hy;rw[oq q a p i y' hy']at hy;injection hy with hy
  subst hy;exact h.ups i y' hy'
theorem Rel.grow(h:Rel B up0 T0 q t c p)(hg:dR t)(hc:0<=c)(jC:Nat):Rel B up0 T0 q (gY t (cT B up0 c) jC) c (max p jC):=by
 have H:=wO (cT B up0 c) t jC hg h.lt;have hl:=rC (l:=t) (cT B up0 c) (jC:Int) hg;obtain⟨r,hr⟩:=eu (gY t (cT B up0 c) jC);rw[hr]at H hl⊢;have hlo:=h.lo;have qp:=h.cur;have hU:∀(d:Nat)(x:Nd),t[d]?=some x->∃x',r[d]?=some x'/\x'.u=x.u:=λd x hd=>by
  obtain⟨z,a1,a2⟩:=H d x hd;rcases a2 with⟨_,rfl⟩|⟨_,rfl⟩<;>exact⟨_,a1,rfl⟩
 have hon:∀i,On r (cT B up0 c) i↔On t (cT B up0 c) i:=λi=>sF hg h.lt hU
 have aa:∀i,On r up0 i↔On t up0 i:=λi=>sF hg (by have:=h.len;omega) hU
 refine⟨by rw[hl];exact h.len,hlo,qp,λi x hx=>?_,h.ups,λi x hx=>?_⟩
 ·obtain⟨z,e1,e2,e3,e4,e5,e6,e7⟩:=h.nd i x hx;obtain⟨z',a1,a2⟩:=H _ z e1;rw[hon];rcases a2 with⟨a2,rfl⟩|⟨a2,rfl⟩
  ·refine⟨_,a1,e2,e3,e4,e5,e6,.inl ⟨a2,?_⟩⟩;rcases e7 with⟨_,e7⟩|⟨e7,_⟩
   ·show max z.t (jC:Int)=_;omega
   ·exact absurd a2 e7
  ·refine⟨_,a1,e2,e3,e4,e5,e6,.inr ⟨a2,?_⟩⟩;rcases e7 with⟨e7,_⟩|⟨_,e7⟩
   ·exact absurd e7 a2
   ·exact e7
 ·have hi:=(eY.1 hx).1;obtain⟨z,e1,e2,e3,e4,e5,e6,e7⟩:=h.old i x hx;obtain⟨z',a1,a2⟩:=H _ z e1;rw[aa];rw[h.aa0 hg dS]at a2;rcases a2 with⟨a2,rfl⟩|⟨a2,rfl⟩
  ·refine⟨_,a1,e2,e3,e4,e5,e6,.inl ⟨a2,dS,?_⟩⟩;rcases e7 with⟨_,_,e7⟩|⟨e7,_⟩
   ·show max z.t (jC:Int)=_;omega
   ·rcases e7 with e7|e7
    ·exact absurd a2 e7
    ·omega
  ·refine⟨_,a1,e2,e3,e4,e5,e6,.inr ⟨.inl a2,?_⟩⟩;rcases e7 with⟨e7,_⟩|⟨_,e7⟩
   ·exact absurd e7 a2
   ·exact e7
theorem Rel.key(h:Rel B up0 T0 q t c p)(hg:dR t)(a:Nat)(ha:a<q.length):Rel B up0 T0 (keyed q a) (keyed t ((B+a:Nat):Int)) c p:=by
 have hlo:=h.lo;have hlen:=h.len;have K:∀(d:Nat)(x:Nd),t[d]?=some x->(keyed t ((B+a:Nat):Int))[d]?=some {x with y:=if d=B+a then true else x.y}:=λd x hd=>nA t (B+a) d x hd
 have hU:∀(d:Nat)(x:Nd),t[d]?=some x->∃x',(keyed t ((B+a:Nat):Int))[d]?=some x'/\x'.u=x.u:=λd x hd=>⟨_,K d x hd,rfl⟩
 have hon:∀i,On (keyed t ((B+a:Nat):Int)) (cT B up0 c) i↔On t (cT B up0 c) i:=λi=>sF hg h.lt hU
 have aa:∀i,On (keyed t ((B+a:Nat):Int)) up0 i↔On t up0 i:=λi=>sF hg dS hU
 refine⟨by rw[fQ,fQ];exact hlen,hlo,by rw[fQ];exact h.cur,λi x hx=>?_,λi x hx=>?_,λi x hx=>?_⟩
 ·obtain⟨y,hy⟩:=qy (fQ _ _) hx;rw[nA q a i y hy]at hx;injection hx with hx;subst hx
  obtain⟨z,e1,e2,e3,e4,e5,e6,e7⟩:=h.nd i y hy;refine⟨_,K _ z e1,e2,e3,e4,e5,?_,by rw[hon];exact e7⟩;by_cases e:i=a
  ·rw[dX e,dX dS]
  ·rw[dW e,dW dS];exact e6
 ·obtain⟨y,hy⟩:=qy (fQ _ _) hx;rw[nA q a i y hy]at hx;injection hx with hx;subst hx
  exact h.ups i y hy
 ·have hi:=(eY.1 hx).1;obtain⟨z,e1,e2,e3,e4,e5,e6,e7⟩:=h.old i x hx;refine⟨_,K _ z e1,e2,e3,e4,?_,by rw[fQ];exact e6,by rw[aa,fQ];exact e7⟩;rw[dW dS];exact e5
end
end Fl
namespace Fe
open Ar Fl
def Lf(l:List Nd):Prop:=∀(i:Nat)(x:Nd),l[i]?=some x->x.k=11->x.ks=[]/\x.f<x.t
def No(l:List Nd)(c:Nat):Prop:=∀x,l[c]?=some x->x.k≠11
def errs(l:List Tk)(t:List Nd)(g:Nat×Nat):Nat:=t.countP (λx=>x.k==11&&(kW l x.f.toNat==g.1&&too l (x.t-1).toNat==g.2))
def told(d:List Dg)(g:Nat×Nat):Nat:=d.countP (λx=>x.code !=9&&(x.f==g.1&&x.t==g.2))
def W(l:List Tk)(p:Nat)(n:Int)(x:Dg):Prop:=∃f t:Nat,p<=f/\f<t/\(t:Int)<=n/\x.f=kW l f/\x.t=too l (t-1)/\5<=x.code/\x.code<=10
theorem W.le{l:List Tk}{p q:Nat}{n:Int}{x:Dg}(h:W l p n x)(hq:q<=p):W l q n x:=by
 obtain⟨f,t,h1,h2⟩:=h;exact⟨f,t,dS,h2⟩
theorem zJ{l:List Nd}{n:Int}(h:Ck l n){c p:Nat}{x y:Nd}(hx:l[c]?=some x)(hu:x.u=(p:Int))(h0:0<c)(hy:l[p]?=some y):(c:Int)∈y.ks:=by
 have hc:=(eY.1 hx).1;have hs:=h.seen c h0 hc;have hpos:0<(l.flatMap (·.ks)).countP (λz=>z==(c:Int)):=dS
 rw[Va]at hpos;obtain⟨z,hz,he⟩:=hpos;obtain rfl:z=(c:Int):=by simpa using he
 rw[Ce]at hz;obtain⟨w,hw,hz⟩:=hz;obtain⟨i,hi⟩:=jy hw;obtain⟨j,y',hj,_,hy',hu',_⟩:=h.kid i w hi _ hz;obtain rfl:j=c:=dS
 rw[hx]at hy';injection hy' with hy';subst hy'
 obtain rfl:i=p:=dS
 rw[hy]at hi;injection hi with hi;subst hi
 exact hz
theorem aa1{l:List Nd}{n:Int}(h:Ck l n)(hl:Lf l){c p:Nat}{x:Nd}(hx:l[c]?=some x)(hu:x.u=(p:Int))(h0:0<c):No l p:=by
 intro y hy hk;have:=zJ h hx hu h0 hy;rw[(hl p y hy hk).1]at this;simp at this
theorem ag8{l:List Nd}{n:Int}(h:Ck l n)(hl:Lf l){c i:Nat}(ho:On l c i):No l c->No l i:=by
 induction ho with
 |self=>exact id
 |out d q i x hd hq h00 ho ih=>exact λ_=>ih (aa1 h hl hd hq h00)
theorem Vx{l r:List Nd}{up:Nat}{kind f t:Int}(hg:dR l)(hup:up<l.length)(h:addN l up kind f t=(r,(l.length:Int))):∀(i:Nat)(x:Nd),l[i]?=some x->¬On l up i->r[i]?=some x:=by
 intro i x hx hno;have hi:=(eY.1 hx).1;have hiu:i≠up:=λe=>hno (by rw[e];exact .self _)
 unfold addN at h;by_cases hm:il l up kind f t=true
 ·rw[dX hm]at h;obtain⟨h0,_,p,hp⟩:=yY hm;have hg':=zU hg up kind f t p h0 hp (J7 hm hp).1;rw[hp]at h;dsimp only at h;rw[jd]at h hp hg';have hr:=congrArg Prod.fst h;dsimp only at hr;obtain⟨m,hmd⟩:=eu ((l++[(⟨kind,f,t,up,[],false⟩:Nd)]).set up {p with ks:=p.ks++[(l.length:Int)]});rw[hmd]at hr hg';have ae:m.length=l.length+1:=by rw[<-hmd];simp
  have aa:m[i]?=some x:=by rw[<-hmd,zu (λe=>hiu e.symm),nK hi];exact hx
  have hon:On m up i->On l up i:=by
   have key:∀c j,On m c j->c<l.length->On l c j:=by
    intro c j ho
    induction ho with
    |self=>exact λ_=>.self _
    |out d q j w hd hq h00 ho ih=>
     intro hdl;have af:q<d:=by have:=hg'.up d w hd;omega
     by_cases e:d=up
     ·subst e;rw[<-hmd,yE eQ]at hd;injection hd with hd;subst hd
      exact .out d q j p hp hq h00 (ih dS)
     ·rw[<-hmd,zu (λh=>e h.symm),nK hdl]at hd;exact .out d q j w hd hq h00 (ih dS)
   exact λho=>key up i ho hup
  obtain⟨x',h1,h2⟩:=wO up m t hg' dS i x aa;rw[hr]at h1;rcases h2 with⟨h2,_⟩|⟨_,rfl⟩
  ·exact absurd (hon h2) hno
  ·exact h1
 ·rw[dW hm]at h;have h2:=congrArg Prod.snd h;dsimp only at h2;omega
def ek(x:Nd):Option (Int×Int):=if x.k=11 then some (x.f,x.t)else none
def hit(l:List Tk)(g:Nat×Nat):Option (Int×Int)->Bool
 |some q=>kW l q.1.toNat==g.1&&too l (q.2-1).toNat==g.2
 |none=>false
theorem Kb(l:List Tk)(g:Nat×Nat)(x:Nd):hit l g (ek x)=(x.k==11&&(kW l x.f.toNat==g.1&&too l (x.t-1).toNat==g.2)):=by
 unfold ek;split
 ·rename_i h;rw[h];rfl
 ·rename_i h;rw[show(x.k==11)=false by simpa using h];rfl
theorem wQ(l:List Tk)(t:List Nd)(g:Nat×Nat):errs l t g=(t.map ek).countP (hit l g):=by
 unfold errs;rw[XM];refine XK (λx _=>?_);rw[ahF,Kb]
def Still(l r:List Nd):Prop:=∀(i:Nat)(x:Nd),l[i]?=some x->∃x',r[i]?=some x'/\x'.k=x.k/\(x.k=11->x'.f=x.f/\x'.t=x.t)
theorem afg{x x':Nd}(h1:x'.k=x.k)(h2:x.k=11->x'.f=x.f/\x'.t=x.t):ek x'=ek x:=by
 unfold ek;rw[h1];split
 ·rename_i h;rw[(h2 h).1,(h2 h).2]
 ·rfl
theorem pF(tk:List Tk){l r:List Nd}(hl:r.length=l.length)(h:Still l r)(g:Nat×Nat):errs tk r g=errs tk l g:=by
 rw[wQ,wQ];congr 1;refine r9 (λi=>?_);rw[kS,kS];cases hx:l[i]? with
 |none=>
  exact JL
 |some x=>
  obtain⟨x',h1,h2,h3⟩:=h i x hx;rw[h1];simp[afg h2 h3]
theorem BJ(tk:List Tk){l r:List Nd}{z:Nd}(hl:r.length=l.length+1)(h:Still l r)(hz:r[l.length]?=some z)(g:Nat×Nat):
 errs tk r g=errs tk l g+(if hit tk g (ek z)=true then 1 else 0):=by
 have h1:r=r.take l.length++[z]:=Y3
 have h2:errs tk (r.take l.length) g=errs tk l g:=pF tk nX (λi x hx=>by
  have hi:=(eY.1 hx).1;obtain⟨x',g1,g2⟩:=h i x hx
  exact⟨x',by rw[tu hi];exact g1,g2⟩) g
 rw[h1];unfold errs at h2⊢;rw[rZ,h2,qH,Dn,Kb];omega
structure Ok(l:List Tk)(p0:Nat)(n:Int)(up:Nat)(s0:St)(e b:Int)(s:St):Prop where
 ck:Ck s.t n
 fits:Fits s.t e b up
 keep:oM s0.t s.t
 lf:Lf s.t
 no:No s.t up
 tells:∀g,errs l s.t g+told s0.d g=errs l s0.t g+told s.d g
 TI:∃ds,s.d=s0.d++ds/\∀x∈ds,W l p0 n x
theorem Ok.le{l:List Tk}{p0:Nat}{n e b e' b':Int}{up:Nat}{s0 s:St}(h:Ok l p0 n up s0 e b s)(he:e<=e')(hb:b<=b'):Ok l p0 n up s0 e' b' s:=⟨h.ck,h.fits.le he hb,h.keep,h.lf,h.no,h.tells,h.TI⟩
theorem Ok.low{l:List Tk}{p0 p1:Nat}{n e b:Int}{up:Nat}{s0 s:St}(h:Ok l p0 n up s0 e b s)(hp:p1<=p0):Ok l p1 n up s0 e b s:=
 ⟨h.ck,h.fits,h.keep,h.lf,h.no,h.tells,by obtain⟨ds,h1,h2⟩:=h.TI;exact⟨ds,h1,λx hx=>(h2 x hx).le hp⟩⟩
theorem Ok.start{l:List Tk}{p0:Nat}{n e b:Int}{up:Nat}{s:St}(h:Ck s.t n)(g:Fits s.t e b up)(hl:Lf s.t)(hn:No s.t up):Ok l p0 n up s e b s:=
 ⟨h,g,oM.refl _,hl,hn,λ_=>rfl,[],eG,λx hx=>qU⟩
theorem Ok.trans{l:List Tk}{p0:Nat}{n e b e1 b1:Int}{up c:Nat}{s0 s s':St}(h:Ok l p0 n up s0 e b s)(g:Ok l p0 n c s e1 b1 s'):Ok l p0 n c s0 e1 b1 s' :=
 ⟨g.ck,g.fits,h.keep.trans g.keep,g.lf,g.no,λq=>by have h1:=h.tells q;have h2:=g.tells q;omega,by
  obtain⟨d1,h1,h2⟩:=h.TI;obtain⟨d2,g1,g2⟩:=g.TI
  exact⟨d1++d2,by rw[g1,h1,pI],λx hx=>(kC.1 hx).elim (h2 x) (g2 x)⟩⟩
theorem Ok.out{l:List Tk}{p0:Nat}{n e b:Int}{c p:Nat}{s0 s:St}(h:Ok l p0 n c s0 e b s){x:Nd}(hx:s.t[c]?=some x)(hu:x.u=(p:Int))(h0:0<c):Ok l p0 n p s0 b b s:=
 ⟨h.ck,h.fits.out h.ck hx hu h0,h.keep,h.lf,aa1 h.ck h.lf hx hu h0,h.tells,h.TI⟩
theorem Bf{l:List Tk}{p0:Nat}{n e b:Int}{up f t kind:Nat}{s0 s:St}(h:Ok l p0 n up s0 e b s)(he:e<=f)(hft:f<=t)(htn:(t:Int)<=n)(hk1:1<=kind)(hk2:kind<=11)(hk3:kind=11->f<t):
 ∃r,addN s.t up kind f t=(r,(s.t.length:Int))/\Ck r n/\Fits r t (max b t) up/\Fits r f (max b t) s.t.length/\oM s.t r/\Lf r/\No r up/\(kind≠11->No r s.t.length)/\
  (∀g,errs l r g=errs l s.t g+(if hit l g (ek ⟨kind,f,t,up,[],false⟩)=true then 1 else 0))/\(∃x,r[s.t.length]?=some x/\x.u=(up:Int)/\x.k=(kind:Int))/\0<s.t.length:=by
 obtain⟨r,h1,h2,h3,h4,h5,h6,h7⟩:=J8 (f:=(f:Int)) (t:=(t:Int)) (kind:=(kind:Int)) h.ck h.fits he dS htn dS dS;have hst:=Vx h.ck.good h.fits.lt h1;have hE:∀(i:Nat)(x:Nd),s.t[i]?=some x->x.k=11->r[i]?=some x:=λi x hx hk=>hst i x hx (λho=>ag8 h.ck h.lf ho h.no x hx hk)
 have hS:Still s.t r:=by
  intro i x hx;obtain⟨x',g1,g2,g3,_⟩:=h7 i x hx;refine⟨x',g1,g2,λhk=>?_⟩;rw[hE i x hx hk]at g1;injection g1 with g1;subst g1
  exact⟨rfl,rfl⟩
 have hB:∀(i:Nat)(x':Nd),r[i]?=some x'->i<s.t.length->∃x,s.t[i]?=some x/\x'.k=x.k/\(x.k=11->x'=x):=by
  intro i x' hx' hi;obtain⟨x,hx⟩:∃x,s.t[i]?=some x:=⟨_,fu hi⟩
  obtain⟨y,g1,g2,_⟩:=h7 i x hx;rw[hx']at g1;injection g1 with g1;subst g1
  exact Zz
 refine⟨r,h1,h2,h3,h4,⟨dS,λi x hx=>?_⟩,λi x hx hk=>?_,λx hx=>?_,λhk x hx=>?_,BJ l h6 hS h5,⟨_,h5,rfl,rfl⟩,h.ck.pos⟩
 ·obtain⟨x',g1,g2,g3,g4,_⟩:=h7 i x hx;exact⟨x',g1,g2,g3,g4⟩
 ·by_cases hi:i<s.t.length
  ·obtain⟨y,hy,hyk,hye⟩:=hB i x hx hi;have:=hye dS;subst this;exact h.lf i x hy hk
  ·have hil:=(eY.1 hx).1;obtain rfl:i=s.t.length:=by omega
   rw[h5]at hx;injection hx with hx;subst hx
   exact⟨rfl,by have hk':(kind:Int)=11:=hk;have:=hk3 dS;show(f:Int)<(t:Int);omega⟩
 ·obtain⟨y,hy,hyk,_⟩:=hB up x hx h.fits.lt;rw[hyk];exact h.no y hy
 ·rw[h5]at hx;injection hx with hx;subst hx
  show(kind:Int)≠11;omega
theorem kJ{l:List Tk}{p0:Nat}{n e b:Int}{up f t kind:Nat}{s0 s:St}(h:Ok l p0 n up s0 e b s)(he:e<=f)(hft:f<=t)(htn:(t:Int)<=n)(hk1:1<=kind)(hk2:kind<=10):
 ∃s',add s up kind f t=(s',(s.t.length:Int))/\Ok l p0 n up s0 t (max b t) s'/\Ok l p0 n s.t.length s0 f (max b t) s'/\(∃x,s'.t[s.t.length]?=some x/\x.u=(up:Int))/\0<s.t.length:=by
 obtain⟨r,h1,h2,h3,h4,h5,h6,h7,h8,h9,⟨x,ha,hb,_⟩,hc⟩:=Bf h he hft htn hk1 dS (λe=>dS);have ht:∀g,errs l r g+told s0.d g=errs l s0.t g+told s.d g:=by
  intro g;have hh:hit l g (ek ⟨kind,f,t,up,[],false⟩)=false:=by
   rw[Kb,show(((kind:Int)==11))=false by simp;omega];rfl
  rw[h9,hh];have:=h.tells g;simp;omega
 refine⟨⟨r,s.d⟩,by unfold add;rw[h1],⟨h2,h3,h.keep.trans h5,h6,h7,ht,h.TI⟩,⟨h2,h4,h.keep.trans h5,h6,h8 dS,ht,h.TI⟩,⟨x,ha,hb⟩,hc⟩
theorem qY{l:List Tk}{p0:Nat}{n e b:Int}{up f t code:Nat}{s0 s:St}(h:Ok l p0 n up s0 e b s)(he:e<=f)(hft:f<t)(htn:(t:Int)<=n)(hc:code≠9)(hp:p0<=f)(h5:5<=code)(h10:code<=10):
 Ok l p0 n up s0 t (max b t) (err l s up f t code)/\(addN s.t up 11 f t).2=(s.t.length:Int):=by
 obtain⟨r,h1,h2,h3,h4,h5',h6,h7,h8,h9,_,ha⟩:=Bf (kind:=11) h he dS htn dS dS (λ_=>hft);have h1:addN s.t up 11 f t=(r,(s.t.length:Int)):=h1;refine⟨?_,by rw[h1]⟩;unfold err;rw[h1];refine⟨h2,h3,h.keep.trans h5',h6,h7,λg=>?_,?_⟩
 ·show errs l r g+told s0.d g=errs l s0.t g+told (s.d++[_]) g;have hh:hit l g (ek ⟨(11:Nat),f,t,up,[],false⟩)=((kW l f==g.1&&too l (t-1)==g.2)):=by
   rw[Kb];show((((11:Nat):Int)==11)&&(kW l ((f:Nat):Int).toNat==g.1&&too l (((t:Nat):Int)-1).toNat==g.2))=_;rw[jd,show(((t:Nat):Int)-1).toNat=t-1 by omega];rfl
  have hq:told (s.d++[⟨code,kW l f,too l (t-1)⟩]) g=told s.d g+(if(kW l f==g.1&&too l (t-1)==g.2)=true then 1 else 0):=by
   unfold told;rw[rZ,qH,Dn,show(code !=9)=true by simpa using hc];simp
  rw[h9,hh,hq];have:=h.tells g;omega
 ·obtain⟨ds,g1,g2⟩:=h.TI;refine⟨ds++[⟨code,kW l f,too l (t-1)⟩],by show s.d++_=_;rw[g1,pI],λx hx=>?_⟩;rcases kC.1 hx with hx|hx
  ·exact g2 x hx
  ·obtain rfl:x=_:=by simpa using hx
   exact⟨f,t,hp,hft,htn,rfl,rfl,h5,h10⟩
theorem sD{l:List Tk}{p0:Nat}{n e b:Int}{up t:Nat}{s0 s:St}(h:Ok l p0 n up s0 e b s)(he:e<=t)(hb:b<=t)(htn:(t:Int)<=n):Ok l p0 n up s0 t t ⟨iB s.t up t,s.d⟩:=by
 obtain⟨h1,h2,h3,h4⟩:=TS h.ck h.fits he hb htn;have hk:oM s.t (iB s.t up t):=⟨dS,λi x hx=>Yv⟩
 have hE:∀(i:Nat)(x:Nd),s.t[i]?=some x->x.k=11->(iB s.t up t)[i]?=some x:=by
  intro i x hx hk;unfold iB;split
  ·obtain⟨x',g1,g2⟩:=wO up s.t t h.ck.good h.fits.lt i x hx;rcases g2 with⟨g2,_⟩|⟨_,rfl⟩
   ·exact absurd hk (ag8 h.ck h.lf g2 h.no x hx)
   ·exact g1
  ·exact hx
 have hB:∀(i:Nat)(x':Nd),(iB s.t up t)[i]?=some x'->∃x,s.t[i]?=some x/\x'.k=x.k/\(x.k=11->x'=x):=by
  intro i x' hx';have hi:=(eY.1 hx').1;obtain⟨x,hx⟩:∃x,s.t[i]?=some x:=⟨_,fu dS⟩
  obtain⟨y,g1,g2,_⟩:=h4 i x hx;rw[hx']at g1;injection g1 with g1;subst g1
  exact Zz
 refine⟨h1,h2,h.keep.trans hk,λi x hx hk=>?_,λx hx=>?_,λg=>?_,h.TI⟩
 ·obtain⟨y,hy,hyk,hye⟩:=hB i x hx;have:=hye dS;subst this;exact h.lf i x hy hk
 ·obtain⟨y,hy,hyk,_⟩:=hB up x hx;rw[hyk];exact h.no y hy
 ·show errs l (iB s.t up t) g+_=_+told s.d g
  rw[pF l h3 (λi x hx=>by
   obtain⟨x',g1,g2,_⟩:=hk.2 i x hx;refine⟨x',g1,g2,λhk=>?_⟩;rw[hE i x hx hk]at g1;injection g1 with g1;subst g1
   exact⟨rfl,rfl⟩) g]
  exact h.tells g
theorem Kz{l:List Tk}{p0:Nat}{n e b:Int}{up op:Nat}{s0 s:St}(h:Ok l p0 n up s0 e b s)(hp:p0<=op)(hn:(op:Int)<n):Ok l p0 n up s0 e b ⟨s.t,s.d++[⟨9,kW l op,too l op⟩]⟩:=by
 refine⟨h.ck,h.fits,h.keep,h.lf,h.no,λg=>?_,?_⟩
 ·show errs l s.t g+told s0.d g=errs l s0.t g+told (s.d++[_]) g;have:=h.tells g;unfold told at this⊢;rw[rZ,qH,Dn,dW eG];omega
 ·obtain⟨ds,g1,g2⟩:=h.TI;refine⟨ds++[⟨9,kW l op,too l op⟩],by show s.d++_=_;rw[g1,pI],λx hx=>?_⟩;rcases kC.1 hx with hx|hx
  ·exact g2 x hx
  ·obtain rfl:x=_:=by simpa using hx
   exact⟨op,op+1,hp,dS,dS,rfl,by rw[lW],by show 5<=9;omega,by show 9<=10;omega⟩
theorem pY{l:List Tk}{p0:Nat}{n e b:Int}{up:Nat}{s0 s:St}(i:Int)(h:Ok l p0 n up s0 e b s):Ok l p0 n up s0 e b ⟨keyed s.t i,s.d⟩:=by
 obtain⟨k1,k2⟩:=xY s.t i;obtain⟨h1,h2⟩:=TY k1 k2 h.ck h.fits;have hk:oM s.t (keyed s.t i):=⟨dS,λj x hx=>Yw⟩
 have hB:∀(j:Nat)(x':Nd),(keyed s.t i)[j]?=some x'->∃x,s.t[j]?=some x/\x'.k=x.k/\x'.f=x.f/\x'.t=x.t/\x'.ks=x.ks:=by
  intro j x' hx';have hj:=(eY.1 hx').1;obtain⟨x,hx⟩:∃x,s.t[j]?=some x:=⟨_,fu dS⟩
  obtain⟨y,g1,g2,g3,g4,_,g6⟩:=k2 j x hx;rw[hx']at g1;injection g1 with g1;subst g1
  exact⟨x,hx,g2,g3,g4,g6⟩
 refine⟨h1,h2,h.keep.trans hk,λj x hx hk=>?_,λx hx=>?_,λg=>?_,h.TI⟩
 ·obtain⟨y,hy,e1,e2,e3,e4⟩:=hB j x hx;have:=h.lf j y hy dS;exact⟨by rw[e4];exact this.1,by rw[e2,e3];exact this.2⟩
 ·obtain⟨y,hy,e1,_⟩:=hB up x hx;rw[e1];exact h.no y hy
 ·show errs l (keyed s.t i) g+_=_+told s.d g;rw[pF l k1 (λj x hx=>by obtain⟨x',g1,g2,g3,g4,_⟩:=k2 j x hx;exact⟨x',g1,g2,λ_=>⟨g3,g4⟩⟩) g];exact h.tells g
end Fe
end Go.Proofs.YtmkkdjpebbdikaaGreatDoor

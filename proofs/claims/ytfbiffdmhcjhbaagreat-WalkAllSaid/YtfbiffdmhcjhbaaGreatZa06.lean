import Derived.Test.YtfbiffdmhcjhbaaGreatZa03
set_option linter.all false
set_option maxHeartbeats 16000000
set_option maxRecDepth 100000
set_option synthInstance.maxSize 4000
set_option synthInstance.maxHeartbeats 0
namespace Go.Proofs.YtfbiffdmhcjhbaaGreat
open Go.RowKit Tryz
namespace Fl
open Ar
abbrev Tk:=Nat×Nat×Nat
structure Dg where
 code:Nat
 f:Nat
 t:Nat
structure St where
 t:List Nd
 d:List Dg
def raw(l:List Tk)(i:Nat):Nat:=match l[i]? with
 |some x=>x.1
 |none=>0
def pF(l:List Tk)(i:Nat):Nat:=match l[i]? with
 |some x=>x.2.1
 |none=>0
def too(l:List Tk)(i:Nat):Nat:=match l[i]? with
 |some x=>x.2.2
 |none=>0
def kd(l:List Tk)(e i:Nat):Nat:=if e<=i\/raw l i=20\/raw l i=21 then 0 else raw l i
def cnt(k:Nat):Bool:=!(k==1||k==2||k==3||k==4)
def gF(k:Nat):Bool:=k==15||k==16||k==17||k==13
def gM(k:Nat):Bool:=k==12||k==14
def opens(k:Nat):Bool:=k==8||k==9
def ends(k:Nat):Bool:=k==10||k==11
def jh(p:Nat->Bool):Nat->Nat->Nat
 |0,i=>i
 |f+1,i=>if p i=true then jh p f (i+1)else i
def blanks(l:List Tk)(e i:Nat):Nat:=jh (λj=>raw l j==3) (e-i) i
def fq(l:List Tk)(e i:Nat):Nat:=jh (λj=>!cnt (raw l j)) (e-i) i
def back(l:List Tk):Nat->Nat->Nat
 |0,_=>0
 |i+1,m=>if m<i+1/\cnt (raw l i)=false then back l i m else i+1
def step(k n:Nat):Nat:=if opens k=true then n+1 else if ends k=true then n-1 else n
def u6(l:List Tk)(e:Nat):Nat->Nat->Nat->Option Nat
 |0,_,_=>none
 |f+1,j,n=>if kd l e j=0 then none else if step (kd l e j) n=0 then some (j+1)else u6 l e f (j+1) (step (kd l e j) n)
def balanced(l:List Tk)(e i:Nat):Nat:=match u6 l e (e-i) i 0 with
 |some j=>j
 |none=>back l (jh (λj=>kd l e j !=0) (e-i) i) (i+1)
def text(l:List Tk)(e i:Nat):Nat:=
 let j:=jh (λj=>!cnt (raw l j)&&raw l j !=1) (e-(i+1)) (i+1)
 if e<=j\/raw l j≠1\/e<=j+1\/raw l (j+1)≠19 then i+1 else jh (λj=>raw l j==19) (e-(j+1)) (j+1)
def kQ(l:List Tk)(e:Nat):Nat->Nat->Nat->Nat
 |0,j,_=>j
 |f+1,j,n=>if kd l e j=0 then j else if n=0/\(kd l e j=7\/ends (kd l e j)=true)then j else kQ l e f (j+1) (step (kd l e j) n)
def jr(l:List Tk)(e i:Nat):Nat:=back l (kQ l e (e-i) i 0) (i+1)
def props(l:List Tk)(e:Nat):Nat->Nat->Nat
 |0,i=>i
 |f+1,i=>if gM (kd l e i)=true then props l e f (fq l e (i+1))else i
def key(l:List Tk)(e i:Nat):Nat:=
 let a:=props l e (e-i) i
 let b:=if gF (kd l e a)=true then fq l e (a+1)else a
 if kd l e b=6 then b+1 else 0
def gN(o:Option (Nat×Nat))(i:Nat):Nat:=match o with
 |none=>i
 |some x=>x.1
def lead(l:List Tk)(e:Nat):Nat->Option (Nat×Nat)->Nat->Option (Nat×Nat)×Nat
 |0,o,i=>(o,i)
 |f+1,o,i=>if gM (kd l e i)=true then lead l e f (some (gN o i,i)) (blanks l e (i+1))else(o,i)
def begins(k:Nat):Bool:=gM k||gF k||opens k||k==18
def add(s:St)(up:Int)(k f t:Nat):St×Int:=(⟨(addN s.t up k f t).1,s.d⟩,(addN s.t up k f t).2)
def err(l:List Tk)(s:St)(up:Int)(f t code:Nat):St:=⟨(addN s.t up 11 f t).1,s.d++[⟨code,pF l f,too l (t-1)⟩]⟩
def keyed(l:List Nd)(i:Int):List Nd:=match l[i.toNat]? with
 |none=>l
 |some x=>l.set i.toNat {x with y:=true}
def vU(l:List Tk)(e:Nat)(fo:Option (Int->Nat->St->Nat×St))(up:Int)(p:Nat)(s:St):Int×Nat×St:=
 let o:=(lead l e (e-blanks l e p) none (blanks l e p)).1
 let i:=(lead l e (e-blanks l e p) none (blanks l e p)).2
 let fr:=gN o i
 let k:=kd l e i
 if k=13 then((add s up 8 fr (i+1)).2,i+1,(add s up 8 fr (i+1)).1)
 else if gF k=true then((add s up 7 fr (i+1)).2,i+1,(add s up 7 fr (i+1)).1)
 else if k=18 then((add s up 7 fr (text l e i)).2,text l e i,(add s up 7 fr (text l e i)).1)
 else if opens k=true then match fo with
  |none=>((addN s.t up 11 fr (balanced l e i)).2,balanced l e i,err l s up fr (balanced l e i) 10)
  |some fo=>
   let a:=add s up (if k=9 then 10 else 9) fr (i+1)
   let r:=fo a.2 i a.1
   (a.2,r.1,r.2)
 else match o with
  |some x=>((add s up 7 fr (x.2+1)).2,x.2+1,(add s up 7 fr (x.2+1)).1)
  |none=>(-1,p,s)
def pair(l:List Tk)(s:St)(c:Int)(j q:Nat):St×Int:=
 let a:=add s c 6 j q
 if q-j<2 then a
 else
  let b:=add a.1 a.2 (if(List.range (q-j)).any (λx=>raw l (j+x)==13)=true then 8 else 7) j (back l (q-1) (j+1))
  (⟨keyed b.1.t a.2,b.1.d⟩,a.2)
def item(l:List Tk)(e:Nat)(val:Int->Nat->St->Int×Nat×St)(aa:Bool)(c:Int)(j:Nat)(s:St):Nat×St:=
 let q:=key l e j
 if 0<q then
  let p:=pair l s c j q
  let x:=fq l e q
  if kd l e x=0\/kd l e x=7\/ends (kd l e x)=true then(q,p.1)
  else
   let r:=val p.2 x p.1
   if r.1<0 then(q,r.2.2)else(r.2.1,r.2.2)
 else if aa=true then
  let p:=add s c 6 j (j+1)
  let r:=val p.2 j ⟨keyed p.1.t p.2,p.1.d⟩
  (r.2.1,r.2.2)
 else
  let r:=val c j s
  (r.2.1,r.2.2)
def jB(l:List Tk)(e:Nat)(val:Int->Nat->St->Int×Nat×St)(c:Int)(op:Nat):Nat->Nat->Bool->St->Nat×St
 |0,p,_,s=>(p,s)
 |g+1,p,aa,s=>
  let j:=fq l e p
  let k:=kd l e j
  if k=0 then(back l p (op+1),⟨s.t,s.d++[⟨9,pF l op,too l op⟩]⟩)
  else if k=(if raw l op=9 then 11 else 10)then(j+1,⟨gJ s.t c (j+1),s.d⟩)
  else if ends k=true then jB l e val c op g (j+1) aa (err l s c j (j+1) 8)
  else if k=7 then
   if aa=true then jB l e val c op g (j+1) false ⟨gJ s.t c (j+1),s.d⟩
   else jB l e val c op g (j+1) aa (err l s c j (j+1) 8)
  else if aa=true then jB l e val c op g (jr l e j) aa (err l s c j (jr l e j) 8)
  else if 0<key l e j\/begins k=true then jB l e val c op g (item l e val (raw l op==9) c j s).1 true (item l e val (raw l op==9) c j s).2
  else jB l e val c op g (j+1) aa (err l s c j (j+1) 8)
def gI(l:List Tk)(e:Nat):Nat->Int->Nat->St->Int×Nat×St
 |0=>vU l e none
 |d+1=>vU l e (some (λc op s=>jB l e (gI l e d) c op (e-op) (op+1) false s))
end Fl
namespace Fl
open Ar
theorem jW{l:List Tk}{e i:Nat}(h:kd l e i≠0):i<e/\raw l i=kd l e i:=by
 unfold kd at h⊢;split at h
 ·exact absurd rfl h
 rename_i h1;rw[eQ h1];exact⟨by omega,rfl⟩
theorem lg(p:Nat->Bool):∀(f i:Nat),i<=jh p f i
 |0,i=>fC _
 |f+1,i=>by
  rw[jh];split
  ·have:=lg p f (i+1);omega
  exact fC _
theorem iM(p:Nat->Bool):∀(f i:Nat),jh p f i<=i+f
 |0,i=>fC _
 |f+1,i=>by
  rw[jh];split
  ·have:=iM p f (i+1);omega
  omega
theorem CF(p:Nat->Bool)(f i:Nat)(h:jh p f i≠i):p i=true:=by
 cases f with
 |zero=>exact absurd rfl h
 |succ f=>
  rw[jh]at h;split at h
  ·rename_i h1;exact h1
  exact absurd rfl h
theorem AX(p:Nat->Bool):∀(f i:Nat),i<jh p f i->p (jh p f i-1)=true
 |0,i=>λh=>absurd h (H8 _)
 |f+1,i=>λh=>by
  rw[jh]at h⊢;split at h
  ·rename_i h1;rw[eT h1];by_cases h2:i+1<jh p f (i+1)
   ·exact AX p f (i+1) h2
   have h3:=lg p f (i+1);have h4:jh p f (i+1)=i+1:=by omega
   rw[h4];exact h1
  exact absurd h (H8 _)
theorem nE(p:Nat->Bool):∀(f i:Nat),jh p f i=i+f\/p (jh p f i)=false
 |0,_=>.inl rfl
 |f+1,i=>by
  rw[jh];split
  ·rcases nE p f (i+1)with h|h
   ·exact .inl (by omega)
   exact .inr h
  rename_i h;exact .inr (by simpa using h)
theorem jR{l:List Tk}{e i:Nat}(h:i<=e):i<=blanks l e i/\blanks l e i<=e:=by
 have h1:=lg (λj=>raw l j==3) (e-i) i;have h2:=iM (λj=>raw l j==3) (e-i) i;unfold blanks;omega
theorem iN{l:List Tk}{e i:Nat}(h:i<=e):i<=fq l e i/\fq l e i<=e:=by
 have h1:=lg (λj=>!cnt (raw l j)) (e-i) i;have h2:=iM (λj=>!cnt (raw l j)) (e-i) i;unfold fq;omega
theorem fQ(l:List Tk):∀(i m:Nat),back l i m<=i
 |0,m=>fC _
 |i+1,m=>by
  rw[back];split
  ·have:=fQ l i m;omega
  exact fC _
theorem pQ(l:List Tk):∀(i m:Nat),m<=i->m<=back l i m
 |0,m=>λh=>h
 |i+1,m=>λh=>by
  rw[back];split
  ·exact pQ l i m (by omega)
  exact h
theorem wK(l:List Tk):∀(i m:Nat),m<back l i m->cnt (raw l (back l i m-1))=true
 |0,m=>λh=>absurd h (uY _)
 |i+1,m=>λh=>by
  rw[back]at h⊢;split
  ·rename_i h1;rw[eT h1]at h;exact wK l i m h
  rename_i h1;rw[eQ h1]at h;rw[lJ];cases hc:cnt (raw l i)with
  |true=>rfl
  |false=>exact absurd ⟨h,hc⟩ h1
theorem rz(l:List Tk)(i m:Nat)(h0:0<i)(h:cnt (raw l (i-1))=true):back l i m=i:=by
 cases i with
 |zero=>omega
 |succ i=>rw[back,eQ (λh2=>by rw[lJ]at h;rw[h]at h2;exact absurd h2.2 (by decide))]
theorem AY(l:List Tk)(e:Nat):∀(f i:Nat),i<=e->i<=props l e f i/\props l e f i<=e
 |0,i=>λh=>⟨fC _,h⟩
 |f+1,i=>λh=>by
  rw[props];split
  ·rename_i h1;have h2:kd l e i≠0:=λh3=>by rw[h3]at h1;exact absurd h1 (by decide)
   have h3:=(jW h2).1;have h4:=iN (l:=l) (e:=e) (i:=i+1) (by omega);have:=AY l e f _ h4.2;omega
  exact⟨fC _,h⟩
theorem pI{l:List Tk}{e j:Nat}(hj:j<=e)(h:0<key l e j):j<key l e j/\key l e j<=e/\raw l (key l e j-1)=6:=by
 unfold key at h⊢;dsimp only at h⊢;have h1:=AY l e (e-j) j hj;obtain⟨a,ha⟩:=eX (props l e (e-j) j);rw[ha]at h h1⊢;obtain⟨b,hb⟩:=eX ((if gF (kd l e a)=true then fq l e (a+1)else a));rw[hb]at h⊢;have hab:a<=b:=by
  rw[<-hb];split
  ·rename_i h2;have h3:kd l e a≠0:=λh4=>by rw[h4]at h2;exact absurd h2 (by decide)
   have:=iN (l:=l) (e:=e) (i:=a+1) (jW h3).1;omega
  exact fC _
 split at h
 ·rename_i h2;rw[eT h2];have h3:=jW (l:=l) (e:=e) (i:=b) (by rw[h2];decide);exact⟨by omega,by omega,by rw[lJ,h3.2,h2]⟩
 omega
theorem Ej(l:List Tk)(e:Nat):∀(f j n r:Nat),u6 l e f j n=some r->j<r/\r<=e/\(0<n\/opens (kd l e j)=true->ends (raw l (r-1))=true)
 |0,j,n,r=>λh=>by simp[u6]at h
 |f+1,j,n,r=>λh=>by
  rw[u6]at h;split at h
  ·simp at h
  rename_i h0;have hk:=jW h0;split at h
  ·rename_i h1;injection h with h;subst h
   refine⟨by omega,by omega,λh2=>?_⟩;rw[lJ,hk.2];unfold step at h1;split at h1
   ·omega
   rename_i h3;split at h1
   ·rename_i h4;exact h4
   rcases h2 with h2|h2
   ·omega
   exact absurd h2 h3
  rename_i h1;obtain⟨g1,g2,g3⟩:=Ej l e f (j+1) _ r h;exact⟨by omega,g2,λ_=>g3 (.inl (by omega))⟩
theorem vF{k:Nat}(h:ends k=true):cnt k=true:=by
 unfold ends at h;simp at h;rcases h with rfl|rfl<;>rfl
theorem oK{k:Nat}(h:opens k=true):cnt k=true:=by
 unfold opens at h;simp at h;rcases h with rfl|rfl<;>rfl
theorem AZ{k:Nat}(h:gM k=true):cnt k=true:=by
 unfold gM at h;simp at h;rcases h with rfl|rfl<;>rfl
theorem A7{k:Nat}(h:gF k=true):cnt k=true:=by
 unfold gF at h;simp at h;rcases h with(((rfl|rfl)|rfl)|rfl)<;>rfl
theorem mD{l:List Tk}{e i:Nat}(h:opens (kd l e i)=true):i<balanced l e i/\balanced l e i<=e/\cnt (raw l (balanced l e i-1))=true:=by
 have h0:kd l e i≠0:=λh1=>by rw[h1]at h;exact absurd h (by decide)
 have hk:=jW h0;unfold balanced;cases hb:u6 l e (e-i) i 0 with
 |some r=>
  obtain⟨h1,h2,h3⟩:=Ej l e _ _ _ _ hb;exact⟨h1,h2,vF (h3 (.inr h))⟩
 |none=>
  dsimp only;obtain⟨g,hg⟩:=eX (jh (λj=>kd l e j !=0) (e-i) i);have g1:i<g:=by
   rw[<-hg,show e-i=(e-i-1)+1 by omega,jh,eT (by simpa using h0)];have:=lg (λj=>kd l e j !=0) (e-i-1) (i+1);omega
  have g2:g<=e:=by have:=iM (λj=>kd l e j !=0) (e-i) i;omega
  rw[hg];have b1:=fQ l g (i+1);have b2:=pQ l g (i+1) (by omega);refine⟨by omega,by omega,?_⟩;by_cases hb:i+1<back l g (i+1)
  ·exact wK l g (i+1) hb
  have:back l g (i+1)=i+1:=by omega
  rw[this,lJ,hk.2];exact oK h
theorem sU{l:List Tk}{e i:Nat}(h:kd l e i=18):i<text l e i/\text l e i<=e/\cnt (raw l (text l e i-1))=true:=by
 have hk:=jW (l:=l) (e:=e) (i:=i) (by rw[h];decide);unfold text;dsimp only;obtain⟨j,hj⟩:=eX (jh (λj=>!cnt (raw l j)&&raw l j !=1) (e-(i+1)) (i+1));have j1:i+1<=j:=by rw[<-hj];exact lg _ _ _
 rw[hj];split
 ·refine⟨by omega,by omega,?_⟩;rw[lJ,hk.2,h];rfl
 rename_i h1;have a1:j+1<e:=by omega
 have a2:raw l (j+1)=19:=by
  by_cases h2:raw l (j+1)=19
  ·exact h2
  exact absurd (.inr (.inr (.inr h2))) h1
 obtain⟨r,hr⟩:=eX (jh (λj=>raw l j==19) (e-(j+1)) (j+1));have r1:j+1<r:=by
  rw[<-hr,show e-(j+1)=(e-(j+1)-1)+1 by omega,jh,eT (by simpa using a2)];have:=lg (λj=>raw l j==19) (e-(j+1)-1) (j+1+1);omega
 have r2:r<=e:=by have:=iM (λj=>raw l j==19) (e-(j+1)) (j+1);omega
 have r3:=AX (λj=>raw l j==19) (e-(j+1)) (j+1) (by omega);rw[hr]at r3⊢;refine⟨by omega,r2,?_⟩;have r3:raw l (r-1)=19:=by simpa using r3
 rw[r3];rfl
theorem uA(l:List Tk)(e:Nat):∀(f j n:Nat),j<=kQ l e f j n/\(j<=e->kQ l e f j n<=e)
 |0,j,n=>⟨fC _,id⟩
 |f+1,j,n=>by
  rw[kQ];split
  ·exact⟨fC _,id⟩
  rename_i h0;have:=jW h0;split
  ·exact⟨fC _,id⟩
  have ih:=uA l e f (j+1) (step (kd l e j) n);exact⟨by omega,λ_=>ih.2 (by omega)⟩
theorem tJ{l:List Tk}{e j:Nat}(h0:kd l e j≠0)(hc:cnt (raw l j)=true)(h7:kd l e j≠7)(he:ends (kd l e j)=false):j<jr l e j/\jr l e j<=e/\cnt (raw l (jr l e j-1))=true:=by
 have hk:=jW h0;unfold jr;obtain⟨g,hg⟩:=eX (kQ l e (e-j) j 0);have g1:j<g:=by
  rw[<-hg,show e-j=(e-j-1)+1 by omega,kQ,eQ h0,eQ (by rw[he];simp[h7])];have:=(uA l e (e-j-1) (j+1) (step (kd l e j) 0)).1;omega
 have g2:g<=e:=by rw[<-hg];exact(uA l e _ _ _).2 (by omega)
 rw[hg];have b1:=fQ l g (j+1);have b2:=pQ l g (j+1) (by omega);refine⟨by omega,by omega,?_⟩;by_cases hb:j+1<back l g (j+1)
 ·exact wK l g (j+1) hb
 have:back l g (j+1)=j+1:=by omega
 rw[this,lJ];exact hc
theorem sV(l:List Tk)(e lo:Nat):∀(f:Nat)(o:Option (Nat×Nat))(i:Nat),lo<=i->i<=e->(∀a z,o=some (a,z)->lo<=a/\a<=z/\z<i/\gM (raw l z)=true)->
 i<=(lead l e f o i).2/\(lead l e f o i).2<=e/\(∀a z,(lead l e f o i).1=some (a,z)->lo<=a/\a<=z/\z<(lead l e f o i).2/\gM (raw l z)=true)/\
  ((lead l e f o i).1=none->o=none/\(lead l e f o i).2=i/\(0<f->gM (kd l e i)=false))
 |0,o,i=>λh1 h2 h3=>⟨fC _,h2,h3,λh=>⟨h,rfl,λh=>absurd h (H8 _)⟩⟩
 |f+1,o,i=>λh1 h2 h3=>by
  rw[lead];split
  ·rename_i hp;have h0:kd l e i≠0:=λh4=>by rw[h4]at hp;exact absurd hp (by decide)
   have hk:=jW h0;have hb:=jR (l:=l) (e:=e) (i:=i+1) (by omega)
   have ih:=sV l e lo f (some (gN o i,i)) (blanks l e (i+1)) (by omega) hb.2 (λa z h=>by
    injection h with h
    injection h with ha hz
    subst hz;refine⟨?_,?_,by omega,by rw[hk.2];exact hp⟩
    ·cases o with
     |none=>simp only[gN]at ha;omega
     |some x=>obtain⟨x1,x2⟩:=x;have:=h3 x1 x2 rfl;simp only[gN]at ha;omega
    cases o with
    |none=>simp only[gN]at ha;omega
    |some x=>obtain⟨x1,x2⟩:=x;have:=h3 x1 x2 rfl;simp only[gN]at ha;omega)
   refine⟨by omega,ih.2.1,ih.2.2.1,λh=>?_⟩;have:=(ih.2.2.2 h).1;simp at this
  rename_i hp;exact⟨fC _,h2,h3,λh=>⟨h,rfl,λ_=>by simpa using hp⟩⟩
end Fl
namespace Fl
open Ar
def errs(l:List Nd):Nat:=l.countP (λx=>x.k==11)
def told(d:List Dg):Nat:=d.countP (λx=>x.code !=9)
def lz(l l':List Nd):Prop:=l.length<=l'.length/\∀(i:Nat)(x:Nd),l[i]?=some x->∃x',l'[i]?=some x'/\x'.k=x.k/\x'.f=x.f/\x'.u=x.u
theorem lz.refl(l:List Nd):lz l l:=⟨fC _,λ_ x h=>⟨x,h,rfl,rfl,rfl⟩⟩
theorem lz.trans{a b c:List Nd}(h:lz a b)(g:lz b c):lz a c:=by
 refine⟨jN h.1 g.1,λi x hx=>?_⟩;obtain⟨y,h1,h2,h3,h4⟩:=h.2 i x hx;obtain⟨z,g1,g2,g3,g4⟩:=g.2 i y h1;exact⟨z,g1,by omega,by omega,by omega⟩
structure Ok(n:Int)(up:Nat)(s0:St)(e b:Int)(s:St):Prop where
 ck:Ck s.t n
 fits:Fits s.t e b up
 keep:lz s0.t s.t
 tells:errs s.t+told s0.d=errs s0.t+told s.d
theorem Ok.le{n e b e' b':Int}{up:Nat}{s0 s:St}(h:Ok n up s0 e b s)(he:e<=e')(hb:b<=b'):Ok n up s0 e' b' s:=⟨h.ck,h.fits.le he hb,h.keep,h.tells⟩
theorem Ok.start{n e b:Int}{up:Nat}{s:St}(h:Ck s.t n)(g:Fits s.t e b up):Ok n up s e b s:=⟨h,g,lz.refl _,rfl⟩
theorem Ok.trans{n e b e1 b1:Int}{up c:Nat}{s0 s s':St}(h:Ok n up s0 e b s)(g:Ok n c s e1 b1 s'):Ok n c s0 e1 b1 s' :=
 ⟨g.ck,g.fits,h.keep.trans g.keep,by have h1:=h.tells;have h2:=g.tells;omega⟩
theorem Ok.out{n e b:Int}{c p:Nat}{s0 s:St}(h:Ok n c s0 e b s){x:Nd}(hx:s.t[c]?=some x)(hu:x.u=(p:Int))(h0:0<c):Ok n p s0 b b s:=
 ⟨h.ck,h.fits.out h.ck hx hu h0,h.keep,h.tells⟩
theorem Df{l r:List Nd}(hl:r.length=l.length)(h:∀(i:Nat)(x:Nd),l[i]?=some x->∃x',r[i]?=some x'/\x'.k=x.k):r.map (·.k)=l.map (·.k):=by
 refine xV (λi=>?_);rw[nO,nO];cases hx:l[i]? with
 |none=>
  have:r[i]?=none:=by rw[Aq]at hx⊢;omega
  rw[this]
 |some x=>
  obtain⟨x',h1,h2⟩:=h i x hx;rw[h1];simp[h2]
theorem qH(l:List Nd):errs l=(l.map (·.k)).countP (λk=>k==11):=by
 unfold errs;rw[List.countP_map];rfl
theorem lN{l r:List Nd}(hl:r.length=l.length)(h:∀(i:Nat)(x:Nd),l[i]?=some x->∃x',r[i]?=some x'/\x'.k=x.k):errs r=errs l:=by
 rw[qH,qH,Df hl h]
theorem uB{l r:List Nd}{z:Nd}(hl:r.length=l.length+1)(h:∀(i:Nat)(x:Nd),l[i]?=some x->∃x',r[i]?=some x'/\x'.k=x.k)(hz:r[l.length]?=some z):errs r=errs l+(if z.k==11 then 1 else 0):=by
 have h1:r=r.take l.length++[z]:=by
  refine xV (λi=>?_);by_cases hi:i<l.length
  ·rw[qx (by rw[jQ];omega),FB hi]
  by_cases e:i=l.length
  ·subst e;rw[hz,uU (by rw[jQ];omega),jQ,Cv (by omega),zl];rfl
  rw[uV (by omega),uV (by rw[ig,jQ];simp;omega)]
 have h2:errs (r.take l.length)=errs l:=lN (by rw[jQ];omega) (λi x hx=>by
  have hi:=(fT.1 hx).1;obtain⟨x',g1,g2⟩:=h i x hx
  exact⟨x',by rw[FB hi];exact g1,g2⟩)
 rw[h1];unfold errs at h2⊢;rw[xR,h2,Ao,Ap];omega
theorem uq{n e b:Int}{up f t kind:Nat}{s0 s:St}(h:Ok n up s0 e b s)(he:e<=f)(hft:f<=t)(htn:(t:Int)<=n)(hk1:1<=kind)(hk2:kind<=11):
 ∃r,addN s.t up kind f t=(r,(s.t.length:Int))/\Ck r n/\Fits r t (max b t) up/\Fits r f (max b t) s.t.length/\lz s.t r/\errs r=errs s.t+(if kind=11 then 1 else 0)/\
  (∃x,r[s.t.length]?=some x/\x.u=(up:Int)/\x.k=(kind:Int))/\0<s.t.length:=by
 obtain⟨r,h1,h2,h3,h4,h5,h6,h7⟩:=IK (f:=(f:Int)) (t:=(t:Int)) (kind:=(kind:Int)) h.ck h.fits he (by omega) htn (by omega) (by omega);refine⟨r,h1,h2,h3,h4,⟨by omega,λi x hx=>?_⟩,?_,⟨_,h5,rfl,rfl⟩,h.ck.pos⟩
 ·obtain⟨x',g1,g2,g3,g4,_⟩:=h7 i x hx;exact⟨x',g1,g2,g3,g4⟩
 rw[uB h6 (λi x hx=>by obtain⟨x',g1,g2,_⟩:=h7 i x hx;exact⟨x',g1,g2⟩) h5];congr 1;by_cases e:kind=11
 ·subst e;rfl
 rw[eQ (by simp;omega),eQ e]
theorem iW{n e b:Int}{up f t kind:Nat}{s0 s:St}(h:Ok n up s0 e b s)(he:e<=f)(hft:f<=t)(htn:(t:Int)<=n)(hk1:1<=kind)(hk2:kind<=10):
 ∃s',add s up kind f t=(s',(s.t.length:Int))/\Ok n up s0 t (max b t) s'/\Ok n s.t.length s0 f (max b t) s'/\(∃x,s'.t[s.t.length]?=some x/\x.u=(up:Int))/\0<s.t.length:=by
 obtain⟨r,h1,h2,h3,h4,h5,h6,⟨x,h7,h8,_⟩,h9⟩:=uq h he hft htn hk1 (by omega);have ht:errs r+told s0.d=errs s0.t+told s.d:=by rw[h6,eQ (by omega)];have:=h.tells;omega
 refine⟨⟨r,s.d⟩,by unfold add;rw[h1],⟨h2,h3,h.keep.trans h5,ht⟩,⟨h2,h4,h.keep.trans h5,ht⟩,⟨x,h7,h8⟩,h9⟩
theorem jL{n e b:Int}{up f t code:Nat}{s0 s:St}(l:List Tk)(h:Ok n up s0 e b s)(he:e<=f)(hft:f<=t)(htn:(t:Int)<=n)(hc:code≠9):
 Ok n up s0 t (max b t) (err l s up f t code)/\(addN s.t up 11 f t).2=(s.t.length:Int):=by
 obtain⟨r,h1,h2,h3,h4,h5,h6,_,h9⟩:=uq (kind:=11) h he hft htn (by omega) (by omega);have h1:addN s.t up 11 f t=(r,(s.t.length:Int)):=h1;refine⟨?_,by rw[h1]⟩;unfold err;rw[h1];refine⟨h2,h3,h.keep.trans h5,?_⟩;show errs r+told s0.d=errs s0.t+told (s.d++[_]);unfold told;rw[xR,Ao,Ap,eT (by simpa using hc),h6,eT rfl];have:=h.tells;unfold told at this;omega
theorem nX{n e b:Int}{up t:Nat}{s0 s:St}(h:Ok n up s0 e b s)(he:e<=t)(hb:b<=t)(htn:(t:Int)<=n):Ok n up s0 t t ⟨gJ s.t up t,s.d⟩:=by
 obtain⟨h1,h2,h3,h4⟩:=Ee h.ck h.fits he hb htn;have hk:lz s.t (gJ s.t up t):=⟨by omega,λi x hx=>by obtain⟨x',g1,g2,g3,g4,_⟩:=h4 i x hx;exact⟨x',g1,g2,g3,g4⟩⟩
 refine⟨h1,h2,h.keep.trans hk,?_⟩;show errs (gJ s.t up t)+_=_+told s.d;rw[lN h3 (λi x hx=>by obtain⟨x',g1,g2,_⟩:=hk.2 i x hx;exact⟨x',g1,g2⟩)];exact h.tells
theorem zI{n e b:Int}{up f t:Nat}{s0 s:St}(h:Ok n up s0 e b s):Ok n up s0 e b ⟨s.t,s.d++[⟨9,f,t⟩]⟩:=by
 refine⟨h.ck,h.fits,h.keep,?_⟩;show errs s.t+told s0.d=errs s0.t+told (s.d++[_]);have:=h.tells;unfold told at this⊢;rw[xR,Ao,Ap,eQ (by simp)];omega
theorem lQ(l:List Nd)(i:Int):(keyed l i).length=l.length/\∀(j:Nat)(x:Nd),l[j]?=some x->∃x',(keyed l i)[j]?=some x'/\x'.k=x.k/\x'.f=x.f/\x'.t=x.t/\x'.u=x.u/\x'.ks=x.ks:=by
 unfold keyed;cases hx:l[i.toNat]? with
 |none=>exact⟨rfl,λj x h=>⟨x,h,rfl,rfl,rfl,rfl,rfl⟩⟩
 |some y=>
  have hi:=(fT.1 hx).1;refine⟨by simp,λj x h=>?_⟩;dsimp only;by_cases e:i.toNat=j
  ·subst e;rw[hx]at h;injection h with h;subst h
   exact⟨_,xW hi,rfl,rfl,rfl,rfl,rfl⟩
  exact⟨x,by rw[uW e];exact h,rfl,rfl,rfl,rfl,rfl⟩
theorem El{l r:List Nd}{n e b:Int}{c:Nat}(hl:r.length=l.length)(G:∀(j:Nat)(x:Nd),l[j]?=some x->∃x',r[j]?=some x'/\x'.k=x.k/\x'.f=x.f/\x'.t=x.t/\x'.u=x.u/\x'.ks=x.ks)
 (h:Ck l n) (hf:Fits l e b c):Ck r n/\Fits r e b c:=by
 have B:∀(i:Nat)(x':Nd),r[i]?=some x'->∃x,l[i]?=some x/\x'.k=x.k/\x'.f=x.f/\x'.t=x.t/\x'.u=x.u/\x'.ks=x.ks:=by
  intro i x' hx';have hi:=(fT.1 hx').1;obtain⟨x,hx⟩:=iT l i (by omega);obtain⟨y,h1,h2⟩:=G i x hx;rw[hx']at h1;injection h1 with h1;subst h1
  exact⟨x,hx,h2⟩
 refine⟨⟨?_,?_,?_,?_,?_⟩,⟨by have:=hf.lt;omega,?_,?_⟩⟩
 ·obtain⟨x,q,rfl,h1,h2,h3,h4,h5⟩:=h.first;obtain⟨x',g1,e1,e2,e3,e4,e5⟩:=G 0 x rfl;cases r with
  |nil=>simp at g1
  |cons y q'=>simp at g1;subst g1;exact⟨_,_,rfl,by omega,by omega,by omega,by omega,h5⟩
 ·intro i x' hi hx';obtain⟨x,hx,_,_,_,e4,_⟩:=B i x' hx';rw[e4];exact h.up i x hi hx
 ·intro i x' hx' z hz;obtain⟨x,hx,_,e2,e3,e4,e5⟩:=B i x' hx';rw[e5]at hz;obtain⟨j,y,rfl,j0,hy,k1,k2,k3,k4⟩:=h.kid i x hx z hz;obtain⟨y',g1,_,g3,g4,g5,_⟩:=G j y hy;exact⟨j,y',rfl,j0,g1,by omega,by omega,by omega,.inl (by have:=k4.elim id False.elim;omega)⟩
 ·intro i x' hx';obtain⟨x,hx,_,e2,e3,e4,e5⟩:=B i x' hx';rw[e5];refine(h.ord i x hx).imp (fun{a b} hab=>⟨hab.1,λxa yb hxa hyb=>?_⟩);obtain⟨aa,q1,_,_,q2,_⟩:=B _ xa hxa;obtain⟨ae,r1,_,r2,_⟩:=B _ yb hyb;have:=hab.2 aa ae q1 r1;omega
 ·intro i hi hil;have hm:r.map (·.ks)=l.map (·.ks):=by
   refine xV (λi=>?_);rw[nO,nO];cases hx:l[i]? with
   |none=>
    have:r[i]?=none:=by rw[Aq]at hx⊢;omega
    rw[this]
   |some x=>
    obtain⟨x',g1,_,_,_,_,e5⟩:=G i x hx;rw[g1];simp[e5]
  rw[LG,hm,<-LG];exact h.seen i hi (by omega)
 ·have hs:=hf.sp;clear hf
  induction hs with
  |root=>exact .root
  |up d p x y h0 hx hy hu hla ht hsp ih=>
   obtain⟨x',g1,_,_,g3,g4,_⟩:=G d x hx;obtain⟨y',k1,_,_,_,_,k5⟩:=G p y hy;exact .up d p x' y' h0 g1 k1 (by omega) (by rw[k5];exact hla) (by omega) ih
 intro x' hx';obtain⟨x,hx,_,e2,_,_,e5⟩:=B c x' hx';refine⟨by have:=(hf.here x hx).1;omega,λz hz y' hy'=>?_⟩;rw[e5]at hz;obtain⟨y,hy,_,_,q3,_⟩:=B _ y' hy';have:=(hf.here x hx).2 z hz y hy;omega
theorem l9{n e b:Int}{up:Nat}{s0 s:St}(i:Int)(h:Ok n up s0 e b s):Ok n up s0 e b ⟨keyed s.t i,s.d⟩:=by
 obtain⟨k1,k2⟩:=lQ s.t i;obtain⟨h1,h2⟩:=El k1 k2 h.ck h.fits;have hk:lz s.t (keyed s.t i):=⟨by omega,λj x hx=>by obtain⟨x',g1,g2,g3,_,g5,_⟩:=k2 j x hx;exact⟨x',g1,g2,g3,g5⟩⟩
 refine⟨h1,h2,h.keep.trans hk,?_⟩;show errs (keyed s.t i)+_=_+told s.d;rw[lN k1 (λj x hx=>by obtain⟨x',g1,g2,_⟩:=k2 j x hx;exact⟨x',g1,g2⟩)];exact h.tells
end Fl
namespace Fl
open Ar
theorem Jr(n:Int)(p:Int)(h0:0<=n)(h1:n<=32768)(hp:0<=p):Fits (mU n) p 0 0:=by
 have hn:mU n=[⟨1,0,n,-1,[],false⟩]:=by unfold mU;rw[eQ (by omega)]
 rw[hn];refine⟨by simp,.root,λx hx=>?_⟩;have hx:(⟨1,0,n,-1,[],false⟩:Nd)=x:=by simpa using hx
 subst hx;exact⟨hp,λz hz=>by simp at hz⟩
end Fl
namespace Fe
open Ar Fl
def Lf(l:List Nd):Prop:=∀(i:Nat)(x:Nd),l[i]?=some x->x.k=11->x.ks=[]/\x.f<x.t
def No(l:List Nd)(c:Nat):Prop:=∀x,l[c]?=some x->x.k≠11
def errs(l:List Tk)(t:List Nd)(g:Nat×Nat):Nat:=t.countP (λx=>x.k==11&&(pF l x.f.toNat==g.1&&too l (x.t-1).toNat==g.2))
def told(d:List Dg)(g:Nat×Nat):Nat:=d.countP (λx=>x.code !=9&&(x.f==g.1&&x.t==g.2))
def W(l:List Tk)(p:Nat)(n:Int)(x:Dg):Prop:=∃f t:Nat,p<=f/\f<t/\(t:Int)<=n/\x.f=pF l f/\x.t=too l (t-1)/\5<=x.code/\x.code<=10
theorem W.le{l:List Tk}{p q:Nat}{n:Int}{x:Dg}(h:W l p n x)(hq:q<=p):W l q n x:=by
 obtain⟨f,t,h1,h2⟩:=h;exact⟨f,t,by omega,h2⟩
theorem Mi{l:List Nd}{n:Int}(h:Ck l n){c p:Nat}{x y:Nd}(hx:l[c]?=some x)(hu:x.u=(p:Int))(h0:0<c)(hy:l[p]?=some y):(c:Int)∈y.ks:=by
 have hc:=(fT.1 hx).1;have hs:=h.seen c h0 hc;have hpos:0<(l.flatMap (·.ks)).countP (λz=>z==(c:Int)):=by omega
 rw[Qi]at hpos;obtain⟨z,hz,he⟩:=hpos;obtain rfl:z=(c:Int):=by simpa using he
 rw[Oy]at hz;obtain⟨w,hw,hz⟩:=hz;obtain⟨i,hi⟩:=rT hw;obtain⟨j,y',hj,_,hy',hu',_⟩:=h.kid i w hi _ hz;obtain rfl:j=c:=by omega
 rw[hx]at hy';injection hy' with hy';subst hy'
 obtain rfl:i=p:=by omega
 rw[hy]at hi;injection hi with hi;subst hi
 exact hz
theorem IP{l:List Nd}{n:Int}(h:Ck l n)(hl:Lf l){c p:Nat}{x:Nd}(hx:l[c]?=some x)(hu:x.u=(p:Int))(h0:0<c):No l p:=by
 intro y hy hk;have:=Mi h hx hu h0 hy;rw[(hl p y hy hk).1]at this;simp at this
theorem NU{l:List Nd}{n:Int}(h:Ck l n)(hl:Lf l){c i:Nat}(ho:On l c i):No l c->No l i:=by
 induction ho with
 |self=>exact id
 |out d q i x hd hq h00 ho ih=>exact λ_=>ih (IP h hl hd hq h00)
theorem FW{l r:List Nd}{up:Nat}{kind f t:Int}(hg:bu l)(hup:up<l.length)(h:addN l up kind f t=(r,(l.length:Int))):∀(i:Nat)(x:Nd),l[i]?=some x->¬On l up i->r[i]?=some x:=by
 intro i x hx hno;have hi:=(fT.1 hx).1;have hiu:i≠up:=λe=>hno (by rw[e];exact .self _)
 unfold addN at h;by_cases hm:iL l up kind f t=true
 ·rw[eT hm]at h;obtain⟨h0,_,p,hp⟩:=II hm;have hg':=wH hg up kind f t p h0 hp (IJ hm hp).1;rw[hp]at h;dsimp only at h;rw[iE]at h hp hg';have hr:=congrArg Prod.fst h;dsimp only at hr;obtain⟨m,hmd⟩:=eX ((l++[(⟨kind,f,t,up,[],false⟩:Nd)]).set up {p with ks:=p.ks++[(l.length:Int)]});rw[hmd]at hr hg';have ae:m.length=l.length+1:=by rw[<-hmd];simp
  have aa:m[i]?=some x:=by rw[<-hmd,uW (λe=>hiu e.symm),qx hi];exact hx
  have hon:On m up i->On l up i:=by
   have key:∀c j,On m c j->c<l.length->On l c j:=by
    intro c j ho
    induction ho with
    |self=>exact λ_=>.self _
    |out d q j w hd hq h00 ho ih=>
     intro hdl;have af:q<d:=by have:=hg'.up d w hd;omega
     by_cases e:d=up
     ·subst e;rw[<-hmd,xW (by simp;omega)]at hd;injection hd with hd;subst hd
      exact .out d q j p hp hq h00 (ih (by omega))
     rw[<-hmd,uW (λh=>e h.symm),qx hdl]at hd;exact .out d q j w hd hq h00 (ih (by omega))
   exact λho=>key up i ho hup
  obtain⟨x',h1,h2⟩:=qG up m t hg' (by omega) i x aa;rw[hr]at h1;rcases h2 with⟨h2,_⟩|⟨_,rfl⟩
  ·exact absurd (hon h2) hno
  exact h1
 rw[eQ hm]at h;have h2:=congrArg Prod.snd h;dsimp only at h2;omega
def ek(x:Nd):Option (Int×Int):=if x.k=11 then some (x.f,x.t)else none
def hit(l:List Tk)(g:Nat×Nat):Option (Int×Int)->Bool
 |some q=>pF l q.1.toNat==g.1&&too l (q.2-1).toNat==g.2
 |none=>false
theorem zx(l:List Tk)(g:Nat×Nat)(x:Nd):hit l g (ek x)=(x.k==11&&(pF l x.f.toNat==g.1&&too l (x.t-1).toNat==g.2)):=by
 unfold ek;split
 ·rename_i h;rw[h];rfl
 rename_i h;rw[show(x.k==11)=false by simpa using h];rfl
theorem qH(l:List Tk)(t:List Nd)(g:Nat×Nat):errs l t g=(t.map ek).countP (hit l g):=by
 unfold errs;rw[List.countP_map];refine List.countP_congr (λx _=>?_);rw[Function.comp_apply,zx]
def Still(l r:List Nd):Prop:=∀(i:Nat)(x:Nd),l[i]?=some x->∃x',r[i]?=some x'/\x'.k=x.k/\(x.k=11->x'.f=x.f/\x'.t=x.t)
theorem Mj{x x':Nd}(h1:x'.k=x.k)(h2:x.k=11->x'.f=x.f/\x'.t=x.t):ek x'=ek x:=by
 unfold ek;rw[h1];split
 ·rename_i h;rw[(h2 h).1,(h2 h).2]
 rfl
theorem lN(tk:List Tk){l r:List Nd}(hl:r.length=l.length)(h:Still l r)(g:Nat×Nat):errs tk r g=errs tk l g:=by
 rw[qH,qH];congr 1;refine xV (λi=>?_);rw[nO,nO];cases hx:l[i]? with
 |none=>
  have:r[i]?=none:=by rw[Aq]at hx⊢;omega
  rw[this]
 |some x=>
  obtain⟨x',h1,h2,h3⟩:=h i x hx;rw[h1];simp[Mj h2 h3]
theorem uB(tk:List Tk){l r:List Nd}{z:Nd}(hl:r.length=l.length+1)(h:Still l r)(hz:r[l.length]?=some z)(g:Nat×Nat):
 errs tk r g=errs tk l g+(if hit tk g (ek z)=true then 1 else 0):=by
 have h1:r=r.take l.length++[z]:=by
  refine xV (λi=>?_);by_cases hi:i<l.length
  ·rw[qx (by rw[jQ];omega),FB hi]
  by_cases e:i=l.length
  ·subst e;rw[hz,uU (by rw[jQ];omega),jQ,Cv (by omega),zl];rfl
  rw[uV (by omega),uV (by rw[ig,jQ];simp;omega)]
 have h2:errs tk (r.take l.length) g=errs tk l g:=lN tk (by rw[jQ];omega) (λi x hx=>by
  have hi:=(fT.1 hx).1;obtain⟨x',g1,g2⟩:=h i x hx
  exact⟨x',by rw[FB hi];exact g1,g2⟩) g
 rw[h1];unfold errs at h2⊢;rw[xR,h2,Ao,Ap,zx];omega
structure Ok(l:List Tk)(p0:Nat)(n:Int)(up:Nat)(s0:St)(e b:Int)(s:St):Prop where
 ck:Ck s.t n
 fits:Fits s.t e b up
 keep:lz s0.t s.t
 lf:Lf s.t
 no:No s.t up
 tells:∀g,errs l s.t g+told s0.d g=errs l s0.t g+told s.d g
 FO:∃ds,s.d=s0.d++ds/\∀x∈ds,W l p0 n x
theorem Ok.le{l:List Tk}{p0:Nat}{n e b e' b':Int}{up:Nat}{s0 s:St}(h:Ok l p0 n up s0 e b s)(he:e<=e')(hb:b<=b'):Ok l p0 n up s0 e' b' s:=⟨h.ck,h.fits.le he hb,h.keep,h.lf,h.no,h.tells,h.FO⟩
theorem Ok.low{l:List Tk}{p0 p1:Nat}{n e b:Int}{up:Nat}{s0 s:St}(h:Ok l p0 n up s0 e b s)(hp:p1<=p0):Ok l p1 n up s0 e b s:=
 ⟨h.ck,h.fits,h.keep,h.lf,h.no,h.tells,by obtain⟨ds,h1,h2⟩:=h.FO;exact⟨ds,h1,λx hx=>(h2 x hx).le hp⟩⟩
theorem Ok.start{l:List Tk}{p0:Nat}{n e b:Int}{up:Nat}{s:St}(h:Ck s.t n)(g:Fits s.t e b up)(hl:Lf s.t)(hn:No s.t up):Ok l p0 n up s e b s:=
 ⟨h,g,lz.refl _,hl,hn,λ_=>rfl,[],by simp,λx hx=>by cases hx⟩
theorem Ok.trans{l:List Tk}{p0:Nat}{n e b e1 b1:Int}{up c:Nat}{s0 s s':St}(h:Ok l p0 n up s0 e b s)(g:Ok l p0 n c s e1 b1 s'):Ok l p0 n c s0 e1 b1 s' :=
 ⟨g.ck,g.fits,h.keep.trans g.keep,g.lf,g.no,λq=>by have h1:=h.tells q;have h2:=g.tells q;omega,by
  obtain⟨d1,h1,h2⟩:=h.FO;obtain⟨d2,g1,g2⟩:=g.FO
  exact⟨d1++d2,by rw[g1,h1,lT],λx hx=>(kS.1 hx).elim (h2 x) (g2 x)⟩⟩
theorem Ok.out{l:List Tk}{p0:Nat}{n e b:Int}{c p:Nat}{s0 s:St}(h:Ok l p0 n c s0 e b s){x:Nd}(hx:s.t[c]?=some x)(hu:x.u=(p:Int))(h0:0<c):Ok l p0 n p s0 b b s:=
 ⟨h.ck,h.fits.out h.ck hx hu h0,h.keep,h.lf,IP h.ck h.lf hx hu h0,h.tells,h.FO⟩
theorem uq{l:List Tk}{p0:Nat}{n e b:Int}{up f t kind:Nat}{s0 s:St}(h:Ok l p0 n up s0 e b s)(he:e<=f)(hft:f<=t)(htn:(t:Int)<=n)(hk1:1<=kind)(hk2:kind<=11)(hk3:kind=11->f<t):
 ∃r,addN s.t up kind f t=(r,(s.t.length:Int))/\Ck r n/\Fits r t (max b t) up/\Fits r f (max b t) s.t.length/\lz s.t r/\Lf r/\No r up/\(kind≠11->No r s.t.length)/\
  (∀g,errs l r g=errs l s.t g+(if hit l g (ek ⟨kind,f,t,up,[],false⟩)=true then 1 else 0))/\(∃x,r[s.t.length]?=some x/\x.u=(up:Int)/\x.k=(kind:Int))/\0<s.t.length:=by
 obtain⟨r,h1,h2,h3,h4,h5,h6,h7⟩:=IK (f:=(f:Int)) (t:=(t:Int)) (kind:=(kind:Int)) h.ck h.fits he (by omega) htn (by omega) (by omega);have hst:=FW h.ck.good h.fits.lt h1;have hE:∀(i:Nat)(x:Nd),s.t[i]?=some x->x.k=11->r[i]?=some x:=λi x hx hk=>hst i x hx (λho=>NU h.ck h.lf ho h.no x hx hk)
 have hS:Still s.t r:=by
  intro i x hx;obtain⟨x',g1,g2,g3,_⟩:=h7 i x hx;refine⟨x',g1,g2,λhk=>?_⟩;rw[hE i x hx hk]at g1;injection g1 with g1;subst g1
  exact⟨rfl,rfl⟩
 have hB:∀(i:Nat)(x':Nd),r[i]?=some x'->i<s.t.length->∃x,s.t[i]?=some x/\x'.k=x.k/\(x.k=11->x'=x):=by
  intro i x' hx' hi;obtain⟨x,hx⟩:=iT s.t i hi;obtain⟨y,g1,g2,_⟩:=h7 i x hx;rw[hx']at g1;injection g1 with g1;subst g1
  refine⟨x,hx,g2,λhk=>?_⟩;have:=hE i x hx hk;rw[hx']at this;injection this
 refine⟨r,h1,h2,h3,h4,⟨by omega,λi x hx=>?_⟩,λi x hx hk=>?_,λx hx=>?_,λhk x hx=>?_,uB l h6 hS h5,⟨_,h5,rfl,rfl⟩,h.ck.pos⟩
 ·obtain⟨x',g1,g2,g3,g4,_⟩:=h7 i x hx;exact⟨x',g1,g2,g3,g4⟩
 ·by_cases hi:i<s.t.length
  ·obtain⟨y,hy,hyk,hye⟩:=hB i x hx hi;have:=hye (by omega);subst this;exact h.lf i x hy hk
  have hil:=(fT.1 hx).1;obtain rfl:i=s.t.length:=by omega
  rw[h5]at hx;injection hx with hx;subst hx
  exact⟨rfl,by have hk':(kind:Int)=11:=hk;have:=hk3 (by omega);show(f:Int)<(t:Int);omega⟩
 ·obtain⟨y,hy,hyk,_⟩:=hB up x hx h.fits.lt;rw[hyk];exact h.no y hy
 rw[h5]at hx;injection hx with hx;subst hx
 show(kind:Int)≠11;omega
theorem iW{l:List Tk}{p0:Nat}{n e b:Int}{up f t kind:Nat}{s0 s:St}(h:Ok l p0 n up s0 e b s)(he:e<=f)(hft:f<=t)(htn:(t:Int)<=n)(hk1:1<=kind)(hk2:kind<=10):
 ∃s',add s up kind f t=(s',(s.t.length:Int))/\Ok l p0 n up s0 t (max b t) s'/\Ok l p0 n s.t.length s0 f (max b t) s'/\(∃x,s'.t[s.t.length]?=some x/\x.u=(up:Int))/\0<s.t.length:=by
 obtain⟨r,h1,h2,h3,h4,h5,h6,h7,h8,h9,⟨x,ha,hb,_⟩,hc⟩:=uq h he hft htn hk1 (by omega) (λe=>by omega);have ht:∀g,errs l r g+told s0.d g=errs l s0.t g+told s.d g:=by
  intro g;have hh:hit l g (ek ⟨kind,f,t,up,[],false⟩)=false:=by
   rw[zx,show(((kind:Int)==11))=false by simp;omega];rfl
  rw[h9,hh];have:=h.tells g;simp;omega
 refine⟨⟨r,s.d⟩,by unfold add;rw[h1],⟨h2,h3,h.keep.trans h5,h6,h7,ht,h.FO⟩,⟨h2,h4,h.keep.trans h5,h6,h8 (by omega),ht,h.FO⟩,⟨x,ha,hb⟩,hc⟩
theorem jL{l:List Tk}{p0:Nat}{n e b:Int}{up f t code:Nat}{s0 s:St}(h:Ok l p0 n up s0 e b s)(he:e<=f)(hft:f<t)(htn:(t:Int)<=n)(hc:code≠9)(hp:p0<=f)(h5:5<=code)(h10:code<=10):
 Ok l p0 n up s0 t (max b t) (err l s up f t code)/\(addN s.t up 11 f t).2=(s.t.length:Int):=by
 obtain⟨r,h1,h2,h3,h4,h5',h6,h7,h8,h9,_,ha⟩:=uq (kind:=11) h he (by omega) htn (by omega) (by omega) (λ_=>hft);have h1:addN s.t up 11 f t=(r,(s.t.length:Int)):=h1;refine⟨?_,by rw[h1]⟩;unfold err;rw[h1];refine⟨h2,h3,h.keep.trans h5',h6,h7,λg=>?_,?_⟩
 ·show errs l r g+told s0.d g=errs l s0.t g+told (s.d++[_]) g;have hh:hit l g (ek ⟨(11:Nat),f,t,up,[],false⟩)=((pF l f==g.1&&too l (t-1)==g.2)):=by
   rw[zx];show((((11:Nat):Int)==11)&&(pF l ((f:Nat):Int).toNat==g.1&&too l (((t:Nat):Int)-1).toNat==g.2))=_;rw[iE,show(((t:Nat):Int)-1).toNat=t-1 by omega];rfl
  have hq:told (s.d++[⟨code,pF l f,too l (t-1)⟩]) g=told s.d g+(if(pF l f==g.1&&too l (t-1)==g.2)=true then 1 else 0):=by
   unfold told;rw[xR,Ao,Ap,show(code !=9)=true by simpa using hc];simp
  rw[h9,hh,hq];have:=h.tells g;omega
 obtain⟨ds,g1,g2⟩:=h.FO;refine⟨ds++[⟨code,pF l f,too l (t-1)⟩],by show s.d++_=_;rw[g1,lT],λx hx=>?_⟩;rcases kS.1 hx with hx|hx
 ·exact g2 x hx
 obtain rfl:x=_:=by simpa using hx
 exact⟨f,t,hp,hft,htn,rfl,rfl,h5,h10⟩
theorem nX{l:List Tk}{p0:Nat}{n e b:Int}{up t:Nat}{s0 s:St}(h:Ok l p0 n up s0 e b s)(he:e<=t)(hb:b<=t)(htn:(t:Int)<=n):Ok l p0 n up s0 t t ⟨gJ s.t up t,s.d⟩:=by
 obtain⟨h1,h2,h3,h4⟩:=Ee h.ck h.fits he hb htn;have hk:lz s.t (gJ s.t up t):=⟨by omega,λi x hx=>by obtain⟨x',g1,g2,g3,g4,_⟩:=h4 i x hx;exact⟨x',g1,g2,g3,g4⟩⟩
 have hE:∀(i:Nat)(x:Nd),s.t[i]?=some x->x.k=11->(gJ s.t up t)[i]?=some x:=by
  intro i x hx hk;unfold gJ;split
  ·obtain⟨x',g1,g2⟩:=qG up s.t t h.ck.good h.fits.lt i x hx;rcases g2 with⟨g2,_⟩|⟨_,rfl⟩
   ·exact absurd hk (NU h.ck h.lf g2 h.no x hx)
   exact g1
  exact hx
 have hB:∀(i:Nat)(x':Nd),(gJ s.t up t)[i]?=some x'->∃x,s.t[i]?=some x/\x'.k=x.k/\(x.k=11->x'=x):=by
  intro i x' hx';have hi:=(fT.1 hx').1;obtain⟨x,hx⟩:=iT s.t i (by omega);obtain⟨y,g1,g2,_⟩:=h4 i x hx;rw[hx']at g1;injection g1 with g1;subst g1
  refine⟨x,hx,g2,λhk=>?_⟩;have:=hE i x hx hk;rw[hx']at this;injection this
 refine⟨h1,h2,h.keep.trans hk,λi x hx hk=>?_,λx hx=>?_,λg=>?_,h.FO⟩
 ·obtain⟨y,hy,hyk,hye⟩:=hB i x hx;have:=hye (by omega);subst this;exact h.lf i x hy hk
 ·obtain⟨y,hy,hyk,_⟩:=hB up x hx;rw[hyk];exact h.no y hy
 show errs l (gJ s.t up t) g+_=_+told s.d g
 rw[lN l h3 (λi x hx=>by
  obtain⟨x',g1,g2,_⟩:=hk.2 i x hx;refine⟨x',g1,g2,λhk=>?_⟩;rw[hE i x hx hk]at g1;injection g1 with g1;subst g1
  exact⟨rfl,rfl⟩) g]
 exact h.tells g
theorem zI{l:List Tk}{p0:Nat}{n e b:Int}{up op:Nat}{s0 s:St}(h:Ok l p0 n up s0 e b s)(hp:p0<=op)(hn:(op:Int)<n):Ok l p0 n up s0 e b ⟨s.t,s.d++[⟨9,pF l op,too l op⟩]⟩:=by
 refine⟨h.ck,h.fits,h.keep,h.lf,h.no,λg=>?_,?_⟩
 ·show errs l s.t g+told s0.d g=errs l s0.t g+told (s.d++[_]) g;have:=h.tells g;unfold told at this⊢;rw[xR,Ao,Ap,eQ (by simp)];omega
 obtain⟨ds,g1,g2⟩:=h.FO;refine⟨ds++[⟨9,pF l op,too l op⟩],by show s.d++_=_;rw[g1,lT],λx hx=>?_⟩;rcases kS.1 hx with hx|hx
 ·exact g2 x hx
 obtain rfl:x=_:=by simpa using hx
 exact⟨op,op+1,hp,by omega,by omega,rfl,by rw[lJ],by show 5<=9;omega,by show 9<=10;omega⟩
theorem l9{l:List Tk}{p0:Nat}{n e b:Int}{up:Nat}{s0 s:St}(i:Int)(h:Ok l p0 n up s0 e b s):Ok l p0 n up s0 e b ⟨keyed s.t i,s.d⟩:=by
 obtain⟨k1,k2⟩:=lQ s.t i;obtain⟨h1,h2⟩:=El k1 k2 h.ck h.fits;have hk:lz s.t (keyed s.t i):=⟨by omega,λj x hx=>by obtain⟨x',g1,g2,g3,_,g5,_⟩:=k2 j x hx;exact⟨x',g1,g2,g3,g5⟩⟩
 have hB:∀(j:Nat)(x':Nd),(keyed s.t i)[j]?=some x'->∃x,s.t[j]?=some x/\x'.k=x.k/\x'.f=x.f/\x'.t=x.t/\x'.ks=x.ks:=by
  intro j x' hx';have hj:=(fT.1 hx').1;obtain⟨x,hx⟩:=iT s.t j (by omega);obtain⟨y,g1,g2,g3,g4,_,g6⟩:=k2 j x hx;rw[hx']at g1;injection g1 with g1;subst g1
  exact⟨x,hx,g2,g3,g4,g6⟩
 refine⟨h1,h2,h.keep.trans hk,λj x hx hk=>?_,λx hx=>?_,λg=>?_,h.FO⟩
 ·obtain⟨y,hy,e1,e2,e3,e4⟩:=hB j x hx;have:=h.lf j y hy (by omega);exact⟨by rw[e4];exact this.1,by rw[e2,e3];exact this.2⟩
 ·obtain⟨y,hy,e1,_⟩:=hB up x hx;rw[e1];exact h.no y hy
 show errs l (keyed s.t i) g+_=_+told s.d g;rw[lN l k1 (λj x hx=>by obtain⟨x',g1,g2,g3,g4,_⟩:=k2 j x hx;exact⟨x',g1,g2,λ_=>⟨g3,g4⟩⟩) g];exact h.tells g
end Fe
end Go.Proofs.YtfbiffdmhcjhbaaGreat

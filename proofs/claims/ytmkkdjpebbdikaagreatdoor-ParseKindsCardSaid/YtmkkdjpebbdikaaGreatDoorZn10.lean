import Derived.Test.YtmkkdjpebbdikaaGreatDoorZn06
import Derived.Test.YtmkkdjpebbdikaaGreatDoorZn07
import Derived.Lib.MinMax
import Derived.Lib.SmallJoins
import Derived.OneCell
set_option linter.all false
set_option maxHeartbeats 16000000
set_option maxRecDepth 100000
namespace Go.Proofs.YtmkkdjpebbdikaaGreatDoor
open Go.RowKit Tryz
def qb:=@Joins.block_setCell
def nH:=@Joins.unfrozen_of_block
def xO:=@ownsRow_setCell_other
def XJ:=@wpList_append_own_none
def j5:=@heap_alloc_new
def il:=@lt_of_block
def jf:=@Below.heap_setCell
def Nc:=@World.cell?_of_block
namespace Ft
open Ar Fl
theorem tH(l:List Tk){e i:Nat}(h:i<e):raw (l.take e) i=raw l i:=by unfold raw;rw[rD h]
theorem UQ(l:List Tk){e i:Nat}(h:i<e):mM (l.take e) i=mM l i:=by unfold mM;rw[rD h]
theorem UR(l:List Tk){e i:Nat}(h:i<e):too (l.take e) i=too l i:=by unfold too;rw[rD h]
theorem BH(l:List Tk)(e i:Nat):kd (l.take e) e i=kd l e i:=by
 unfold kd;by_cases h:i<e
 ·rw[tH l h]
 rw[eY (.inl (by omega)),eY (.inl (by omega))]
theorem B6(P Q:Nat->Bool)(e:Nat)(h:∀j,j<e->P j=Q j):∀(f i:Nat),i+f<=e\/f=0->iQ P f i=iQ Q f i
 |0,_=>λ_=>rfl
 |f+1,i=>λhf=>by
  rw[iQ,iQ,h i (by omega),B6 P Q e h f (i+1) (by omega)]
theorem FJ(l:List Tk)(e i:Nat):blanks (l.take e) e i=blanks l e i:=B6 _ _ e (λj hj=>by rw[tH l hj]) _ _ (by omega)
theorem wX(l:List Tk)(e i:Nat):fZ (l.take e) e i=fZ l e i:=B6 _ _ e (λj hj=>by rw[tH l hj]) _ _ (by omega)
theorem zO(l:List Tk)(e:Nat):∀(i m:Nat),i<=e->back (l.take e) i m=back l i m
 |0,_=>λ_=>rfl
 |i+1,m=>λh=>by rw[back,back,tH l (by omega),zO l e i m (by omega)]
theorem Oc(l:List Tk)(e:Nat):∀(f j n:Nat),pZ (l.take e) e f j n=pZ l e f j n
 |0,_,_=>rfl
 |f+1,j,n=>by rw[pZ,pZ,BH,Oc l e f]
theorem I6(l:List Tk){e i:Nat}(h:i<=e):balanced (l.take e) e i=balanced l e i:=by
 unfold balanced;rw[Oc];cases pZ l e (e-i) i 0 with
 |some j=>rfl
 |none=>
  have hg:iQ (λj=>kd (l.take e) e j !=0) (e-i) i=iQ (λj=>kd l e j !=0) (e-i) i:=B6 _ _ e (λj _=>by rw[BH]) _ _ (by omega);have:=mi (λj=>kd l e j !=0) (e-i) i;dsimp only;rw[hg,zO l e _ _ (by omega)]
theorem Wi(l:List Tk)(e i:Nat):text (l.take e) e i=text l e i:=by
 unfold text;have hg:iQ (λj=>!cnt (raw (l.take e) j)&&raw (l.take e) j !=1) (e-(i+1)) (i+1)=iQ (λj=>!cnt (raw l j)&&raw l j !=1) (e-(i+1)) (i+1):=B6 _ _ e (λj hj=>by rw[tH l hj]) _ _ (by omega);dsimp only;rw[hg];obtain⟨j,hj⟩:=fq (iQ (λj=>!cnt (raw l j)&&raw l j !=1) (e-(i+1)) (i+1));rw[hj];by_cases h:e<=j+1
 ·rw[eY (by omega),eY (by omega)]
 rw[tH l (show j<e by omega),tH l (show j+1<e by omega)];have:iQ (λj=>raw (l.take e) j==19) (e-(j+1)) (j+1)=iQ (λj=>raw l j==19) (e-(j+1)) (j+1):=B6 _ _ e (λj hj=>by rw[tH l hj]) _ _ (by omega);rw[this]
theorem FK(l:List Tk)(e:Nat):∀(f j n:Nat),iX (l.take e) e f j n=iX l e f j n
 |0,_,_=>rfl
 |f+1,j,n=>by rw[iX,iX,BH,FK l e f]
theorem Tp(l:List Tk){e i:Nat}(h:i<=e):jY (l.take e) e i=jY l e i:=by
 unfold jY;rw[FK,zO l e _ _ ((uT l e (e-i) i 0).2 h)]
theorem JQ(l:List Tk)(e:Nat):∀(f i:Nat),props (l.take e) e f i=props l e f i
 |0,_=>rfl
 |f+1,i=>by rw[props,props,BH,wX,JQ l e f]
theorem US(l:List Tk)(e i:Nat):key (l.take e) e i=key l e i:=by
 unfold key;dsimp only;rw[JQ,BH,wX,BH]
theorem Od(l:List Tk)(e:Nat):∀(f:Nat)(o:Option (Nat×Nat))(i:Nat),lead (l.take e) e f o i=lead l e f o i
 |0,_,_=>rfl
 |f+1,o,i=>by rw[lead,lead,BH,FJ,Od l e f]
theorem E8(l:List Tk){e:Nat}(s:St)(up:Int){f t:Nat}(code:Nat)(hf:f<t)(ht:t<=e):err (l.take e) s up f t code=err l s up f t code:=by
 unfold err;rw[UQ l (by omega),UR l (by omega)]
theorem Wj(l:List Tk){e:Nat}(s:St)(c:Int){j q:Nat}(hq:q<=e):pair (l.take e) s c j q=pair l s c j q:=by
 unfold pair;dsimp only;by_cases h:q-j<2
 ·rw[eY h,eY h]
 rw[eX h,eX h,zO l e _ _ (by omega)];have hany:(List.range (q-j)).any (λx=>raw (l.take e) (j+x)==13)=(List.range (q-j)).any (λx=>raw l (j+x)==13):=by
  rw[nP,Rk,Rk];constructor
  ·rintro⟨x,hx,hp⟩;have:=Hq.1 hx;exact⟨x,hx,by rw[<-tH l (e:=e) (by omega)];exact hp⟩
  rintro⟨x,hx,hp⟩;have:=Hq.1 hx;exact⟨x,hx,by rw[tH l (by omega)];exact hp⟩
 rw[hany]
def VT(e:Nat)(v' v:Int->Nat->St->Int×Nat×St):Prop:=∀up p s,p<=e->v' up p s=v up p s/\(v up p s).2.1<=e
theorem UT(l:List Tk)(e:Nat)(aa fG:Option (Int->Nat->St->Nat×St))(h:(aa=none/\fG=none)\/∃k' k,aa=some k'/\fG=some k/\∀c op s,op<e->k' c op s=k c op s/\(k c op s).1<=e):
 VT e (pV (l.take e) e aa) (pV l e fG):=by
 intro up p s hp;have hb:=j6 (l:=l) hp;unfold pV;dsimp only;rw[FJ];obtain⟨i0,hi0⟩:=fq (blanks l e p);rw[hi0]at hb⊢;rw[Od];have hl:=uJ l e i0 (e-i0) none i0 (fB _) (by omega) (λa z h=>by simp at h);obtain⟨o,ho⟩:=fq ((lead l e (e-i0) none i0).1);obtain⟨i,hi⟩:=fq ((lead l e (e-i0) none i0).2);rw[ho,hi]at hl⊢;obtain⟨l1,l2,l3,_⟩:=hl;rw[BH];obtain⟨k,hk⟩:=fq (kd l e i);have kin:k≠0->i<e:=λh=>(jc (l:=l) (e:=e) (i:=i) (by omega)).1
 obtain⟨fr,hfr⟩:=fq (kL o i);have af:fr<=i:=by
  rw[<-hfr];cases o with
  |none=>exact fB _
  |some x=>obtain⟨a,z⟩:=x;have:=l3 a z rfl;show a<=i;omega
 rw[hk,hfr];by_cases c1:k=13
 ·rw[eY c1,eY c1];exact⟨rfl,by have:=kin (by omega);show i+1<=e;omega⟩
 rw[eX c1,eX c1];by_cases c2:ig k=true
 ·rw[eY c2,eY c2];exact⟨rfl,by have:=kin (λh=>by rw[h]at c2;exact absurd c2 (by decide));show i+1<=e;omega⟩
 rw[eX c2,eX c2];by_cases c3:k=18
 ·rw[eY c3,eY c3,Wi];exact⟨rfl,(y8 (l:=l) (e:=e) (i:=i) (by omega)).2.1⟩
 rw[eX c3,eX c3];by_cases c4:opens k=true
 ·rw[eY c4,eY c4];have hie:=kin (λh=>by rw[h]at c4;exact absurd c4 (by decide));rcases h with⟨rfl,rfl⟩|⟨k',k2,rfl,rfl,ae⟩
  ·have hbl:=kV (l:=l) (e:=e) (i:=i) (by rw[hk];exact c4);dsimp only;rw[I6 l (by omega),E8 l s up 10 (by omega) hbl.2.1];exact⟨rfl,hbl.2.1⟩
  dsimp only;obtain⟨g1,g2⟩:=ae (add s up (if k=9 then 10 else 9) fr (i+1)).2 i (add s up (if k=9 then 10 else 9) fr (i+1)).1 hie;rw[g1];exact⟨rfl,g2⟩
 rw[eX c4,eX c4];cases o with
 |none=>exact⟨rfl,hp⟩
 |some x=>obtain⟨a,z⟩:=x;have:=l3 a z rfl;exact⟨rfl,by show z+1<=e;omega⟩
theorem Wk(l:List Tk)(e:Nat)(v' v:Int->Nat->St->Int×Nat×St)(hv:VT e v' v)(aa:Bool)(c:Int){j:Nat}(s:St)(hj:j<=e):
 item (l.take e) e v' aa c j s=item l e v aa c j s/\(item l e v aa c j s).1<=e:=by
 unfold item;dsimp only;rw[US];by_cases h:0<key l e j
 ·obtain⟨_,k2,_⟩:=pF hj h;have ht:=iY (l:=l) (e:=e) (i:=key l e j) k2;rw[eY h,eY h,wX,BH,Wj l s c k2];split
  ·exact⟨rfl,k2⟩
  obtain⟨g1,g2⟩:=hv (pair l s c j (key l e j)).2 (fZ l e (key l e j)) (pair l s c j (key l e j)).1 ht.2;rw[g1];split
  ·exact⟨rfl,k2⟩
  exact⟨rfl,g2⟩
 rw[eX h,eX h];cases aa with
 |true=>
  rw[eY rfl,eY rfl];obtain⟨g1,g2⟩:=hv (add s c 6 j (j+1)).2 j ⟨keyed (add s c 6 j (j+1)).1.t (add s c 6 j (j+1)).2,(add s c 6 j (j+1)).1.d⟩ hj;rw[g1];exact⟨rfl,g2⟩
 |false=>
  rw[eX (by decide),eX (by decide)];obtain⟨g1,g2⟩:=hv c j s hj;rw[g1];exact⟨rfl,g2⟩
theorem UU(l:List Tk)(e:Nat)(v' v:Int->Nat->St->Int×Nat×St)(hv:VT e v' v)(c:Int){op:Nat}(hop:op<e):∀(g p:Nat)(hd:Bool)(s:St),p<=e->
 lU (l.take e) e v' c op g p hd s=lU l e v c op g p hd s/\(lU l e v c op g p hd s).1<=e
 |0,p,hd,s=>λhp=>⟨rfl,hp⟩
 |g+1,p,hd,s=>λhp=>by
  have ht:=iY (l:=l) (e:=e) (i:=p) hp;rw[lU,lU,wX];obtain⟨j,hj⟩:=fq (fZ l e p);rw[hj]at ht⊢;rw[BH];obtain⟨k,hk⟩:=fq (kd l e j);rw[hk];by_cases k0:k=0
  ·rw[eY k0,eY k0,zO l e p _ hp,UQ l hop,UR l hop];exact⟨rfl,jU (iV l p (op+1)) hp⟩
  rw[eX k0,eX k0,tH l hop];have aa:=(jc (l:=l) (e:=e) (i:=j) (by omega)).1;have on:∀(p':Nat)(h':Bool)(s1:St),p'<=e->lU (l.take e) e v' c op g p' h' s1=lU l e v c op g p' h' s1/\(lU l e v c op g p' h' s1).1<=e:=λp' h' s1 h1=>UU l e v' v hv c hop g p' h' s1 h1
  by_cases k1:k=(if raw l op=9 then 11 else 10)
  ·rw[eY k1,eY k1];exact⟨rfl,by show j+1<=e;omega⟩
  rw[eX k1,eX k1];by_cases k2:ends k=true
  ·rw[eY k2,eY k2,E8 l s c 8 (by omega) (by omega)];exact on _ _ _ (by omega)
  rw[eX k2,eX k2];by_cases k3:k=7
  ·rw[eY k3,eY k3,E8 l s c 8 (by omega) (by omega)];split
   ·exact on _ _ _ (by omega)
   exact on _ _ _ (by omega)
  rw[eX k3,eX k3];have hcj:cnt (raw l j)=true:=by
   have hnt:j=e\/(λj=>!cnt (raw l j)) j=false:=by
    have:=ku (λj=>!cnt (raw l j)) (e-p) p;unfold fZ at hj;rw[hj]at this;rcases this with h|h
    ·exact .inl (by omega)
    exact .inr h
   rcases hnt with h|h
   ·omega
   simpa using h
  by_cases k4:hd=true
  ·obtain⟨t1,t2,_⟩:=qR (l:=l) (e:=e) (j:=j) (by omega) hcj (by omega) (by rw[hk];simpa using k2);rw[eY k4,eY k4,Tp l (by omega),E8 l s c 8 t1 t2];exact on _ _ _ t2
  rw[eX k4,eX k4,US];by_cases k5:0<key l e j\/begins k=true
  ·rw[eY k5,eY k5];obtain⟨g1,g2⟩:=Wk l e v' v hv (raw l op==9) c s (show j<=e by omega);rw[g1];exact on _ _ _ g2
  rw[eX k5,eX k5,E8 l s c 8 (by omega) (by omega)];exact on _ _ _ (by omega)
theorem Oe(l:List Tk)(e:Nat):∀d:Nat,VT e (jd (l.take e) e d) (jd l e d)
 |0=>UT l e none none (.inl ⟨rfl,rfl⟩)
 |d+1=>UT l e _ _ (.inr ⟨_,_,rfl,rfl,λc op s h=>UU l e _ _ (Oe l e d) c h (e-op) (op+1) false s (by omega)⟩)
theorem Pt(l:List Tk)(e d p:Nat)(up:Int)(s:St)(hp:p<=e):jd (l.take e) e d up p s=jd l e d up p s:=(Oe l e d up p s hp).1
end Ft
namespace Ft
open Ar Fl
def pre(d0:List Dg)(s:St):St:=⟨s.t,d0++s.d⟩
theorem JR(d0:List Dg)(s:St)(up:Int)(k f t:Nat):add (pre d0 s) up k f t=(pre d0 (add s up k f t).1,(add s up k f t).2):=rfl
theorem wP(d0:List Dg)(l:List Tk)(s:St)(up:Int)(f t code:Nat):err l (pre d0 s) up f t code=pre d0 (err l s up f t code):=by
 unfold err pre;dsimp only;rw[nQ]
theorem Pv(d0:List Dg)(l:List Tk)(s:St)(c:Int)(j q:Nat):pair l (pre d0 s) c j q=(pre d0 (pair l s c j q).1,(pair l s c j q).2):=by
 unfold pair;dsimp only;split
 ·rfl
 rfl
def VP(v:Int->Nat->St->Int×Nat×St):Prop:=∀d0 up p s,v up p (pre d0 s)=((v up p s).1,(v up p s).2.1,pre d0 (v up p s).2.2)
theorem JS(l:List Tk)(e:Nat)(fG:Option (Int->Nat->St->Nat×St))(h:∀k,fG=some k->∀d0 c op s,k c op (pre d0 s)=((k c op s).1,pre d0 (k c op s).2)):VP (pV l e fG):=by
 intro d0 up p s;unfold pV;dsimp only;obtain⟨o,ho⟩:=fq ((lead l e (e-blanks l e p) none (blanks l e p)).1);obtain⟨i,hi⟩:=fq ((lead l e (e-blanks l e p) none (blanks l e p)).2);rw[ho,hi];obtain⟨k,hk⟩:=fq (kd l e i);rw[hk];by_cases c1:k=13
 ·rw[eY c1,eY c1];rfl
 rw[eX c1,eX c1];by_cases c2:ig k=true
 ·rw[eY c2,eY c2];rfl
 rw[eX c2,eX c2];by_cases c3:k=18
 ·rw[eY c3,eY c3];rfl
 rw[eX c3,eX c3];by_cases c4:opens k=true
 ·rw[eY c4,eY c4];cases aa:fG with
  |none=>
   dsimp only;rw[wP];rfl
  |some q=>
   dsimp only;rw[JR];dsimp only;rw[h q aa]
 rw[eX c4,eX c4];cases o with
 |none=>rfl
 |some x=>rfl
theorem Pw(l:List Tk)(e:Nat)(v:Int->Nat->St->Int×Nat×St)(hv:VP v)(aa:Bool)(d0:List Dg)(c:Int)(j:Nat)(s:St):
 item l e v aa c j (pre d0 s)=((item l e v aa c j s).1,pre d0 (item l e v aa c j s).2):=by
 unfold item;dsimp only;by_cases h:0<key l e j
 ·rw[eY h,eY h,Pv];dsimp only;by_cases h2:kd l e (fZ l e (key l e j))=0\/kd l e (fZ l e (key l e j))=7\/ends (kd l e (fZ l e (key l e j)))=true
  ·rw[eY h2,eY h2]
  rw[eX h2,eX h2,hv];dsimp only;by_cases h3:(v (pair l s c j (key l e j)).2 (fZ l e (key l e j)) (pair l s c j (key l e j)).1).1<0
  ·rw[eY h3,eY h3]
  rw[eX h3,eX h3]
 rw[eX h,eX h];cases aa with
 |true=>
  rw[eY rfl,eY rfl,JR];dsimp only;have:(⟨keyed (pre d0 (add s c 6 j (j+1)).1).t (add s c 6 j (j+1)).2,(pre d0 (add s c 6 j (j+1)).1).d⟩:St)=pre d0 ⟨keyed (add s c 6 j (j+1)).1.t (add s c 6 j (j+1)).2,(add s c 6 j (j+1)).1.d⟩:=rfl;rw[this,hv]
 |false=>
  rw[eX (by decide),eX (by decide),hv]
theorem rW(l:List Tk)(e:Nat)(v:Int->Nat->St->Int×Nat×St)(hv:VP v)(d0:List Dg)(c:Int)(op:Nat):∀(g p:Nat)(hd:Bool)(s:St),
 lU l e v c op g p hd (pre d0 s)=((lU l e v c op g p hd s).1,pre d0 (lU l e v c op g p hd s).2)
 |0,p,hd,s=>rfl
 |g+1,p,hd,s=>by
  rw[lU,lU];obtain⟨j,hj⟩:=fq (fZ l e p);rw[hj];obtain⟨k,hk⟩:=fq (kd l e j);rw[hk];by_cases k0:k=0
  ·rw[eY k0,eY k0];unfold pre;dsimp only;rw[nQ]
  rw[eX k0,eX k0];by_cases k1:k=(if raw l op=9 then 11 else 10)
  ·rw[eY k1,eY k1];rfl
  rw[eX k1,eX k1];by_cases k2:ends k=true
  ·rw[eY k2,eY k2,wP];exact rW l e v hv d0 c op g _ _ _
  rw[eX k2,eX k2];by_cases k3:k=7
  ·rw[eY k3,eY k3];by_cases k4:hd=true
   ·rw[eY k4,eY k4];exact rW l e v hv d0 c op g _ _ ⟨jg s.t c ((j+1:Nat):Int),s.d⟩
   rw[eX k4,eX k4,wP];exact rW l e v hv d0 c op g _ _ _
  rw[eX k3,eX k3];by_cases k4:hd=true
  ·rw[eY k4,eY k4,wP];exact rW l e v hv d0 c op g _ _ _
  rw[eX k4,eX k4];by_cases k5:0<key l e j\/begins k=true
  ·rw[eY k5,eY k5,Pw l e v hv];exact rW l e v hv d0 c op g _ _ _
  rw[eX k5,eX k5,wP];exact rW l e v hv d0 c op g _ _ _
theorem FL(l:List Tk)(e:Nat):∀d:Nat,VP (jd l e d)
 |0=>JS l e none (λk h=>by cases h)
 |d+1=>JS l e _ (λk h d0 c op s=>by
  injection h with h
  subst h
  exact rW l e _ (FL l e d) d0 c op (e-op) (op+1) false s)
theorem Px(l:List Tk)(e d p:Nat)(up:Int)(s:St):jd l e d up p s=((jd l e d up p ⟨s.t,[]⟩).1,(jd l e d up p ⟨s.t,[]⟩).2.1,⟨(jd l e d up p ⟨s.t,[]⟩).2.2.t,s.d++(jd l e d up p ⟨s.t,[]⟩).2.2.d⟩):=by
 have:=FL l e d s.d up p ⟨s.t,[]⟩;unfold pre at this;rw[mP]at this;exact this
end Ft
namespace Fl
open Ar
def zP(l:List Tk):Prop:=∀i j,raw l i=18->i<j->(∀m,i<m->m<j->raw l m=3\/raw l m=4)->raw l j≠2/\raw l j≠19
theorem FM(p q:Nat->Bool):∀(f i:Nat),(∀k,i<=k->k<=iQ q f i->k<i+f->p k=q k)->iQ p f i=iQ q f i
 |0,_=>λ_=>rfl
 |f+1,i=>λh=>by
  have hge:=lD q f (i+1);have h0:p i=q i:=h i (fB _) (by rw[iQ];split<;>omega) (by omega);rw[iQ,iQ,h0];by_cases hq:q i=true
  ·rw[eY hq,eY hq];exact FM p q f (i+1) (λk h1 h2 h3=>h k (by omega) (by rw[iQ,eY hq];exact h2) (by omega))
  rw[eX hq,eX hq]
theorem l7(p:Nat->Bool):∀(f i k:Nat),i<=k->k<iQ p f i->p k=true
 |0,i,k=>λh1 h2=>by rw[iQ]at h2;omega
 |f+1,i,k=>λh1 h2=>by
  rw[iQ]at h2;split at h2
  ·rename_i hp;by_cases e:k=i
   ·rw[e];exact hp
   exact l7 p f (i+1) k (by omega) h2
  omega
def E9(l:List Tk)(i:Nat):Nat:=
 let f:=iQ (λj=>raw l j==3||raw l j==4) (l.length-(i+1)) (i+1)
 let f2:=if kx l f=1 then f+1 else f
 let t:=iQ (λj=>raw l j==19) (l.length-f2) f2
 if f2<t then t else i+1
theorem Py{l:List Tk}{i:Nat}(hi:i<l.length)(hk:raw l i=18)(hok:zP l):E9 l i=text l l.length i:=by
 unfold E9 text;dsimp only;obtain⟨N,hN⟩:=fq (l.length);obtain⟨f,hf⟩:=fq (iQ (λj=>raw l j==3||raw l j==4) (N-(i+1)) (i+1));have f1:=lD (λj=>raw l j==3||raw l j==4) (N-(i+1)) (i+1);have f2:=mi (λj=>raw l j==3||raw l j==4) (N-(i+1)) (i+1);have f3:=l7 (λj=>raw l j==3||raw l j==4) (N-(i+1)) (i+1);have f4:=ku (λj=>raw l j==3||raw l j==4) (N-(i+1)) (i+1);rw[hf]at f1 f2 f3 f4;rw[hN]at hi⊢;have hmid:∀m,i<m->m<f->raw l m=3\/raw l m=4:=λm h1 h2=>by simpa using f3 m (by omega) h2
 obtain⟨n2,n19⟩:=hok i f hk (by omega) hmid;have hj:iQ (λj=>!cnt (raw l j)&&raw l j !=1) (N-(i+1)) (i+1)=f:=by
  rw[<-hf];refine FM _ _ _ _ (λk h1 h2 h3=>?_);rw[hf]at h2;by_cases e:k=f
  ·subst e;have aa:(raw l k==3||raw l k==4)=false:=by
    rcases f4 with h|h
    ·omega
    exact h
   rw[aa];simp at aa;simp[cnt];omega
  rcases hmid k (by omega) (by omega)with h|h<;>rw[h]<;>rfl
 rw[hf,hj];have hkx:kx l f=if f<N then raw l f else 21:=by unfold kx;rw[hN]
 have stay:∀a,raw l a≠19->iQ (λj=>raw l j==19) (N-a) a=a:=by
  intro a ha;cases hn:N-a with
  |zero=>rfl
  |succ n=>rw[iQ,eX (by simpa using ha)]
 obtain⟨g,hg⟩:=fq ((if kx l f=1 then f+1 else f));rw[hg];by_cases c1:N<=f
 ·have e1:kx l f≠1:=by rw[hkx,eX (by omega)];decide
  rw[eX e1]at hg;subst hg;rw[stay f n19,eX (sO _),eY (.inl c1)]
 by_cases c2:raw l f=1
 ·rw[eY (by rw[hkx,eY (by omega)];exact c2)]at hg;subst hg;by_cases c3:N<=f+1
  ·rw[show N-(f+1)=0 by omega,iQ,eX (sO _),eY (.inr (.inr (.inl c3)))]
  by_cases c4:raw l (f+1)=19
  ·have h9:¬(N<=f\/raw l f≠1\/N<=f+1\/raw l (f+1)≠19):=λh=>h.elim c1 (λh=>h.elim (λh=>h c2) (λh=>h.elim c3 (λh=>h c4)))
   rw[eX h9];have:f+1<iQ (λj=>raw l j==19) (N-(f+1)) (f+1):=by
    rw[show N-(f+1)=(N-(f+1)-1)+1 by omega,iQ,eY (by simpa using c4)];have:=lD (λj=>raw l j==19) (N-(f+1)-1) (f+1+1);omega
   rw[eY this]
  rw[stay (f+1) c4,eX (sO _),eY (.inr (.inr (.inr c4)))]
 have e1:kx l f≠1:=by rw[hkx,eY (by omega)];exact c2
 rw[eX e1]at hg;subst hg;rw[stay f n19,eX (sO _),eY (.inr (.inl c2))]
def vC(l:List Tk)(i j n:Nat):Nat:=match pZ l l.length (l.length-j) j n with
 |some r=>r
 |none=>back l (iQ (λj=>kd l l.length j !=0) (l.length-j) j) (i+1)
theorem LC(l:List Tk)(i:Nat):vC l i i 0=balanced l l.length i:=rfl
theorem Pz{l:List Tk}{i j n:Nat}(hk:kd l l.length j=0):vC l i j n=back l j (i+1):=by
 unfold vC;cases hf:l.length-j with
 |zero=>rw[pZ,iQ]
 |succ f=>
  rw[pZ,eY hk];dsimp only;rw[iQ,eX (by simp[hk])]
theorem PD{l:List Tk}{i j n:Nat}(hk:kd l l.length j≠0):vC l i j n=if step (kd l l.length j) n=0 then j+1 else vC l i (j+1) (step (kd l l.length j) n):=by
 have hj:=(jc hk).1;unfold vC;have hg:iQ (λj=>kd l l.length j !=0) (l.length-j) j=iQ (λj=>kd l l.length j !=0) (l.length-(j+1)) (j+1):=by
  rw[nD _ _ _ hj,eY (by simpa using hk)]
 rw[hg,show l.length-j=(l.length-(j+1))+1 by omega,pZ,eX hk];by_cases hs:step (kd l l.length j) n=0
 ·rw[eY hs,eY hs]
 rw[eX hs,eX hs]
theorem Cv(l:List Tk)(e:Nat):∀(f j n r:Nat),(0<n\/opens (kd l e j)=true)->pZ l e f j n=some r->iX l e f j n=iX l e (f-(r-j)) r 0
 |0,j,n,r=>λ_ h=>by simp[pZ]at h
 |f+1,j,n,r=>λho h=>by
  rw[pZ]at h;split at h
  ·simp at h
  rename_i h0;have hc:¬(n=0/\(kd l e j=7\/ends (kd l e j)=true)):=by
   rintro⟨h1,h2⟩;rcases ho with h3|h3
   ·omega
   rcases h2 with h2|h2
   ·rw[h2]at h3;exact absurd h3 (by decide)
   unfold opens at h3;unfold ends at h2;simp at h2 h3;omega
  rw[iX,eX h0,eX hc];split at h
  ·rename_i h1;injection h with h
   subst h;rw[h1,show f+1-(j+1-j)=f by omega]
  rename_i h1;have hr:=(yZ l e f (j+1) _ r h).1;rw[Cv l e f (j+1) _ r (.inl (by omega)) h,show f-(r-(j+1))=f+1-(r-j)by omega]
theorem FN(l:List Tk)(e:Nat):∀(f j n:Nat),(0<n\/opens (kd l e j)=true)->pZ l e f j n=none->iX l e f j n=iQ (λj=>kd l e j !=0) f j
 |0,j,n=>λ_ _=>rfl
 |f+1,j,n=>λho h=>by
  rw[pZ]at h;rw[iX,iQ];by_cases h0:kd l e j=0
  ·rw[eY h0,eX (by simp[h0])]
  rw[eX h0]at h;have hc:¬(n=0/\(kd l e j=7\/ends (kd l e j)=true)):=by
   rintro⟨h1,h2⟩;rcases ho with h3|h3
   ·omega
   rcases h2 with h2|h2
   ·rw[h2]at h3;exact absurd h3 (by decide)
   unfold opens at h3;unfold ends at h2;simp at h2 h3;omega
  rw[eX h0,eX hc,eY (by simpa using h0)];split at h
  ·cases h
  rename_i h1;exact FN l e f (j+1) _ (.inl (by omega)) h
theorem Cw(l:List Tk):∀(i m k:Nat),back l i m<=k->k<i->cnt (raw l k)=false
 |0,m,k=>λ_ h=>by omega
 |i+1,m,k=>λh1 h2=>by
  rw[back]at h1;split at h1
  ·rename_i h3;by_cases e:k=i
   ·rw[e];exact h3.2
   exact Cw l i m k h1 (by omega)
  omega
theorem LD{l:List Tk}{k:Nat}(ho:opens (kd l l.length k)=true):iX l l.length (l.length-balanced l l.length k) (balanced l l.length k) 0=iX l l.length (l.length-k) k 0:=by
 obtain⟨e,he⟩:=fq (l.length);rw[he]at ho⊢;have hb:=kV (l:=l) (e:=e) ho;have hkd:kd l e k≠0:=λh=>by rw[h]at ho;exact absurd ho (by decide)
 have hk:=(jc hkd).1;unfold balanced at hb⊢;cases hr:pZ l e (e-k) k 0 with
 |some r=>
  dsimp only;rw[Cv l e (e-k) k 0 r (.inr ho) hr];have:=yZ l e _ _ _ _ hr;rw[show e-k-(r-k)=e-r by omega]
 |none=>
  rw[hr]at hb;dsimp only at hb⊢;rw[FN l e (e-k) k 0 (.inr ho) hr];obtain⟨g,hg⟩:=fq (iQ (λj=>kd l e j !=0) (e-k) k);have g1:=mi (λj=>kd l e j !=0) (e-k) k;have g2:=l7 (λj=>kd l e j !=0) (e-k) k;have g3:=ku (λj=>kd l e j !=0) (e-k) k;rw[hg]at g1 g2 g3 hb⊢;have h0:kd l e g=0:=by
   rcases g3 with h|h
   ·unfold kd;rw[eY (.inl (by omega))]
   simpa using h
  have hid:=Cw l g (k+1);obtain⟨b,hbd⟩:=fq (back l g (k+1));have hbg:=iV l g (k+1);rw[hbd]at hid hb hbg⊢;have key:∀(f a:Nat),b<=a->a<=g->g<=a+f->iX l e f a 0=g:=by
   intro f
   induction f with
   |zero=>intro a h1 h2 h3;rw[iX];omega
   |succ f ih=>
    intro a h1 h2 h3;by_cases e2:a=g
    ·subst e2;rw[iX,eY h0]
    have ha:kd l e a≠0:=by simpa using g2 a (by omega) (by omega)
    have hc:=hid a h1 (by omega);have hr2:=(jc ha).2;rw[hr2]at hc;have hc2:kd l e a=1\/kd l e a=2\/kd l e a=3\/kd l e a=4:=by unfold cnt at hc;simp at hc;omega
    rw[iX,eX ha,eX (by rintro⟨_,h⟩;rcases hc2 with h4|h4|h4|h4<;>rw[h4]at h<;>rcases h with h|h<;>exact absurd h (by decide))];rw[show step (kd l e a) 0=0 by rcases hc2 with h4|h4|h4|h4<;>rw[h4]<;>rfl];exact ih (a+1) (by omega) (by omega) (by omega)
  exact key (e-b) b (fB _) hbg (by omega)
theorem I7{l:List Tk}{k:Nat}(h:kd l l.length k=0\/kd l l.length k=7\/ends (kd l l.length k)=true):iX l l.length (l.length-k) k 0=k:=by
 cases hf:l.length-k with
 |zero=>rfl
 |succ f=>
  rw[iX];rcases h with h|h
  ·rw[eY h]
  by_cases h0:kd l l.length k=0
  ·rw[eY h0]
  rw[eX h0,eY ⟨rfl,h⟩]
theorem PE{l:List Tk}{k:Nat}(h0:kd l l.length k≠0)(h7:kd l l.length k≠7)(he:ends (kd l l.length k)=false)(ho:opens (kd l l.length k)=false):
 iX l l.length (l.length-(k+1)) (k+1) 0=iX l l.length (l.length-k) k 0:=by
 have hk:=(jc h0).1
 conv=>rhs;rw[show l.length-k=(l.length-(k+1))+1 by omega,iX,eX h0,eX (by rw[he];simp[h7])]
 rw[show step (kd l l.length k) 0=0 by unfold step;rw[ho,he];rfl]
theorem A8(l:List Tk)(e:Nat):∀(f g i:Nat),e<=i+f->e<=i+g->props l e f i=props l e g i
 |0,0,i=>λ_ _=>rfl
 |0,g+1,i=>λh _=>by
  rw[props,props,eX];have:kd l e i=0:=by unfold kd;rw[eY (.inl (by omega))]
  rw[this];decide
 |f+1,0,i=>λ_ h=>by
  rw[props,props,eX];have:kd l e i=0:=by unfold kd;rw[eY (.inl (by omega))]
  rw[this];decide
 |f+1,g+1,i=>λh1 h2=>by
  rw[props,props];by_cases hp:gW (kd l e i)=true
  ·rw[eY hp,eY hp];have h0:kd l e i≠0:=λh=>by rw[h]at hp;exact absurd hp (by decide)
   have:=iY (l:=l) (e:=e) (i:=i+1) (jc h0).1;exact A8 l e f g _ (by omega) (by omega)
  rw[eX hp,eX hp]
def mH(l:List Tk)(i:Nat):Int:=(key l l.length i:Int)-1
theorem I8{l:List Tk}{i:Nat}(hp:gW (kd l l.length i)=true):mH l i=mH l (fZ l l.length (i+1)):=by
 have h0:kd l l.length i≠0:=λh=>by rw[h]at hp;exact absurd hp (by decide)
 have hi:=(jc h0).1;have ht:=iY (l:=l) (e:=l.length) (i:=i+1) hi;unfold mH key;rw[show l.length-i=(l.length-(i+1))+1 by omega,props,eY hp,A8 l l.length (l.length-(i+1)) (l.length-fZ l l.length (i+1)) _ (by omega) (by omega)]
theorem I9{l:List Tk}{i:Nat}(hp:gW (kd l l.length i)=false)(hs:ig (kd l l.length i)=true):mH l i=if kd l l.length (fZ l l.length (i+1))=6 then(fZ l l.length (i+1):Int)else -1:=by
 have hq:props l l.length (l.length-i) i=i:=by
  cases hf:l.length-i with
  |zero=>rfl
  |succ f=>rw[props,eX (by simp[hp])]
 unfold mH key;dsimp only;have hb:(if ig (kd l l.length i)=true then fZ l l.length (i+1)else i)=fZ l l.length (i+1):=eY hs;rw[hq,hb];by_cases h6:kd l l.length (fZ l l.length (i+1))=6
 ·rw[eY h6,eY h6];omega
 rw[eX h6,eX h6];rfl
theorem GN{l:List Tk}{i:Nat}(hp:gW (kd l l.length i)=false)(hs:ig (kd l l.length i)=false):mH l i=if kd l l.length i=6 then(i:Int)else -1:=by
 have hq:props l l.length (l.length-i) i=i:=by
  cases hf:l.length-i with
  |zero=>rfl
  |succ f=>rw[props,eX (by simp[hp])]
 have hb:(if ig (kd l l.length i)=true then fZ l l.length (i+1)else i)=i:=eX (by simp[hs]);unfold mH key;dsimp only;rw[hq,hb];by_cases h6:kd l l.length i=6
 ·rw[eY h6,eY h6];omega
 rw[eX h6,eX h6];rfl
end Fl
section
open Go.RowKit
open Sq
open Ar
def encI:mr Int:=⟨λx=>[.int .i64 x],1,by decide,λ_=>rfl,λx u hu=>by
 cases hu with
 |head=>rfl
 |tail _ hu=>cases hu⟩
theorem Ra:Ty prog encI 22 3 8:=Ty.of (z:=.int .i64 0) underlying22 (by kernel_rfl) (by kernel_rfl) rfl (λw=>by kernel_rfl)
structure Ln where
 nd:Nd
 a:Option Addr
 n:Nat
 c:Nat
abbrev Ln.val(p:Ln):Value:=.slice p.a p.n p.c
def lN(p:Ln):List Value:=[.int .i64 p.nd.k,.int .i64 p.nd.f,.int .i64 p.nd.t,.int .i64 p.nd.u,p.val,.bool p.nd.y]
def gP:mr Ln:=⟨lN,6,by decide,λ_=>rfl,λx u hu=>by
 cases hu with
 |head=>rfl
 |tail _ hu=>cases hu with
  |head=>rfl
  |tail _ hu=>cases hu with
   |head=>rfl
   |tail _ hu=>cases hu with
    |head=>rfl
    |tail _ hu=>cases hu with
     |head=>rfl
     |tail _ hu=>cases hu with
      |head=>rfl
      |tail _ hu=>cases hu⟩
theorem Hl:Ty prog gP 29 38 64:=Ty.of (z:=.agg #[.int .i64 0,.int .i64 0,.int .i64 0,.int .i64 0,.slice none 0 0,.bool false]) underlying29 (by kernel_rfl) (by kernel_rfl) rfl (λw=>by kernel_rfl)
def iM(w:World)(v:Value)(l:List Nd):Prop:=∃L:List Ln,L.map Ln.nd=l/\Reads gP w v L/\∀p∈L,Reads encI w p.val p.nd.ks
section
variable {w w':World}{v:Value}{l:List Nd}
theorem iM.below(h:iM w v l)(hb:Below w.heap.size w w'):iM w' v l:=by
 obtain⟨L,h1,h2,h3⟩:=h;exact⟨L,h1,h2.below hb,λp hp=>(h3 p hp).below hb⟩
theorem iM.shape(h:iM w v l):∃a cap,v=.slice a l.length cap:=by
 obtain⟨L,h1,h2,_⟩:=h;obtain⟨a,cap,e⟩:=h2.shape;exact⟨a,cap,by rw[e,<-h1,jD]⟩
theorem JU{p:Ln}(h:Reads encI w p.val p.nd.ks):p.n=p.nd.ks.length:=by
 obtain⟨a,cap,e⟩:=h.shape;injection e
theorem iM.at_{a:Option Addr}{cap:Nat}(h:iM w (.slice a l.length cap) l)(j:Nat)(x:Nd)(hj:l[j]?=some x):
 ∃b off ka kc,a=some ⟨b,off,none⟩/\w.cell? ⟨b,off+j*6,none⟩=some (.int .i64 x.k)/\w.cell? ⟨b,off+j*6+1,none⟩=some (.int .i64 x.f)/\w.cell? ⟨b,off+j*6+2,none⟩=some (.int .i64 x.t)/\w.cell? ⟨b,off+j*6+3,none⟩=some (.int .i64 x.u)/\
  w.cell? ⟨b,off+j*6+4,none⟩=some (.slice ka x.ks.length kc)/\w.cell? ⟨b,off+j*6+5,none⟩=some (.bool x.y)/\Reads encI w (.slice ka x.ks.length kc) x.ks:=by
 obtain⟨L,h1,h2,h3⟩:=h;have hlen:L.length=l.length:=by rw[<-h1,jD]
 rw[<-hlen]at h2;rw[<-h1,lS]at hj;cases hp:L[j]? with
 |none=>rw[hp]at hj;cases hj
 |some p=>
  rw[hp]at hj;injection hj with hj
  subst hj;obtain⟨b,off,e,hc⟩:=h2.at_ j p hp;have hk:=h3 p (iK hp);have hn:=JU hk;refine⟨b,off,p.a,p.c,e,hc 0 _ rfl,hc 1 _ rfl,hc 2 _ rfl,hc 3 _ rfl,?_,hc 5 _ rfl,?_⟩
  ·rw[<-hn];exact hc 4 _ rfl
  rw[<-hn];exact hk
theorem D8{a:Option Addr}{cap:Nat}{l:List Int}(h:Reads encI w (.slice a l.length cap) l)(j:Nat)(x:Int)(hj:l[j]?=some x):
 ∃b off,a=some ⟨b,off,none⟩/\w.cell? ⟨b,off+j,none⟩=some (.int .i64 x):=by
 obtain⟨b,off,h1,h2⟩:=h.at_ j x hj;have:=h2 0 _ rfl;exact⟨b,off,h1,by rw[show off+j=off+j*encI.k+0 by show off+j=off+j*1+0;omega];exact this⟩
end
theorem JV{α:Type}(E:mr α):∀(L:List α)(i j:Nat)(x x':α)(u:Value),L[i]?=some x->E.cells x'=(E.cells x).set j u->j<E.k->E.all (L.set i x')=(E.all L).set (i*E.k+j) u
 |[],i,j,x,x',u=>λh=>by simp at h
 |y::r,0,j,x,x',u=>λh hc hj=>by
  obtain rfl:y=x:=by simpa using h
  rw[fP,mr.all,mr.all,hc,KO,kU,RA _ _ (by rw[E.len];exact hj)]
 |y::r,i+1,j,x,x',u=>λh hc hj=>by
  rw[fO,mr.all,mr.all,JV E r i j x x' u (by simpa using h) hc hj,Ht _ _ (by rw[E.len,xL];omega),E.len];congr 2;rw[xL];omega
theorem rX{α:Type}{E:mr α}{w:World}{B e g n cap:Nat}{L:List α}(h:w.ownsRow B e E.k (.slice (some ⟨g,0,none⟩) n cap) L.length (E.all L))(i j:Nat)(x x':α)(u:Value)(hx:L[i]?=some x)(hc:E.cells x'=(E.cells x).set j u)(hj:j<E.k):
 (w.setCell ⟨g,i*E.k+j,none⟩ u).ownsRow B e E.k (.slice (some ⟨g,0,none⟩) n cap) (L.set i x').length (E.all (L.set i x')):=by
 have hi:=(gD.1 hx).1;obtain⟨h1,h2⟩:=h;rcases h2 with⟨h2,_⟩|⟨g',cap',cur,hv,hg,hh,hn,hcp,hcs,ht⟩
 ·cases h2
 obtain⟨e1,e2,e3⟩:=ll hv;injection e1 with e1
 injection e1 with e1
 subst e1 e3;refine⟨by rw[kX],.inr ⟨g,cap,cur.setIfInBounds (i*E.k+j) u,by rw[lT,<-e2],hg,qb hh u,by rw[lT];exact hn,hcp,by simpa using hcs,?_⟩⟩;rw[lT,JV E L i j x x' u hx hc hj,<-ht,Array.toList_setIfInBounds,List.take_set]
theorem jM{α:Type}{E:mr α}{w:World}{B e:Nat}{v:Value}{L:List α}(h:w.ownsRow B e E.k v L.length (E.all L))(h0:0<L.length):
 ∃g cap,v=.slice (some ⟨g,0,none⟩) L.length cap/\B<=g/\(∀o,w.frozen? ⟨g,o,none⟩=false)/\L.length<=cap/\cap<=maxLen:=by
 rcases h.2 with⟨_,h2⟩|⟨g,cap,cur,hv,hg,hh,hn,hcp,hcs,ht⟩
 ·omega
 exact⟨g,cap,hv,hg,λo=>nH hh o,hn,hcp⟩
theorem fH{w:World}{B B' e e' s s' n n':Nat}{v v':Value}{xs xs':List Value}(h:w.ownsRow B e s v n xs)(h':w.ownsRow B' e' s' v' n' xs')(hne:e≠e')(g:Nat)(hg:v.ownBlock=some g):v'.ownBlock≠some g:=λhg'=>by
 rcases h.2 with⟨h1,_⟩|⟨b,cap,cur,hv,_,hh,_⟩
 ·rw[h1]at hg;cases hg
 rcases h'.2 with⟨h1,_⟩|⟨b',cap',cur',hv',_,hh',_⟩
 ·rw[h1]at hg';cases hg'
 rw[hv]at hg;rw[hv']at hg';obtain rfl:b=g:=by simpa [Value.ownBlock]using hg
 obtain rfl:b'=b:=by simpa [Value.ownBlock]using hg'
 rw[hh]at hh';injection hh' with hh'
 injection hh' with _ h3
 exact hne h3
structure OT(w:World)(B:Nat)(v:Value)(L:List Ln):Prop where
 row:w.ownsRow B 38 6 v L.length (gP.all L)
 kids:∀(i:Nat)(p:Ln),L[i]?=some p->w.ownsRow B 3 1 p.val p.nd.ks.length (encI.all p.nd.ks)
 apart:∀(i j:Nat)(p q:Ln),i≠j->L[i]?=some p->L[j]?=some q->∀g,p.val.ownBlock=some g->q.val.ownBlock≠some g
section
variable {w w':World}{B:Nat}{v:Value}{L:List Ln}
theorem OT.below(h:OT w B v L)(hb:Below w.heap.size w w'):OT w' B v L:=⟨own_below h.row hb,λi p hp=>own_below (h.kids i p hp) hb,h.apart⟩
theorem OT.base{B':Nat}(h:OT w B v L)(hB:B'<=B):OT w B' v L:=⟨lq h.row hB,λi p hp=>lq (h.kids i p hp) hB,h.apart⟩
theorem OT.nodes(h:OT w B v L):iM w v (L.map Ln.nd):=⟨L,rfl,Reads.fJ (E:=gP) h.row,λp hp=>by
 obtain⟨i,hi⟩:=lh hp
 exact Reads.fJ (E:=encI) (h.kids i p hi)⟩
theorem OT.nil(w:World)(B:Nat):OT w B (.slice none 0 0) []:=⟨kY gP _ _,λi p h=>by simp at h,λi j p q _ h=>by simp at h⟩
theorem OT.set{g n cap:Nat}(h:OT w B (.slice (some ⟨g,0,none⟩) n cap) L)(i j:Nat)(p:Ln)(nd:Nd)(u:Value)(hp:L[i]?=some p)(hks:nd.ks=p.nd.ks)(hc:lN {p with nd:=nd}=(lN p).set j u)(hj:j<6):
 OT (w.setCell ⟨g,i*6+j,none⟩ u) B (.slice (some ⟨g,0,none⟩) n cap) (L.set i {p with nd:=nd}):=by
 have hi:=(gD.1 hp).1;have key:∀(a:Nat)(q:Ln),(L.set i {p with nd:=nd})[a]?=some q->∃q',L[a]?=some q'/\q.val=q'.val/\q.nd.ks=q'.nd.ks:=by
  intro a q hq;rw[nW]at hq;split at hq
  ·rename_i e;subst e;injection hq with hq;subst hq
   exact⟨p,hp,rfl,hks⟩
  exact⟨q,hq,rfl,rfl⟩
 refine⟨rX h.row i j p _ u hp hc hj,λa q hq=>?_,λa b q r hab hq hr g' hg'=>?_⟩
 ·obtain⟨q',h1,h2,h3⟩:=key a q hq;rw[h2,h3];exact xO (h.kids a q' h1) (fH h.row (h.kids a q' h1) (by decide) g rfl) u
 obtain⟨q',h1,h2,_⟩:=key a q hq;obtain⟨r',h4,h5,_⟩:=key b r hr;rw[h2]at hg';rw[h5];exact h.apart a b q' r' hab h1 h4 g' hg'
end
end
section
open Go.RowKit
open Sq
open Ar
section
variable {α:Type}{E:mr α}{w:World}
theorem lG{P:Program}{t e:TypeId}{bytes:Nat}(T:Ty P E t e bytes){ops:Array Oper}{rest:List Oper}{o:Oper}{act:Act}{Q:Exit->Act->World->Prop}(hgd:o.guard=none)(x y:Operand)
 (ho:o.op=.call {callee:=.builtin .append,args:=#[x,y],argTypes:=#[t,t]})
 (base:Nat) (v:Value) (l:List α) (hs:act.eval x=v) (hown:w.ownsRow base e E.k v l.length (E.all l)) (yv:Value) (m:List α) (hy:act.eval y=yv) (hb:Reads E w yv m)
 (hmax:l.length+m.length<=maxLen) (hlen:(l.length+m.length)*bytes<=140737488355328) (hbase:base<=w.heap.size)
 (h:∀v' w',w'.ownsRow base e E.k v' (l++m).length (E.all (l++m))->w.grownBy w' v.ownBlock->(v'.ownBlock=v.ownBlock\/v'.ownBlock=some w.heap.size)->wpList P ops Q rest (act.put o.dst v') w'):wpList P ops Q (o::rest) act w:=by
 obtain⟨i,z,hi,hz,hsz,hby,hzs⟩:=T.parts;rcases hb with⟨rfl,rfl⟩|⟨b,off,cap,rfl,h2,h3,h4⟩
 ·refine XJ hgd x y t ho base e i E.k T.ht hi v l.length (E.all l) hs hown hy ?_;refine h v w ?_ ⟨rfl,rfl,rfl,fB _,λ_ _ _=>rfl⟩ (.inl rfl);rw[mP];exact hown
 exact wpList_append_own_at w hgd x y t ho base e i z E.k bytes T.ht hi hz hsz hby hzs E.pos v l.length (E.all l) hs hown ⟨b,off,none⟩ m.length cap (E.all m) hy (kX E m) (news h4) (uL E m) hmax hlen hbase (λv' w' q1 q2 _ q3=>h v' w' (by rw[uK,iJ];exact q1) q2 q3)
theorem vT(w:World)(u:α)(cs:List Value)(t:TypeId)(hc:E.cells u=cs):Reads E (w.alloc (.cells cs.toArray t)) (.slice (some ⟨w.heap.size,0,none⟩) 1 1) [u]:=
 .inr ⟨w.heap.size,0,1,rfl,fB _,by decide,λj x hj i c hi=>by
  match j,hj with
  |0,hj=>
   obtain rfl:u=x:=by simpa using hj
   rw[hc]at hi;have e:(⟨w.heap.size,0+0*E.k+i,none⟩:Addr)=⟨w.heap.size,i,none⟩:=by simp
   rw[e,vH,Vm];exact hi
  |j+1,hj=>simp at hj⟩
theorem mG{x y:Value}(h:∀g,x.ownBlock=some g->y.ownBlock≠some g):y.ownBlock=none\/y.ownBlock≠x.ownBlock:=by
 cases hy:y.ownBlock with
 |none=>exact .inl rfl
 |some g=>exact .inr (λe=>h g e.symm hy)
end
section
variable {w w':World}{B:Nat}{v:Value}{L:List Ln}
theorem OT.push{v':Value}{o:Obj}{p:Ln}(h:OT w B v L)(hk:w.ownsRow B 3 1 p.val p.nd.ks.length (encI.all p.nd.ks))(ha:∀(i:Nat)(q:Ln),L[i]?=some q->∀g,p.val.ownBlock=some g->q.val.ownBlock≠some g)
 (hg:(w.alloc o).grownBy w' v.ownBlock) (hrow:w'.ownsRow B 38 6 v' (L++[p]).length (gP.all (L++[p]))):OT w' B v' (L++[p]):=by
 have key:∀(a:Nat)(q:Ln),(L++[p])[a]?=some q->(L[a]?=some q/\a<L.length)\/(a=L.length/\q=p):=by
  intro a q hq;rcases Hw a L.length with hj|hj|hj
  ·rw[oD hj]at hq;exact .inl ⟨hq,hj⟩
  ·subst hj;rw[oM (fB _)]at hq;simp at hq;exact .inr ⟨rfl,hq.symm⟩
  rw[rC (by simp;omega)]at hq;cases hq
 refine⟨hrow,λa q hq=>?_,λa b q r hab hq hr g aa=>?_⟩
 ·rcases key a q hq with⟨h1,_⟩|⟨_,rfl⟩
  ·exact((h.kids a q h1).alloc o).kept hg (mG (fH h.row (h.kids a q h1) (by decide)))
  exact(hk.alloc o).kept hg (mG (fH h.row hk (by decide)))
 rcases key a q hq with⟨h1,_⟩|⟨ha1,rfl⟩
 ·rcases key b r hr with⟨h2,_⟩|⟨_,rfl⟩
  ·exact h.apart a b q r hab h1 h2 g aa
  exact λe=>ha a q h1 g e aa
 rcases key b r hr with⟨h2,_⟩|⟨hb1,rfl⟩
 ·exact ha b r h2 g aa
 omega
theorem OT.kid{g n cap i:Nat}{o:Obj}{p:Ln}{a':Option Addr}{n' c':Nat}(h:OT w B (.slice (some ⟨g,0,none⟩) n cap) L)(hp:L[i]?=some p)(z:Int)(hg:(w.alloc o).grownBy w' p.val.ownBlock)
 (hown:w'.ownsRow B 3 1 (.slice a' n' c') (p.nd.ks++[z]).length (encI.all (p.nd.ks++[z]))) (hat:(Value.slice a' n' c').ownBlock=p.val.ownBlock\/(Value.slice a' n' c').ownBlock=some (w.alloc o).heap.size):
 OT (w'.setCell ⟨g,i*6+4,none⟩ (.slice a' n' c')) B (.slice (some ⟨g,0,none⟩) n cap) (L.set i ⟨{p.nd with ks:=p.nd.ks++[z]},a',n',c'⟩):=by
 have hi:=(gD.1 hp).1;have hrow:w'.ownsRow B 38 6 (.slice (some ⟨g,0,none⟩) n cap) L.length (gP.all L):=
  (h.row.alloc o).kept hg (mG (fH (h.kids i p hp) h.row (by decide)))
 have key:∀(a:Nat)(q:Ln),(L.set i ⟨{p.nd with ks:=p.nd.ks++[z]},a',n',c'⟩)[a]?=some q->(a=i/\q=⟨{p.nd with ks:=p.nd.ks++[z]},a',n',c'⟩)\/(a≠i/\L[a]?=some q):=by
  intro a q hq;rw[nW]at hq;split at hq
  ·rename_i e;subst e;injection hq with hq;exact .inl ⟨rfl,hq.symm⟩
  rename_i e;exact .inr ⟨λx=>e x.symm,hq⟩
 have new:∀(b:Nat)(r:Ln),b≠i->L[b]?=some r->∀g,(Value.slice a' n' c').ownBlock=some g->r.val.ownBlock≠some g:=by
  intro b r hb hr g1 hg1;rcases hat with e|e
  ·exact h.apart i b p r (λx=>hb x.symm) hp hr g1 (e▸hg1)
  intro hr1;have:=((h.kids b r hr).lt g1 hr1).2;rw[hg1]at e;injection e with e
  rw[size_alloc]at e;omega
 refine⟨rX hrow i 4 p _ _ hp rfl (by decide),λa q hq=>?_,λa b q r hab hq hr g1 aa=>?_⟩
 ·rcases key a q hq with⟨rfl,rfl⟩|⟨ha,hq⟩
  ·exact xO hown (fH hrow hown (by decide) g rfl) _
  have h1:=((h.kids a q hq).alloc o).kept hg (mG (λg1 hg1=>h.apart i a p q (λx=>ha x.symm) hp hq g1 hg1));exact xO h1 (fH hrow h1 (by decide) g rfl) _
 rcases key a q hq with⟨rfl,rfl⟩|⟨ha,hq1⟩
 ·rcases key b r hr with⟨rfl,rfl⟩|⟨hb,hr⟩
  ·exact absurd rfl hab
  exact new b r hb hr g1 aa
 rcases key b r hr with⟨rfl,rfl⟩|⟨hb,hr1⟩
 ·exact λe=>new a q ha hq1 g1 e aa
 exact h.apart a b q r hab hq1 hr1 g1 aa
end
end
section
open Go.RowKit
def EI(w:World)(b o:Nat)(u:Value):Prop:=w.cell? ⟨b,o,none⟩=some u/\w.frozen? ⟨b,o,none⟩=false
theorem iq{W w':World}{b o:Nat}{u:Value}(hb:Below W.heap.size W w')(h:EI W b o u):EI w' b o u:=
 ⟨by rw[hb.cell (p:=⟨b,o,none⟩) (lt_of_cell h.1)];exact h.1,by rw[hb.frozen (p:=⟨b,o,none⟩) (lt_of_cell h.1)];exact h.2⟩
theorem LF{W:World}{o:Obj}{b k:Nat}{u:Value}(h:EI W b k u):EI (W.alloc o) b k u:=iq (fo W o) h
theorem PG{W:World}{b k:Nat}{u:Value}(h:EI W b k u):EI W.drew b k u:=h
theorem qh{W:World}{C:Array Value}{t:TypeId}{k:Nat}{u:Value}(h:C[k]?=some u):EI (W.alloc (.cells C t)) W.heap.size k u:=
 ⟨by rw[vH];exact h,World.frozen?_alloc_new W C t k⟩
end
section
open Go.RowKit
open Sq
open Ar
theorem fD{w w1 w2:World}(h1:Below w.heap.size w w1)(h2:Below w1.heap.size w1 w2):Below w.heap.size w w2:=h1.trans (h2.mono h1.size)
def X4(own:Bool)(R:List Nd)(w:World)(e:Ending)(w':World):Prop:=
 ∃u,e=.returned (.agg #[u])/\iM w' u R/\(own=true->∃L,L.map Ln.nd=R/\OT w' w.heap.size u L)/\Below w.heap.size w w'
theorem JW{α:Type}(E:mr α)(w:World)(e B:Nat)(l:List α)(C:Array Value)(hC:C=(E.all l).toArray)(hl:l.length<=1000)(hB:B<=w.heap.size):
 (w.alloc (.cells C e)).ownsRow B e E.k (.slice (some ⟨w.heap.size,0,none⟩) l.length l.length) l.length (E.all l):=by
 subst hC;refine⟨kX E l,.inr ⟨w.heap.size,l.length,(E.all l).toArray,rfl,hB,j5 w _,fB _,by simp only[maxLen];omega,by simp[kX],?_⟩⟩;rw[<-kX E l];simp
theorem Wl(w:World)(B:Nat)(x:Nd)(hx:x.ks=[])(hB:B<=w.heap.size):OT (w.alloc (.cells #[.int .i64 x.k,.int .i64 x.f,.int .i64 x.t,.int .i64 x.u,.slice none 0 0,.bool x.y] 38)) B (.slice (some ⟨w.heap.size,0,none⟩) 1 1) [⟨x,none,0,0⟩]:=by
 refine⟨JW gP w _ B [(⟨x,none,0,0⟩:Ln)] _ rfl (by simp) hB,λi p hp=>?_,λi j p q hij hp hq=>?_⟩
 ·cases i with
  |zero=>
   obtain rfl:(⟨x,none,0,0⟩:Ln)=p:=by simpa using hp
   show World.ownsRow _ _ _ _ (.slice none 0 0) x.ks.length (encI.all x.ks);rw[hx];exact kY encI _ _
  |succ i=>simp at hp
 cases i with
 |zero=>
  cases j with
  |zero=>exact absurd rfl hij
  |succ j=>simp at hq
 |succ i=>simp at hp
theorem PH{l:List Nd}(h:0<l.length):∃x,l[0]?=some x/\firstT l=x.t:=by
 cases l with
 |nil=>simp at h
 |cons x r=>exact⟨x,rfl,rfl⟩
def Wm(own:Bool)(R:List Nd×Int)(w:World)(e:Ending)(w':World):Prop:=
 ∃u,e=.returned (.tuple #[.agg #[u],.int .i64 R.2])/\iM w' u R.1/\(own=true->∃L,L.map Ln.nd=R.1/\OT w' w.heap.size u L)/\Below w.heap.size w w'
def Dy(l:List Nd)(p:Nd)(f:Int):Bool:=!(decide (f<p.f))&&match p.ks.getLast? with
 |none=>true
 |some z=>!(decide (f<Q3 l z))
theorem LG(l:List Nd)(up kind f t:Int)(p:Nd)(hp:l[up.toNat]?=some p):
 iH l up kind f t=(!(decide (up<0)||decide ((l.length:Int)<=up)||decide (kind<1)||decide (11<kind)||decide (t<f)||decide (firstT l<t))&&Dy l p f):=by
 unfold iH Dy;rw[hp];rfl
theorem PI(l:List Nd)(up kind f t:Int)(hb:(decide (up<0)||decide ((l.length:Int)<=up)||decide (kind<1)||decide (11<kind)||decide (t<f)||decide (firstT l<t))=true):iH l up kind f t=false:=by
 unfold iH;rw[hb];rfl
def UF(x n:Int):Int:=if x.tmod n<0 then x.tmod n+n else x.tmod n
theorem Wn(x n:Int)(h:0<n):0<=UF x n/\UF x n<n:=by
 have h1:=Rh x h;have h2:-n<x.tmod n:=by
  have:=Rh (-x) h;rw[Int.neg_tmod]at this;omega
 unfold UF;split<;>omega
theorem Cx{W:World}{tb:Nat}{a:Option Addr}{n c:Nat}(hc:W.cell? ⟨tb,0,none⟩=some (.slice a n c))(v:Value)(q:Addr)(u:Value)(hq:W.cell? q=some u)(hu:q=⟨tb,0,none⟩->∀a n c,u≠.slice a n c):(W.setCell ⟨tb,0,none⟩ v).cell? q=some u:=by
 by_cases e:q=⟨tb,0,none⟩
 ·rw[e,hc]at hq;exact absurd (jl hq).symm (hu e a n c)
 rw[VD _ _ _ _ (λh=>e h.symm)];exact hq
theorem iM.set{W:World}{tb:Nat}{a:Option Addr}{n c:Nat}{u:Value}{l:List Nd}(h:iM W u l)(hc:W.cell? ⟨tb,0,none⟩=some (.slice a n c))(v:Value):iM (W.setCell ⟨tb,0,none⟩ v) u l:=by
 obtain⟨L,h1,h2,h3⟩:=h;refine⟨L,h1,?_,λp hp=>?_⟩
 ·rcases h2 with h2|⟨b,off,cap,e1,e2,e3,e4⟩
  ·exact .inl h2
  refine .inr ⟨b,off,cap,e1,e2,e3,λj x hj i w hw=>Cx hc v _ _ (e4 j x hj i w hw) (λe a n c=>?_)⟩;have h0:off+j*gP.k+i=0:=by injection e
  have hi:i=0:=by omega
  subst hi;have hx:(gP.cells x)[0]?=some (.int .i64 x.nd.k):=rfl;rw[hx]at hw;obtain rfl:=jl hw;intro e;cases e
 rcases h3 p hp with h2|⟨b,off,cap,e1,e2,e3,e4⟩
 ·exact .inl h2
 refine .inr ⟨b,off,cap,e1,e2,e3,λj x hj i w hw=>Cx hc v _ _ (e4 j x hj i w hw) (λe a n c=>?_)⟩;cases i with
 |zero=>
  obtain rfl:=jl hw;intro e;cases e
 |succ i=>cases hw
end
section
open Go.RowKit
open Sq
open Ar
def rP(w:World)(g:Nat):Prop:=∃cs fr,w.heap[g]?=some (.cells cs 3 fr)
def nN(w w':World):Prop:=∀g,rP w g->w'.heap[g]?=w.heap[g]?
section
variable {w w':World}{B:Nat}{v:Value}
theorem rP.lt{g:Nat}(h:rP w g):g<w.heap.size:=by
 obtain⟨cs,fr,e⟩:=h;exact il e
theorem rP.keep{g:Nat}(h:rP w g)(k:nN w w'):rP w' g:=by
 have e1:=k g h;obtain⟨cs,fr,e⟩:=h;exact⟨cs,fr,e1.trans e⟩
theorem nN.trans{a b c:World}(h:nN a b)(k:nN b c):nN a c:=λg hg=>(k g (hg.keep h)).trans (h g hg)
theorem uw(hb:Below w.heap.size w w'):nN w w':=λg hg=>hb.block g hg.lt
theorem GQ(w:World)(o:Obj):nN w (w.alloc o):=uw (fo w o)
theorem A9(hg:w.grownBy w' none):nN w w':=λg h=>hg.block g h.lt (λe=>by cases e)
def D9(w:World)(g:Nat):Prop:=∃cs fr,w.heap[g]?=some (.cells cs 38 fr)
theorem Og{g g':Nat}(h:rP w g)(h':D9 w g'):g≠g':=λe=>by
 subst e;obtain⟨cs,fr,e1⟩:=h;obtain⟨cs',fr',e2⟩:=h';rw[e1]at e2;injection e2 with e2
 injection e2 with _ e3
 exact absurd e3 (by decide)
theorem qi{size n:Nat}{xs:List Value}(h:w.ownsRow B 38 size v n xs){g:Nat}(hg:v.ownBlock=some g):D9 w g:=by
 rcases h.2 with⟨h1,_⟩|⟨b,cap,cur,hv,_,hh,_⟩
 ·rw[h1]at hg;cases hg
 rw[hv]at hg;obtain rfl:b=g:=by simpa [Value.ownBlock]using hg
 exact⟨cur,(0,0),hh⟩
theorem uN{size n:Nat}{xs:List Value}(h:w.ownsRow B 3 size v n xs){g:Nat}(hg:v.ownBlock=some g):rP w g:=by
 rcases h.2 with⟨h1,_⟩|⟨b,cap,cur,hv,_,hh,_⟩
 ·rw[h1]at hg;cases hg
 rw[hv]at hg;obtain rfl:b=g:=by simpa [Value.ownBlock]using hg
 exact⟨cur,(0,0),hh⟩
theorem uy{size n:Nat}{xs:List Value}(h:w.ownsRow B 38 size v n xs)(hg:w.grownBy w' v.ownBlock):nN w w':=λg hi=>
 hg.block g hi.lt (λe=>Og hi (qi h e.symm) rfl)
theorem LH{g:Nat}(h:D9 w g)(o:Nat)(u:Value):nN w (w.setCell ⟨g,o,none⟩ u):=λg' hi=>
 jf _ _ _ _ (Og hi h)
theorem uZ{g:Nat}{cs:Array Value}{t:TypeId}{fr:Nat×Nat}(h:w.heap[g]?=some (.cells cs t fr))(ht:t≠3)(o:Nat)(u:Value):nN w (w.setCell ⟨g,o,none⟩ u):=λg' hi=>
 jf _ _ _ _ (λe=>by
  obtain⟨cs',fr',e2⟩:=hi;rw[show g'=g from e]at e2;rw[h]at e2;injection e2 with e2
  injection e2 with _ e3
  exact ht e3)
structure BZ(w:World)(B:Nat)(p:Ln):Prop where
 reads:Reads encI w p.val p.nd.ks
 blk:∀ad,p.a=some ad->B<=ad.block/\rP w ad.block
theorem wY{E:mr Int}{a:Option Addr}{n c:Nat}{l:List Int}(h:Reads E w (.slice a n c) l)(hc:∀ad,a=some ad->∀o x,w.cell? ⟨ad.block,o,none⟩=some x->ad.off<=o->o<ad.off+l.length*E.k->w'.cell? ⟨ad.block,o,none⟩=some x):Reads E w' (.slice a n c) l:=by
 rcases h with h|⟨b,off,cap,hv,h2,h3,h4⟩
 ·exact .inl h
 obtain⟨rfl,-,-⟩:=ll hv;refine .inr ⟨b,off,cap,hv,h2,h3,λj x hj i u hu=>?_⟩;have hjl:=(gD.1 hj).1;have hik:i<E.k:=by rw[<-E.len x];exact(gD.1 hu).1
 refine hc _ rfl _ _ (h4 j x hj i u hu) (by show off<=_;omega) ?_;show off+j*E.k+i<off+l.length*E.k
 have:(j+1)*E.k<=l.length*E.k:=Hy _ hjl;rw[xL]at this;omega
theorem BZ.keep{p:Ln}(h:BZ w B p)(k:nN w w'):BZ w' B p:=by
 refine⟨wY h.reads (λad had o x hx _ _=>?_),λad had=>⟨(h.blk ad had).1,(h.blk ad had).2.keep k⟩⟩;rw[Nc (a:=⟨ad.block,o,none⟩) (k _ (h.blk ad had).2)];exact hx
theorem BZ.nd{p:Ln}(h:BZ w B p)(nd:Nd)(hk:nd.ks=p.nd.ks):BZ w B {p with nd:=nd}:=⟨by show Reads _ _ p.val nd.ks;rw[hk];exact h.reads,h.blk⟩
theorem BZ.nil(w:World)(B:Nat)(x:Nd)(hx:x.ks=[]):BZ w B ⟨x,none,0,0⟩:=⟨by show Reads _ _ _ x.ks;rw[hx];exact .inl ⟨rfl,rfl⟩,λad h=>by cases h⟩
theorem BZ.own{x:Nd}{a:Option Addr}{n c:Nat}(h:w.ownsRow B 3 encI.k (.slice a n c) x.ks.length (encI.all x.ks)):BZ w B ⟨x,a,n,c⟩:=by
 refine⟨Reads.fJ (E:=encI) h,λad had=>?_⟩;have aa:(Value.slice a n c).ownBlock=some ad.block:=by
  have had:a=some ad:=had;rw[had];rfl
 exact⟨(h.lt _ aa).1,uN h aa⟩
structure PT(w:World)(B:Nat)(v:Value)(L:List Ln):Prop where
 row:w.ownsRow B 38 gP.k v L.length (gP.all L)
 kids:∀p∈L,BZ w B p
theorem PT.keep{L:List Ln}(h:PT w B v L)(hr:w'.ownsRow B 38 gP.k v L.length (gP.all L))(k:nN w w'):PT w' B v L:=⟨hr,λp hp=>(h.kids p hp).keep k⟩
theorem PT.below{L:List Ln}(h:PT w B v L)(hb:Below w.heap.size w w'):PT w' B v L:=h.keep (own_below h.row hb) (uw hb)
theorem PT.nodes{L:List Ln}(h:PT w B v L):iM w v (L.map Ln.nd):=⟨L,rfl,Reads.fJ (E:=gP) h.row,λp hp=>(h.kids p hp).reads⟩
theorem PT.box{L:List Ln}(h:PT w B v L){g:Nat}{cs:Array Value}{t:TypeId}{fr:Nat×Nat}(hh:w.heap[g]?=some (.cells cs t fr))(ht:t≠3)(ht2:t≠38)(o:Nat)(u:Value):PT (w.setCell ⟨g,o,none⟩ u) B v L:=
 h.keep (xO h.row (a:=⟨g,o,none⟩) (λe=>by
  obtain⟨cs',fr',e2⟩:=qi h.row e;rw[hh]at e2;injection e2 with e2
  injection e2 with _ e3
  exact ht2 e3) u) (uZ hh ht o u)
theorem PT.set{g n cap:Nat}{L:List Ln}(h:PT w B (.slice (some ⟨g,0,none⟩) n cap) L)(i j:Nat)(p p':Ln)(u:Value)(hp:L[i]?=some p)(hc:lN p'=(lN p).set j u)(hj:j<6)(hk:BZ w B p'):
 PT (w.setCell ⟨g,i*6+j,none⟩ u) B (.slice (some ⟨g,0,none⟩) n cap) (L.set i p'):=by
 have hkp:nN w (w.setCell ⟨g,i*6+j,none⟩ u):=LH (qi h.row rfl) _ _;refine⟨rX h.row i j p p' u hp hc hj,λq hq=>?_⟩;rcases Vs hq with hq|rfl
 ·exact(h.kids q hq).keep hkp
 exact hk.keep hkp
theorem PT.push{v':Value}{L:List Ln}{p:Ln}(h:PT w B v L)(hp:BZ w B p)(k:nN w w')(hrow:w'.ownsRow B 38 gP.k v' (L++[p]).length (gP.all (L++[p]))):PT w' B v' (L++[p]):=
 ⟨hrow,λq hq=>by
  rcases mU.1 hq with hq|hq
  ·exact(h.kids q hq).keep k
  obtain rfl:q=p:=by simpa using hq
  exact hp.keep k⟩
end
theorem yB{P:Program}(w:World)(base:Nat)(t ty e:TypeId)(i:TypeInfo)(z:Value)(size bytes:Nat)(ht:P.underlying t=some (.slice e))(hi:P.info? e=some i)(hz:i.zero=some z)
 (hsize:i.size=size) (hby:i.bytes=bytes) (hzs:z.cells.size=size) (hsz:0<size)
 (v:Value) (n:Nat) (xs:List Value) (hown:w.ownsRow base e size v n xs)
 (a:Addr) (m c:Nat) (news:List Value) (hl:news.length=m*size) (hnews:∀j u,news[j]?=some u->w.cell? (a.add j)=some u) (h1:∀u∈news,u.oneCell'=true)
 (h63:n+m<=maxLen) (hbytes:(n+m)*bytes<=140737488355328) (hbase:base<=w.heap.size):
 ∃v' w',(Builtin.append_ #[t,t] ty #[v,.slice (some a) m c]).run P w=.ok v' w'/\w'.ownsRow base e size v' (n+m) (xs++news)/\w.grownBy w' v.ownBlock/\
  (v'.ownBlock=v.ownBlock\/(v'.ownBlock=some w.heap.size/\w.grownBy w' none)):=by
 obtain⟨v',w',hr,h2,h3,_,h5⟩:=run_append_own_at (P:=P) w base t ty e i z size bytes ht hi hz hsize hby hzs hsz v n xs hown a m c news hl hnews h1 h63 hbytes hbase;refine⟨v',w',hr,h2,h3,?_⟩;rcases h5 with h5|h5
 ·exact .inl h5
 rcases hown.2 with⟨rfl,_⟩|⟨g,cap,cur,rfl,hbg,hg,hnc,hcm,hcs,htake⟩
 ·exact .inr ⟨h5,h3⟩
 have hlt:g<w.heap.size:=(xI.1 hg).1
 subst hsize;subst hby;by_cases hroom:n+m<=cap
 ·have hr2:=run_append_room (P:=P) w t ty e i ht hi g n cap cur hg a m c news hl hnews h1 hroom (by rw[hl,hcs,<-xL];exact Hy _ hroom);rw[hr]at hr2;injection hr2 with hr2 _
  subst hr2;exact .inl rfl
 simp only[maxLen]at h63;have hr2:=run_append_grow (P:=P) w t ty e i z ht hi hz ⟨g,0,none⟩ n cap xs hown.1 (hown.cells (g:=g) rfl) a m c news hl hnews (by omega) (by omega) (growslice_fits (by omega) hbytes);rw[hr]at hr2;injection hr2 with _ hr2
 subst hr2;exact .inr ⟨h5,⟨rfl,rfl,rfl,by simp,λk hk _=>heap_alloc_old w.drew _ hk⟩⟩
theorem BV{α:Type}{E:mr α}{w:World}{P:Program}{t e:TypeId}{bytes:Nat}(T:Ty P E t e bytes){ops:Array Oper}{rest:List Oper}{o:Oper}{act:Act}{Q:Exit->Act->World->Prop}(hgd:o.guard=none)(x y:Operand)
 (ho:o.op=.call {callee:=.builtin .append,args:=#[x,y],argTypes:=#[t,t]})
 (base:Nat) (v:Value) (l:List α) (hs:act.eval x=v) (hown:w.ownsRow base e E.k v l.length (E.all l)) (yv:Value) (m:List α) (hy:act.eval y=yv) (hb:Reads E w yv m)
 (hmax:l.length+m.length<=maxLen) (hlen:(l.length+m.length)*bytes<=140737488355328) (hbase:base<=w.heap.size)
 (h:∀v' w',w'.ownsRow base e E.k v' (l++m).length (E.all (l++m))->w.grownBy w' v.ownBlock->(v'.ownBlock=v.ownBlock\/(v'.ownBlock=some w.heap.size/\w.grownBy w' none))->wpList P ops Q rest (act.put o.dst v') w'):wpList P ops Q (o::rest) act w:=by
 obtain⟨i,z,hi,hz,hsz,hby,hzs⟩:=T.parts;rcases hb with⟨rfl,rfl⟩|⟨b,off,cap,rfl,h2,h3,h4⟩
 ·refine XJ hgd x y t ho base e i E.k T.ht hi v l.length (E.all l) hs hown hy ?_;refine h v w ?_ ⟨rfl,rfl,rfl,fB _,λ_ _ _=>rfl⟩ (.inl rfl);rw[mP];exact hown
 refine wpList_plain hgd λK hK=>?_
 obtain⟨v',w',hr,q1,q2,q3⟩:=yB (P:=P) w base t o.type e i z E.k bytes T.ht hi hz hsz hby hzs E.pos v l.length (E.all l) hown ⟨b,off,none⟩ m.length cap (E.all m) (kX E m) (news h4) (uL E m) hmax hlen hbase;unfold Oper.wp execOp;simp only[ho,resolve,invoke,builtin,VE,VF,VG,Vr,wB,Ho,hs,hy,hr];exact hK _ _ (h v' w' (by rw[uK,iJ];exact q1) q2 q3)
structure Piece(w:World)(B:Nat)(av:Value)(F:List Int)(p:Ln):Prop where
 kid:BZ w B p
 full:p.c=p.n
 upto:∀ad,p.a=some ad->av.ownBlock=some ad.block->ad.off+p.nd.ks.length<=F.length
theorem Piece.moved{w w':World}{B:Nat}{av aa:Value}{F ks:List Int}{p:Ln}(h:Piece w B av F p)(hown:w.ownsRow B 3 encI.k av F.length (encI.all F))(hown':w'.ownsRow B 3 encI.k aa (F++ks).length (encI.all (F++ks)))
 (hg:w.grownBy w' av.ownBlock) (hm:aa.ownBlock=av.ownBlock\/(aa.ownBlock=some w.heap.size/\w.grownBy w' none)):Piece w' B aa (F++ks) p:=by
 rcases hm with hm|⟨hm,hn⟩
 ·refine⟨⟨wY h.kid.reads (λad had o x hx h1 h2=>?_),λad had=>⟨(h.kid.blk ad had).1,?_⟩⟩,h.full,λad had hb=>?_⟩
  ·by_cases hb:av.ownBlock=some ad.block
   ·have hu:=h.upto ad had hb;have h2:o<ad.off+p.nd.ks.length*1:=h2
    have ho:o<F.length:=by omega
    obtain⟨y,hy⟩:=jB F o ho;have c1:=hown.cells hb _ _ ((iO encI F o y hy 0 (by decide)).trans rfl);have c2:=hown'.cells (hm.trans hb) _ _ ((iO encI (F++ks) o y (by rw[oD ho];exact hy) 0 (by decide)).trans rfl);rw[gQ,kU]at c1 c2;rw[show o*encI.k+0=o from by show o*1+0=o;omega]at c1 c2;rw[hx]at c1;rw[c2,c1]
   rw[Nc (a:=⟨ad.block,o,none⟩) (hg.block _ (h.kid.blk ad had).2.lt (λe=>hb e.symm))];exact hx
  ·by_cases hb:av.ownBlock=some ad.block
   ·exact uN hown' (hm.trans hb)
   obtain⟨cs,fr,e⟩:=(h.kid.blk ad had).2;exact⟨cs,fr,(hg.block _ (h.kid.blk ad had).2.lt (λe=>hb e.symm)).trans e⟩
  have:=h.upto ad had (hm.symm.trans hb);rw[iJ];omega
 refine⟨h.kid.keep (A9 hn),h.full,λad had hb=>?_⟩;have h1:=(h.kid.blk ad had).2.lt;rw[hm]at hb;have:=jl hb;omega
theorem Piece.keep{w w':World}{B:Nat}{av:Value}{F:List Int}{p:Ln}(h:Piece w B av F p)(k:nN w w'):Piece w' B av F p:=⟨h.kid.keep k,h.full,h.upto⟩
theorem rY{w:World}{B e size n cap m:Nat}{a:Option Addr}{xs:List Value}(h:w.ownsRow B e size (.slice a n cap) m xs):n=m/\n<=cap/\cap<=maxLen:=by
 rcases h.2 with⟨h1,h2⟩|⟨g,cap',cur,hv,_,_,h4,h5,_⟩
 ·obtain⟨_,rfl,rfl⟩:=ll h1;exact⟨h2.symm,fB _,ic _⟩
 obtain⟨_,rfl,rfl⟩:=ll hv;exact⟨rfl,h4,h5⟩
theorem LJ{w:World}{B g N cap:Nat}{F ks:List Int}(hown:w.ownsRow B 3 encI.k (.slice (some ⟨g,0,none⟩) N cap) (F++ks).length (encI.all (F++ks)))(hks:0<ks.length)(x:Nd)(hx:x.ks=ks):
 (∀W:World,(Instr.slice 22 (.slice (some ⟨g,0,none⟩) N cap) (some (.int .i64 (F.length:Int))) (some (.int .i64 (N:Int))) (some (.int .i64 (N:Int)))).run prog W=.ok (.slice (some ⟨g,F.length,none⟩) ks.length ks.length) W)/\
 Piece w B (.slice (some ⟨g,0,none⟩) N cap) (F++ks) ⟨x,some ⟨g,F.length,none⟩,ks.length,ks.length⟩:=by
 subst hx;obtain⟨hN,hc1,hc2⟩:=rY hown;have hN:N=F.length+x.ks.length:=by rw[hN,iJ]
 have hmx:x.ks.length<=maxLen:=by omega
 refine⟨λW=>?_,⟨⟨.inr ⟨g,F.length,x.ks.length,rfl,fB _,hmx,λj y hj i u hu=>?_⟩,λad had=>?_⟩,rfl,λad had _=>?_⟩⟩
 ·rw[run_slice_lhm W _ (some ⟨g,0,none⟩) N cap (by rw[Ra.he];exact Ra.ht) .i64 .i64 .i64 F.length N N (by omega) (by omega) (by omega) (by omega),Ra.he,Ra.size];have h1:¬(N=F.length):=by omega
  have h2:N-F.length=x.ks.length:=by omega
  simp[Result.andThen,sliced,h1,h2,encI,gQ]
 ·have hj1:=(gD.1 hj).1;have hi:i=0:=by
   have:=(gD.1 hu).1;have e:(encI.cells y).length=1:=rfl;omega
  subst hi;have c:=hown.cells (g:=g) rfl _ _ ((iO encI (F++x.ks) (F.length+j) y (by rw[oM (by omega),show F.length+j-F.length=j by omega];exact hj) 0 (by decide)).trans hu);rw[gQ,kU]at c;rw[show(F.length+j)*encI.k+0=F.length+j*encI.k+0 from by show(F.length+j)*1+0=F.length+j*1+0;omega]at c;exact c
 ·have had:some (⟨g,F.length,none⟩:Addr)=some ad:=had;obtain rfl:=jl had;exact⟨(hown.lt g rfl).1,uN hown rfl⟩
 have had:some (⟨g,F.length,none⟩:Addr)=some ad:=had;obtain rfl:=jl had;rw[iJ];exact fB _
theorem FO{α:Type}{E:mr α}{P:Program}{t e:TypeId}{bytes:Nat}(T:Ty P E t e bytes)(n B:Nat)(w:World)(hn:bytes*n<=281474976710656)(hm:n<=maxLen)(hB:B<=w.heap.size):
 ∃w',(∀m:Int,m=(n:Int)->(Instr.makeSlice t (.int .i64 0) (.int .i64 m)).run P w=.ok (.slice (some ⟨w.heap.size,0,none⟩) 0 n) w')/\w'.ownsRow B e E.k (.slice (some ⟨w.heap.size,0,none⟩) 0 n) ([]:List α).length (E.all [])/\w.grownBy w' none:=by
 obtain⟨i,z,hi,hz,hsz,hby,hzs⟩:=T.parts;obtain⟨w',h1,h2,h3⟩:=run_make_own (P:=P) w B t e i z E.k T.ht hi hz hsz .i64 .i64 n (by rw[hby];exact hn) hm hB;exact⟨w',λm hm=>by rw[hm];exact h1,h2,h3⟩
end
end Go.Proofs.YtmkkdjpebbdikaaGreatDoor

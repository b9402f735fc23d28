import Derived.Test.YtmkkdjpebbdikaaGreatDoorZb26
set_option linter.all false
set_option maxHeartbeats 16000000
set_option maxRecDepth 100000
namespace Go.Proofs.YtmkkdjpebbdikaaGreatDoor
open Go.RowKit Go.Proofs.Tryz
namespace Rw
theorem NC(l:List Tk):eF l=jq 0 0 l:=rfl
end Rw
namespace Sc
open Sg
theorem Xb(c:Nat)(r:List Nat)(h:c<128):yt (c::r)=((c:Int),1):=by
 unfold yt;exact Ez _ _ _ _ _ eG h
theorem BP(c:Nat)(r:List Nat)(h:c<128):bad (c::r)=false:=by
 unfold bad;rw[Xb c r h];exact ic l6
end Sc
namespace Sc
open Sg
def fin:Nat->St->List Nat->St
 |0,s,_=>s
 |f+1,s,l=>if l=[]then s else fin f (step s l).2.2 (l.drop (step s l).2.1)
theorem NF:∀(f g:Nat)(s:St)(l:List Nat),l.length<=f->l.length<=g->fin f s l=fin g s l
 |0,g,s,l,h,_=>by
  obtain rfl:l=[]:=l9 dS;cases g<;>rfl
 |f+1,0,s,l,_,h=>by
  obtain rfl:l=[]:=l9 dS;rfl
 |f+1,g+1,s,l,hf,hg=>by
  rw[fin,fin];by_cases hl:l=[]
  ·rw[dX hl,dX hl]
  ·rw[dW hl,dW hl];have:=step_pos s l hl;rw[NF f g _ _ jc jc]
def Po(s:St)(l:List Nat):St:=fin l.length s l
theorem Iw(s:St)(l:List Nat)(h:l≠[]):Po s l=Po (step s l).2.2 (l.drop (step s l).2.1):=by
 unfold Po;cases hl:l.length with
 |zero=>exact absurd (l9 hl) h
 |succ n=>
  have:=step_pos s l h;rw[fin,dW h,NF n (l.drop (step s l).2.1).length _ _ jc (eO _)]
theorem agF(p:Nat->Bool)(a b:List Nat)(h:∃c∈a,p c=false):run p (a++b)=run p a/\run p a<a.length:=by
 induction a with
 |nil=>obtain⟨c,hc,_⟩:=h;exact absurd hc eG
 |cons c r ih=>
  rw[Dm,run,run];by_cases hp:p c=true
  ·rw[dX hp,dX hp];have:∃d∈r,p d=false:=by
    obtain⟨d,hd,hd2⟩:=h;rcases kY.1 hd with rfl|hd
    ·rw[hp]at hd2;cases hd2
    ·exact⟨d,hd,hd2⟩
   obtain⟨h1,h2⟩:=ih this;exact⟨by rw[h1],by rw[iR];omega⟩
  ·rw[dW hp,dW hp];exact⟨rfl,eG⟩
def ends(a:List Nat):Prop:=a.getLast?=some 10
theorem zS{a:List Nat}(h:ends a):a≠[]:=λe=>by rw[e]at h;cases h
theorem adB{a:List Nat}(h:ends a):10∈a:=LF h
theorem qN{a:List Nat}{n:Nat}(h:ends a)(hn:n<a.length):ends (a.drop n):=by
 unfold ends at*;rw[List.getLast?_drop,dW dS,h]
theorem NG(a b:List Nat)(h:ends a):lI (a++b)=lI a:=by
 match a,h with
 |[c],h=>
  obtain rfl:c=10:=by simpa [ends]using h
  cases b<;>rfl
 |c::d::t,_=>rfl
theorem wZ(a b:List Nat)(h:ends a):jg (a++b)=jg a/\jg a<a.length:=agF _ a b ⟨10,adB h,rfl⟩
theorem NH(a b:List Nat)(h:ends a):iV (a++b)=iV a:=by
 obtain⟨h1,h2⟩:=wZ a b h;rw[iV,iV,h1,XR dS]
theorem UZ(s:St)(a b:List Nat)(h:ends a):mid s (a++b)=mid s a:=by
 unfold mid;rw[(wZ a b h).1,NH a b h,NG a b h]
theorem adC(s:St)(a b:List Nat)(h:ends a):step s (a++b)=step s a:=by
 obtain⟨h1,h2⟩:=wZ a b h;unfold step;rw[h1,NH a b h,UZ _ a b h,UZ _ a b h,Vb dS,NG _ b (qN h h2)]
theorem Xc:∀(n:Nat)(s:St)(p:Nat)(a b:List Nat),a.length<=n->(a=[]\/ends a)->lY s p (a++b)=lY s p a++lY (Po s a) (p+a.length) b:=by
 intro n
 induction n with
 |zero=>
  intro s p a b hl _;obtain rfl:a=[]:=l9 dS;rfl
 |succ n ih=>
  intro s p a b hl h;rcases h with rfl|h
  ·rfl
  ·have hne:=zS h;have hp:=step_pos s a hne;rw[lF s p (a++b) (by simp[hne]),lF s p a hne,Iw s a hne,adC s a b h,Vb hp.2,Dm];congr 1
   rw[ih _ _ _ b jc (by
    by_cases he:(step s a).2.1<a.length
    ·exact .inr (qN h he)
    ·exact .inl (OY dS)),ky]
   congr 2;omega
def shift(q:Nat)(x:Nat×Nat×Nat):Nat×Nat×Nat:=(x.1,x.2.1+q,x.2.2+q)
theorem FX(q:Nat):∀(f:Nat)(s:St)(p:Nat)(l:List Nat),toks f s (p+q) l=(toks f s p l).map (shift q)
 |0,_,_,_=>rfl
 |f+1,s,p,l=>by
  rw[toks,toks];by_cases hl:l=[]
  ·rw[dX hl,dX hl];rfl
  ·rw[dW hl,dW hl,yG,<-FX q f];rw[show p+q+(step s l).2.1=p+(step s l).2.1+q by omega];rfl
theorem OM(s:St)(q:Nat)(l:List Nat):lY s q l=(lY s 0 l).map (shift q):=by
 unfold lY;rw[<-FX q,jY]
def still(c:Nat):Prop:=c≠91/\c≠123/\c≠124/\c≠62
theorem Ta(dash:Bool)(l:List Nat)(h:∀c∈l,still c):(word 0 dash l).1≠8/\(word 0 dash l).1≠9/\(word 0 dash l).1≠18:=by
 cases l with
 |nil=>cases dash<;>decide
 |cons c r=>
  obtain⟨h1,h2,h3,h4⟩:=h c eG;have e1:lT (c::r)=0:=by rw[lT,dW dS]
  have e2:sign 0 dash (c::r)≠8/\sign 0 dash (c::r)≠9/\sign 0 dash (c::r)≠18:=by
   rw[sign,dW h1,dW h2]
   exact JM
  have e3:(named (c::r)).1≠8/\(named (c::r)).1≠9/\(named (c::r)).1≠18:=by
   rw[named]
   exact JM
  have e4:(quoted (c::r)).1≠8/\(quoted (c::r)).1≠9/\(quoted (c::r)).1≠18:=by
   rw[quoted]
   exact JM
  unfold word;rw[e1];split
  ·exact e2
  split
  ·exact e3
  split
  ·exact e4
  rw[dW dS];split<;>exact⟨eG,eG,eG⟩
theorem FY(dash blank first:Bool)(l:List Nat)(h:∀c∈l,still c):(next 0 dash blank first l).1≠8/\(next 0 dash blank first l).1≠9/\(next 0 dash blank first l).1≠18:=by
 have hw:=Ta dash l h;have hm:mark l≠8/\mark l≠9/\mark l≠18:=by
  unfold mark
  exact JM
 unfold next;split
 ·exact hm
 split
 ·exact⟨eG,eG,eG⟩
 split
 ·exact⟨eG,eG,eG⟩
 split
 ·exact⟨eG,eG,eG⟩
 ·exact hw
theorem Xd:∀(n:Nat)(s:St)(a:List Nat),a.length<=n->ends a->(∀c∈a,still c)->s.op=0->s.least=-1->Po s a=fresh 0 (-1):=by
 intro n
 induction n with
 |zero=>
  intro s a hl h;exact absurd (l9 dS) (zS h)
 |succ n ih=>
  intro s a hl h hs ho hm;have hne:=zS h;have hp:=step_pos s a hne;have hst:=wS s a (λ_=>hm);rw[Iw s a hne];by_cases h0:jg a=0
  ·rw[hst,mid_end s a h0]at hp⊢;show Po (fresh s.op s.least) (a.drop (lI a))=_;rw[ho,hm];by_cases he:lI a<a.length
   ·have hb:0<lI a:=hp.1
    exact ih _ _ jc (qN h he) (λc hc=>hs c (LG hc)) rfl rfl
   ·rw[OY dS];rfl
  ·have hk:=FY s.dash s.blank (s.eT==0) (iV a) (λc hc=>hs c (Gl hc));have hr:=(wZ a [] h).2;have hn:(next 0 s.dash s.blank (s.eT==0) (iV a)).2<=jg a:=by
    have hl:=ru a;cases hrl:iV a with
    |nil=>rw[hrl]at hl;exact absurd hl.symm h0
    |cons c r=>
     have:=(zH 0 s.dash s.blank (s.eT==0) c r).2;rw[<-hrl,hl]at this;rw[<-hrl];exact this
   rw[hst,Q7 s a h0,ho]at hp⊢;obtain⟨k,m,aa⟩:∃k m,next 0 s.dash s.blank (s.eT==0) (iV a)=(k,m):=⟨_,_,rfl⟩
   rw[aa]at hp hk hn⊢;show Po (take s k m) (a.drop m)=_;have hp1:0<m:=hp.1
   have hn1:m<=jg a:=hn;obtain⟨k1,k2,k3⟩:k≠8/\k≠9/\k≠18:=hk;refine ih _ _ jc (qN h dS) (λc hc=>hs c (LG hc)) ?_ ?_
   ·show opens s.op k=0;unfold opens;rw[ho,dW dS]
    (repeat' split)<;>rfl
   ·show(if k=18 then _ else s.least)=-1;rw[dW k3,hm]
theorem OO(x y:List Nat)(h:∀c∈x,still c)(hl:x.length+1+y.length<=16384):
 tokens (x++[10]++y)=tokens (x++[10])++(tokens y).map (shift (x.length+1)):=by
 have he:ends (x++[10]):=by unfold ends;rw[ahJ];rfl
 have hz:(x++[10]).length=x.length+1:=eG
 rw[pE,pE,pE,dW (by rw[iK,hz];omega),dW (by rw[hz];omega),dW dS,
  Xc _ _ _ _ y (eO _) (.inr he),Xd _ _ _ (eO _) he (λc hc=>by
   rcases kC.1 hc with hc|hc
   ·exact h c hc
   ·obtain rfl:c=10:=by simpa using hc
    exact⟨dU,dU,dU,dU⟩) rfl rfl,jY,hz,OM _ (x.length+1) y]
end Sc
section
open Go.RowKit
open Sg
theorem Xe(w:World):(w.alloc (.cells #[] 5)).ownsRow w.heap.size 5 1 (.slice (some ⟨w.heap.size,0,none⟩) 0 0) 0 []:=World.ownsRow_made (base:=w.heap.size) w #[] 0 (eO _) (fP _) rfl
end
section
open Go.RowKit
open Sg
theorem qR.own{w:World}{base:Nat}{v:Value}{s:ByteArray}(h:w.ownsRow base 5 1 v s.size (cellsOf s)):qR w v s:=qR.fo h
end
namespace Ps
open Ar Fl
open Rw (R E)
def pQ(n':Int):List Nd->List Nd
 |[]=>[]
 |x::r=>{x with t:=n' }::r
structure Wi(n:Int)(l:List Nd):Prop where
 first:firstT l=n
 pos:0<l.length
 kids:∀(i:Nat)(x:Nd),l[i]?=some x->∀z∈x.ks,0<z
theorem uy(n':Int)(l:List Nd):(pQ n' l).length=l.length:=by cases l<;>rfl
theorem Ak{n':Int}{l:List Nd}{i:Nat}(hi:0<i):(pQ n' l)[i]?=l[i]?:=by
 cases l with
 |nil=>rfl
 |cons x r=>cases i with
  |zero=>omega
  |succ i=>rfl
theorem NI{n':Int}{l:List Nd}{i:Nat}{x:Nd}(h:l[i]?=some x):∃x',(pQ n' l)[i]?=some x'/\x'.f=x.f/\x'.u=x.u/\x'.ks=x.ks/\x'.k=x.k/\x'.y=x.y:=by
 cases l with
 |nil=>simp at h
 |cons y r=>cases i with
  |zero=>
   have h:y=x:=kU
   subst h;exact⟨_,rfl,rfl,rfl,rfl,rfl,rfl⟩
  |succ i=>exact⟨x,h,rfl,rfl,rfl,rfl,rfl⟩
theorem E8{n':Int}{l:List Nd}{i:Nat}{y:Nd}(hi:0<i):(pQ n' l).set i y=pQ n' (l.set i y):=by
 cases l with
 |nil=>rfl
 |cons x r=>cases i with
  |zero=>omega
  |succ i=>rfl
theorem Iy{n':Int}{l:List Nd}{y y':Nd}(h:y'={y with t:=n' }):(pQ n' l).set 0 y'=pQ n' (l.set 0 y):=by
 cases l with
 |nil=>rfl
 |cons x r=>subst h;rfl
theorem BQ{n':Int}{l:List Nd}{i:Nat}(h:l[i]?=none):(pQ n' l)[i]?=none:=by
 rw[AA]at h⊢;rw[uy];exact h
theorem vB{l:List Nd}{i:Nat}{x y:Nd}(hx:l[i]?=some x)(h:i=0->y.t=x.t):firstT (l.set i y)=firstT l:=by
 cases l with
 |nil=>rfl
 |cons z r=>cases i with
  |zero=>
   have hx:z=x:=jJ
   subst hx;exact h rfl
  |succ i=>rfl
theorem vC{n n' t:Int}(ht:t<=n)(hn:n<=n'):∀(f:Nat)(l:List Nd)(k:Int),firstT l=n->jB f (pQ n' l) k t=pQ n' (jB f l k t)/\firstT (jB f l k t)=n/\(jB f l k t).map (·.ks)=l.map (·.ks)
 |0,l,k=>λh=>⟨rfl,h,rfl⟩
 |f+1,l,k=>λh=>by
  rw[jB,jB];by_cases hk:k<0
  ·rw[dX hk,dX hk];exact⟨rfl,h,rfl⟩
  ·rw[dW hk,dW hk];cases hx:l[k.toNat]? with
   |none=>
    rw[BQ hx];exact⟨rfl,h,rfl⟩
   |some x=>
    have hks:∀y:Nd,y.ks=x.ks->(l.set k.toNat y).map (·.ks)=l.map (·.ks):=by
     intro y hy;rw[Gj,hy];refine r9 (λi=>?_);rw[oI];split
     ·rename_i e;subst e;have:=(eY.1 hx).1;rw[dX (by rw[jl];exact this),kS,hx];rfl
     ·rfl
    by_cases h0:k.toNat=0
    ·rw[h0]at hx⊢;have hx0:x.t=n:=by
      cases l with
      |nil=>simp at hx
      |cons z r=>
       have hx:z=x:=jJ
       subst hx;exact h
     obtain⟨x',g1,g2⟩:∃x',(pQ n' l)[0]?=some x'/\x'={x with t:=n' }:=by
      cases l with
      |nil=>simp at hx
      |cons z r=>
       have hx:z=x:=jJ
       subst hx;exact⟨_,rfl,rfl⟩
     rw[g1];dsimp only;subst g2;have e1:max x.t t=x.t:=dS
     have e2:max n' t=n':=dS
     rw[e1];dsimp only;rw[e2,Iy (y:={x with t:=x.t}) rfl];obtain⟨k1,k2,k3⟩:=vC ht hn f (l.set 0 {x with t:=x.t}) x.u ((vB hx (λ_=>rfl)).trans h);refine⟨k1,k2,?_⟩;rw[k3];have:=hks {x with t:=x.t} rfl;rw[h0]at this;exact this
    ·rw[Ak dS,hx];dsimp only;rw[E8 dS];obtain⟨k1,k2,k3⟩:=vC ht hn f (l.set k.toNat {x with t:=max x.t t}) x.u ((vB hx (λe=>absurd e h0)).trans h);exact⟨k1,k2,k3.trans (hks _ rfl)⟩
theorem Rz{n:Int}{l r:List Nd}(h:Wi n l)(h1:firstT r=n)(h2:r.map (·.ks)=l.map (·.ks)):Wi n r:=by
 have hlen:r.length=l.length:=by have:=congrArg List.length h2;rw[jl,jl]at this;exact this
 refine⟨h1,by rw[hlen];exact h.pos,λi x hx z hz=>?_⟩;obtain⟨y,hy⟩:∃y,l[i]?=some y:=⟨_,fu (by have:=(eY.1 hx).1;omega)⟩
 have:(r.map (·.ks))[i]?=(l.map (·.ks))[i]?:=by rw[h2]
 rw[kS,kS,hx,hy]at this;have e:x.ks=y.ks:=by simpa using this
 exact h.kids i y hy z (by rw[<-e];exact hz)
theorem adD(n':Int){l:List Nd}(y:Nd)(h:0<l.length):pQ n' l++[y]=pQ n' (l++[y]):=by
 cases l with
 |nil=>simp at h
 |cons x r=>rfl
theorem Ct{n':Int}{l:List Nd}(h:0<l.length):firstT (pQ n' l)=n':=by
 cases l with
 |nil=>simp at h
 |cons x r=>rfl
theorem adE{n n':Int}{l:List Nd}(h:Wi n l){up kind f t:Int}(ht:t<=n)(hn:n<=n'):il (pQ n' l) up kind f t=il l up kind f t:=by
 unfold il;rw[uy,Ct h.pos,h.first,show decide (n'<t)=false from ic dS,show decide (n<t)=false from ic dS];congr 1;cases hp:l[up.toNat]? with
 |none=>rw[BQ hp]
 |some p=>
  obtain⟨p',g1,g2,g3,g4,_⟩:=NI (n':=n') hp;rw[g1];dsimp only;rw[g2,g4];congr 1;cases hz:p.ks.getLast? with
  |none=>rfl
  |some z=>
   have hz0:=h.kids _ p hp z (LF hz);dsimp only;unfold XB;rw[Ak dS]
theorem Iz{n n':Int}{l:List Nd}(h:Wi n l){up kind f t:Int}(ht:t<=n)(hn:n<=n'):
 addN (pQ n' l) up kind f t=(pQ n' (addN l up kind f t).1,(addN l up kind f t).2)/\Wi n (addN l up kind f t).1:=by
 unfold addN;rw[adE h ht hn];by_cases hm:il l up kind f t=true
 ·rw[dX hm,dX hm];obtain⟨h0,ae,p,hp⟩:=yY hm;obtain⟨p',g1,g2,g3,g4,g5,g6⟩:=NI (n':=n') hp;rw[g1,hp];dsimp only;rw[uy,adD n' _ h.pos];have hset:(pQ n' (l++[(⟨kind,f,t,up,[],false⟩:Nd)])).set up.toNat {p' with ks:=p'.ks++[(l.length:Int)]}=pQ n' ((l++[(⟨kind,f,t,up,[],false⟩:Nd)]).set up.toNat {p with ks:=p.ks++[(l.length:Int)]}):=by
   by_cases e:up.toNat=0
   ·rw[e];rw[e]at hp g1;refine Iy ?_;have hp':p'={p with t:=n' }:=by
     cases l with
     |nil=>simp at hp
     |cons z r=>
      have hp:z=p:=by simpa using hp
      subst hp;have g1:({z with t:=n' }:Nd)=p':=by simpa [pQ]using g1
      exact g1.symm
    rw[hp']
   ·rw[Ak dS,hp]at g1;injection g1 with g1
    subst g1;exact E8 dS
  rw[hset];have aa:(l++[(⟨kind,f,t,up,[],false⟩:Nd)])[up.toNat]?=some p:=by
   rw[nK (by have:=(eY.1 hp).1;omega)];exact hp
  have hfa:firstT (l++[(⟨kind,f,t,up,[],false⟩:Nd)])=firstT l:=by
   have:=h.pos;cases l with
   |nil=>simp at this
   |cons z r=>rfl
  obtain⟨m,hmd⟩:=eu ((l++[(⟨kind,f,t,up,[],false⟩:Nd)]).set up.toNat {p with ks:=p.ks++[(l.length:Int)]});have hfm:firstT m=n:=by
   rw[<-hmd];exact(vB (y:={p with ks:=p.ks++[(l.length:Int)]}) aa (λ_=>rfl)).trans (hfa.trans h.first)
  have hlm:m.length=l.length+1:=by rw[<-hmd];simp
  rw[hmd];unfold gY;rw[uy];obtain⟨k1,k2,k3⟩:=vC ht hn (m.length+1) m up hfm;rw[k1];refine⟨rfl,Rz (l:=m) ⟨hfm,dS,λi x hx z hz=>?_⟩ k2 k3⟩;rw[<-hmd,oI]at hx;split at hx
  ·rename_i e;split at hx
   ·injection hx with hx
    subst hx;rcases kC.1 hz with hz|hz
    ·exact h.kids _ p hp z hz
    ·have:=h.pos;simp at hz;omega
   ·cases hx
  ·by_cases hi:i<l.length
   ·rw[nK hi]at hx;exact h.kids i x hx z hz
   ·rw[oH dS]at hx;cases hj:i-l.length with
    |zero=>
     rw[hj]at hx;have hx:(⟨kind,f,t,up,[],false⟩:Nd)=x:=jJ
     subst hx;cases hz
    |succ j=>rw[hj]at hx;simp at hx
 ·rw[dW hm,dW hm];exact⟨rfl,h⟩
theorem Tc{n n':Int}{l:List Nd}(h:Wi n l){i t:Int}(ht:t<=n)(hn:n<=n'):iB (pQ n' l) i t=pQ n' (iB l i t)/\Wi n (iB l i t):=by
 unfold iB zD;rw[uy,Ct h.pos,h.first,show decide (n'<t)=false from ic dS,show decide (n<t)=false from ic dS];split
 ·unfold gY;rw[uy];obtain⟨k1,k2,k3⟩:=vC ht hn (l.length+1) l i h.first;exact⟨k1,Rz h k2 k3⟩
 ·exact⟨rfl,h⟩
theorem Td{n n':Int}{l:List Nd}(h:Wi n l)(i:Int):keyed (pQ n' l) i=pQ n' (keyed l i)/\Wi n (keyed l i):=by
 unfold keyed;cases hx:l[i.toNat]? with
 |none=>rw[BQ hx];exact⟨rfl,h⟩
 |some x=>
  have hw:Wi n (l.set i.toNat {x with y:=true}):=by
   refine Rz h ((vB (y:={x with y:=true}) hx (λ_=>rfl)).trans h.first) ?_;rw[Gj];refine r9 (λj=>?_);rw[oI];split
   ·rename_i e;subst e;have:=(eY.1 hx).1;rw[dX (by rw[jl];exact this),kS,hx];rfl
   ·rfl
  refine⟨?_,hw⟩;by_cases e:i.toNat=0
  ·rw[e]at hx⊢;cases l with
   |nil=>simp at hx
   |cons z r=>
    have hx:z=x:=jJ
    subst hx;rfl
  ·rw[Ak dS,hx];exact E8 dS
end Ps
namespace Ps
open Ar Fl
open Rw (R E)
structure jM(LA LB:List Tk):Prop where
 pre:∃X,LB=LA++X
 quiet:∀i,i<LA.length->raw LA i≠8/\raw LA i≠9/\raw LA i≠18
 last:0<LA.length->raw LA (LA.length-1)=1
theorem jM.get{LA LB:List Tk}(h:jM LA LB){i:Nat}(hi:i<LA.length):LB[i]?=LA[i]?:=by
 obtain⟨X,rfl⟩:=h.pre;rw[nK hi]
theorem jM.raw{LA LB:List Tk}(h:jM LA LB){i:Nat}(hi:i<LA.length):Fl.raw LB i=Fl.raw LA i:=by unfold Fl.raw;rw[h.get hi]
theorem jM.kW{LA LB:List Tk}(h:jM LA LB){i:Nat}(hi:i<LA.length):Fl.kW LB i=Fl.kW LA i:=by unfold Fl.kW;rw[h.get hi]
theorem jM.too{LA LB:List Tk}(h:jM LA LB){i:Nat}(hi:i<LA.length):Fl.too LB i=Fl.too LA i:=by unfold Fl.too;rw[h.get hi]
theorem jM.len{LA LB:List Tk}(h:jM LA LB):LA.length<=LB.length:=by
 obtain⟨X,rfl⟩:=h.pre;rw[iK];omega
theorem U0(P:Nat->Bool)(f i:Nat)(h:P i=false):iy P f i=i:=by
 cases f with
 |zero=>rfl
 |succ f=>rw[iy,dW (by rw[h];simp)]
theorem qa(P P':Nat->Bool):∀(f i:Nat),(∀j,i<=j->j<i+f->P j=P' j)->iy P f i=iy P' f i
 |0,_=>λ_=>rfl
 |f+1,i=>λh=>by
  rw[iy,iy,h i (eO _) dS,qa P P' f (i+1) (λj h1 h2=>h j dS dS)]
theorem NJ(P:Nat->Bool)(q:Nat)(hq:P q=false):∀(f i:Nat),i<=q->iy P f i<=q
 |0,i=>λh=>h
 |f+1,i=>λh=>by
  rw[iy];split
  ·rename_i hp;by_cases e:i=q
   ·subst e;rw[hq]at hp;cases hp
   ·exact NJ P q hq f (i+1) dS
  ·exact h
theorem E9(P:Nat->Bool)(q:Nat)(hq:P q=false):∀(f f' i:Nat),i<=q->q<=i+f->q<=i+f'->iy P f i=iy P f' i
 |0,f',i=>λh1 h2 _=>by
  obtain rfl:i=q:=dS
  rw[iy];exact(U0 P f' i hq).symm
 |f+1,0,i=>λh1 _ h2=>by
  obtain rfl:i=q:=dS
  rw[U0 P (f+1) i hq,iy]
 |f+1,f'+1,i=>λh1 h2 h3=>by
  rw[iy,iy];by_cases e:i=q
  ·subst e;rw[hq,dW eG,dW eG]
  ·rw[E9 P q hq f f' (i+1) dS dS dS]
theorem kP(P:Nat->Bool):∀(f g i:Nat),iy P f i=i+f->i+f<=iy P (f+g) i
 |0,g,i=>λ_=>by
  have:=kH P (0+g) i;omega
 |f+1,g,i=>λh=>by
  rw[iy]at h;split at h
  ·rename_i hp;rw[show f+1+g=(f+g)+1 by omega,iy,dX hp];have:=kP P f g (i+1) dS;omega
  ·omega
def Cut(LA:List Tk)(e e':Nat):Prop:=(e'=e/\e<LA.length)\/(e=LA.length/\LA.length<=e')
theorem Xf{LA LB:List Tk}(h:jM LA LB){i:Nat}(hi:i<LA.length):Cut LA (limit LA i) (limit LB i)/\i<=limit LA i:=by
 have hlen:=h.len;have hge:=kH (λj=>raw LA j !=20&&raw LA j !=21) (LA.length-i) i;have hle:=lq (λj=>raw LA j !=20&&raw LA j !=21) (LA.length-i) i;have hsame:=qa (λj=>raw LB j !=20&&raw LB j !=21) (λj=>raw LA j !=20&&raw LA j !=21) (LA.length-i) i (λj h1 h2=>by rw[h.raw dS]);refine⟨?_,hge⟩;unfold Cut limit;rcases ma (λj=>raw LA j !=20&&raw LA j !=21) (LA.length-i) i with h1|h1
 ·refine .inr ⟨dS,?_⟩;have:=kP (λj=>raw LB j !=20&&raw LB j !=21) (LA.length-i) (LB.length-LA.length) i dS;rw[show LB.length-i=LA.length-i+(LB.length-LA.length)by omega];omega
 ·obtain⟨m,hm⟩:=eu (iy (λj=>raw LA j !=20&&raw LA j !=21) (LA.length-i) i);rw[hm]at hge hle hsame h1⊢;by_cases e:m=LA.length
  ·refine .inr ⟨e,?_⟩;have:=kP (λj=>raw LB j !=20&&raw LB j !=21) (LA.length-i) (LB.length-LA.length) i dS;rw[show LB.length-i=LA.length-i+(LB.length-LA.length)by omega];omega
  ·refine .inl ⟨?_,dS⟩;have hB:(λj=>raw LB j !=20&&raw LB j !=21) m=false:=by
    dsimp only at h1⊢;rw[h.raw dS];exact h1
   rw[E9 (λj=>raw LB j !=20&&raw LB j !=21) m hB (LB.length-i) (LA.length-i) i hge dS dS];exact hsame
theorem U1{LA LB:List Tk}(h:jM LA LB){e e' i:Nat}(hc:Cut LA e e')(hi:i<LA.length):kd LB e' i=kd LA e i:=by
 unfold kd;rw[h.raw hi];have:(e'<=i\/raw LA i=20\/raw LA i=21)↔(e<=i\/raw LA i=20\/raw LA i=21):=by
  rcases hc with⟨rfl,_⟩|⟨rfl,h2⟩
  ·exact Iff.rfl
  ·constructor
   ·rintro(g|g)
    ·omega
    ·exact .inr g
   ·rintro(g|g)
    ·omega
    ·exact .inr g
 by_cases g:e<=i\/raw LA i=20\/raw LA i=21
 ·rw[dX g,dX (this.2 g)]
 ·rw[dW g,dW (λk=>g (this.1 k))]
theorem Cu{LA LB:List Tk}(h:jM LA LB){e e' i:Nat}(hc:Cut LA e e')(hi:i<LA.length)(hie:i<=e):blanks LB e' i=blanks LA e i/\blanks LA e i<LA.length/\i<=blanks LA e i/\blanks LA e i<=e:=by
 have hge:=kH (λj=>raw LA j==3) (e-i) i;have hle:=lq (λj=>raw LA j==3) (e-i) i;have hlen:=h.len;unfold blanks;rcases hc with⟨rfl,h1⟩|⟨rfl,h2⟩
 ·exact⟨qa _ _ _ _ (λj g1 g2=>by rw[h.raw dS]),dS,hge,dS⟩
 ·have hl:=h.last dS;have aa:(λj=>raw LA j==3) (LA.length-1)=false:=by
   show(raw LA (LA.length-1)==3)=false;rw[hl];rfl
  have ae:(λj=>raw LB j==3) (LA.length-1)=false:=by
   show(raw LB (LA.length-1)==3)=false;rw[h.raw dS,hl];rfl
  have hu:=NJ (λj=>raw LA j==3) (LA.length-1) aa (LA.length-i) i dS;refine⟨?_,dS,hge,dS⟩;rw[E9 (λj=>raw LB j==3) (LA.length-1) ae (e'-i) (LA.length-i) i dS dS dS];exact qa _ _ _ _ (λj g1 g2=>by rw[h.raw dS])
theorem IA{LA LB:List Tk}(h:jM LA LB){e e':Nat}(hc:Cut LA e e'):∀(k f f' i:Nat)(o:Option (Nat×Nat)),LA.length-i<=k->i<LA.length->i<=e->e-i<=f->e'-i<=f'->(∀a z,o=some (a,z)->a<=z/\z<i)->
 lead LB e' f' o i=lead LA e f o i/\(lead LA e f o i).2<LA.length/\(∀a z,(lead LA e f o i).1=some (a,z)->a<=z/\z<(lead LA e f o i).2)
 |0,f,f',i,o=>λh0 hi=>dS
 |k+1,f,f',i,o=>λh0 hi hie hf hf' ho=>by
  have hk:=U1 h hc hi;by_cases hp:gG (kd LA e i)=true
  ·have hki:=ji (l:=LA) (e:=e) (i:=i) (λe0=>by rw[e0]at hp;exact absurd hp dU);have hlt:i+1<LA.length:=by
    rcases mD (i+1) LA.length with g|g
    ·exact g
    ·exfalso;have hl:=h.last dS;rw[show LA.length-1=i by omega,hki.2]at hl;rw[hl]at hp;exact absurd hp dU
   have aa:i<e':=by
    rcases hc with⟨rfl,_⟩|⟨rfl,g⟩<;>omega
   cases f with
   |zero=>omega
   |succ f=>
    cases f' with
    |zero=>omega
    |succ f' =>
     rw[lead,lead,hk,dX hp,dX hp];obtain⟨b1,b2,b3,b4⟩:=Cu h hc hlt dS;rw[b1];refine IA h hc k f f' (blanks LA e (i+1)) (some (j5 o i,i)) dS b2 b4 dS dS (λa z haz=>?_);injection haz with haz
     injection haz with h1 h2
     subst h1 h2;refine⟨?_,dS⟩;cases o with
     |none=>exact eO _
     |some x=>
      obtain⟨a,z⟩:=x;have:=ho a z rfl;show a<=i;omega
  ·have e1:lead LA e f o i=(o,i):=by cases f with
    |zero=>rfl
    |succ f=>rw[lead,dW hp]
   have e2:lead LB e' f' o i=(o,i):=by cases f' with
    |zero=>rfl
    |succ f'=>rw[lead,hk,dW hp]
   rw[e1,e2];exact⟨rfl,hi,ho⟩
def nU(n':Int)(s:St):St:=⟨pQ n' s.t,s.d⟩
def iD(n':Int)(p:PS):PS:={p with s:=nU n' p.s}
theorem add_same{n n':Int}{s:St}(h:Wi n s.t)(up:Int)(kind f t:Nat)(ht:(t:Int)<=n)(hn:n<=n'):
 add (nU n' s) up kind f t=(nU n' (add s up kind f t).1,(add s up kind f t).2)/\Wi n (add s up kind f t).1.t:=by
 obtain⟨g1,g2⟩:=Iz h (up:=up) (kind:=kind) (f:=f) (t:=t) ht hn;unfold add nU;dsimp only;rw[g1];exact⟨rfl,g2⟩
theorem Al{LA LB:List Tk}(h:jM LA LB){n':Int}{s:St}(hw:Wi LA.length s.t)(hn:(LA.length:Int)<=n')(up:Int){f t:Nat}(code:Nat)(hft:f<t)(ht:t<=LA.length):
 err LB (nU n' s) up f t code=nU n' (err LA s up f t code)/\Wi LA.length (err LA s up f t code).t:=by
 obtain⟨g1,g2⟩:=Iz hw (up:=up) (kind:=11) (f:=f) (t:=t) dS hn;unfold err nU;dsimp only;rw[g1,h.kW dS,h.too dS];exact⟨rfl,g2⟩
theorem jW{LA LB:List Tk}(h:jM LA LB):∀(i m:Nat),i<=LA.length->back LB i m=back LA i m
 |0,_=>λ_=>rfl
 |i+1,m=>λhi=>by rw[back,back,h.raw dS,jW h i m dS]
theorem Xg{LA LB:List Tk}(h:jM LA LB){n':Int}{s:St}(hw:Wi LA.length s.t)(hn:(LA.length:Int)<=n')(c:Int){j q:Nat}(hjq:j<q)(hq:q<=LA.length):
 pair LB (nU n' s) c j q=(nU n' (pair LA s c j q).1,(pair LA s c j q).2)/\Wi LA.length (pair LA s c j q).1.t:=by
 obtain⟨g1,g2⟩:=add_same hw c 6 j q dS hn;unfold pair;dsimp only;rw[g1];dsimp only;by_cases h2:q-j<2
 ·rw[dX h2,dX h2];exact⟨rfl,g2⟩
 ·rw[dW h2,dW h2];have hany:(List.range (q-j)).any (λx=>raw LB (j+x)==13)=(List.range (q-j)).any (λx=>raw LA (j+x)==13):=by
   rw[qb,U8,U8];constructor
   ·rintro⟨x,hx,hp⟩;have:=yH.1 hx;exact⟨x,hx,by rw[<-h.raw dS];exact hp⟩
   ·rintro⟨x,hx,hp⟩;have:=yH.1 hx;exact⟨x,hx,by rw[h.raw dS];exact hp⟩
  rw[hany,jW h (q-1) (j+1) dS];have hb:=gH LA (q-1) (j+1);obtain⟨k1,k2⟩:=add_same g2 (add s c 6 j q).2 (if(List.range (q-j)).any (λx=>raw LA (j+x)==13)=true then 8 else 7) j (back LA (q-1) (j+1)) dS hn;rw[k1];obtain⟨m1,m2⟩:=Td (n':=n') k2 (add s c 6 j q).2;refine⟨?_,m2⟩;unfold nU;dsimp only;rw[m1]
theorem adF{LA LB:List Tk}(h:jM LA LB){n':Int}{s:St}(hw:Wi LA.length s.t)(hn:(LA.length:Int)<=n'){e e':Nat}(hc:Cut LA e e')(d:Nat)(up:Int){p:Nat}(hp:p<LA.length)(hpe:p<=e):
 gP LB e' d up p (nU n' s)=((gP LA e d up p s).1,(gP LA e d up p s).2.1,nU n' (gP LA e d up p s).2.2)/\Wi LA.length (gP LA e d up p s).2.2.t/\(gP LA e d up p s).2.1<=LA.length/\((gP LA e d up p s).1<0->(gP LA e d up p s).2.1<=p\/(gP LA e d up p s).2.1<=LA.length):=by
 have key:∀qJ aa:Option (Int->Nat->St->Nat×St),oJ LB e' aa up p (nU n' s)=((oJ LA e qJ up p s).1,(oJ LA e qJ up p s).2.1,nU n' (oJ LA e qJ up p s).2.2)/\Wi LA.length (oJ LA e qJ up p s).2.2.t/\(oJ LA e qJ up p s).2.1<=LA.length:=by
  intro qJ aa;obtain⟨b1,b2,b3,b4⟩:=Cu h hc hp hpe;unfold oJ;dsimp only;rw[b1];obtain⟨i0,hi0⟩:=eu (blanks LA e p);rw[hi0]at b2 b4⊢;obtain⟨l1,l2,l3⟩:=IA h hc LA.length (e-i0) (e'-i0) i0 none dS b2 b4 (eO _) (eO _) (λa z h=>fV);rw[l1];obtain⟨o,ho⟩:=eu ((lead LA e (e-i0) none i0).1);obtain⟨i,hi⟩:=eu ((lead LA e (e-i0) none i0).2);rw[ho,hi]at l3;rw[hi]at l2;rw[ho,hi,U1 h hc l2];obtain⟨fr,hfr⟩:=eu (j5 o i);rw[hfr];obtain⟨k,hk⟩:=eu (kd LA e i);have hq:=h.quiet i l2;have hkr:k≠0->raw LA i=k:=λh0=>by have:=(ji (l:=LA) (e:=e) (i:=i) dS).2;omega
  rw[hk];have put:∀kind t:Nat,t<=LA.length->((add (nU n' s) up kind fr t).2,t,(add (nU n' s) up kind fr t).1)=((add s up kind fr t).2,t,nU n' (add s up kind fr t).1)/\Wi LA.length (add s up kind fr t).1.t/\t<=LA.length:=by
   intro kind t ht;obtain⟨g1,g2⟩:=add_same hw up kind fr t dS hn;rw[g1];exact⟨rfl,g2,ht⟩
  by_cases c1:k=13
  ·rw[dX c1,dX c1];exact put 8 (i+1) dS
  rw[dW c1,dW c1];by_cases c2:gX k=true
  ·rw[dX c2,dX c2];exact put 7 (i+1) dS
  rw[dW c2,dW c2];have c3:k≠18:=λe0=>by have:=hkr dS;omega
  rw[dW c3,dW c3];have c4:¬opens k=true:=by
   intro ho;have h0:k≠0:=λe0=>by rw[e0]at ho;exact absurd ho dU
   have:=hkr h0;unfold opens at ho;simp at ho;omega
  rw[dW c4,dW c4];cases o with
  |none=>exact⟨rfl,hw,pJ hp⟩
  |some x=>
   obtain⟨a,z⟩:=x;have:=l3 a z rfl;exact put 7 (z+1) dS
 cases d with
 |zero=>
  obtain⟨g1,g2,g3⟩:=key none none;rw[gP,gP];exact⟨g1,g2,g3,λ_=>.inr g3⟩
 |succ d=>
  obtain⟨g1,g2,g3⟩:=key (some (λc op s=>lN LA e (gP LA e d) c op (e-op) (op+1) false s)) (some (λc op s=>lN LB e' (gP LB e' d) c op (e'-op) (op+1) false s));rw[gP,gP];exact⟨g1,g2,g3,λ_=>.inr g3⟩
theorem vk{LA LB:List Tk}(h:jM LA LB)(a b:Nat)(hb:b<=LA.length):lo LB a b=lo LA a b:=by
 unfold lo;refine qa _ _ _ _ (λj h1 h2=>?_);rw[h.raw dS]
theorem adG(l:List Tk)(next:Nat)(none':Bool)(h1:next<=l.length)(h2:none'=true->next<l.length)(h3:0<l.length):∃r,(Rw.eF l).find? (λr=>!(decide (r.bu<next)||(none' &&r.bu==next)))=some r:=by
 cases hf:(Rw.eF l).find? (λr=>!(decide (r.bu<next)||(none' &&r.bu==next)))with
 |some r=>exact⟨r,rfl⟩
 |none=>
  exact Zg
theorem FZ{LA LB:List Tk}(h:jM LA LB){n':Int}{s:St}(hw:Wi LA.length s.t)(hn:(LA.length:Int)<=n')(up:Int)(a b:Nat)(hb:b<=LA.length):
 mR LB (nU n' s) up a b 8=nU n' (mR LA s up a b 8)/\Wi LA.length (mR LA s up a b 8).t:=by
 unfold mR;by_cases hab:a<b
 ·rw[dX hab,dX hab];exact Al h hw hn up 8 hab hb
 ·rw[dW hab,dW hab];exact⟨rfl,hw⟩
theorem vD{LA LB:List Tk}(h:jM LA LB){RB:List R}(hR:∃Y,RB=Rw.eF LA++Y){n':Int}{p:PS}(hw:Wi LA.length p.s.t)(hn:(LA.length:Int)<=n')(depth:Nat)(up:Int){i:Nat}(hi:i<LA.length):
 value LB RB depth (iD n' p) up i=(iD n' (value LA (Rw.eF LA) depth p up i).1,(value LA (Rw.eF LA) depth p up i).2)/\Wi LA.length (value LA (Rw.eF LA) depth p up i).1.s.t:=by
 obtain⟨hc,hie⟩:=Xf h hi;obtain⟨v1,v2,v3,_⟩:=adF h (s:=p.s) hw hn hc (depth-p.st.length) up hi hie;have hv:gP LB (limit LB i) (depth-(iD n' p).st.length) up i (iD n' p).s=((gP LA (limit LA i) (depth-p.st.length) up i p.s).1,(gP LA (limit LA i) (depth-p.st.length) up i p.s).2.1,nU n' (gP LA (limit LA i) (depth-p.st.length) up i p.s).2.2):=v1;unfold value;dsimp only;rw[hv];obtain⟨v,hvd⟩:=eu (gP LA (limit LA i) (depth-p.st.length) up i p.s);rw[hvd]at v2 v3⊢;dsimp only;have key:∀(next:Nat)(none':Bool),next<=LA.length->(none'=true->next<LA.length)->
  rest LB RB {iD n' p with s:=nU n' v.2.2} up next none'=iD n' (rest LA (Rw.eF LA) {p with s:=v.2.2} up next none')/\Wi LA.length (rest LA (Rw.eF LA) {p with s:=v.2.2} up next none').s.t:=by
  intro next none' g1 g2;obtain⟨r,hr⟩:=adG LA next none' g1 g2 dS;have hrt:oU RB next none'=oU (Rw.eF LA) next none':=by
   obtain⟨Y,rfl⟩:=hR;unfold oU;rw[List.find?_append,hr];rfl
  obtain⟨r1,r2⟩:=Rc LA next none' g1 g2 dS;unfold rest;dsimp only;rw[hrt];obtain⟨q,hq⟩:=eu (oU (Rw.eF LA) next none');rw[hq]at r1 r2⊢;rw[vk h next q r2,jW h q _ r2];obtain⟨s1,s2⟩:=FZ h v2 hn up (lo LA next q) (back LA q (lo LA next q)) (by have:=gH LA q (lo LA next q);omega);rw[s1];exact⟨rfl,s2⟩
 by_cases h0:v.1<0
 ·rw[dX h0];obtain⟨k1,k2⟩:=key i (decide (v.1<0)) dS (λ_=>hi);rw[k1];exact⟨rfl,k2⟩
 ·rw[dW h0];obtain⟨k1,k2⟩:=key (max v.2.1 i) (decide (v.1<0)) dS (λh=>absurd (pM h) h0);rw[k1];exact⟨rfl,k2⟩
end Ps
namespace Ps
open Ar Fl
open Rw (R E)
theorem NK{LA LB:List Tk}(h:jM LA LB){n':Int}{s:St}(hw:Wi LA.length s.t)(hn:(LA.length:Int)<=n')(node:Int){en:E}(hlt:en.from'<en.bu)(hle:en.bu<=LA.length):
 cur LB (nU n' s) node en=(nU n' (cur LA s node en).1,(cur LA s node en).2)/\Wi LA.length (cur LA s node en).1.t:=by
 unfold cur;by_cases hd:en.dash=true
 ·rw[dX hd,dX hd];exact add_same hw node 4 en.from' en.bu dS hn
 ·rw[dW hd,dW hd];exact Xg h hw hn node hlt hle
theorem F3{LA LB:List Tk}(h:jM LA LB){n':Int}{p:PS}(hw:Wi LA.length p.s.t)(hn:(LA.length:Int)<=n')(o:Op)(r:List Op){en:E}(hlt:en.from'<en.bu)(hle:en.bu<=LA.length):
 again LB (iD n' p) o r en=((again LA p o r en).1,iD n' (again LA p o r en).2)/\Wi LA.length (again LA p o r en).2.s.t:=by
 obtain⟨g1,g2⟩:=NK h hw hn o.node hlt hle;have g1:cur LB (iD n' p).s o.node en=_:=g1;unfold again;rw[g1];exact⟨rfl,g2⟩
theorem Ff{LA LB:List Tk}(h:jM LA LB){n':Int}{p:PS}(hw:Wi LA.length p.s.t)(hn:(LA.length:Int)<=n')(depth:Nat)(up:Int)(root:Bool)(st:List Op){en:E}(hlt:en.from'<en.bu)(hle:en.bu<=LA.length):
 fresh LB depth (iD n' p) up root st en=((fresh LA depth p up root st en).1,iD n' (fresh LA depth p up root st en).2)/\Wi LA.length (fresh LA depth p up root st en).2.s.t:=by
 unfold fresh;by_cases hd:depth<st.length+1
 ·rw[dX hd,dX hd];exact⟨rfl,hw⟩
 ·rw[dW hd,dW hd];obtain⟨g1,g2⟩:=add_same hw up (kindOf en) en.from' en.bu dS hn;have g1:add (iD n' p).s up (kindOf en) en.from' en.bu=_:=g1;dsimp only;rw[g1];dsimp only;obtain⟨k1,k2⟩:=NK h g2 hn (add p.s up (kindOf en) en.from' en.bu).2 hlt hle;rw[k1];exact⟨rfl,k2⟩
theorem Te{LA LB:List Tk}(h:jM LA LB){n':Int}{p:PS}(hw:Wi LA.length p.s.t)(hn:(LA.length:Int)<=n')(depth:Nat){en:E}(hlt:en.from'<en.bu)(hle:en.bu<=LA.length):
 place LB depth (iD n' p) en=((place LA depth p en).1,iD n' (place LA depth p en).2)/\Wi LA.length (place LA depth p en).2.s.t:=by
 have hr:∀(l:List Tk)(p:PS),(place l depth p en)=(match p.st.dropWhile (λo=>decide (en.eT<o.eT))with
  |[]=>if p.root=true then(7,p)else fresh l depth p p.doc true [] en
  |o::r=>
   if o.eT=en.eT then
    if o.kind=kindOf en then again l p o r en
    else if kindOf en=3 then(if o.has=true then(5,p)else fresh l depth p o.cur p.root ({o with has:=true}::r) en)
    else match r with
     |o2::r2=>if o2.eT=en.eT/\o2.kind=5 then again l p o2 r2 en else(5,p)
     |[]=>(5,p)
   else if o.has=true then(6,p)else fresh l depth p o.cur p.root ({o with has:=true}::r) en):=λ_ _=>rfl
 rw[hr LA p,hr LB (iD n' p),show(iD n' p).st=p.st from rfl];cases p.st.dropWhile (λo=>decide (en.eT<o.eT))with
 |nil=>
  dsimp only;by_cases c:p.root=true
  ·rw[dX c,dX (show(iD n' p).root=true from c)];exact⟨rfl,hw⟩
  ·rw[dW c,dW (show¬(iD n' p).root=true from c)];exact Ff h hw hn depth p.doc true [] hlt hle
 |cons o r=>
  dsimp only;by_cases c1:o.eT=en.eT
  ·rw[dX c1,dX c1];by_cases c2:o.kind=kindOf en
   ·rw[dX c2,dX c2];exact F3 h hw hn o r hlt hle
   ·rw[dW c2,dW c2];by_cases c3:kindOf en=3
    ·rw[dX c3,dX c3];by_cases c4:o.has=true
     ·rw[dX c4,dX c4];exact⟨rfl,hw⟩
     ·exact ZA
    ·rw[dW c3,dW c3];cases r with
     |nil=>exact⟨rfl,hw⟩
     |cons o2 r2=>
      dsimp only;by_cases c5:o2.eT=en.eT/\o2.kind=5
      ·rw[dX c5,dX c5];exact F3 h hw hn o2 r2 hlt hle
      ·rw[dW c5,dW c5];exact⟨rfl,hw⟩
  ·rw[dW c1,dW c1];by_cases c4:o.has=true
   ·rw[dX c4,dX c4];exact⟨rfl,hw⟩
   ·exact ZA
theorem Cv{LA LB:List Tk}(h:jM LA LB){n':Int}(hn:(LA.length:Int)<=n')(depth:Nat){b:Nat}(hb:b<=LA.length):∀(es:List E)(e0:Nat)(p:PS)(up:Int),Wi LA.length p.s.t->mU LA b e0 es->
 places LB depth b (iD n' p) up es=((places LA depth b p up es).1,iD n' (places LA depth b p up es).2)/\Wi LA.length (places LA depth b p up es).2.s.t
 |[],e0,p,up=>λhw _=>⟨rfl,hw⟩
 |en::es,e0,p,up=>λhw ⟨h1,h2,h3,h4⟩=>by
  obtain⟨g1,g2⟩:=Te h hw hn depth h2 dS;rw[places,places,g1];dsimp only;by_cases c:(place LA depth p en).1=0
  ·rw[dX c,dX c];exact Cv h hn depth hb es en.bu _ _ g2 h4
  ·rw[dW c,dW c];obtain⟨k1,k2⟩:=Al h hw hn up (place LA depth p en).1 (f:=en.from') (t:=b) dS hb;refine⟨?_,k2⟩;have k1:err LB (iD n' p).s up en.from' b (place LA depth p en).1=_:=k1;rw[k1];rfl
theorem F4{n n':Int}{p:PS}(hw:Wi n p.s.t)(hn:n<=n'){i:Nat}(hi:(i:Int)<=n):gI (iD n' p) i=iD n' (gI p i)/\Wi n (gI p i).s.t:=by
 unfold gI;by_cases c:p.doc<0
 ·rw[dX c,dX (show(iD n' p).doc<0 from c)];obtain⟨g1,g2⟩:=add_same hw 0 2 i i hi hn;have g1:add (iD n' p).s 0 2 i i=_:=g1;rw[g1];exact⟨rfl,g2⟩
 ·rw[dW c,dW (show¬(iD n' p).doc<0 from c)];exact⟨rfl,hw⟩
theorem Xh{LA LB:List Tk}(h:jM LA LB){RB:List R}(hR:∃Y,RB=Rw.eF LA++Y){n':Int}{p:PS}(hw:Wi LA.length p.s.t)(hn:(LA.length:Int)<=n')(depth:Nat){r:R}(hr:lV LA r)(h4:r.kind=4):
 mark LB RB depth (iD n' p) r=iD n' (mark LA (Rw.eF LA) depth p r)/\Wi LA.length (mark LA (Rw.eF LA) depth p r).s.t:=by
 have hlt:=hr.lt;have hle:=hr.le;have m1:=(hr.mark h4).1;unfold mark;dsimp only;rw[vk h r.from' r.bu hle];obtain⟨a,ha⟩:=eu (lo LA r.from' r.bu);rw[ha]at m1⊢;rw[h.raw (show a<LA.length by omega),vk h (a+1) r.bu hle,jW h r.bu _ hle,jW h r.bu _ hle];by_cases c:raw LA a=20
 ·rw[dX c,dX c];obtain⟨g1,g2⟩:=add_same hw 0 2 a (a+1) dS hn;have g1:add (iD n' p).s 0 2 a (a+1)=_:=g1;rw[g1];dsimp only;by_cases c2:lo LA (a+1) r.bu<back LA r.bu (lo LA (a+1) r.bu)
  ·rw[dX c2,dX c2];have hb:=gH LA r.bu (lo LA (a+1) r.bu);obtain⟨k1,k2⟩:=vD h hR (p:={p with s:=(add p.s 0 2 a (a+1)).1,doc:=(add p.s 0 2 a (a+1)).2,root:=false,st:=[]}) g2 hn depth (add p.s 0 2 a (a+1)).2 (i:=lo LA (a+1) r.bu) dS;have k1:value LB RB depth {iD n' p with s:=nU n' (add p.s 0 2 a (a+1)).1,doc:=(add p.s 0 2 a (a+1)).2,root:=false,st:=[]} (add p.s 0 2 a (a+1)).2 (lo LA (a+1) r.bu)=_:=k1;rw[k1];exact⟨rfl,k2⟩
  ·rw[dW c2,dW c2];exact⟨rfl,g2⟩
 ·rw[dW c,dW c];have hg:(if 0<=(iD n' p).doc then(⟨iB (iD n' p).s.t (iD n' p).doc ((a+1:Nat):Int),(iD n' p).s.d⟩:St)else(iD n' p).s)=nU n' (if 0<=p.doc then⟨iB p.s.t p.doc ((a+1:Nat):Int),p.s.d⟩else p.s)/\
   Wi LA.length (if 0<=p.doc then(⟨iB p.s.t p.doc ((a+1:Nat):Int),p.s.d⟩:St)else p.s).t:=by
   by_cases c3:0<=p.doc
   ·rw[dX c3,dX (show 0<=(iD n' p).doc from c3)];obtain⟨g1,g2⟩:=Tc hw (i:=p.doc) (t:=((a+1:Nat):Int)) dS hn;refine⟨?_,g2⟩;show(⟨iB (pQ n' p.s.t) p.doc ((a+1:Nat):Int),p.s.d⟩:St)=_;rw[g1];rfl
   ·rw[dW c3,dW (show¬0<=(iD n' p).doc from c3)];exact⟨rfl,hw⟩
  rw[hg.1];obtain⟨s1,hs1⟩:=eu ((if 0<=p.doc then(⟨iB p.s.t p.doc ((a+1:Nat):Int),p.s.d⟩:St)else p.s));have hw1:=hg.2;rw[hs1]at hw1⊢;obtain⟨b,hb⟩:=eu (back LA r.bu a);have hbl:=gH LA r.bu a;rw[hb]at hbl⊢;rw[vk h (a+1) b dS,jW h b _ dS];have hy:=gH LA b (lo LA (a+1) b);obtain⟨k1,k2⟩:=FZ h hw1 hn 0 (lo LA (a+1) b) (back LA b (lo LA (a+1) b)) dS;rw[k1];exact⟨rfl,k2⟩
theorem Xi{LA LB:List Tk}(h:jM LA LB){RB:List R}(hR:∃Y,RB=Rw.eF LA++Y){n':Int}{p:PS}(hw:Wi LA.length p.s.t)(hn:(LA.length:Int)<=n')(depth:Nat)(r:R){a b:Nat}(hab:a<b)(hb:b<=LA.length):
 bare LB RB depth (iD n' p) r a b=iD n' (bare LA (Rw.eF LA) depth p r a b)/\Wi LA.length (bare LA (Rw.eF LA) depth p r a b).s.t:=by
 have hr:∀(l:List Tk)(rs:List R)(p:PS),bare l rs depth p r a b=(match p.st.dropWhile (λo=>decide (r.eT<=o.eT))with
  |[]=>if p.root=true then{p with s:=err l p.s (holder p) a b 7}
   else
    let v:=value l rs depth {p with st:=[]} p.doc a
    {v.1 with root:=v.2}
  |o::q=>if o.has=true then{p with s:=err l p.s (holder p) a b 7}
   else
    let v:=value l rs depth {p with st:=o::q} o.cur a
    {v.1 with st:={o with has:=v.2}::q}):=λ_ _ _=>rfl
 rw[hr LA _ p,hr LB _ (iD n' p),show(iD n' p).st=p.st from rfl];have aa:({iD n' p with s:=err LB (iD n' p).s (holder (iD n' p)) a b 7}:PS)=iD n' {p with s:=err LA p.s (holder p) a b 7}/\Wi LA.length (err LA p.s (holder p) a b 7).t:=by
  obtain⟨k1,k2⟩:=Al h hw hn (holder p) 7 hab hb;have k1:err LB (iD n' p).s (holder (iD n' p)) a b 7=_:=k1;rw[k1];exact⟨rfl,k2⟩
 cases p.st.dropWhile (λo=>decide (r.eT<=o.eT))with
 |nil=>
  dsimp only;by_cases c:p.root=true
  ·rw[dX c,dX (show(iD n' p).root=true from c)];exact aa
  ·rw[dW c,dW (show¬(iD n' p).root=true from c)];obtain⟨k1,k2⟩:=vD h hR (p:={p with st:=[]}) hw hn depth p.doc (i:=a) dS;have k1:value LB RB depth {iD n' p with st:=[]} (iD n' p).doc a=_:=k1;rw[k1];exact⟨rfl,k2⟩
 |cons o q=>
  dsimp only;by_cases c:o.has=true
  ·rw[dX c,dX c];exact aa
  ·rw[dW c,dW c];obtain⟨k1,k2⟩:=vD h hR (p:={p with st:=o::q}) hw hn depth o.cur (i:=a) dS;have k1:value LB RB depth {iD n' p with st:=o::q} o.cur a=_:=k1;rw[k1];exact⟨rfl,k2⟩
theorem Xj{LA LB:List Tk}(h:jM LA LB){r:R}(hr:lV LA r):Rw.iH LB r=Rw.iH LA r:=by
 have hlt:=hr.lt;have hle:=hr.le;obtain⟨X,rfl⟩:=h.pre;unfold Rw.iH;rw[Vb dS,XR jc]
theorem Xk{LA LB:List Tk}(ht:Rw.jO 0 LA)(h:jM LA LB){RB:List R}(hR:∃Y,RB=Rw.eF LA++Y){n':Int}{p:PS}(hw:Wi LA.length p.s.t)(hn:(LA.length:Int)<=n')(depth:Nat){r:R}(hr:lV LA r)(h5:r.kind=5):
 body LB RB depth (iD n' p) r=iD n' (body LA (Rw.eF LA) depth p r)/\Wi LA.length (body LA (Rw.eF LA) depth p r).s.t:=by
 have hlt:=hr.lt;have hle:=hr.le;have hlo:=hr.body h5;have hcn:=qh LA hlo;obtain⟨n1,_⟩:=uY ht hr h5;unfold body;dsimp only;rw[Xj h hr,vk h r.from' r.bu hle,jW h r.bu _ hle];obtain⟨a,ha⟩:=eu (lo LA r.from' r.bu);rw[ha]at hlo hcn n1⊢;have hbl:=gH LA r.bu a;have hbg:=ow LA r.bu a a (eO _) hlo hcn;obtain⟨b,hb⟩:=eu (back LA r.bu a);rw[hb]at n1 hbl hbg⊢;obtain⟨g1,g2⟩:=F4 hw hn (i:=a) dS;rw[g1];obtain⟨p1,hp1⟩:=eu (gI p a);rw[hp1]at g2⊢;obtain⟨es,hes⟩:=eu (Rw.iH LA r);rw[hes]at n1⊢;by_cases c:es.1=[]
 ·rw[dX c,dX c];exact Xi h hR g2 hn depth r hbg dS
 ·rw[dW c,dW c];obtain⟨k1,k2⟩:=Cv h hn depth (b:=b) dS es.1 a p1 (holder p1) g2 n1;have k1:places LB depth b (iD n' p1) (holder (iD n' p1)) es.1=_:=k1;rw[k1];obtain⟨q,hq⟩:=eu (places LA depth b p1 (holder p1) es.1);rw[hq]at k2⊢;dsimp only;by_cases c2:q.1=true
  ·rw[dX c2,dX c2,vk h _ _ hle,jW h r.bu _ hle];by_cases c3:lo LA es.2 r.bu<back LA r.bu (lo LA es.2 r.bu)
   ·rw[dX c3,dX c3];have hb2:=gH LA r.bu (lo LA es.2 r.bu);rw[show(iD n' q.2).st=q.2.st from rfl];cases q.2.st with
    |nil=>exact⟨rfl,k2⟩
    |cons t k=>
     dsimp only;obtain⟨m1,m2⟩:=vD h hR (p:=q.2) k2 hn depth t.cur (i:=lo LA es.2 r.bu) dS;rw[m1];exact⟨rfl,m2⟩
   ·rw[dW c3,dW c3];exact⟨rfl,k2⟩
  ·rw[dW c2,dW c2];exact⟨rfl,k2⟩
theorem adH{LA LB:List Tk}(ht:Rw.jO 0 LA)(h:jM LA LB){RB:List R}(hR:∃Y,RB=Rw.eF LA++Y){n':Int}{p:PS}(hw:Wi LA.length p.s.t)(hn:(LA.length:Int)<=n')(depth:Nat){r:R}(hr:lV LA r):
 row LB RB depth (iD n' p) r=iD n' (row LA (Rw.eF LA) depth p r)/\Wi LA.length (row LA (Rw.eF LA) depth p r).s.t:=by
 have hlt:=hr.lt;have hle:=hr.le;have hw0:Wi LA.length ({p with read:=r.bu}:PS).s.t:=hw;unfold row;dsimp only;by_cases c4:r.kind=4
 ·rw[dX c4,dX c4];exact Xh h hR hw0 hn depth hr c4
 rw[dW c4,dW c4];by_cases c5:r.kind=5
 ·rw[dX c5,dX c5];exact Xk ht h hR hw0 hn depth hr c5
 rw[dW c5,dW c5];by_cases c2:r.kind=2\/r.kind=3
 ·rw[dX c2,dX c2,vk h _ _ hle,jW h r.bu _ hle];by_cases c3:lo LA r.from' r.bu<back LA r.bu (lo LA r.from' r.bu)
  ·rw[dX c3,dX c3];have hb:=gH LA r.bu (lo LA r.from' r.bu);obtain⟨g1,g2⟩:=F4 hw0 hn (i:=lo LA r.from' r.bu) dS;have g1:gI {iD n' p with read:=r.bu} (lo LA r.from' r.bu)=_:=g1;rw[g1];obtain⟨k1,k2⟩:=Al h g2 hn (holder (gI {p with read:=r.bu} (lo LA r.from' r.bu))) 8 c3 dS;have k1:err LB (iD n' (gI {p with read:=r.bu} (lo LA r.from' r.bu))).s (holder (iD n' (gI {p with read:=r.bu} (lo LA r.from' r.bu)))) _ _ 8=_:=k1;rw[k1];exact⟨rfl,k2⟩
  ·rw[dW c3,dW c3];exact⟨rfl,hw⟩
 ·rw[dW c2,dW c2];exact⟨rfl,hw⟩
theorem zl{LA LB:List Tk}(ht:Rw.jO 0 LA)(h:jM LA LB){RB:List R}(hR:∃Y,RB=Rw.eF LA++Y){n':Int}(hn:(LA.length:Int)<=n')(depth:Nat):∀(rs:List R)(p:PS),(∀r∈rs,lV LA r)->Wi LA.length p.s.t->
 iA LB RB depth (iD n' p) rs=iD n' (iA LA (Rw.eF LA) depth p rs)/\Wi LA.length (iA LA (Rw.eF LA) depth p rs).s.t
 |[],p=>λ_ hw=>⟨rfl,hw⟩
 |r::rs,p=>λhrs hw=>by
  rw[iA,iA];by_cases c:p.read<=r.from'
  ·rw[dX c,dX (show(iD n' p).read<=r.from' from c)];obtain⟨g1,g2⟩:=adH ht h hR hw hn depth (hrs r eG);rw[g1];exact zl ht h hR hn depth rs _ (λx hx=>hrs x qT) g2
  ·rw[dW c,dW (show¬(iD n' p).read<=r.from' from c)];exact zl ht h hR hn depth rs p (λx hx=>hrs x qT) hw
theorem IB(l:List Tk)(rs:List R)(depth:Nat):∀(a b:List R)(p:PS),iA l rs depth p (a++b)=iA l rs depth (iA l rs depth p a) b
 |[],_,_=>rfl
 |r::a,b,p=>by rw[Dm,iA,iA,IB l rs depth a b]
theorem NM(X:List Tk):∀(n:Nat)(LA:List Tk)(fr:Nat),LA.length<=n->(∀x∈LA,x.1≠8/\x.1≠9)->(LA≠[]->∃x,LA.getLast?=some x/\Rw.ends x=true)->
 Rw.jq 0 fr (LA++X)=Rw.jq 0 fr LA++Rw.jq 0 (fr+LA.length) X
 |0,LA,fr=>λhl _ _=>by
  obtain rfl:LA=[]:=l9 dS;rfl
 |n+1,LA,fr=>λhl hq he=>by
  by_cases hne:LA=[]
  ·subst hne;rfl
  ·obtain⟨x,hx1,hx2⟩:=he hne;have hpos:=Rw.oC LA hne;have hle:=Rw.xJ LA;have hr:Rw.jm (LA++X)=Rw.jm LA:=by
    refine Rw.TW _ _ hpos (λj y hj hy=>?_) ?_
    ·rw[nK dS]at hy;exact Rw.TU LA j y hj hy
    ·rcases Rw.ED LA hne with h|⟨y,h1,h2⟩
     ·right;refine⟨x,?_,hx2⟩;rw[nK dS,h,<-ahK];exact hx1
     ·right;refine⟨y,?_,h2⟩;rw[nK dS];exact h1
   have hne2:LA++X≠[]:=by
    intro e;have:=congrArg List.length e;rw[iK,Gi]at this;omega
   rw[Rw.nO _ _ _ hne2,Rw.nO _ _ _ hne,hr];obtain⟨k,hk⟩:=eu (Rw.jm LA);rw[hk]at hpos hle⊢;rw[XR hle,Vb hle];have hop:Rw.mZ 0 (LA.take k)=0:=by
    have key:∀ts:List Tk,(∀x∈ts,x.1≠8/\x.1≠9)->Rw.mZ 0 ts=0:=by
     intro ts
     induction ts with
     |nil=>intro _;rfl
     |cons y r ih=>
      intro hq;have h0:Sc.opens 0 y.1=0:=by
       have:=hq y eG;unfold Sc.opens;rw[dW dS]
       (repeat' split)<;>rfl
      show Rw.mZ (Sc.opens 0 y.1) r=0;rw[h0];exact ih (λx hx=>hq x qT)
    exact key _ (λx hx=>hq x (Gl hx))
   rw[hop,NM X n (LA.drop k) (fr+k) jc (λx hx=>hq x (LG hx)) (λhd=>⟨x,by
    rw[List.getLast?_drop,dW (by intro e;exact hd (oG dS))];exact hx1,hx2⟩),ky,Dm,show fr+k+(LA.length-k)=fr+LA.length by omega]
end Ps
end Go.Proofs.YtmkkdjpebbdikaaGreatDoor

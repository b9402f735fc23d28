import Derived.Test.YtmkkdjpebbdikaaGreatDoorZb37
import Derived.Test.YtmkkdjpebbdikaaGreatDoorZb38
import Derived.Laws.CopyOwn
import Derived.Laws.StructEq
set_option linter.all false
set_option maxHeartbeats 16000000
set_option maxRecDepth 100000
namespace Go.Proofs.YtmkkdjpebbdikaaGreatDoor
open Go.RowKit Go.Proofs.Tryz
namespace Ft
open Ar Fl
theorem adL{l:List Tk}{e:Nat}{n:Int}{up:Nat}(hn:(e:Int)<=n)(d p:Nat)(b:Int)(s:St)(hck:Ck s.t n)(hf:Fits s.t p b up)(hb:b<=p+1)(hpe:p<=e):
 (gP l e d up p s).2.2.t.length<=s.t.length+2*((gP l e d up p s).2.1-p)/\(gP l e d up p s).2.1<=e/\p<=(gP l e d up p s).2.1:=by
 rw[MQ];dsimp only;rcases uj (l:=l) hn d p b hck hf hb hpe with⟨h1,_⟩|⟨next,s',ps',h1,_,h3,h4,_,_,_,_,_,h10,_⟩
 ·rw[h1];dsimp only;omega
 ·rw[h1];dsimp only;omega
theorem adM{l:List Nd}{n:Int}(h:Ck l n):∀x∈l,x.ks.length<=l.length:=by
 intro x hx;obtain⟨i,hi⟩:=jy hx;have hb:∀z∈x.ks,0<z/\z<(l.length:Int):=by
  intro z hz;obtain⟨j,y,rfl,h0,hy,_⟩:=h.kid i x hi z hz;have:=(eY.1 hy).1;omega
 have key:∀(ks:List Int)(m:Int),ks.Pairwise (Mc l)->(∀z∈ks,m<=z/\z<(l.length:Int))->0<=m->(ks.length:Int)<=max 0 ((l.length:Int)-m):=by
  intro ks
  induction ks with
  |nil=>intro m _ _ _;simp;omega
  |cons a r ih=>
   intro m hp hm h0;rw[vI]at hp;have ha:=hm a eG;have:=ih (a+1) hp.2 (λz hz=>⟨by have:=(hp.1 z hz).1;omega,(hm z (by simp[hz])).2⟩) dS;rw[iR];omega
 have:=key x.ks 0 (h.ord i x hi) (λz hz=>by have:=hb z hz;omega) dS;omega
end Ft
section
open Go.RowKit
open Sq
open Ar
def LZ(l:List Nd)(i:Nat)(x:Nd)(p n:Int):Bool:=decide (n<=0)||decide ((l.length:Int)<=n)||match l[n.toNat]? with
 |none=>true
 |some c=>decide (c.u≠(i:Int))||decide (c.f<p)||decide (x.t<c.t)||decide (c.t<c.f)
theorem IE{l:List Nd}{i:Nat}{x:Nd}{p n:Int}{r:List Int}(h:LZ l i x p n=true):rY l i x p (n::r)=false:=by
 rw[rY];unfold LZ at h;split
 ·rfl
 ·rename_i hn;have h1:decide (n<=0)=false:=ic (λe=>hn (.inl e));have h2:decide ((l.length:Int)<=n)=false:=ic (λe=>hn (.inr e));rw[h1,h2]at h;split
  ·rfl
  ·rename_i c hc;rw[hc]at h;simp only[aei,Bool.or_eq_true,LM]at h;rw[dX dS]
theorem F6{l:List Nd}{i:Nat}{x:Nd}{p n:Int}{r:List Int}(h:LZ l i x p n=false):∃c,0<n/\n<l.length/\l[n.toNat]?=some c/\rY l i x p (n::r)=rY l i x c.t r:=by
 unfold LZ at h;simp only[aej,aeE]at h;obtain⟨⟨h1,h2⟩,h3⟩:=h;cases hc:l[n.toNat]? with
 |none=>rw[hc]at h3;cases h3
 |some c=>
  rw[hc]at h3;simp only[aej,aeE]at h3;refine⟨c,dS,dS,rfl,?_⟩;rw[rY,dW dS,hc];dsimp only;rw[dW dS]
end
section
open Go.RowKit
open Sq
open Ar
def Kt(w:World)(a:Option Addr)(ks:List Int):Prop:=∀(j:Nat)(z:Int),ks[j]?=some z->∃b off,a=some ⟨b,off,none⟩/\w.cell? ⟨b,off+j,none⟩=some (.int .i64 z)
def qi(w:World)(v:Value)(l:List Nd):Prop:=∃L:List Ln,L.map Ln.nd=l/\Reads fZ w v L/\∀p∈L,p.n=p.nd.ks.length/\p.n<=maxLen/\Kt w p.a p.nd.ks
section
variable {w w':World}{v:Value}{l:List Nd}
theorem iC.weak(h:iC w v l):qi w v l:=by
 obtain⟨L,h1,h2,h3⟩:=h;refine⟨L,h1,h2,λp hp=>?_⟩;have hk:=h3 p hp;have hn:=KD hk;refine⟨hn,by rw[hn];exact hk.size_le,λj z hz=>?_⟩;have hk':Reads encI w (.slice p.a p.nd.ks.length p.c) p.nd.ks:=by rw[<-hn];exact hk
 exact CQ hk' j z hz
theorem qi.below(h:qi w v l)(hb:Below w.heap.size w w'):qi w' v l:=by
 obtain⟨L,h1,h2,h3⟩:=h;refine⟨L,h1,h2.below hb,λp hp=>⟨(h3 p hp).1,(h3 p hp).2.1,λj z hz=>?_⟩⟩;obtain⟨b,off,e,hc⟩:=(h3 p hp).2.2 j z hz;exact⟨b,off,e,eB hb hc⟩
theorem qi.shape(h:qi w v l):∃a cap,v=.slice a l.length cap:=by
 obtain⟨L,h1,h2,_⟩:=h;obtain⟨a,cap,e⟩:=h2.shape;exact⟨a,cap,by rw[e,<-h1,jl]⟩
theorem qi.at_{a:Option Addr}{cap:Nat}(h:qi w (.slice a l.length cap) l)(j:Nat)(x:Nd)(hj:l[j]?=some x):
 ∃b off ka kc,a=some ⟨b,off,none⟩/\w.cell? ⟨b,off+j*6,none⟩=some (.int .i64 x.k)/\w.cell? ⟨b,off+j*6+1,none⟩=some (.int .i64 x.f)/\w.cell? ⟨b,off+j*6+2,none⟩=some (.int .i64 x.t)/\w.cell? ⟨b,off+j*6+3,none⟩=some (.int .i64 x.u)/\
  w.cell? ⟨b,off+j*6+4,none⟩=some (.slice ka x.ks.length kc)/\w.cell? ⟨b,off+j*6+5,none⟩=some (.bool x.y)/\Kt w ka x.ks/\x.ks.length<=maxLen:=by
 obtain⟨L,h1,h2,h3⟩:=h;have hlen:L.length=l.length:=by rw[<-h1,jl]
 rw[<-hlen]at h2;rw[<-h1,kS]at hj;cases hp:L[j]? with
 |none=>rw[hp]at hj;cases hj
 |some p=>
  rw[hp]at hj;injection hj with hj
  subst hj;obtain⟨b,off,e,hc⟩:=h2.at_ j p hp;obtain⟨hn,hm,hk⟩:=h3 p (gW hp);refine⟨b,off,p.a,p.c,e,hc 0 _ rfl,hc 1 _ rfl,hc 2 _ rfl,hc 3 _ rfl,?_,hc 5 _ rfl,hk,by rw[<-hn];exact hm⟩;rw[<-hn];exact hc 4 _ rfl
end
end
namespace Ps
open Ar Fl
open Rw (R E)
theorem zm:∀(f:Nat)(l:List Nd)(k t:Int),(jB f l k t).length=l.length
 |0,_,_,_=>rfl
 |f+1,l,k,t=>by
  rw[jB];split
  ·rfl
  ·split
   ·rfl
   ·rw[zm f,nQ]
theorem NQ(l:List Nd)(up kind f t:Int):(addN l up kind f t).1.length<=l.length+1:=by
 unfold addN;split
 ·split
  ·exact Vf _
  ·show(gY _ _ _).length<=_;unfold gY;rw[zm,nQ,iK];exact eO _
 ·exact Vf _
theorem Xp(l:List Nd)(i t:Int):(iB l i t).length=l.length:=by
 unfold iB gY;split
 ·rw[zm]
 ·rfl
theorem fQ(l:List Nd)(i:Int):(keyed l i).length=l.length:=(xY l i).1
theorem jG(s:St)(up:Int)(k f t:Nat):(add s up k f t).1.t.length<=s.t.length+1:=NQ _ _ _ _ _
theorem De(l:List Tk)(s:St)(up:Int)(f t code:Nat):(err l s up f t code).t.length<=s.t.length+1:=NQ _ _ _ _ _
theorem adN(l:List Tk)(s:St)(c:Int)(j q:Nat):(pair l s c j q).1.t.length<=s.t.length+2:=by
 unfold pair;dsimp only;split
 ·have:=jG s c 6 j q;omega
 ·show(keyed _ _).length<=_;rw[fQ];have h1:=jG s c 6 j q;have h2:=jG (add s c 6 j q).1 (add s c 6 j q).2 (if(List.range (q-j)).any (λx=>raw l (j+x)==13)=true then 8 else 7) j (back l (q-1) (j+1));omega
theorem U3(l:List Tk)(s:St)(node:Int)(en:E):(cur l s node en).1.t.length<=s.t.length+2:=by
 unfold cur;split
 ·have:=jG s node 4 en.from' en.bu;omega
 ·exact adN _ _ _ _ _
theorem IG(l:List Tk)(p:PS)(o:Op)(r:List Op)(en:E):(again l p o r en).2.s.t.length<=p.s.t.length+3:=by
 have:=U3 l p.s o.node en;show(cur l p.s o.node en).1.t.length<=_;omega
theorem BR(l:List Tk)(depth:Nat)(p:PS)(up:Int)(root:Bool)(st:List Op)(en:E):(fresh l depth p up root st en).2.s.t.length<=p.s.t.length+3:=by
 unfold fresh;split
 ·show p.s.t.length<=_;omega
 ·have h1:=jG p.s up (kindOf en) en.from' en.bu;have h2:=U3 l (add p.s up (kindOf en) en.from' en.bu).1 (add p.s up (kindOf en) en.from' en.bu).2 en;show(cur l _ _ en).1.t.length<=_;omega
theorem Xq(l:List Tk)(depth:Nat)(p:PS)(en:E):(place l depth p en).2.s.t.length<=p.s.t.length+3:=by
 have hr:(place l depth p en)=(match p.st.dropWhile (λo=>decide (en.eT<o.eT))with
  |[]=>if p.root=true then(7,p)else fresh l depth p p.doc true [] en
  |o::r=>
   if o.eT=en.eT then
    if o.kind=kindOf en then again l p o r en
    else if kindOf en=3 then(if o.has=true then(5,p)else fresh l depth p o.cur p.root ({o with has:=true}::r) en)
    else match r with
     |o2::r2=>if o2.eT=en.eT/\o2.kind=5 then again l p o2 r2 en else(5,p)
     |[]=>(5,p)
   else if o.has=true then(6,p)else fresh l depth p o.cur p.root ({o with has:=true}::r) en):=rfl
 rw[hr];have h0:∀code:Nat,(code,p).2.s.t.length<=p.s.t.length+3:=λ_=>Nat.le_add_right _ _
 cases p.st.dropWhile (λo=>decide (en.eT<o.eT))with
 |nil=>
  dsimp only;split
  ·exact h0 7
  ·exact BR ..
 |cons o r=>
  dsimp only;split
  ·split
   ·exact IG ..
   ·split
    ·split
     ·exact h0 5
     ·exact BR ..
    ·cases r with
     |nil=>exact h0 5
     |cons o2 r2=>
      dsimp only;split
      ·exact IG ..
      ·exact h0 5
  ·split
   ·exact h0 6
   ·exact BR ..
theorem F7(l:List Tk)(depth b:Nat):∀(es:List E)(p:PS)(up:Int),(places l depth b p up es).2.s.t.length<=p.s.t.length+3*es.length
 |[],p,_=>eO _
 |en::es,p,up=>by
  rw[places,iR];have h1:=Xq l depth p en;split
  ·have:=F7 l depth b es (place l depth p en).2 (Kk (place l depth p en).2.st);omega
  ·have:=De l p.s up en.from' b (place l depth p en).1;show(err l p.s up en.from' b (place l depth p en).1).t.length<=_;omega
theorem II(p:PS)(i:Nat):(gI p i).s.t.length<=p.s.t.length+1:=by
 unfold gI;split
 ·exact jG ..
 ·omega
theorem IJ(l:List Tk)(s:St)(up:Int)(a b code:Nat):(mR l s up a b code).t.length<=s.t.length+1:=by
 unfold mR;split
 ·exact De ..
 ·omega
theorem Xr(l:List Tk)(next:Nat)(h1:next<l.length):next<oU (Rw.eF l) next true:=by
 unfold oU;cases hf:(Rw.eF l).find? (λr=>!(decide (r.bu<next)||(true&&r.bu==next)))with
 |some r=>
  have hp:=List.find?_some hf;simp at hp;show next<r.bu
  omega
 |none=>
  exfalso;rw[List.find?_eq_none]at hf;obtain⟨r,hr,he⟩:=Mm l dS;have:=hf r hr;simp[he]at this;omega
theorem vE{l:List Tk}{B:Bs}{k e i depth:Nat}{p:PS}(h:OK l B k e p.s)(aa:e<=i)(hi:i<l.length):
 (value l (Rw.eF l) depth p k i).1.s.t.length<=p.s.t.length+2*((value l (Rw.eF l) depth p k i).1.read-i)+1/\i<(value l (Rw.eF l) depth p k i).1.read:=by
 have hlim:i<=limit l i/\limit l i<=l.length:=by
  have h1:=kH (λj=>raw l j !=20&&raw l j !=21) (l.length-i) i;have h2:=lq (λj=>raw l j !=20&&raw l j !=21) (l.length-i) i;unfold limit;omega
 obtain⟨z1,z2,z3⟩:=Ft.adL (l:=l) (e:=limit l i) (n:=(l.length:Int)) dS (depth-p.st.length) i e p.s h.ck (h.fits.le dS (jk _)) dS hlim.1;have hv:=Fe.zL l (limit l i) l.length dS (depth-p.st.length) k i p.s e h.ck (h.fits.le dS (jk _)) h.lf h.no dS hlim.1;have key:∀(s:St)(next:Nat)(none':Bool)(q:Nat),oU (Rw.eF l) next none'=q->(rest l (Rw.eF l) {p with s:=s} k next none').s.t.length<=s.t.length+1/\(rest l (Rw.eF l) {p with s:=s} k next none').read=q:=by
  intro s next none' q hq;unfold rest;dsimp only;rw[hq];exact⟨IJ ..,rfl⟩
 unfold value;dsimp only;rcases hv with⟨v1,_⟩|⟨next,s',v1,v2,v3,_,_⟩
 ·rw[v1]at z1⊢;dsimp only at z1⊢;rw[dX dS,show decide ((-1:Int)<0)=true from rfl];obtain⟨k1,k2⟩:=key p.s i true _ rfl;have:=Xr l i hi;rw[k2];omega
 ·rw[v1]at z1 z2 z3⊢;dsimp only at z1 z2 z3⊢;rw[dW dS,show decide (((p.s.t.length:Nat):Int)<0)=false from ic dS,aeC dS];obtain⟨k1,k2⟩:=key s' next false _ rfl;have:=(Rc l next false dS (λh=>fV) dS).1;rw[k2];omega
theorem NS{l:List Tk}{b:Nat}:∀(es:List E)(p:Nat),mU l b p es->p+es.length<=b\/es=[]
 |[],_,_=>.inr rfl
 |en::es,p,⟨h1,h2,h3,h4⟩=>by
  left;rw[iR];rcases NS es en.bu h4 with h|h
  ·omega
  ·subst h;simp;omega
theorem IK{l:List Tk}{b:Nat}:∀(es:List E)(p:Nat)(x:E),mU l b p es->es.getLast?=some x->p+es.length<=x.bu
 |[],_,_=>λ_ h=>fV
 |[en],p,x=>fun⟨h1,h2,h3,h4⟩ h=>by
  obtain rfl:en=x:=kU
  simp;omega
 |en::e2::es,p,x=>fun⟨h1,h2,h3,h4⟩ h=>by
  have:=IK (e2::es) en.bu x h4 (by rw[aeq]at h;exact h);rw[iR];omega
theorem adO{l:List Tk}{B:Bs}{depth:Nat}{p:PS}{r:R}(ht:Rw.jO 0 l)(h:Inv l B p.read p)(hr:lV l r)(hB:B.1<=r.from')(he:p.read<=r.from'):
 (row l (Rw.eF l) depth p r).s.t.length<=p.s.t.length+5*((row l (Rw.eF l) depth p r).read-r.from')/\r.from'<(row l (Rw.eF l) depth p r).read:=by
 have hlt:=hr.lt;have hle:=hr.le;have h0:Inv l B p.read {p with read:=r.bu}:=h;unfold row;dsimp only;split
 ·rename_i h4;obtain⟨m1,m2⟩:=hr.mark h4;have hge:=kF l r.from' r.bu;unfold mark;dsimp only;obtain⟨a,ha⟩:=eu (lo l r.from' r.bu);rw[ha]at m1 m2 hge⊢;split
  ·obtain⟨s',a1,_,a3,_,_⟩:=Fe.kJ (kind:=2) (f:=a) (t:=a+1) h0.root dS dS dS dS dS;have a1:add p.s 0 2 a (a+1)=(s',(p.s.t.length:Int)):=a1;have hal:=jG p.s 0 2 a (a+1);rw[a1]at hal⊢;dsimp only at hal⊢;have a3':OK l B p.s.t.length (a+1) s':=a3.le dS dS;have hb:=gH l r.bu (lo l (a+1) r.bu);have af:=kF l (a+1) r.bu;split
   ·rename_i hx;obtain⟨v1,v2⟩:=vE (depth:=depth) (p:={p with read:=r.bu,s:=s',doc:=(p.s.t.length:Int),root:=false,st:=[]}) (i:=lo l (a+1) r.bu) a3' af dS;dsimp only at v1 v2⊢;omega
   ·show s'.t.length<=_+5*(r.bu-_)/\_<r.bu
    omega
  ·show(mR l _ _ _ _ _).t.length<=_+5*(r.bu-_)/\_<r.bu
   refine⟨iU (IJ ..) ?_,hlt⟩;split
   ·show(iB _ _ _).length+1<=_;rw[Xp];omega
   ·omega
 ·split
  ·rename_i h5;have hlo:=hr.body h5;have hge:=kF l r.from' r.bu;obtain⟨n1,n2,n3,n4⟩:=uY ht hr h5;unfold body;dsimp only;obtain⟨a,ha⟩:=eu (lo l r.from' r.bu);rw[ha]at hlo hge n1 n3⊢;obtain⟨b,hb⟩:=eu (back l r.bu a);have hbl:=gH l r.bu a;have hbg:=ow l r.bu a a (eO _) hlo (by have:=qh l (a:=r.from') (b:=r.bu) dS;rw[ha]at this;exact this);rw[hb]at n1 hbl hbg⊢;obtain⟨o1,o2⟩:=uk h0 (i:=a) dS dS;have aa:=II {p with read:=r.bu} a;have aa:(gI {p with read:=r.bu} a).s.t.length<=p.s.t.length+1:=aa;have o2:(gI {p with read:=r.bu} a).read=r.bu:=o2;obtain⟨p1,hp1⟩:=eu (gI {p with read:=r.bu} a);rw[hp1]at o1 o2 aa⊢;obtain⟨es,hes⟩:=eu (Rw.iH l r);rw[hes]at n1 n2 n3 n4⊢;split
   ·
    obtain⟨d,hd,hc,hh⟩:=o1;obtain⟨hc',hh'⟩:=kM.drop (λo=>decide (r.eT<=o.eT)) hc hh
    have hbr:bare l (Rw.eF l) depth p1 r a b=(match p1.st.dropWhile (λo=>decide (r.eT<=o.eT))with
     |[]=>if p1.root=true then{p1 with s:=err l p1.s (holder p1) a b 7}
      else
       let v:=value l (Rw.eF l) depth {p1 with st:=[]} p1.doc a
       {v.1 with root:=v.2}
     |o::q=>if o.has=true then{p1 with s:=err l p1.s (holder p1) a b 7}
      else
       let v:=value l (Rw.eF l) depth {p1 with st:=o::q} o.cur a
       {v.1 with st:={o with has:=v.2}::q}):=rfl
    rw[hbr];have ae:({p1 with s:=err l p1.s (holder p1) a b 7}:PS).s.t.length<=p.s.t.length+5*(({p1 with s:=err l p1.s (holder p1) a b 7}:PS).read-r.from')/\r.from'<({p1 with s:=err l p1.s (holder p1) a b 7}:PS).read:=by
     have:=De l p1.s (holder p1) a b 7;show(err l p1.s (holder p1) a b 7).t.length<=_+5*(p1.read-_)/\_<p1.read
     omega
    cases hdw:p1.st.dropWhile (λo=>decide (r.eT<=o.eT))with
    |nil=>
     rw[hdw]at hc' hh';dsimp only;split
     ·exact ae
     ·obtain⟨m,e1,e2⟩:=hh';obtain rfl:m=d:=by omega
      rw[hd];obtain⟨P,hP⟩:∃P:PS,{p1 with st:=[],doc:=(m:Int)}=P:=⟨_,rfl⟩
      have hP1:P.s=p1.s:=wC
      rw[<-hP1]at e2 aa;obtain⟨v1,v2⟩:=vE (depth:=depth) (p:=P) (i:=a) (k:=m) e2 (eO _) dS;rw[hP];dsimp only;omega
    |cons o q=>
     rw[hdw]at hc' hh';dsimp only;split
     ·exact ae
     ·rename_i ho;obtain⟨m,e1,e2⟩:=hh'.2 DY;obtain⟨P,hP⟩:∃P:PS,{p1 with st:=o::q}=P:=⟨_,rfl⟩
      have hP1:P.s=p1.s:=wC
      rw[<-hP1]at e2 aa;obtain⟨v1,v2⟩:=vE (depth:=depth) (p:=P) (i:=a) (k:=m) e2 (eO _) dS;rw[hP,e1];dsimp only;omega
   ·rename_i hne;have hpl:=F7 l depth b es.1 p1 (holder p1);obtain⟨e',k1,k2,k3,k4,k5⟩:=x9 (depth:=depth) (b:=b) dS es.1 a p1 (holder p1) o1 dS rfl n1 dS;have hel:=NS es.1 a n1;obtain⟨q,hq⟩:=eu (places l depth b p1 (holder p1) es.1);rw[hq]at hpl k3 k4 k5⊢;have ah:q.2.read=r.bu:=by rw[k4,o2]
    have ag:a+es.1.length<=b:=hel.resolve_right hne;have stay:q.2.s.t.length<=p.s.t.length+5*(q.2.read-r.from')/\r.from'<q.2.read:=dS
    split
    ·rename_i hall;split
     ·rename_i hx;obtain⟨_,m1,m2⟩:=k5 hall;obtain⟨t,k,m3,m4⟩:=m2 hne;have hlast:∃z,es.1.getLast?=some z:=by
       cases hz:es.1.getLast? with
       |none=>rw[aer]at hz;exact absurd hz hne
       |some z=>exact⟨z,rfl⟩
      obtain⟨z,hz⟩:=hlast;have hzl:=IK es.1 a z n1 hz;have hrest:es.2=e':=by rw[n2 z hz,m1 z hz]
      have ai:es.2=z.bu:=n2 z hz;have hxg:=kF l es.2 r.bu;have hxb:=gH l r.bu (lo l es.2 r.bu);obtain⟨d,d1,d2,d3⟩:=k3;obtain⟨x,af⟩:=eu (lo l es.2 r.bu);rw[af]at hx hxg hxb⊢;rw[m3]at d2 d3⊢;dsimp only;obtain⟨m,e1,e2⟩:=d3.2 m4;rw[e1];obtain⟨v1,v2⟩:=vE (depth:=depth) (p:=q.2) (i:=x) (k:=m) e2 dS dS;omega
     ·exact stay
    ·exact stay
  ·split
   ·split
    ·have h1:=II {p with read:=r.bu} (lo l r.from' r.bu);have h1:(gI {p with read:=r.bu} (lo l r.from' r.bu)).s.t.length<=p.s.t.length+1:=h1;have h2:=De l (gI {p with read:=r.bu} (lo l r.from' r.bu)).s (holder (gI {p with read:=r.bu} (lo l r.from' r.bu))) (lo l r.from' r.bu) (back l r.bu (lo l r.from' r.bu)) 8;have h3:(gI {p with read:=r.bu} (lo l r.from' r.bu)).read=r.bu:=by unfold gI;split<;>rfl
     show(err l _ _ _ _ 8).t.length<=_+5*((gI {p with read:=r.bu} (lo l r.from' r.bu)).read-_)/\_<(gI {p with read:=r.bu} (lo l r.from' r.bu)).read
     rw[h3];omega
    ·show p.s.t.length<=_+5*(r.bu-_)/\_<r.bu
     omega
   ·show p.s.t.length<=_+5*(r.bu-_)/\_<r.bu
    omega
theorem zo{l:List Tk}{B:Bs}{depth:Nat}(ht:Rw.jO 0 l):∀(rs:List R)(p:PS),(∀r∈rs,lV l r/\B.1<=r.from')->Inv l B p.read p->p.s.t.length<=1+5*p.read->
 (iA l (Rw.eF l) depth p rs).s.t.length<=1+5*(iA l (Rw.eF l) depth p rs).read
 |[],p=>λ_ _ h=>h
 |r::rs,p=>λhrs h hl=>by
  rw[iA];by_cases hr:p.read<=r.from'
  ·rw[dX hr];obtain⟨h1,h2⟩:=Kn (depth:=depth) ht h (hrs r eG).1 (hrs r eG).2 hr;obtain⟨z1,z2⟩:=adO (depth:=depth) ht h (hrs r eG).1 (hrs r eG).2 hr;exact zo ht rs _ (λx hx=>hrs x qT) h1 dS
  ·rw[dW hr];exact zo ht rs p (λx hx=>hrs x qT) h hl
end Ps
section
open Go.RowKit
open Sg
open Sq
open Ar
theorem adP{D:List Fl.Dg}(h:Ps.By D)(i:Nat)(x y:Fl.Dg)(hx:D[i]?=some x)(hy:D[i+1]?=some y):Ps.less y x=false/\Ps.same x y=false:=by
 obtain⟨h1,e1⟩:=eY.1 hx;obtain⟨h2,e2⟩:=eY.1 hy;have hl:=XQ.1 h i (i+1) h1 h2 dS;rw[e1,e2]at hl;unfold Ps.less at hl;constructor
 ·unfold Ps.less;by_cases a:x.f=y.f
  ·rw[dX a]at hl;rw[dX a.symm];by_cases b:x.t=y.t
   ·rw[dX b]at hl;rw[dX b.symm];have:=pM hl;exact ic dS
   ·rw[dW b]at hl;rw[dW (λe=>b e.symm)];have:=pM hl;exact ic dS
  ·rw[dW a]at hl;rw[dW (λe=>a e.symm)];have:=pM hl;exact ic dS
 ·unfold Ps.same;by_cases a:x.f=y.f
  ·rw[dX a]at hl;by_cases b:x.t=y.t
   ·rw[dX b]at hl;have:=pM hl;have c:(x.code==y.code)=false:=by simp;omega
    rw[c];rfl
   ·have c:(x.t==y.t)=false:=by simp[b]
    rw[c,Bool.and_false]
  ·have c:(x.f==y.f)=false:=by simp[a]
   rw[c,Bool.and_false,Bool.false_and]
end
section
open Go.RowKit
open Sg
open Sq
open Ar
theorem ald(a b:Fl.Dg)(w:World):Calls prog 30 #[.agg #[.int .i64 (a.code:Int),.int .i64 (a.f:Int),.int .i64 (a.t:Int)],.agg #[.int .i64 (b.code:Int),.int .i64 (b.f:Int),.int .i64 (b.t:Int)]] w λe w'=>e=.returned (.bool (Ps.less a b))/\Below w.heap.size w w':=by
 obtain⟨ac,af,at'⟩:=a;obtain⟨bc,bf,bt⟩:=b;unfold Ps.less;dsimp only;obtain⟨w2,hw2⟩:=eu ((w.alloc (.cells #[.int .i64 (ac:Int),.int .i64 (af:Int),.int .i64 (at':Int)] 40)).alloc (.cells #[.int .i64 (bc:Int),.int .i64 (bf:Int),.int .i64 (bt:Int)] 40));have hb:Below w.heap.size w w2:=hw2▸(dZ w _).alloc eG _;have aa:w2.heap[w.heap.size]?=some (.cells #[.int .i64 (ac:Int),.int .i64 (af:Int),.int .i64 (at':Int)] 40 (0,0)):=by
  rw[<-hw2];exact((dZ (w.alloc (.cells #[.int .i64 (ac:Int),.int .i64 (af:Int),.int .i64 (at':Int)] 40)) _).block _ eG).trans (lz w _)
 have ae:w2.heap[w.heap.size+1]?=some (.cells #[.int .i64 (bc:Int),.int .i64 (bf:Int),.int .i64 (bt:Int)] 40 (0,0)):=by
  rw[<-hw2];have:=lz (w.alloc (.cells #[.int .i64 (ac:Int),.int .i64 (af:Int),.int .i64 (at':Int)] 40)) (.cells #[.int .i64 (bc:Int),.int .i64 (bf:Int),.int .i64 (bt:Int)] 40)
  simpa using this
 have p0:=fq aa 0;have p1:=fq aa 1;have p2:=fq aa 2;have q0:=fq ae 0;have q1:=fq ae 1;have q2:=fq ae 2;clear aa ae;by_cases h1:af=bf
 ·rw[dX h1];have n1:((af:Int)==(bf:Int))=true:=by simp[h1]
  by_cases h2:at'=bt
  ·rw[dX h2];have n2:((at':Int)==(bt:Int))=true:=by simp[h2]
   clear h1 h2
   exact QP
  ·rw[dW h2];have n2:((at':Int)==(bt:Int))=false:=by simp;omega
   clear h1 h2
   exact QP
 ·rw[dW h1];have n1:((af:Int)==(bf:Int))=false:=by simp;omega
  clear h1
  exact QP
end
end Go.Proofs.YtmkkdjpebbdikaaGreatDoor
namespace Go
open Go.Proofs.YtmkkdjpebbdikaaGreatDoor
theorem GI{P:Program}(w:World)(dT sT ty elem:TypeId)(d a:Option Addr)(dLen dCap sLen sCap:Nat)(hu:P.underlying dT=some (.slice elem))(hs:(P.info? elem).isSome=true)(hn:Nat.min sLen dLen=0):
 (Builtin.copy_ #[dT,sT] ty #[.slice d dLen dCap,.slice a sLen sCap]).run P w=.ok (goInt 0) w:=by
 cases hq:P.info? elem with
 |none=>simp[hq]at hs
 |some i=>
  have hl:∀(x:Addr),(loadCells x 0).run P w=.ok #[] w:=λx=>by simpa using run_loadCells_list (P:=P) w x [] eG
  cases d<;>cases a<;>simp[Builtin.copy_,run_underlying hu,Builtin.lenOf,Builtin.firstCells,sizeOf,typeInfo,hq,hn,storeCells,hl]
end Go
namespace Go.Proofs.YtmkkdjpebbdikaaGreatDoor
open RowKit Go.Proofs.Tryz
section
open Go.RowKit
open Sg
open Sq
open Ar
theorem adQ(a b:Fl.Dg)(h:Ps.same a b=false)(w:World):(binOp .eql 40 (.agg #[.int .i64 (a.code:Int),.int .i64 (a.f:Int),.int .i64 (a.t:Int)]) (.agg #[.int .i64 (b.code:Int),.int .i64 (b.f:Int),.int .i64 (b.t:Int)])).run prog w=.ok (.bool false) w:=by
 obtain⟨ac,af,at'⟩:=a;obtain⟨bc,bf,bt⟩:=b;unfold Ps.same at h;dsimp only at h⊢;have u3:=underlying3;have hS:prog.underlying 40=some (.struct (prog.fieldsOf 40)):=dV
 have hp:prog.stoodInHeld 40=false:=dV
 rw[aip,show(10000:Nat)=9999+1 from rfl,run_equalIn_agg w 9999 40 _ _ hS hp];simp only[Program.fieldsOf,underlying40];by_cases h1:ac=bc
 ·by_cases h2:af=bf
  ·have h3:at'≠bt:=λe=>by subst h1 h2 e;simp at h
   have n1:((ac:Int)==(bc:Int))=true:=by simp[h1]
   have n2:((af:Int)==(bf:Int))=true:=by simp[h2]
   have n3:((at':Int)==(bt:Int))=false:=eQ
   go_simp
  ·have n1:((ac:Int)==(bc:Int))=true:=by simp[h1]
   have n2:((af:Int)==(bf:Int))=false:=eQ
   go_simp
 ·have n1:((ac:Int)==(bc:Int))=false:=by simp;omega
  go_simp
theorem OP:prog.underlying 32=some (.slice (prog.elem 32)):=dV
theorem OQ(w:World):(sizeOf (prog.elem 32)).run prog w=.ok 3 w:=dV
theorem ym(a:Option Addr)(n cap l:Nat)(hl:l<=n)(hb:n<=1000000000000):
 ∃a' c',∀W:World,(Instr.slice 32 (.slice a n cap) (some (.int .i64 (l:Int))) none none).run prog W=.ok (.slice a' (n-l) c') W:=by
 refine⟨if cap=l then a else a.map (·.add (l*3)),cap-l,λW=>?_⟩;rw[aie W _ a n cap OP .i64 l dS dS,OQ];simp only[Result.andThen,sliced,jd]
theorem F8(a1 a2:Option Addr)(c1 c2:Nat)(ty:TypeId)(W:World):(Builtin.copy_ #[32,32] ty #[.slice a1 0 c1,.slice a2 1 c2]).run prog W=.ok (goInt 0) W:=
 GI W _ _ _ _ a1 a2 0 c1 1 c2 underlying32 dV rfl
theorem adR(D:List Fl.Dg)(i:Nat)(x:Fl.Dg)(hx:D[i]?=some x)(y:Fl.Dg):(D.take i++[y]).set i x=D.take (i+1):=by
 obtain⟨h1,h2⟩:=eY.1 hx;have hl:(D.take i).length=i:=nX
 rw[LH _ _ dS,hl,si,fB,Ve h1,h2]
theorem U4{w:World}{B g n cap i:Nat}{D:List Fl.Dg}{x:Fl.Dg}(hx:D[i]?=some x)(h:w.ownsRow B 40 3 (.slice (some ⟨g,0,none⟩) n cap) (D.take i++[(⟨0,0,0⟩:Fl.Dg)]).length (fK.all (D.take i++[(⟨0,0,0⟩:Fl.Dg)]))):
 (((w.setCell ⟨g,i*3,none⟩ (.int .i64 (x.code:Int))).setCell ⟨g,i*3+1,none⟩ (.int .i64 (x.f:Int))).setCell ⟨g,i*3+2,none⟩ (.int .i64 (x.t:Int))).ownsRow B 40 3 (.slice (some ⟨g,0,none⟩) n cap) (D.take (i+1)).length (fK.all (D.take (i+1))):=by
 have hi:=(eY.1 hx).1;have hl:(D.take i).length=i:=nX
 have e0:(D.take i++[(⟨0,0,0⟩:Fl.Dg)])[i]?=some ⟨0,0,0⟩:=by rw[oH dS,hl,si];rfl
 have h1:=ou (E:=fK) h i 0 _ (⟨x.code,0,0⟩:Fl.Dg) (.int .i64 (x.code:Int)) e0 rfl dU;have hs:i<(D.take i++[(⟨0,0,0⟩:Fl.Dg)]).length:=by rw[iK,hl];simp
 have h2:=ou (E:=fK) h1 i 1 _ (⟨x.code,x.f,0⟩:Fl.Dg) (.int .i64 (x.f:Int)) (yE hs) rfl dU;have h3:=ou (E:=fK) h2 i 2 _ x (.int .i64 (x.t:Int)) (yE (by rw[nQ];exact hs)) rfl dU;rw[aeA,aeA,adR D i x hx]at h3;exact h3
theorem ale(v:Value)(D:List Fl.Dg)(w:World)(h:Reads fK w v D)(hS:Ps.By D)(hsz:D.length<=1000000000):
 Calls prog 16 #[v] w λe w'=>∃v',e=.returned v'/\Reads fK w' v' D/\Below w.heap.size w w':=by
 obtain⟨a,cap,rfl⟩:=h.shape;have HX:=dY (λW (hW:Below w.heap.size w W) j x hx=>lH (h.below hW) j x hx);have aF:=dY (λi x y h1 h2=>adP hS i x y h1 h2);have HQ:=dY (λw' v'=>show Reads fK w' v' D->Below w.heap.size w w'->(λe (w':World)=>∃v',e=Ending.returned v'/\Reads fK w' v' D/\Below w.heap.size w w') (.returned v') w' from λh1 h2=>⟨v',rfl,h1,h2⟩);obtain⟨Q,hQ⟩:=eu ((λe (w':World)=>∃v',e=Ending.returned v'/\Reads fK w' v' D/\Below w.heap.size w w'));rw[hQ]at HQ⊢;obtain⟨N,hN⟩:=eu (D.length);rw[hN]at hsz⊢;have HN:=dY hN;obtain⟨B,hB⟩:=eu (w.heap.size);have HB:=dY hB;clear h hS hQ hN hB
 go_enter func16,ntmps16
 go_wp2_with fail
 go_loopw [3,4] (λov iv wr=>∃i:Nat,iv=.int .i64 (i:Int)/\i<=N/\Hid (wr.ownsRow B 40 3 ov (D.take i).length (fK.all (D.take i)))/\Hid (Below B w wr)) (λ_ iv _=>N-(intOf iv).toNat)
 case atStart=>exact⟨0,rfl,fP _,kX fK w B,by rw[<-HB.out];exact fD _ _⟩
 case round=>
  obtain⟨i,rfl,hin,HO,ng⟩:=hrel;by_cases hlt:i<N
  ·obtain⟨x,hx⟩:∃x,D[i]?=some x:=⟨_,fu sO⟩
   obtain⟨db,ae,rfl,x0,x1,x2⟩:=HX.out wr (by rw[HB.out];exact ng.out) i x hx;have hti:(D.take i).length=i:=by rw[mX,HN.out];omega
   have hii:(i:Int)<(N:Int):=dS
   obtain⟨oa,oc,rfl⟩:=(Reads.fo (E:=fK) HO.out).shape;have xm:=HO;rw[hti]at HO⊢;have aA:=dY (Reads.fo (E:=fK) xm.out);by_cases hi0:i=0
   ·have g0:decide ((0:Int)<(i:Int))=false:=ic dS;have g1:decide (0<i)=false:=ic dS;clear hi0;go_wp2_with fail
    go_loopw [5] (λnv wx=>nv=.int .i64 (i:Int)/\wx=wr) (λ_ _=>0)
    case atStart=>exact⟨rfl,rfl⟩
    case round=>
     obtain⟨rfl,rfl⟩:=hrel;go_wp2_with fail
     go_big_quiet (fail)
     have tN:=dY (mF (fD wr.heap.size wr) nq);generalize World.drewN _ nq=wn at*;clear x0 x1 x2;go_wp2_with fail
     go_big_quiet (fail)
     have af:=dY (mF tN.out nq);generalize World.drewN _ nq=wm at*;have hBr:B<=wr.heap.size:=by have:=ng.out.size;rw[HB.out]at this;exact this
     have hBm:B<=wm.heap.size:=iU hBr af.out.size;have ah:=dY (eZ xm.out af.out);rw[hti]at ah;have aB:=dY (ng.out.trans (af.out.mono hBr));have Df:=dY (λk hk=>(ah.out.lt k hk).1);obtain⟨HT,ax⟩:=fw hti hx;clear hBr tN af HO xm ng hti hx aA;have hi1:(D.take i).length+1<=maxLen:=by rw[HT.out];simp only[maxLen];omega
     have hi2:((D.take i).length+1)*24<=140737488355328:=by rw[HT.out];omega
     have HM:=dY (show(D.take i++[(⟨0,0,0⟩:Fl.Dg)]).length=i+1 from by rw[iK,HT.out];rfl);obtain⟨M,hM⟩:=eu (i+1);have ai:=dY hM;rw[hM]at HM;have hw1:IntKind.i64.wrap ((i:Int)+1)=(M:Int):=by rw[<-hM];exact sj _ dS
     have hMs:i<M:=dS
     have aG:M<=1000000001:=dS
     clear hM;go_wp2_with (at_builtin;go_must (refine rD tyD rfl (.tmp 44) (.tmp 46) rfl B _ (D.take i) (⟨0,0,0⟩:Fl.Dg) _ rfl rfl (by rw[HT.out];exact ah.out) rfl hi1 hi2 hBm ?_;intro v7 w7 aa ay;obtain⟨g,c7,rfl,hgB,-,-,-⟩:=jf (E:=fK) aa (by rw[HM.out];omega);have az:=dY aa;have aj:=dY ((aB.out.alloc hBm _).grown ay (iU hBm eG) Df.out);rw[HM.out];clear aa ay hi1 hi2))
     obtain⟨a1,d1,hp1⟩:=ym (some ⟨g,0,none⟩) M c7 M (eO _) dS;obtain⟨a2,d2,hp2⟩:=ym (some ⟨g,0,none⟩) M c7 i dS dS;rw[si]at hp1;rw[show M-i=1 from by rw[<-ai.out];omega]at hp2;have hcp:=F8 a1 a2 d1 d2;go_wp2_with fail
     go_big_quiet (fail)
     have ak:=dY (mF (fD w7.heap.size w7) nq);generalize World.drewN _ nq=w8 at*;have av:=dY (eZ az.out ak.out);have ag:=dY (aj.out.trans (ak.out.mono (by have:=aj.out.size;rw[HB.out]at this;exact this)));obtain⟨g',c8,e8,-,hfz,-,-⟩:=jf (E:=fK) av.out (by rw[HM.out];omega);obtain⟨e8,-,-⟩:=lX e8;injection e8 with e8
     injection e8 with e8
     subst e8;obtain⟨p0,q0,hpq,s0,s1,s2⟩:=lH (Reads.fo (E:=fK) av.out) i (⟨0,0,0⟩:Fl.Dg) (by rw[oH (by rw[HT.out];exact eO _),HT.out,si];rfl);injection hpq with hpq
     injection hpq with e1 e2
     subst e1 e2;obtain⟨p1,q1,hpq,x0,x1,x2⟩:=HX.out w8 (by rw[HB.out];exact ag.out) i x ax.out;injection hpq with hpq
     injection hpq with e1 e2
     subst e1 e2;have f0:=hfz (i*3);have f1:=hfz (i*3+1);have f2:=hfz (i*3+2);rw[jY]at s0 s1 s2;clear hfz hp1 hp2 hcp az aj ak;have hiM:(i:Int)<(M:Int):=dS
     go_wp2_with fail
     have hp:=U4 ax.out av.out;rw[HM.out]at hp;refine⟨⟨i+1,by rw[ai.out],dS,hp,((ag.out.setCell (p:=⟨g,i*3,none⟩) hgB _).setCell (p:=⟨g,i*3+1,none⟩) hgB _).setCell (p:=⟨g,i*3+2,none⟩) hgB _⟩,?_⟩;have aH:=ai.out;simp[intOf];omega
   ·obtain⟨k,hk⟩:∃k,i=k+1:=⟨i-1,dS⟩
    obtain⟨y,hy⟩:∃y,D[k]?=some y:=⟨_,fu mP⟩
    have hty:(D.take i)[k]?=some y:=by rw[tu dS];exact hy
    have aC:=aA.out;obtain⟨ob,oo,rfl,y0,y1,y2⟩:=lH aC k y hty;obtain⟨hl,hsm⟩:=aF.out k y x hy (by rw[<-hk];exact hx);have aD:=dY (λW=>by have:=ald x y W;rw[hl]at this;exact this);have heq:=adQ y x hsm;have g0:decide ((0:Int)<(i:Int))=true:=kD dS;have g1:decide (0<i)=true:=kD dS;have hw0:IntKind.i64.wrap ((i:Int)-1)=(k:Int):=by rw[show(i:Int)-1=(k:Int)from dS];exact sj _ dS
    have gk:(k:Int)<(i:Int):=dS
    have aI:k<i:=dS
    clear hk hi0 hl hsm hy hty aC;go_wp2_with fail
    go_loopw [5] (λnv wx=>nv=.int .i64 (i:Int)/\wx=wr) (λ_ _=>0)
    case atStart=>exact⟨rfl,rfl⟩
    case round=>
     obtain⟨rfl,rfl⟩:=hrel;go_wp2_with fail
     refine fO (λwx=>wx.cell? ⟨db,ae+i*3,none⟩=some (.int .i64 (x.code:Int))/\wx.cell? ⟨db,ae+i*3+1,none⟩=some (.int .i64 (x.f:Int))/\wx.cell? ⟨db,ae+i*3+2,none⟩=some (.int .i64 (x.t:Int))/\wx.cell? ⟨ob,oo+k*3,none⟩=some (.int .i64 (y.code:Int))/\wx.cell? ⟨ob,oo+k*3+1,none⟩=some (.int .i64 (y.f:Int))/\wx.cell? ⟨ob,oo+k*3+2,none⟩=some (.int .i64 (y.t:Int))) 12 dV ?_;have hH:(λwx:World=>wx.cell? ⟨db,ae+i*3,none⟩=some (.int .i64 (x.code:Int))/\wx.cell? ⟨db,ae+i*3+1,none⟩=some (.int .i64 (x.f:Int))/\wx.cell? ⟨db,ae+i*3+2,none⟩=some (.int .i64 (x.t:Int))/\wx.cell? ⟨ob,oo+k*3,none⟩=some (.int .i64 (y.code:Int))/\wx.cell? ⟨ob,oo+k*3+1,none⟩=some (.int .i64 (y.f:Int))/\wx.cell? ⟨ob,oo+k*3+2,none⟩=some (.int .i64 (y.t:Int))) wr.drew:=⟨eP x0,eP x1,eP x2,eP y0,eP y1,eP y2⟩
     refine gZ 0 (.int .i64 (i:Int)) (λ_=>hH) ?_;refine gZ 1 (.bool true) (λ_=>hH) ?_;refine iE 2 (.bool true) hH ?_;refine gZ 3 (.slice (some ⟨db,ae,none⟩) N cap) (λ_=>hH) ?_;refine gZ 4 (.int .i64 (i:Int)) (λ_=>hH) ?_;refine gZ 5 (.pointer (some ⟨db,ae+i*3,none⟩)) (λ_=>hH) ?_;refine rV 6 (.agg #[.int .i64 (x.code:Int),.int .i64 (x.f:Int),.int .i64 (x.t:Int)]) (λW hW=>?_) hH ?_
     ·obtain⟨z0,z1,z2,z3,z4,z5⟩:=hW;go_simp
     refine gZ 7 (.slice (some ⟨ob,oo,none⟩) i oc) (λ_=>hH) ?_;refine gZ 8 (.int .i64 (i:Int)) (λ_=>hH) ?_;refine gZ 9 (.int .i64 (k:Int)) (λ_=>hH) ?_;refine gZ 10 (.pointer (some ⟨ob,oo+k*3,none⟩)) (λ_=>hH) ?_;refine rV 11 (.agg #[.int .i64 (y.code:Int),.int .i64 (y.f:Int),.int .i64 (y.t:Int)]) (λW hW=>?_) hH ?_
     ·obtain⟨z0,z1,z2,z3,z4,z5⟩:=hW;go_simp
     refine mY 12 λK hK=>?_
     go_simp;refine(aD.out wr.drew).mono ?_;rintro e w5 ⟨rfl,hb5⟩;have tN:=dY (eD (fD _ wr).drew hb5);clear hb5;refine hK.out _ _ lh (λ_=>?_);clear hK K;try simp only[Act.put,fG,fB,fC]
     refine gZ 13 (.bool false) lh ?_;refine fJ dV ?_ _;rename_i K9;have X0:=eB tN.out x0;have X1:=eB tN.out x1;have X2:=eB tN.out x2;have Y0:=eB tN.out y0;have Y1:=eB tN.out y1;have Y2:=eB tN.out y2;clear x0 x1 x2 y0 y1 y2 aD;go_wp2_with fail
     go_big_quiet (fail)
     clear X0 X1 X2 Y0 Y1 Y2 heq;have af:=dY (mF tN.out nq);generalize World.drewN _ nq=wm at*;have hBr:B<=wr.heap.size:=by have:=ng.out.size;rw[HB.out]at this;exact this
     have hBm:B<=wm.heap.size:=iU hBr af.out.size;have ah:=dY (eZ xm.out af.out);rw[hti]at ah;have aB:=dY (ng.out.trans (af.out.mono hBr));have Df:=dY (λk hk=>(ah.out.lt k hk).1);obtain⟨HT,ax⟩:=fw hti hx;clear hBr tN af HO xm ng hti hx aA;have hi1:(D.take i).length+1<=maxLen:=by rw[HT.out];simp only[maxLen];omega
     have hi2:((D.take i).length+1)*24<=140737488355328:=by rw[HT.out];omega
     have HM:=dY (show(D.take i++[(⟨0,0,0⟩:Fl.Dg)]).length=i+1 from by rw[iK,HT.out];rfl);obtain⟨M,hM⟩:=eu (i+1);have ai:=dY hM;rw[hM]at HM;have hw1:IntKind.i64.wrap ((i:Int)+1)=(M:Int):=by rw[<-hM];exact sj _ dS
     have hMs:i<M:=dS
     have aG:M<=1000000001:=dS
     clear hM;go_wp2_with (at_builtin;go_must (refine rD tyD rfl (.tmp 44) (.tmp 46) rfl B _ (D.take i) (⟨0,0,0⟩:Fl.Dg) _ rfl rfl (by rw[HT.out];exact ah.out) rfl hi1 hi2 hBm ?_;intro v7 w7 aa ay;obtain⟨g,c7,rfl,hgB,-,-,-⟩:=jf (E:=fK) aa (by rw[HM.out];omega);have az:=dY aa;have aj:=dY ((aB.out.alloc hBm _).grown ay (iU hBm eG) Df.out);rw[HM.out];clear aa ay hi1 hi2))
     obtain⟨a1,d1,hp1⟩:=ym (some ⟨g,0,none⟩) M c7 M (eO _) dS;obtain⟨a2,d2,hp2⟩:=ym (some ⟨g,0,none⟩) M c7 i dS dS;rw[si]at hp1;rw[show M-i=1 from by rw[<-ai.out];omega]at hp2;have hcp:=F8 a1 a2 d1 d2;go_wp2_with fail
     go_big_quiet (fail)
     have ak:=dY (mF (fD w7.heap.size w7) nq);generalize World.drewN _ nq=w8 at*;have av:=dY (eZ az.out ak.out);have ag:=dY (aj.out.trans (ak.out.mono (by have:=aj.out.size;rw[HB.out]at this;exact this)));obtain⟨g',c8,e8,-,hfz,-,-⟩:=jf (E:=fK) av.out (by rw[HM.out];omega);obtain⟨e8,-,-⟩:=lX e8;injection e8 with e8
     injection e8 with e8
     subst e8;obtain⟨p0,q0,hpq,s0,s1,s2⟩:=lH (Reads.fo (E:=fK) av.out) i (⟨0,0,0⟩:Fl.Dg) (by rw[oH (by rw[HT.out];exact eO _),HT.out,si];rfl);injection hpq with hpq
     injection hpq with e1 e2
     subst e1 e2;obtain⟨p1,q1,hpq,x0,x1,x2⟩:=HX.out w8 (by rw[HB.out];exact ag.out) i x ax.out;injection hpq with hpq
     injection hpq with e1 e2
     subst e1 e2;have f0:=hfz (i*3);have f1:=hfz (i*3+1);have f2:=hfz (i*3+2);rw[jY]at s0 s1 s2;clear hfz hp1 hp2 hcp az aj ak;have hiM:(i:Int)<(M:Int):=dS
     go_wp2_with fail
     have hp:=U4 ax.out av.out;rw[HM.out]at hp;refine⟨⟨i+1,by rw[ai.out],dS,hp,((ag.out.setCell (p:=⟨g,i*3,none⟩) hgB _).setCell (p:=⟨g,i*3+1,none⟩) hgB _).setCell (p:=⟨g,i*3+2,none⟩) hgB _⟩,?_⟩;have aH:=ai.out;simp[intOf];omega
  ·obtain rfl:i=N:=by omega
   have hii:¬((i:Int)<(i:Int)):=dS
   have hr:=Reads.fo (E:=fK) HO.out;rw[<-HN.out,LJ]at hr;have HD:=dY (HQ.out _ _ hr (by rw[HB.out];exact ng.out));clear hr;go_wp2_with fail
   exact ll
end
namespace Ar
def yu(l:List Nd)(i:Nat):List Int:=(l.take i).flatMap (·.ks)
theorem Am{l:List Nd}{i:Nat}{x:Nd}(h:l[i]?=some x):yu l (i+1)=yu l i++x.ks:=by
 unfold yu;rw[Dq,h,ahI];simp
theorem zT{l:List Nd}:∀(i:Nat){z:Int},z∈yu l i->∃(j:Nat)(x:Nd),j<i/\l[j]?=some x/\z∈x.ks
 |0,z=>λh=>by simp[yu]at h
 |i+1,z=>λh=>by
  cases hx:l[i]? with
  |none=>
   have:yu l (i+1)=yu l i:=by unfold yu;rw[Dq,hx];simp
   rw[this]at h;obtain⟨j,x,h1,h2⟩:=zT i h;exact⟨j,x,dS,h2⟩
  |some x=>
   rw[Am hx,kC]at h;rcases h with h|h
   ·obtain⟨j,y,h1,h2⟩:=zT i h;exact⟨j,y,dS,h2⟩
   ·exact⟨i,x,dS,hx,h⟩
theorem xe(l:List Nd)(i n:Nat):Cb l i n=(yu l i).countP (λz=>z==(n:Int)):=rfl
def Pp(l:List Nd)(i:Nat)(x:Nd)(k:Nat)(z:Int):Prop:=(i:Int)<z/\z<l.length/\(∀c,l[z.toNat]?=some c->c.u=(i:Int))/\z∉x.ks.take k
def Ml(l:List Nd)(i:Nat):Prop:=∀(j:Nat)(x:Nd),j<i->l[j]?=some x->∀(k:Nat)(z:Int),x.ks[k]?=some z->Pp l j x k z
def kM(l:List Nd):Prop:=Ml l l.length/\∀z:Nat,0<z->z<l.length->(z:Int)∈yu l l.length
def yK(l:List Nd):Int->List Int->Option Int
 |p,[]=>some p
 |p,z::r=>match l[z.toNat]? with
  |none=>none
  |some c=>if c.f<p then none else yK l c.t r
def nG(l:List Nd)(x:Nd):Bool:=match yK l x.f x.ks with
 |none=>false
 |some q=>decide (q<=x.t)
def ae0(l:List Nd):Prop:=∀(i:Nat)(x:Nd),l[i]?=some x->nG l x=true
def sU(l:List Nd)(n:Int):Bool:=match l with
 |[]=>false
 |x::_=>decide (x.k=1)&&decide (x.f=0)&&decide (x.t=n)&&decide (x.u=-1)
theorem IL{l:List Nd}{x:Nd}(h:nG l x=true):∃q,yK l x.f x.ks=some q/\q<=x.t:=by
 unfold nG at h;cases hq:yK l x.f x.ks with
 |none=>rw[hq]at h;cases h
 |some q=>rw[hq]at h;exact⟨q,rfl,pM h⟩
theorem KV(l:List Nd):∀(ks:List Int)(p q:Int),(∀z∈ks,∀c,l[z.toNat]?=some c->c.f<=c.t)->yK l p ks=some q->p<=q
 |[],p,q=>λ_ h=>by
  rw[yK]at h;exact Int.le_of_eq (iG h)
 |z::r,p,q=>λhk h=>by
  rw[yK]at h;cases hc:l[z.toNat]? with
  |none=>rw[hc]at h;cases h
  |some c=>
   rw[hc]at h;dsimp only at h;by_cases hp:c.f<p
   ·rw[dX hp]at h;cases h
   ·rw[dW hp]at h;have h1:=KV l r c.t q (λy hy=>hk y (LD _ hy)) h;have h2:=hk z (aew ..) c hc;omega
theorem abH{l:List Nd}(hp:Ml l l.length)(ho:ae0 l):∀(d i:Nat)(x:Nd),l.length-i<=d->l[i]?=some x->x.f<=x.t
 |0,i,x=>λhd hx=>by
  have:=(eY.1 hx).1;omega
 |d+1,i,x=>λhd hx=>by
  have hi:=(eY.1 hx).1;obtain⟨q,h1,h2⟩:=IL (ho i x hx)
  have:=KV l x.ks x.f q (λz hz c hc=>by
   obtain⟨k,hk⟩:=jy hz;obtain⟨e1,e2,_,_⟩:=hp i x hi hx k z hk
   exact abH hp ho d z.toNat c dS hc) h1
  omega
theorem NU{l:List Nd}{i:Nat}{x:Nd}:∀(ks:List Int)(p q:Int),(∀z∈ks,0<z/\z<l.length/\∀c,l[z.toNat]?=some c->c.u=(i:Int)/\c.f<=c.t)->yK l p ks=some q->q<=x.t->rY l i x p ks=true
 |[],p,q=>λ_ _ _=>rfl
 |z::r,p,q=>λhk h hq=>by
  obtain⟨h0,h1,h2⟩:=hk z (aew ..);obtain⟨c,hc⟩:∃c,l[z.toNat]?=some c:=⟨_,fu dS⟩
  obtain⟨h3,h4⟩:=h2 c hc;rw[yK,hc]at h;dsimp only at h;by_cases hp:c.f<p
  ·rw[dX hp]at h;cases h
  ·rw[dW hp]at h;have hk':=λy hy=>hk y (LD z hy)
   have h5:=KV l r c.t q (λy hy d hd=>((hk' y hy).2.2 d hd).2) h;rw[rY,dW dS,hc];dsimp only;rw[dW dS];exact NU r c.t q hk' h hq
theorem NV{l:List Nd}{i:Nat}{x:Nd}:∀(ks:List Int)(p:Int),rY l i x p ks=true->∃q,yK l p ks=some q/\(q<=x.t\/(ks=[]/\q=p))
 |[],p=>λ_=>⟨p,rfl,.inr ⟨rfl,rfl⟩⟩
 |z::r,p=>λh=>by
  cases hb:LZ l i x p z with
  |true=>rw[IE hb]at h;cases h
  |false=>
   obtain⟨c,h0,h1,hc,h4⟩:=F6 (r:=r) hb;rw[h4]at h;obtain⟨q,h5,h6⟩:=NV r c.t h;unfold LZ at hb;rw[hc]at hb;simp only[aej,aeE]at hb;obtain⟨_,⟨⟨_,hp⟩,ht⟩,_⟩:=hb;refine⟨q,?_,.inl ?_⟩
   ·rw[yK,hc];dsimp only;rw[dW hp];exact h5
   ·rcases h6 with h6|⟨_,h6⟩
    ·exact h6
    ·omega
theorem Fa{l:List Nd}{i:Nat}{x:Nd}:∀(ks:List Int)(p:Int),rY l i x p ks=true->∀z∈ks,∃c,0<z/\z<l.length/\l[z.toNat]?=some c/\c.u=(i:Int)/\c.f<=c.t
 |[],p=>λ_ z hz=>by cases hz
 |y::r,p=>λh z hz=>by
  cases hb:LZ l i x p y with
  |true=>rw[IE hb]at h;cases h
  |false=>
   obtain⟨c,h0,h1,hc,h4⟩:=F6 (r:=r) hb;rw[h4]at h;rcases kY.1 hz with rfl|hz
   ·unfold LZ at hb;rw[hc]at hb;simp only[aej,aeE]at hb;obtain⟨_,⟨⟨hu,_⟩,_⟩,hf⟩:=hb;exact⟨c,h0,h1,hc,dS,dS⟩
   ·exact Fa r c.t h z hz
theorem abI:∀(ks:List Int)(z:Int),(∀(k:Nat),ks[k]?=some z->z∉ks.take k)->z∈ks->ks.countP (λy=>y==z)=1
 |[],z=>λ_ h=>fV
 |y::r,z=>λh hz=>by
  rw[qH];by_cases e:y=z
  ·subst e;have:r.countP (λw=>w==y)=0:=by
    rw[Gg];intro w hw e;have e:w=y:=by simpa using e
    subst e;obtain⟨k,hk⟩:=jy hw;exact h (k+1) (by simpa using hk) eG
   simp[this]
  ·have hr:z∈r:=by
    rcases kY.1 hz with h1|h1
    ·exact absurd h1.symm e
    ·exact h1
   have:=abI r z (λk hk hm=>h (k+1) (by simpa using hk) (by rw[vJ];exact LD _ hm)) hr;simp[e,this]
theorem ajR(ks:List Int)(k:Nat)(z:Int)(hk:ks[k]?=some z)(hm:z∈ks.take k):2<=ks.countP (λy=>y==z):=by
 have h1:ks=ks.take k++(z::ks.drop (k+1)):=by
  have h2:=eY.1 hk;have h3:=xz h2.1;rw[h2.2]at h3;rw[<-h3,List.take_append_drop]
 rw[h1,rZ,qH];have:0<(ks.take k).countP (λy=>y==z):=Va.2 ⟨z,hm,eG⟩
 simp;omega
theorem NW{l:List Nd}{m:Nat}{y:Nd}{n:Nat}(hy:l[m]?=some y)(h:∀(j:Nat)(x:Nd),l[j]?=some x->(n:Int)∈x.ks->j=m):∀i,i<=l.length->Cb l i n=if m<i then y.ks.countP (λz=>z==(n:Int))else 0
 |0=>λ_=>by simp[Cb]
 |i+1=>λhi=>by
  obtain⟨x,hx⟩:∃x,l[i]?=some x:=⟨_,fu hi⟩
  have ih:=NW hy h i dS;rw[xe]at ih⊢;rw[Am hx,rZ,ih];by_cases e:i=m
  ·subst e;rw[hx]at hy;obtain rfl:=iG hy;rw[dW dS,dX dS];omega
  ·have:x.ks.countP (λz=>z==(n:Int))=0:=by
    rw[Gg];intro w hw e2;have e2:w=(n:Int):=by simpa using e2
    subst e2;exact e (h i x hx hw)
   rw[this];by_cases c:m<i
   ·rw[dX c,dX dS];omega
   ·rw[dW c,dW dS]
theorem KW{l:List Nd}{j:Nat}{x:Nd}(hx:l[j]?=some x)(n:Nat):∀i,j<i->x.ks.countP (λz=>z==(n:Int))<=Cb l i n
 |0=>λh=>absurd h (pK j)
 |i+1=>λh=>by
  cases hy:l[i]? with
  |none=>
   have h1:=(eY.1 hx).1;rw[AA]at hy;have:=KW hx n i dS;have e2:yu l (i+1)=yu l i:=by unfold yu;rw[Dq,sZ hy];simp
   rw[xe]at this⊢;rw[e2];exact this
  |some y=>
   rw[xe,Am hy,rZ];by_cases e:j=i
   ·subst e;rw[hx]at hy;obtain rfl:=iG hy;omega
   ·have:=KW hx n i dS;rw[xe]at this;omega
theorem adS{l:List Nd}{n:Int}(hb:sU l n=true)(hh:kM l)(ho:ae0 l):checkN l n=true:=by
 obtain⟨hp,hs⟩:=hh;have hft:=λi x hx=>abH hp ho (l.length-i) i x (eO _) hx
 have hpos:0<l.length:=by
  cases l with
  |nil=>cases hb
  |cons _ _=>simp
 unfold checkN;have h1:zR l n=true:=by
  cases l with
  |nil=>cases hb
  |cons x r=>
   unfold sU at hb;simp only[rO,LM]at hb;have:=hft 0 x rfl;unfold zR;have hn:¬n<0:=dS
   simp[hb,hn]
 have hup:∀(i:Nat),0<i->∀x,l[i]?=some x->∃(j:Nat)(y:Nd),j<i/\l[j]?=some y/\(i:Int)∈y.ks/\x.u=(j:Int):=λi h0 x hx=>by
  have hi:=(eY.1 hx).1;obtain⟨j,y,hj,hy,hz⟩:=zT _ (hs i h0 hi);obtain⟨k,hk⟩:=jy hz;obtain⟨e1,e2,e3,_⟩:=hp j y hj hy k _ hk;exact⟨j,y,dS,hy,hz,e3 x P4⟩
 have h2:(List.range l.length).all (Ev l)=true:=by
  rw[IQ];intro i hi;have hi:=yH.1 hi;obtain⟨x,hx⟩:∃x,l[i]?=some x:=⟨_,fu hi⟩
  have hk:GY l i=true:=by
   unfold GY;rw[hx];obtain⟨q,h3,h4⟩:=IL (ho i x hx);refine NU x.ks x.f q (λz hz=>?_) h3 h4;obtain⟨k,hk⟩:=jy hz;obtain⟨e1,e2,e3,_⟩:=hp i x hi hx k z hk;exact⟨dS,e2,λc hc=>⟨e3 c hc,hft _ c hc⟩⟩
  unfold Ev;rw[hx];dsimp only;rw[hk,aeh];rcases rP i with e|e
  ·simp[e]
  ·obtain⟨j,y,h5,_,_,h6⟩:=hup i e x hx;simp[e];omega
 have h3:(List.range l.length).all (λi=>i==0||Cb l l.length i==1)=true:=by
  rw[IQ];intro i hi;have hi:=yH.1 hi;rcases rP i with e|e
  ·simp[e]
  ·obtain⟨x,hx⟩:∃x,l[i]?=some x:=⟨_,fu hi⟩
   obtain⟨m,y,h5,hy,hz,h6⟩:=hup i e x hx;have hm:=(eY.1 hy).1
   have:=NW hy (n:=i) (λj x' hx' hz'=>by
    have hj:=(eY.1 hx').1;obtain⟨k,hk⟩:=jy hz';obtain⟨_,_,e3,_⟩:=hp j x' hj hx' k _ hk;have:=e3 x P4
    omega) l.length (eO _)
   rw[dX hm,abI y.ks i (λk hk=>(hp m y hm hy k _ hk).2.2.2) hz]at this;simp[this]
 rw[h1,h2,h3];rfl
theorem Tm{l:List Nd}{n:Int}(h:checkN l n=true):sU l n=true/\kM l/\ae0 l:=by
 unfold checkN at h;simp only[rO]at h;obtain⟨⟨h1,h2⟩,h3⟩:=h;rw[IQ]at h2 h3;have hnk:∀(i:Nat)(x:Nd),l[i]?=some x->(0<i->0<=x.u/\x.u<i)/\rY l i x x.f x.ks=true:=λi x hx=>by
  have hi:=(eY.1 hx).1;have h4:=h2 i (yH.2 hi);unfold Ev at h4;rw[hx]at h4;dsimp only at h4;rw[rO]at h4;obtain⟨h5,h6⟩:=h4;unfold GY at h6;rw[hx]at h6;refine⟨λh0=>?_,h6⟩;simp[h0]at h5;omega
 have hsn:∀i:Nat,0<i->i<l.length->Cb l l.length i=1:=λi h0 hi=>by
  have:=h3 i (yH.2 hi);have e:(i==0)=false:=eQ
  rw[e]at this
  simpa using this
 have aa:sU l n=true/\0<=n/\∀x,l[0]?=some x->x.f<=x.t:=by
  cases l with
  |nil=>cases h1
  |cons x r=>
   unfold zR at h1;simp at h1;refine⟨by unfold sU;simp[h1],dS,λy hy=>?_⟩;obtain rfl:x=y:=wB
   omega
 have hmem:∀(z:Nat),0<z->z<l.length->(z:Int)∈yu l l.length:=λz h0 hz=>by
  have:=hsn z h0 hz;rw[xe]at this;have hp:0<(yu l l.length).countP (λy=>y==(z:Int)):=dS
  obtain⟨y,h5,h6⟩:=Va.1 hp;have h6:y=(z:Int):=by simpa using h6
  rw[<-h6];exact h5
 refine⟨aa.1,⟨λj x hj hx k z hk=>?_,hmem⟩,λi x hx=>?_⟩
 ·obtain⟨c,e1,e2,hc,e4,_⟩:=Fa x.ks x.f (hnk j x hx).2 z (gW hk);have ae:=(hnk _ c hc).1 dS;refine⟨dS,e2,λd hd=>?_,λhm=>?_⟩
  ·rw[hc]at hd;rw[<-iG hd];exact e4
  ·obtain⟨zn,rfl⟩:∃zn:Nat,z=(zn:Int):=⟨z.toNat,dS⟩
   have h5:=ajR x.ks k _ hk hm;have h6:=KW hx zn l.length hj;have h7:=hsn zn dS dS;omega
 ·obtain⟨q,h5,h6⟩:=NV x.ks x.f (hnk i x hx).2;have hft:x.f<=x.t:=by
   rcases rP i with e|e
   ·subst e;exact aa.2.2 x hx
   ·have hi:=(eY.1 hx).1;obtain⟨j,y,_,hy,hz⟩:=zT _ (hmem i e hi);obtain⟨c,_,_,hc,_,e5⟩:=Fa y.ks y.f (hnk j y hy).2 _ hz;rw[jd,hx]at hc;obtain rfl:=iG hc;exact e5
  unfold nG;rw[h5];dsimp only;refine kD ?_;rcases h6 with h6|⟨_,h6⟩
  ·exact h6
  ·omega
end Ar
end Go.Proofs.YtmkkdjpebbdikaaGreatDoor

import Derived.Test.YtmkkdjpebbdikaaGreatDoorZb14
import Derived.Test.YtmkkdjpebbdikaaGreatDoorZb15
set_option linter.all false
set_option maxHeartbeats 16000000
set_option maxRecDepth 100000
namespace Go.Proofs.YtmkkdjpebbdikaaGreatDoor
open Go.RowKit Tryz
namespace Pr
open Ar Fl
open Rw (R E)
open Ps (lo PS kindOf OK vR Bs jT kM Ay holder outer lV mU Inv)
theorem Wk{ts:List Tk}{n:Nat}(h:Rw.pO ts=some n):∃x,ts[0]?=some x/\Sc.counts x.1=true:=by
 cases ts with
 |nil=>simp[Rw.pO,Rw.jS]at h
 |cons x r=>
  refine⟨x,rfl,?_⟩;by_cases hp:Rw.isProp x.1=true
  ·unfold Rw.isProp at hp;simp at hp;rcases hp with hp|hp<;>rw[hp]<;>rfl
  ·have h0:Rw.nV (x::r).length (x::r)=0:=by
    rw[iR,Rw.nV];exact dW hp
   by_cases hs:Rw.gX x.1=true
   ·unfold Rw.gX at hs;simp at hs;rcases hs with((hs|hs)|hs)|hs<;>rw[hs]<;>rfl
   ·have h1:Rw.zz (x::r)=0:=dW hs;unfold Rw.pO Rw.sQ at h;rw[h0,lM,h1,lM]at h;by_cases h6:Rw.jS (x::r)=6
    ·have h6:x.1=6:=h6;rw[h6];rfl
    ·rw[dW h6]at h;cases h
theorem Us:∀(es:List E)(p:Nat)(c:Int),Rw.Ord p c es->∀e∈es,c<e.eT
 |[],_,_,_,e,he=>by cases he
 |x::r,p,c,⟨h1,h2,h3,h4,h5⟩,e,he=>by
  rcases kY.1 he with rfl|he
  ·exact h3
  ·have:=Us r _ _ h5 e he;omega
structure akz(l:List Tk)(T:Nat)(e:E):Prop where
 last:raw l (e.bu-1)=5\/raw l (e.bu-1)=6
 eT:0<=e.eT
 cnt:cnt (raw l e.from')=true
 lt:e.from'<T
theorem Hu{l:List Tk}{r:R}(ht:Rw.jO 0 l)(h:lV l r)(h5:r.kind=5):∀e∈(Rw.iH l r).1,akz l r.bu e:=by
 have hlt:=h.lt;have hle:=h.le;obtain⟨ts,hts⟩:=eu ((l.drop r.from').take (r.bu-r.from'));have ae:Rw.iH l r=(Rw.mG r.from' ts,Rw.rW r.from' ts):=by unfold Rw.iH;rw[dX h5,hts]
 have hget:∀i x,ts[i]?=some x->l[r.from'+i]?=some x/\i<r.bu-r.from':=by
  intro i x hx;have hi:=(eY.1 hx).1;rw[<-hts]at hi;rw[mX,ky]at hi;rw[<-hts,tu dS,sW]at hx;exact⟨hx,dS⟩
 obtain⟨q,hq⟩:=Rw.jO.drop ht r.from';have af:Rw.jO q ts:=by rw[<-hts];exact Rw.BH _ _ hq
 rw[ae];intro e he;have ag:=Us _ _ _ (Rw.ME af r.from') e he;obtain⟨c1,x,c2,c3⟩:=Ps.MI r.from' ts e he;obtain⟨g1,g2⟩:=hget _ x c2;have hlast:raw l (e.bu-1)=x.1:=by rw[show e.bu-1=r.from'+(e.bu-1-r.from')by omega];exact Ps.lu g1
 have aa:∃(i:Nat)(y:Tk),ts[i]?=some y/\Sc.counts y.1=true/\e.from'=r.from'+i:=by
  have he:e∈Rw.mG r.from' ts:=he;rw[Rw.pG]at he;rcases kC.1 he with he|he
  ·obtain⟨i,hi,rfl⟩:=tC.1 he;obtain⟨y,h1,h2⟩:=Ps.KG ts _ _ i hi;exact⟨_,y,h1,by rw[h2];rfl,rfl⟩
  ·unfold Rw.IZ at he;cases hk:Rw.pO (ts.drop (Rw.vO ts))with
   |none=>rw[hk]at he;cases he
   |some n=>
    rw[hk]at he;obtain rfl:=tF.1 he;obtain⟨y,h1,h2⟩:=Wk hk;rw[sW,oW]at h1;exact⟨_,y,h1,h2,rfl⟩
 obtain⟨i,y,h1,h2,h3⟩:=aa;obtain⟨g3,g4⟩:=hget _ y h1;exact⟨by rw[hlast];exact c3,dS,by rw[h3,Ps.lu g3];exact h2,dS⟩
theorem jW(l:List Tk):∀(j m m' i:Nat),m<=i->m'<=i->i<j->cnt (raw l i)=true->back l j m=back l j m'
 |0,m,m',i=>λ_ _ h _=>absurd h (pK _)
 |j+1,m,m',i=>λh1 h2 h3 h4=>by
  rw[back,back];by_cases e:i=j
  ·subst e;rw[dW (by rw[h4];simp),dW (by rw[h4];simp)]
  ·by_cases hc:cnt (raw l j)=false
   ·rw[dX ⟨dS,hc⟩,dX ⟨dS,hc⟩];exact jW l j m m' i h1 h2 dS h4
   ·rw[dW (λh=>hc h.2),dW (λh=>hc h.2)]
theorem Put.rel{q k:QS}{p':PS}(h:Put q k p')(i:Nat):Rel i k p':=⟨h.st,h.doc,by rw[h.s],.inl (by rw[h.s]),h.wf⟩
theorem Hw{l:List Tk}{B:Bs}{depth b T:Nat}(hT:T<=l.length)(hbT:b<=T):∀(es:List E)(i:Nat)(q:QS)(p:PS)(up:Int),Rel i q p->Ay l B i p->up=holder p->mU l b i es->(∀e∈es,akz l T e/\back l T e.from'=b)->B.1<=i->
 (places l depth T q es).1=(Ps.places l depth b p up es).1/\(es≠[]->Put q (places l depth T q es).2 (Ps.places l depth b p up es).2)
 |[],i,q,p,up=>λh _ _ _ _ _=>⟨rfl,λh=>absurd rfl h⟩
 |en::es,i,q,p,up=>λh ho hup hes hf hB=>by
  obtain⟨h1,h2,h3,h4⟩:=hes;obtain⟨f1,f2⟩:=hf en eG;obtain⟨g1,g2,g3⟩:=acC (depth:=depth) h ho h1 h2 dS (by rcases f1.last with e|e<;>rw[e]<;>decide) f1.eT;have hok:=Ps.rz (depth:=depth) ho dS h1 h2 dS;rw[places,Ps.places];by_cases hz:(Ps.place l depth p en).1=0
  ·rw[dX (g1.trans hz),dX hz];have hp:=g2 hz;rcases hok with⟨_,k1,k2,t,k,k3,k4⟩|⟨hne,_⟩
   ·obtain⟨P,hP⟩:=eu ((Ps.place l depth p en).2);obtain⟨K,hK⟩:=eu ((place l depth q en).2);rw[hP]at hp k1 k2 k3⊢;rw[hK]at hp⊢;obtain⟨m1,m2⟩:=Hw hT hbT es en.bu K P (Ps.Kk P.st) (hp.rel _) k1 (by rw[Ps.qM,k3];show t.cur=if t.has=true then t.node else t.cur;rw[dW (by rw[k4];simp)]) h4 (λe he=>hf e (by simp[he])) dS;refine⟨m1,λ_=>?_⟩;cases es with
    |nil=>exact hp
    |cons y ys=>
     have m3:=m2 eG;exact⟨m3.s,m3.st,m3.row.trans hp.row,m3.en.trans hp.en,m3.wf,m3.doc⟩
   ·exact absurd hz hne
  ·rw[dW (λe=>hz (g1.symm.trans e)),dW hz];refine⟨rfl,λ_=>⟨?_,?_,rfl,rfl,h.wf,h.doc⟩⟩
   ·dsimp only;have hlo:=zO f1.cnt (pJ f1.lt);have:=EO (a:=en.from') (b:=en.from') (c:=T) (code:=(Ps.place l depth p en).1) h ho (by rw[hlo];exact h1) (by rw[hlo];exact f1.lt) hT hlo;rw[g1,this,hup,f2]
   ·exact h.st
structure Fin(l:List Tk)(q q':QS)(p':PS):Prop where
 s:q'.s=p'.s
 st:q'.st=Gv p'
 wf:Wf p'
 row:q.row<=q'.row/\∃r',(Rw.eF l)[q'.row]?=some r'/\r'.bu=p'.read
 lim:Ps.limit l p'.read=q'.en
theorem M6{l:List Tk}{B:Bs}{e i:Nat}{q:QS}{p:PS}(hst:q.st=Gv p)(hs:q.s=p.s)(hw:Wf p)(hI:Inv l B e p)(aa:e<=i)(hi:i<=l.length):Rel i (fA q i) (Ps.gI p i)/\(fA q i).row=q.row/\(fA q i).en=q.en:=by
 unfold Ps.gI fA;by_cases hd:p.doc<0
 ·have hnil:q.st=[]:=by rw[hst];unfold Gv;rw[dX hd]
  rw[hnil,dX hd];dsimp only;have h0:=hI.root;obtain⟨f1,f2⟩:=uZ (kind:=2) (f:=i) (t:=i) h0 dS (eO _) dS dS dS dS;have f1:Fl.add p.s 0 2 i i=(⟨add p.s.t 0 2 i i,p.s.d⟩,(p.s.t.length:Int)):=f1;rw[f1];refine⟨⟨?_,?_,?_,?_,⟨trivial,λh=>absurd rfl h⟩⟩,rfl,rfl⟩
  ·dsimp only;refine U7 ?_ (jN (by show(0:Int)<=((p.s.t.length:Nat):Int);omega)).symm;rw[hs];rfl
  ·show(0:Int)<=((p.s.t.length:Nat):Int);omega
  ·dsimp only;rw[hs]
  ·right;refine⟨rfl,rfl,?_⟩;dsimp only;rw[hs,jd];unfold add;rw[VX p.s.t ((i+1:Nat):Int) i];have:=ai5 (t:=hold p.s.t 0 (i:Int)) (by rw[pX];exact h0.ck.pos) i;rw[pX]at this;exact this
 ·have hne:∃a b,q.st=a::b:=by
   rw[hst,jN dS];cases hp:p.st with
   |nil=>exact⟨_,_,rfl⟩
   |cons o r=>exact⟨_,_,rfl⟩
  obtain⟨a,b,hab⟩:=hne;rw[hab,dW hd];exact⟨⟨hst,dS,by rw[hs],.inl (by rw[hs]),hw⟩,rfl,rfl⟩
end Pr
namespace Pr
open Ar Fl
open Rw (R E)
open Ps (lo PS kindOf OK vR Bs jT kM Ay holder outer lV mU Inv)
theorem nL(l:List Tk)(b:Nat):back l b b=b:=by
 cases b with
 |zero=>rfl
 |succ b=>rw[back,dW dS]
theorem sH{l:List Tk}{a b:Nat}(hab:a<=b):(lo l a b<back l b (lo l a b))↔lo l a b<b:=by
 constructor
 ·intro h;have:=gH l b (lo l a b);omega
 ·intro h;exact Ps.ow l b _ _ (eO _) h (Ps.qh l h)
theorem acG{l:List Tk}{rs:List R}{depth:Nat}{p:PS}{r:R}{a b:Nat}(hd:0<=p.doc)(hw:Wf p)(hc:0<=r.eT)(ht:takes r.eT (Gv p)=false):Ps.bare l rs depth p r a b={p with s:=err l p.s (holder p) a b 7}:=by
 rw[jN hd]at ht
 have hr:Ps.bare l rs depth p r a b=(match p.st.dropWhile (λo=>decide (r.eT<=o.eT))with
  |[]=>if p.root=true then{p with s:=err l p.s (holder p) a b 7}
   else
    let v:=Ps.value l rs depth {p with st:=[]} p.doc a
    {v.1 with root:=v.2}
  |o::q=>if o.has=true then{p with s:=err l p.s (holder p) a b 7}
   else
    let v:=Ps.value l rs depth {p with st:=o::q} o.cur a
    {v.1 with st:={o with has:=v.2}::q}):=rfl
 rw[hr];cases hs:p.st with
 |nil=>
  rw[hs]at ht;have ht:(!p.root&&decide (-1<r.eT))=false:=ht;have hrt:p.root=true:=by
   rw[show decide (-1<r.eT)=true from kD dS]at ht
   simpa using ht
  rw[List.dropWhile_nil];exact dX hrt
 |cons o k=>
  have hrt:p.root=true:=hw.2 yP;rw[hs]at ht;have ht:(!o.has&&decide (o.eT<r.eT))=false:=ht;cases hdw:(o::k).dropWhile (λo=>decide (r.eT<=o.eT))with
  |nil=>exact dX hrt
  |cons o2 k2=>
   dsimp only;by_cases hh:o2.has=true
   ·rw[dX hh]
   ·exfalso;have hw1:=hw.1;rw[hs]at hw1;have he:=Gw.has _ hw1 hdw (by simpa using hh);obtain⟨rfl,rfl⟩:=List.cons.inj he;have:=ake (λo:Ps.Op=>decide (r.eT<=o.eT)) (o::k);rw[hdw]at this;simp at this;have hh:o.has=false:=by simpa using hh
    rw[hh,show decide (o.eT<r.eT)=true from kD dS]at ht;cases ht
theorem acH{l:List Tk}{rs:List R}{depth:Nat}{p:PS}{r:R}{a b:Nat}(hd:0<=p.doc)(hw:Wf p)(ht:takes r.eT (Gv p)=true):
 (p.st=[]/\p.root=false/\Ps.bare l rs depth p r a b={(Ps.value l rs depth p p.doc a).1 with root:=(Ps.value l rs depth p p.doc a).2})\/
 (∃o k,p.st=o::k/\o.has=false/\Ps.bare l rs depth p r a b={(Ps.value l rs depth p o.cur a).1 with st:={o with has:=(Ps.value l rs depth p o.cur a).2}::k}):=by
 rw[jN hd]at ht;obtain⟨ps,pd,pr,aa,ae⟩:=p;dsimp only at hw ht⊢;cases aa with
 |nil=>
  have ht:(!pr&&decide (-1<r.eT))=true:=ht;have hrt:pr=false:=by
   rw[rO]at ht
   simpa using ht.1
  subst hrt;exact .inl ⟨rfl,rfl,rfl⟩
 |cons o k=>
  have ht:(!o.has&&decide (o.eT<r.eT))=true:=ht;rw[rO]at ht;have h1:o.has=false:=by simpa using ht.1
  have h2:o.eT<r.eT:=by simpa using ht.2
  refine .inr ⟨o,k,rfl,h1,?_⟩;unfold Ps.bare;dsimp only;rw[LC,dW eQ];dsimp only;rw[dW (by rw[h1];simp)]
theorem zP{l:List Tk}{b:Nat}:∀(es:List E)(p:Nat),mU l b p es->∀e∈es,p<=e.from'/\e.from'<e.bu
 |[],_,_,e,he=>by cases he
 |x::r,p,⟨h1,h2,h3,h4⟩,e,he=>by
  rcases kY.1 he with rfl|he
  ·exact⟨h1,h2⟩
  ·have:=zP r _ h4 e he;omega
theorem abt{l:List Tk}{q q1 q':QS}{p1 pv:PS}{o:Ps.Op}{k:List Ps.Op}{full:Bool}{m:Nat}(hV:Read l q1 q' pv full (jP o) (k.map jP++[jF p1]))(hd:pv.doc=p1.doc)(h0:0<=p1.doc)(hw:Gw (o::k)/\(o::k≠[]->p1.root=true))(hm:o.cur=(m:Int))(hrow:q.row<=q'.row)(hr:pv.root=p1.root:=by rfl):
 Fin l q q' {pv with st:=⟨o.node,o.kind,o.eT,(m:Int),full⟩::k}:=by
 refine⟨hV.s,?_,⟨⟨hw.1.1,hw.1.2⟩,λ_=>hr.trans (hw.2 eG)⟩,⟨hrow,hV.row.2⟩,?_⟩
 ·refine hV.st.trans (U7 ?_ (jN (by show 0<=pv.doc;rw[hd];exact h0)).symm);show _=jP ⟨o.node,o.kind,o.eT,(m:Int),full⟩::(k.map jP++[jF {pv with st:=⟨o.node,o.kind,o.eT,(m:Int),full⟩::k}])
  have e:jF {pv with st:=⟨o.node,o.kind,o.eT,(m:Int),full⟩::k}=jF p1:=by unfold jF;dsimp only;rw[hd,hr]
  rw[e];unfold jP;rw[hm]
 ·show Ps.limit l pv.read=_;rw[hV.lim,hV.en]
theorem afP{l:List Tk}{B:Bs}{depth e:Nat}{q:QS}{p:PS}{r:R}(ht:Rw.jO 0 l)(hS:Scn l)(hl:l.length<=32768)(hrow:(Rw.eF l)[q.row]?=some r)(h5:r.kind=5)(hst:q.st=Gv p)(hs:q.s=p.s)(hw:Wf p)(hI:Inv l B e p)(he:e<=r.from')(hB:B.1<=r.from')(hen:q.en=Ps.limit l r.from')(hrd:p.read=r.bu)(ak:0<=r.eT):
 Fin l q (body l (Rw.eF l) depth q r) (Ps.body l (Rw.eF l) depth p r):=by
 have hmem:=gW hrow;have hro:=Ps.rows_ok l r hmem;have hlt:=hro.lt;have hle:=hro.le;have hlo:=hro.body h5;have hge:=Ps.kF l r.from' r.bu;have hcn:=Ps.qh l hlo;obtain⟨n1,n2,n3,n4⟩:=Ps.uY ht hro h5;have hef:=Hu ht hro h5;have hmk:∀j,r.from'<=j->j<r.bu->raw l j≠20/\raw l j≠21:=λj g1 g2=>by
  rcases mD r.from' j with g|g
  ·exact hS.mark r hmem j g g2
  ·exact Zf
 have hlim:∀j,r.from'<=j->j<=r.bu->Ps.limit l j=q.en:=λj g1 g2=>by
  rw[hen];exact(xO g1 dS (λm k1 k2=>hmk m k1 dS)).symm
 unfold body Ps.body;dsimp only;obtain⟨a,ha⟩:=eu (lo l r.from' r.bu);rw[ha]at hlo hge hcn n1 n3⊢;obtain⟨o1,o2⟩:=Ps.uk hI (i:=a) dS dS;obtain⟨R1,R2,R3⟩:=M6 hst hs hw hI (i:=a) dS dS;obtain⟨p1,hp1⟩:=eu (Ps.gI p a);obtain⟨q1,hq1⟩:=eu (fA q a);rw[hp1]at o1 o2 R1⊢;rw[hq1]at R1 R2 R3⊢;have ah:p1.read=r.bu:=by rw[o2,hrd]
 obtain⟨b,hb⟩:=eu (back l r.bu a);have hbl:=gH l r.bu a;rw[hb]at n1 hbl⊢;obtain⟨es,hes⟩:=eu (Rw.iH l r);rw[hes]at n1 n2 n3 n4 hef⊢;have aa:∀(q':QS)(p':PS),q'.s=p'.s->q'.st=Gv p'->Wf p'->q'.row=q.row->q'.en=q.en->p'.read=r.bu->Fin l q q' p':=λq' p' g1 g2 g3 g4 g5 g6=>
  ⟨g1,g2,g3,⟨by rw[g4];exact eO _,r,by rw[g4];exact hrow,g6.symm⟩,by rw[g5,g6];exact hlim r.bu dS (eO _)⟩
 have af:(Rw.eF l)[q1.row]?=some r:=by rw[R2];exact hrow
 by_cases hne:es.1=[]
 ·rw[dX hne,hne];have hpl:places l depth r.bu q1 []=(true,q1):=rfl;rw[hpl];dsimp only;rw[dX rfl];have av:es.2=a:=n3 hne;rw[av];have hself:=zO hcn (pJ hlo);by_cases htk:takes r.eT q1.st=true
  ·rw[dW (by rw[htk];simp)];obtain⟨d,d1,d2,d3⟩:=o1;rcases acH (l:=l) (rs:=Rw.eF l) (depth:=depth) (r:=r) (a:=a) (b:=b) R1.doc R1.wf (by rw[<-R1.st];exact htk)with⟨e1,e2,e3⟩|⟨o,k,e1,e2,e3⟩
   ·rw[e3];rw[e1]at d3;obtain⟨m,g1,g2⟩:=d3;have ae:q1.st=jF p1::[]:=by rw[R1.st,jN R1.doc,e1];rfl
    have hV:=vz (depth:=depth) hS af hl ae (show(jF p1).cur=m by show p1.doc.toNat=m;omega) e2 (by rw[e1];rfl) R1.d (R1.hs m (λ_ _=>dS)) g2 dS (by rw[R3];exact(hlim a dS dS).symm) hge hself hlo (eO _) (λj k1 k2=>dS) (λj k1 k2=>hmk j dS k2);have aA:p1.doc=(m:Int):=dS
    rw[aA];obtain⟨v1,v2,v3,v4,v5⟩:=Ps.mh (depth:=depth) (p:=p1) (i:=a) g2 dS (eO _) dS;refine⟨hV.s,?_,⟨?_,?_⟩,⟨Jm,hV.row.2⟩,?_⟩
    ·refine hV.st.trans (U7 ?_ (jN (by show 0<=(Ps.value l (Rw.eF l) depth p1 (m:Int) a).1.doc;rw[v1];exact R1.doc)).symm);show _=(Ps.value l (Rw.eF l) depth p1 (m:Int) a).1.st.map jP++[jF {(Ps.value l (Rw.eF l) depth p1 (m:Int) a).1 with root:=(Ps.value l (Rw.eF l) depth p1 (m:Int) a).2}]
     rw[v2,e1];unfold jF;dsimp only;rw[v1];rfl
    ·show Gw (Ps.value l (Rw.eF l) depth p1 (m:Int) a).1.st;rw[v2,e1];trivial
    ·show(Ps.value l (Rw.eF l) depth p1 (m:Int) a).1.st≠[]->_;rw[v2,e1];exact λh=>absurd rfl h
    ·show Ps.limit l (Ps.value l (Rw.eF l) depth p1 (m:Int) a).1.read=_;rw[hV.lim,hV.en]
   ·rw[e3];rw[e1]at d2 d3;obtain⟨m,g1,g2⟩:=d3.2 e2;have ae:q1.st=jP o::(k.map jP++[jF p1]):=by rw[R1.st,jN R1.doc,e1];rfl
    have hV:=vz (depth:=depth) hS af hl ae (show(jP o).cur=m by show o.cur.toNat=m;omega) e2 (by rw[e1];simp) R1.d (R1.hs m (λh _=>by rw[e1]at h;cases h)) g2 dS (by rw[R3];exact(hlim a dS dS).symm) hge hself hlo (eO _) (λj k1 k2=>dS) (λj k1 k2=>hmk j dS k2);rw[g1];obtain⟨v1,v2,v3,v4,v5⟩:=Ps.mh (depth:=depth) (p:=p1) (i:=a) g2 dS (eO _) dS;have hwf:=R1.wf;unfold Wf at hwf;rw[e1]at hwf;exact abt hV v1 R1.doc hwf g1 Jm
  ·have htk:takes r.eT q1.st=false:=by simpa using htk
   rw[dX ⟨rfl,htk⟩];rw[acG R1.doc R1.wf ak (by rw[<-R1.st];exact htk)];refine aa _ _ ?_ R1.st R1.wf R2 R3 ah;dsimp only;rw[EO (a:=a) (b:=a) (c:=r.bu) (code:=7) R1 o1 (by rw[hself];exact eO _) (by rw[hself];exact hlo) hle hself,hb]
 ·rw[dW hne];have hlast:∃z,es.1.getLast?=some z:=by
   cases hz:es.1.getLast? with
   |none=>rw[aer]at hz;exact absurd hz hne
   |some z=>exact⟨z,rfl⟩
  obtain⟨z,hz⟩:=hlast;have ax:=LF hz;have hz1:=zP _ _ n1 z ax;have hz2:=n2 z hz
  obtain⟨m1,m2⟩:=Hw (depth:=depth) hle hbl es.1 a q1 p1 (holder p1) R1 o1 rfl n1 (λe he=>⟨hef e he,by
   have h1:=(zP _ _ n1 e he).1
   rw[jW l r.bu e.from' a e.from' (eO _) h1 (hef e he).lt (hef e he).cnt];exact hb⟩) dS
  have m2:=m2 hne
  obtain⟨e',k1,k2,k3,k4,k5⟩:=Ps.x9 (depth:=depth) (b:=b) dS es.1 a p1 (holder p1) o1 dS rfl n1 (by
   have:=Ps.ow l r.bu a a (eO _) hlo hcn;omega)
  obtain⟨P,hP⟩:=eu (Ps.places l depth b p1 (holder p1) es.1);obtain⟨K,hK⟩:=eu (places l depth r.bu q1 es.1);rw[hP]at m1 m2 k3 k4 k5⊢;rw[hK]at m1 m2⊢;have hKr:K.2.row=q.row:=m2.row.trans R2;have ag:K.2.en=q.en:=m2.en.trans R3;have ay:P.2.read=r.bu:=k4.trans ah;by_cases hall:P.1=true
  ·rw[dX (m1.trans hall),dW (λh=>hne h.1),dX hall];obtain⟨_,j1,j2⟩:=k5 hall;obtain⟨t,k,j3,j4⟩:=j2 hne;have hrest:es.2=e':=by rw[hz2,j1 z hz]
   have hfr:r.from'<es.2:=dS
   have ai:K.2.st=jP t::(k.map jP++[jF P.2]):=by rw[m2.st,jN m2.doc,j3];rfl
   have hwf:=m2.wf;unfold Wf at hwf;rw[j3]at hwf;by_cases hx:lo l es.2 r.bu<r.bu
   ·rw[dX ((sH n4).2 hx),j3];dsimp only;obtain⟨d,d1,d2,d3⟩:=k3;rw[j3]at d3;obtain⟨m,g1,g2⟩:=d3.2 j4;have hxg:=Ps.kF l es.2 r.bu;obtain⟨x,az⟩:=eu (lo l es.2 r.bu);have hidle:=hS.idle r hmem es.2 hfr hx;rw[az]at hx hxg hidle⊢;have aj:=m2.rel e';have hV:=vz (depth:=depth) (a:=es.2) hS (by rw[hKr];exact hrow) hl ai (show(jP t).cur=m by show t.cur.toNat=m;omega) j4 (by rw[j3];simp) aj.d (aj.hs m (λh _=>by rw[j3]at h;cases h)) g2 dS (by rw[ag];exact(hlim x dS dS).symm) dS az hx dS hidle (λj k1 k2=>hmk j dS k2);rw[g1];obtain⟨v1,v2,v3,v4,v5⟩:=Ps.mh (depth:=depth) (p:=P.2) (i:=x) g2 dS dS dS;exact abt hV v1 m2.doc hwf g1 Jm
   ·have hxe:lo l es.2 r.bu=r.bu:=by have:=Ps.lo_le l n4;omega
    rw[dW (λh=>hx ((sH n4).1 h))];have hzl:=(hef z ax).last
    rw[FJ hS (by rw[hKr];exact hrow) ai (by rw[ag];exact(hlim es.2 dS n4).symm) n4 hxe (by
     rcases mD es.2 r.bu with g|g
     ·exact .inl g
     ·right;by_cases e:r.bu=l.length
      ·exact e
      ·have h1:=hS.tail r hmem dS;rw[<-hz2]at hzl;rw[show r.bu=es.2 by omega]at h1
       omega)]
    exact aa _ _ m2.s m2.st m2.wf hKr ag ay
  ·rw[dW (λh=>hall (m1.symm.trans h)),dW hall];exact aa _ _ m2.s m2.st m2.wf hKr ag ay
end Pr
namespace Pr
open Ar Fl
open Rw (R E)
open Ps (lo PS kindOf OK vR Bs jT kM Ay holder outer lV mU Inv)
theorem Ut(op:Nat)(dash:Bool)(r:List Nat):(Sc.word op dash r).1≠3/\(Sc.word op dash r).1≠20/\(Sc.word op dash r).1≠21/\(Sc.word op dash r).1≠4/\(Sc.word op dash r).1≠1:=by
 unfold Sc.word;split
 ·show Sc.sign op dash r≠3/\Sc.sign op dash r≠20/\Sc.sign op dash r≠21/\Sc.sign op dash r≠4/\Sc.sign op dash r≠1;unfold Sc.sign;split
  ·simp
  ·repeat' split
   all_goals decide
 exact Zd
theorem acI{p:Nat->Bool}{c:Nat}{r:List Nat}(h:0<Sc.run p (c::r)):p c=true:=by
 rw[Sc.run]at h;by_cases e:p c=true
 ·exact e
 ·rw[dW e]at h;omega
theorem ER(p:Nat->Bool):∀l:List Nat,Sc.run p (l.drop (Sc.run p l))=0
 |[]=>rfl
 |c::r=>by
  rw[Sc.run];by_cases e:p c=true
  ·rw[dX e,xB];exact ER p r
  ·rw[dW e,lM,Sc.run,dW e]
structure aii(s:Sc.St)(l:List Nat)(k:Nat):Prop where
 mark:s.eT≠0->k≠20/\k≠21
 brk:Sc.jg l=0->s.eT≠0->k=1
 blank:s.eT≠0->Sc.run Sc.blk (Sc.iV l)=0->k≠3
 tab:(s.eT=0\/Sc.run Sc.Bu (Sc.iV l)=0)->k=3->l[0]?=some 9
 one:k=1->Sc.jg l=0
theorem Wl{l:List Nat}{c:Nat}{r:List Nat}(h:Sc.iV l=c::r):l[0]?=some c:=by
 unfold Sc.iV at h;cases l with
 |nil=>rw[ahS]at h;cases h
 |cons x y=>
  cases hn:Sc.jg (x::y)with
  |zero=>rw[hn,vT]at h;cases h
  |succ n=>
   rw[hn,vJ]at h;rw[(List.cons.inj h).1];rfl
theorem aij(s:Sc.St)(l:List Nat):aii s l (Sc.mid s l).1:=by
 unfold Sc.mid;by_cases h0:Sc.jg l=0
 ·rw[dX h0];exact⟨λ_=>⟨by show(1:Nat)≠20;decide,by show(1:Nat)≠21;decide⟩,λ_ _=>rfl,λ_ _=>(by show(1:Nat)≠3;decide),λ_ h=>fV,λ_=>h0⟩
 ·rw[dW h0];have hlen:=Sc.ru l;obtain⟨c,r,hr⟩:∃c r,Sc.iV l=c::r:=by
   cases hr:Sc.iV l with
   |nil=>rw[hr]at hlen;exact absurd hlen.symm h0
   |cons c r=>exact⟨c,r,rfl⟩
  have hhd:=Wl hr;rw[hr];dsimp only;obtain⟨k,hk⟩:=eu ((Sc.next s.op s.dash s.blank (s.eT==0) (c::r)).1);rw[hk];have hw:=Ut s.op s.dash (c::r);unfold Sc.next at hk;refine⟨λhc=>?_,λh=>absurd h h0,λhc hb=>?_,λhs h3=>?_,λh1=>?_⟩
  ·rw[show(s.eT==0)=false by simpa using hc,dW eG,dW eG]at hk;split at hk
   ·have hk:3=k:=hk;omega
   split at hk
   ·have hk:4=k:=hk;omega
   ·rw[hk]at hw;exact⟨hw.2.1,hw.2.2.1⟩
  ·rw[show(s.eT==0)=false by simpa using hc,dW eG,dW eG]at hk;rw[hr]at hb;rw[dW dS]at hk;split at hk
   ·have hk:4=k:=hk;omega
   ·rw[hk]at hw;exact hw.1
  ·have aa:Sc.run Sc.Bu (c::r)=0:=by
    rcases hs with hc|hs
    ·rw[show(s.eT==0)=true by simpa using hc]at hk;split at hk
     ·exact Zi
     split at hk
     ·rw[h3]at hk;cases hk
     ·rename_i hs2;rcases rP (Sc.run Sc.Bu (c::r))with e|e
      ·exact e
      ·exact absurd ⟨rfl,e⟩ hs2
    ·rw[hr]at hs;exact hs
   split at hk
   ·exact Zi
   split at hk
   ·rw[h3]at hk;cases hk
   split at hk
   ·rename_i hb;have h1:=acI hb;have h2:Sc.Bu c=false:=by
     have:=Sc.Mx Sc.Bu c r dS;exact this
    have h9:c=9:=by
     unfold Sc.blk at h1;unfold Sc.Bu at h2;simp at h1 h2;omega
    rw[hhd,h9]
   split at hk
   ·rw[h3]at hk;cases hk
   ·rw[hk,h3]at hw;exact absurd rfl hw.1
  ·exfalso;split at hk
   ·rename_i hm;rw[h1]at hk;have hm:=hm.2;unfold Sc.mark at hk
    repeat' split at hk
    all_goals first|(exact absurd hk dU)|omega
   split at hk
   ·rw[h1]at hk;cases hk
   split at hk
   ·rw[h1]at hk;cases hk
   split at hk
   ·rw[h1]at hk;cases hk
   ·rw[hk,h1]at hw;exact absurd rfl hw.2.2.2.2
theorem step1(s:Sc.St)(l:List Nat):aii s l (Sc.step s l).1:=by
 unfold Sc.step;split
 ·rename_i hc;split
  ·exact⟨λh=>absurd hc h,λ_ h=>absurd hc h,λh=>absurd hc h,λ_ h=>fV,λh=>fV⟩
  ·have:=aij {s with least:=-1} l;exact⟨this.mark,this.brk,this.blank,this.tab,this.one⟩
 ·exact aij s l
end Pr
namespace Pr
open Ar Fl
open Rw (R E)
open Ps (lo PS lV)
theorem Hy(l:List Nat)(j:Nat)(h:j<=Sc.jg l):Sc.iV (l.drop j)=(Sc.iV l).drop j:=by
 unfold Sc.iV;rw[Sc.BG l j h,List.drop_take]
structure Lv1(l:List Nat)(k n:Nat):Prop where
 four:k=4->Sc.jg (l.drop n)=0
 three:k=3->Sc.run Sc.blk (Sc.iV (l.drop n))=0
 two:k=2->Sc.run Sc.Bu (Sc.iV (l.drop n))=0
theorem Uu(r:List Nat):Sc.mark r=0\/Sc.mark r=20\/Sc.mark r=21:=by
 unfold Sc.mark
 repeat' split
 all_goals simp
theorem abu(s:Sc.St)(l:List Nat):Lv1 l (Sc.mid s l).1 (Sc.mid s l).2.1:=by
 unfold Sc.mid;by_cases h0:Sc.jg l=0
 ·rw[dX h0];exact⟨λh=>fV,λh=>fV,λh=>fV⟩
 ·rw[dW h0];dsimp only;obtain⟨N,hN⟩:=eu (Sc.next s.op s.dash s.blank (s.eT==0) (Sc.iV l));rw[hN];have hlen:=Sc.ru l;have hw:=Ut s.op s.dash (Sc.iV l);have hw2:=KL s.op s.dash (Sc.iV l);have hm:=Uu (Sc.iV l);unfold Sc.next at hN;split at hN
  ·subst hN;dsimp only;exact⟨λh=>dS,λh=>dS,λh=>dS⟩
  split at hN
  ·subst hN;refine⟨λh=>fV,λh=>fV,λ_=>?_⟩;have:=Sc.og Sc.Bu (Sc.iV l);dsimp only;rw[Hy _ _ dS];exact ER _ _
  split at hN
  ·subst hN;refine⟨λh=>fV,λ_=>?_,λh=>fV⟩;have:=Sc.og Sc.blk (Sc.iV l);dsimp only;rw[Hy _ _ dS];exact ER _ _
  split at hN
  ·subst hN;refine⟨λ_=>?_,λh=>fV,λh=>fV⟩;dsimp only;rw[Sc.BG _ _ dS];omega
  ·rw[hN]at hw hw2;exact⟨λh=>absurd h hw.2.2.2.1,λh=>absurd h hw.1,λh=>absurd h hw2.1⟩
theorem afQ(s:Sc.St)(l:List Nat):Lv1 l (Sc.step s l).1 (Sc.step s l).2.1:=by
 unfold Sc.step;split
 ·split
  ·exact⟨λh=>fV,λh=>fV,λh=>fV⟩
  ·exact abu _ l
 ·exact abu s l
theorem step_end(s:Sc.St)(l:List Nat)(h:(Sc.step s l).1=1\/(Sc.step s l).1=19):(Sc.step s l).2.2.eT=0:=by
 have key:∀s:Sc.St,(Sc.mid s l).1=1\/(Sc.mid s l).1=19->(Sc.mid s l).2.2.eT=0:=by
  intro s h;have h1:=(aij s l).one;unfold Sc.mid at h h1⊢;by_cases h0:Sc.jg l=0
  ·rw[dX h0];rfl
  ·rw[dW h0]at h h1;rcases h with h|h
   ·exact absurd (h1 h) h0
   ·exfalso;dsimp only at h;have hm:=Uu (Sc.iV l);have hw2:=KL s.op s.dash (Sc.iV l);unfold Sc.next at h;split at h
    ·dsimp only at h;omega
    split at h
    ·cases h
    split at h
    ·cases h
    split at h
    ·cases h
    ·exact hw2.2 h
 unfold Sc.step at h⊢;split
 ·split
  ·rfl
  ·rename_i h1 h2;rw[dX h1,dW h2]at h;exact key _ h
 ·rename_i h1;rw[dW h1]at h;exact key _ h
structure Adj(b:List Nat)(x y:Tk):Prop where
 mark:x.1≠1->x.1≠19->y.1≠20/\y.1≠21
 four:x.1=4->y.1=1
 three:x.1=3->y.1≠3
 tab:x.1=2\/x.1=1\/x.1=19->y.1=3->b[y.2.1]?=some 9
theorem M8(b:List Nat):∀(f:Nat)(s:Sc.St)(p:Nat)(l:List Nat),l=b.drop p->(∀y,(Sc.toks f s p l)[0]?=some y->aii s l y.1/\y.2.1=p)/\
 ∀(i:Nat)(x y:Tk),(Sc.toks f s p l)[i]?=some x->(Sc.toks f s p l)[i+1]?=some y->Adj b x y
 |0,_,_,_=>λ_=>⟨λx h=>Jn,λi x y h=>Jn⟩
 |f+1,s,p,l=>λhl=>by
  rw[Sc.toks];by_cases hn:l=[]
  ·rw[dX hn];exact⟨λx h=>jQ,λi x y h=>jQ⟩
  ·rw[dW hn];have hd:l.drop (Sc.step s l).2.1=b.drop (p+(Sc.step s l).2.1):=by rw[hl,nP,<-hl]
   obtain⟨g1,g2⟩:=M8 b f (Sc.step s l).2.2 (p+(Sc.step s l).2.1) (l.drop (Sc.step s l).2.1) hd;refine⟨λy h=>?_,λi x y hx hy=>?_⟩
   ·have h:((Sc.step s l).1,p,p+(Sc.step s l).2.1)=y:=by simpa using h
    subst h;exact⟨step1 s l,rfl⟩
   ·cases i with
    |zero=>
     have hx:((Sc.step s l).1,p,p+(Sc.step s l).2.1)=x:=jJ
     subst hx;obtain⟨h1,h2⟩:=g1 y wB;have hc:=MU s l hn;have hv:=afQ s l;have he:=step_end s l;refine⟨λa b=>h1.mark (hc a b),λa=>h1.brk (hv.four a) (hc Jo Jo),λa=>h1.blank (hc Jo Jo) (hv.three a),λa h3=>?_⟩
     have:=h1.tab (by
      rcases a with a|a
      ·exact .inr (hv.two a)
      ·exact .inl (he a)) h3
     rw[hd,sW,oW]at this;rw[h2];exact this
    |succ i=>exact g2 i x y jJ wB
theorem FK(b:List Nat):(∀y,(Sc.tokens b)[0]?=some y->y.1=3->b[y.2.1]?=some 9)/\∀(i:Nat)(x y:Tk),(Sc.tokens b)[i]?=some x->(Sc.tokens b)[i+1]?=some y->Adj b x y:=by
 unfold Sc.tokens;split
 ·exact⟨λy h=>jQ,λi x y h=>jQ⟩
 ·obtain⟨h1,h2⟩:=M8 b b.length (Sc.fresh 0 (-1)) 0 b (by rw[lM]);refine⟨λy h h3=>?_,h2⟩;obtain⟨g1,g2⟩:=h1 y h;rw[g2];exact g1.tab (.inl rfl) h3
theorem Wm(b:List Nat):∀(i:Nat)(x y:Tk),(Sc.tokens b)[i]?=some x->(Sc.tokens b)[i+1]?=some y->x.1≠1->x.1≠19->y.1≠2/\y.1≠19:=by
 unfold Sc.tokens;split
 ·exact λi x y h=>jQ
 ·exact(EK b.length (Sc.fresh 0 (-1)) 0 b).2
structure X3(l:List Tk)(r:R):Prop where
 form:∃begun,r.kind=Rw.kindOf begun ((l.drop r.from').take (r.bu-r.from'))/\r.eT=Rw.vH ((l.drop r.from').take (r.bu-r.from'))
 len:r.bu=r.from'+Rw.jm (l.drop r.from')
 lt:r.from'<l.length
 pre:r.from'=0\/∃x,l[r.from'-1]?=some x/\Rw.ends x=true
theorem Hz(l:List Tk):∀(n op fr:Nat),l.length-fr<=n->(fr=0\/∃x,l[fr-1]?=some x/\Rw.ends x=true)->∀r∈Rw.jq op fr (l.drop fr),X3 l r
 |0,op,fr=>λh _ r hr=>by
  rw[oG dS]at hr;cases hr
 |n+1,op,fr=>λh hp r hr=>by
  by_cases hfr:fr<l.length
  ·have hne:l.drop fr≠[]:=λe=>by
    have:=congrArg List.length e;rw[ky,Gi]at this;omega
   rw[Rw.nO _ _ _ hne]at hr;have hpos:=Rw.oC _ hne;have hle:=Rw.xJ (l.drop fr);have hend:=Rw.ED (l.drop fr) hne;rw[ky]at hle hend;rcases kY.1 hr with rfl|hr
   ·exact⟨⟨_,by show _=Rw.kindOf _ ((l.drop fr).take (fr+_-fr));rw[Gm],by show _=Rw.vH ((l.drop fr).take (fr+_-fr));rw[Gm]⟩,rfl,hfr,hp⟩
   ·rw[nP]at hr;by_cases hlast:fr+Rw.jm (l.drop fr)=l.length
    ·rw[oG (show l.length<=fr+Rw.jm (l.drop fr)by omega)]at hr;cases hr
    ·refine Hz l n _ (fr+Rw.jm (l.drop fr)) dS (.inr ?_) r hr;rcases hend with h1|⟨x,h1,h2⟩
     ·omega
     ·rw[sW]at h1;exact⟨x,by rw[<-h1];congr 1;omega,h2⟩
  ·rw[oG dS]at hr;cases hr
theorem Gx(l:List Tk):∀r∈Rw.eF l,X3 l r:=λr hr=>Hz l l.length 0 0 dS (.inl rfl) r (by rw[lM];exact hr)
theorem row_in{l:List Tk}{r:R}(h:X3 l r){j:Nat}{x:Tk}(h1:r.from'<=j)(h2:j+1<r.bu)(hx:l[j]?=some x):x.1≠1/\x.1≠19:=by
 have hl:=h.len;have:=Rw.TU (l.drop r.from') (j-r.from') x dS (by rw[sW,<-hx];congr 1;omega);unfold Rw.ends at this
 simpa using this
theorem scn(b:List Nat):Scn (Sc.tokens b):=by
 obtain⟨a1,a2⟩:=FK b;have a3:=Wm b;obtain⟨l,hl⟩:=eu (Sc.tokens b);rw[hl]at a1 a2 a3⊢;have tok:∀r∈Rw.eF l,∀j,r.from'<=j->j<r.bu->∃x,l[j]?=some x:=λr hr j h1 h2=>⟨_,fu (by have:=(Ps.rows_ok l r hr).le;omega)⟩
 have mk:∀r∈Rw.eF l,∀j,r.from'<j->j<r.bu->raw l j≠20/\raw l j≠21:=λr hr j h1 h2=>by
  obtain⟨x,hx⟩:=tok r hr (j-1) dS dS;obtain⟨y,hy⟩:=tok r hr j dS h2;obtain⟨g1,g2⟩:=row_in (Gx l r hr) (j:=j-1) dS dS hx;rw[Ps.lu hy];exact(a2 (j-1) x y hx (by rw[show j-1+1=j by omega];exact hy)).mark g1 g2
 refine⟨λr hr=>?_,mk,λr hr a h1 h2 j h3 h4=>?_,λr hr h=>?_⟩
 ·have hro:=Ps.rows_ok l r hr;have hlt:=hro.lt;obtain⟨x,hx⟩:=tok r hr r.from' (eO _) hlt;constructor
  ·intro h4;obtain⟨m1,m2⟩:=hro.mark h4;have hge:=Ps.kF l r.from' r.bu;rcases Nat.eq_or_lt_of_le hge with e|e
   ·rw[<-e]at m2;exact m2
   ·have:=mk r hr _ e m1;omega
  ·intro hm;obtain⟨begun,hk,_⟩:=(Gx l r hr).form;rw[Ps.lu hx]at hm;have hd:(l.drop r.from').take (r.bu-r.from')=x::((l.drop (r.from'+1)).take (r.bu-r.from'-1)):=by
    obtain⟨hi,hx'⟩:=eY.1 hx;rw[xz hi,hx',show r.bu-r.from'=(r.bu-r.from'-1)+1 by omega,vJ];rfl
   rw[hk,hd];unfold Rw.kindOf;rw[dW (by show¬x.1=19;omega),Rw.jZ,dX (by rcases hm with h|h<;>rw[h]<;>rfl)];dsimp only;rw[dX (by unfold Rw.yZ;rcases hm with h|h<;>rw[h]<;>rfl)]
 ·have hx:=Ps.qh l h2;have hge:=Ps.kF l a r.bu;obtain⟨y,hy⟩:=tok r hr j dS dS;obtain⟨w,hw⟩:=tok r hr (j-1) dS dS;obtain⟨z,hz⟩:=tok r hr (j+1) dS dS;have hnc:cnt (raw l j)=false:=by
   have:=kP (λj=>!cnt (raw l j)) (r.bu-a) a j h3 (by unfold Ps.lo at h4;exact h4)
   simpa using this
  obtain⟨g1,g2⟩:=row_in (Gx l r hr) (j:=j-1) dS dS hw;obtain⟨g3,g4⟩:=row_in (Gx l r hr) (j:=j) dS dS hy;have k2:=a3 (j-1) w y hw (by rw[show j-1+1=j by omega];exact hy) g1 g2;have k4:=(a2 j y z hy hz).four;rw[Ps.lu hy]at hnc⊢;unfold cnt at hnc;simp at hnc;have h4':y.1≠4:=λe=>by
   have hz1:=k4 e;by_cases hj:j+1<lo l a r.bu
   ·have:=(row_in (Gx l r hr) (j:=j+1) dS dS hz).1;exact this hz1
   ·have e2:lo l a r.bu=j+1:=by omega
    rw[e2,Ps.lu hz,hz1]at hx;cases hx
  omega
 ·have hf:=Gx l r hr;have hlt:=(Ps.rows_ok l r hr).lt;rcases Rw.ED (l.drop r.from') (λe=>by have:=congrArg List.length e;rw[ky,Gi]at this;have:=hf.lt;omega)with h1|⟨x,h1,h2⟩
  ·rw[ky]at h1;have:=hf.len;have:=hf.lt;omega
  ·rw[sW]at h1;have e:r.from'+(Rw.jm (l.drop r.from')-1)=r.bu-1:=by have:=hf.len;omega
   rw[e]at h1;rw[Ps.lu h1];unfold Rw.ends at h2
   simpa using h2
end Pr
namespace Pr
open Ar Fl
open Rw (R E)
open Ps (lo PS kindOf OK vR Bs jT kM Ay holder outer lV mU Inv Up)
theorem M9(t:List Nd)(z:Nat)(v:Lv):∀st:List Lv,zA t z (st++[v])=reach t v.node z
 |[]=>rfl
 |x::st=>by
  have h:=M9 t z v st;cases st with
  |nil=>exact h
  |cons y q=>exact h
theorem ug{l:List Tk}:∀(b m i:Nat),m<=i->i<b->cnt (raw l i)=true->cnt (raw l (back l b m-1))=true/\(∀j,back l b m<=j->j<b->cnt (raw l j)=false)
 |0,m,i=>λ_ h _=>absurd h (pK _)
 |b+1,m,i=>λh1 h2 h3=>by
  rw[back];by_cases hc:cnt (raw l b)=false
  ·have hib:i≠b:=λe=>by rw[e,hc]at h3;cases h3
   rw[dX ⟨dS,hc⟩];obtain⟨g1,g2⟩:=ug b m i h1 dS h3;refine⟨g1,λj a1 a2=>?_⟩;by_cases e:j=b
   ·rw[e];exact hc
   ·exact g2 j a1 dS
  ·rw[dW (λh=>hc h.2)];exact⟨by simpa using hc,λj a1 a2=>dS⟩
theorem afR{l:List Tk}{a T:Nat}(hT:a<T)(hc:cnt (raw l a)=true):
 (lo l (a+1) (back l T a)<back l (back l T a) (lo l (a+1) (back l T a))↔lo l (a+1) T<T)/\
 (lo l (a+1) T<T->lo l (a+1) (back l T a)=lo l (a+1) T/\back l (back l T a) (lo l (a+1) (back l T a))=back l T (lo l (a+1) T)):=by
 obtain⟨g1,g2⟩:=ug T a a (eO _) hT hc;have hbg:=Ps.ow l T a a (eO _) hT hc;have hbl:=gH l T a;obtain⟨b,hb⟩:=eu (back l T a);rw[hb]at g1 g2 hbg hbl⊢;have aa:=Ps.kF l (a+1) T;by_cases hx:lo l (a+1) T<T
 ·have hcx:=Ps.qh l hx;have hno:=kP (λj=>!cnt (raw l j)) (T-(a+1)) (a+1);obtain⟨x,ae⟩:=eu (lo l (a+1) T);have hxu:iy (λj=>!cnt (raw l j)) (T-(a+1)) (a+1)=x:=ae;rw[hxu]at hno;rw[ae]at hx hcx aa⊢;have hxb:x<b:=by
   rcases mD x b with h|h
   ·exact h
   ·have:=g2 x h hx;rw[hcx]at this;cases this
  have e:lo l (a+1) b=x:=by
   unfold Ps.lo;exact Bi _ _ _ _ aa dS (λj a1 a2=>hno j a1 a2) (.inr (by rw[hcx];rfl))
  rw[e];have e2:back l b x=b:=by
   obtain⟨c,rfl⟩:∃c,b=c+1:=⟨b-1,dS⟩
   rw[back,dW (λh=>by rw[lW]at g1;rw[g1]at h;cases h.2)]
  rw[e2];refine⟨⟨λ_=>hx,λ_=>hxb⟩,λ_=>⟨rfl,?_⟩⟩;rw[<-hb];exact jW l T a x x dS (eO _) hx hcx
 ·have hno:∀j,a+1<=j->j<T->cnt (raw l j)=false:=λj a1 a2=>by
   have:=kP (λj=>!cnt (raw l j)) (T-(a+1)) (a+1) j a1 (by have:=Ps.lo_le l (show a+1<=T by omega);unfold Ps.lo at hx this;omega)
   simpa using this
  have hb1:b=a+1:=by
   rcases mD (a+1) b with h|h
   ·have:=hno (b-1) dS dS;rw[g1]at this;cases this
   ·omega
  subst hb1;have e:lo l (a+1) (a+1)=a+1:=by
   have h1:=Ps.kF l (a+1) (a+1);have h2:=Ps.lo_le l (eO (a+1));omega
  rw[e,nL];exact⟨⟨λh=>absurd h (vU _),λh=>absurd h hx⟩,λh=>absurd h hx⟩
theorem afS{l:List Tk}{B:Bs}{depth e:Nat}{q:QS}{p:PS}{r:R}(hS:Scn l)(hl:l.length<=32768)(hrow:(Rw.eF l)[q.row]?=some r)(h4:r.kind=4)(hst:q.st=Gv p)(hs:q.s=p.s)(hI:Inv l B e p)(he:e<=r.from')(hB:B.1<=r.from')(hrd:p.read=r.bu):
 Fin l q (mark l (Rw.eF l) depth q r) (Ps.mark l (Rw.eF l) depth p r):=by
 have hmem:=gW hrow;have hro:=Ps.rows_ok l r hmem;have hlt:=hro.lt;have hle:=hro.le;have hraw:=(hS.first r hmem).1 h4;have hcnt:cnt (raw l r.from')=true:=by rcases hraw with h|h<;>rw[h]<;>rfl
 have ha:=zO hcnt (pJ hlt);have hmk:∀j,r.from'+1<=j->j<r.bu->raw l j≠20/\raw l j≠21:=λj g1 g2=>hS.mark r hmem j dS g2
 have hlim:∀j,r.from'+1<=j->j<=r.bu->Ps.limit l j=Ps.limit l (r.from'+1):=λj g1 g2=>(xO g1 dS (λm k1 k2=>hmk m k1 dS)).symm
 unfold mark Ps.mark;dsimp only;rw[ha];obtain⟨a,ay⟩:=eu (r.from');rw[ay]at hraw hcnt hmk hlim hlt he hB⊢;by_cases h20:raw l a=20
 ·rw[dX h20,dX h20];obtain⟨s',a1,_,a3,⟨x,a4,a5⟩,a6⟩:=Fe.kJ (kind:=2) (f:=a) (t:=a+1) hI.root dS dS dS dS dS;obtain⟨f1,_⟩:=uZ (kind:=2) (f:=a) (t:=a+1) hI.root dS dS dS dS dS dS;have a1:Fl.add p.s 0 2 a (a+1)=(s',(p.s.t.length:Int)):=a1;have f1:Fl.add p.s 0 2 a (a+1)=(⟨add p.s.t 0 2 a ((a+1:Nat):Int),p.s.d⟩,(p.s.t.length:Int)):=f1;rw[f1]at a1;obtain rfl:s'=_:=(congrArg Prod.fst a1).symm;rw[f1];dsimp only;have a3':OK l B p.s.t.length (a+1) (⟨add p.s.t 0 2 a ((a+1:Nat):Int),p.s.d⟩:St):=a3.le dS dS;have hq1:fA {q with en:=kQ l (a+1),st:=[]} a={s:=⟨add p.s.t 0 2 a ((a+1:Nat):Int),p.s.d⟩,row:=q.row,en:=kQ l (a+1),st:=[⟨2,p.s.t.length,-1,p.s.t.length,false⟩]}:=by
   unfold fA;dsimp only;rw[hs]
  rw[hq1];obtain⟨P,hP⟩:∃P:PS,{p with s:=(⟨add p.s.t 0 2 a ((a+1:Nat):Int),p.s.d⟩:St),doc:=(p.s.t.length:Int),root:=false,st:=[]}=P:=⟨_,rfl⟩
  have ak:P.s=⟨add p.s.t 0 2 a ((a+1:Nat):Int),p.s.d⟩:=wC
  have ae:P.doc=(p.s.t.length:Int):=wC
  have az:P.root=false:=wC
  have aa:P.st=[]:=wC
  have af:P.read=r.bu:=by rw[<-hP];exact hrd
  obtain⟨Q,hQ⟩:∃Q:QS,{s:=(⟨add p.s.t 0 2 a ((a+1:Nat):Int),p.s.d⟩:St),row:=q.row,en:=kQ l (a+1),st:=[⟨2,p.s.t.length,-1,p.s.t.length,false⟩]}=Q:=⟨_,rfl⟩
  have ag:Q.s=P.s:=by rw[<-hQ,ak]
  have ah:Q.row=q.row:=by rw[<-hQ]
  have ai:Q.en=Ps.limit l (a+1):=by rw[<-hQ];rfl
  have aj:Q.st=⟨2,p.s.t.length,-1,p.s.t.length,false⟩::[]:=by rw[<-hQ]
  rw[hP,hQ];rw[<-ak]at a3';by_cases hx:lo l (a+1) r.bu<r.bu
  ·rw[dX ((sH dS).2 hx)];have hxg:=Ps.kF l (a+1) r.bu;have hidle:=hS.idle r hmem (a+1) dS hx;obtain⟨x,av⟩:=eu (lo l (a+1) r.bu);rw[av]at hx hxg hidle⊢;have hV:=vz (depth:=depth) (a:=a+1) (i:=a+1) (x:=x) hS (by rw[ah];exact hrow) hl aj (k:=p.s.t.length) rfl rfl (by rw[aa];rfl) (by rw[ag]) (by rw[ag];exact HS.refl _ _ _) a3' dS (by rw[ai];exact(hlim x hxg dS).symm) dS av hx hxg hidle hmk;obtain⟨v1,v2,v3,v4,v5⟩:=Ps.mh (depth:=depth) (p:=P) (i:=x) a3' dS hxg dS;refine⟨hV.s,?_,⟨?_,?_⟩,⟨Jm,hV.row.2⟩,?_⟩
   ·refine hV.st.trans (U7 ?_ (jN (by show 0<=(Ps.value l (Rw.eF l) depth P (p.s.t.length:Int) x).1.doc;rw[v1,ae];omega)).symm);show _=(Ps.value l (Rw.eF l) depth P (p.s.t.length:Int) x).1.st.map jP++[jF {(Ps.value l (Rw.eF l) depth P (p.s.t.length:Int) x).1 with root:=(Ps.value l (Rw.eF l) depth P (p.s.t.length:Int) x).2}]
    rw[v2,aa];unfold jF;dsimp only;rw[v1,ae];rfl
   ·show Gw (Ps.value l (Rw.eF l) depth P (p.s.t.length:Int) x).1.st;rw[v2,aa];trivial
   ·show(Ps.value l (Rw.eF l) depth P (p.s.t.length:Int) x).1.st≠[]->_;rw[v2,aa];exact λh=>absurd rfl h
   ·show Ps.limit l (Ps.value l (Rw.eF l) depth P (p.s.t.length:Int) x).1.read=_;rw[hV.lim,hV.en]
  ·have hxe:lo l (a+1) r.bu=r.bu:=by have:=Ps.lo_le l (show a+1<=r.bu by omega);omega
   rw[dW (λh=>hx ((sH dS).1 h))]
   rw[FJ hS (by rw[ah];exact hrow) aj ai dS hxe (by
    rcases mD (a+1) r.bu with g|g
    ·exact .inl g
    ·right;by_cases e:r.bu=l.length
     ·exact e
     ·have h1:=hS.tail r hmem dS;rw[show r.bu-1=a by omega,h20]at h1
      omega)]
   refine⟨ag,?_,⟨by rw[aa];trivial,by rw[aa];exact λh=>absurd rfl h⟩,⟨dS,r,by rw[ah];exact hrow,af.symm⟩,by rw[af,ai];exact hlim r.bu dS (eO _)⟩;rw[aj,jN (by rw[ae];omega),aa];unfold jF;rw[ae,az];rfl
 ·rw[dW h20,dW h20];have hgrow:(if 0<=p.doc then(⟨iB p.s.t p.doc ((a+1:Nat):Int),p.s.d⟩:St)else p.s)=⟨zA q.s.t (a+1) q.st,q.s.d⟩/\OK l B 0 (a+1) (if 0<=p.doc then(⟨iB p.s.t p.doc ((a+1:Nat):Int),p.s.d⟩:St)else p.s):=by
   rcases hI with⟨g1,g2,g3⟩|⟨d,g1,g2,g3⟩
   ·rw[dW dS];refine⟨?_,g3.le dS dS⟩;rw[hst,hs];unfold Gv;rw[dX dS];rfl
   ·rw[dX dS,g1];obtain⟨k1,k2⟩:=kM.all g2 g3;have k3:=Fe.sD (t:=a+1) k2 dS dS dS;have k4:=(Fe.sD (t:=a+1) (Fe.Ok.start (l:=l) (p0:=B.1) k2.ck k2.fits k2.lf k2.no) dS dS dS).keep;refine⟨?_,Ps.LU k3 (k1.keep k4)⟩;rw[hst,hs,jN dS,M9];have hdl:d<p.s.t.length:=k2.fits.lt
    rw[afx k2.ck hdl dS];have:(jF p).node=d:=by show p.doc.toNat=d;omega
    rw[this]
  obtain⟨s1,hs1⟩:=eu ((if 0<=p.doc then(⟨iB p.s.t p.doc ((a+1:Nat):Int),p.s.d⟩:St)else p.s));rw[hs1]at hgrow⊢;rw[<-hgrow.1];obtain⟨L1,L2⟩:=afR hlt hcnt;have hxg:=Ps.kF l (a+1) r.bu;refine⟨?_,?_,⟨trivial,λh=>absurd rfl h⟩,⟨eO _,r,hrow,hrd.symm⟩,?_⟩
  ·dsimp only;have hstr:=EP (a:=a+1) (b:=r.bu) (t:=s1.t) hgrow.2 (λz _=>rfl) (λ_=>rfl) dS dS hle;have ax:(⟨s1.t,s1.d⟩:St)=s1:=rfl;rw[ax]at hstr;rw[hstr];unfold Ps.mR;by_cases hx:lo l (a+1) r.bu<r.bu
   ·obtain⟨m1,m2⟩:=L2 hx;rw[dX ((sH dS).2 hx),dX (L1.2 hx),m2,m1];rfl
   ·rw[dW (λh=>hx ((sH dS).1 h)),dW (λh=>hx (L1.1 h))]
  ·rfl
  ·show Ps.limit l p.read=Ps.limit l (a+1);rw[hrd];exact hlim r.bu dS (eO _)
end Pr
end Go.Proofs.YtmkkdjpebbdikaaGreatDoor
